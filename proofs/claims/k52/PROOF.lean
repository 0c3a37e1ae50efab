import PyProof.Rows.All
import Wide.All
import OpenK.AllK
import Wide.FinOn
import HandS.ForMost
import HandS.Wide
import HandS.Gcd
import HandS.Zip
import HandS.TupAny
import HandS.TupMul
import HandS.Walk
import HandS.TupLe
import PyProof.ReprRoads
import HandS.Lambda
import PyProof.ReprLen
import PyProof.StrLawsRepr
import KE.GoesEnum
import KE.GoesNew
import HandS.CallLocal
import HandS.Style
import KE.GoesZip
import KE.GoesMore
import HandS.ExcInit
import HandS.TryMany
import HandS.ExcOwn
import HandS.ExcIs
import PyProof.ExcBaseAll.ValueError
import HandS.ExcField
import KE.KExcIs
import HandS.EndTab
import HandS.TupSets
import KE.KeyNested
import KE.KDictKeyed
import HandS.SetBool
import KE.DataMinMax
import HandS.RevRange
import HandS.Iter
import KE.SortData
import HandS.SetFor
import HandS.Strs
import KE.KStar
import HandS.Star
import PySem.Challenge.RW_withinshapes_k52_whole_margins_and_told
set_option Elab.async false
set_option linter.all false
set_option maxRecDepth 100000
set_option maxHeartbeats 2000000
/-! Px: a pure layer over the hand layer: values as data, the environment as data, what a piece of the program asks as a plain predicate. -/
namespace Px
open PySem PySem.Spec PyProof.Rows L2

abbrev Fg := PySem.W.Frag

mutual
/-- the value reads as the datum in the (unmoving part of the) heap -/
inductive Rd (K : Fg) (M : Hp) : V → PyData → Prop
  | non : Rd K M .non .none
  | bl (b : Bool) : Rd K M (.bl b) (.bool b)
  | int (i : Int) : Rd K M (.int i) (.int i)
  | str (x : Str) : Rd K M (.str x) (.str x)
  | lst {a : Addr} {xs : List V} {ds : List PyData} : M a = some (.lst xs) → RdA K M xs ds → Rd K M (.ref a) (.list ds)
  | tup {a : Addr} {xs : List V} {ds : List PyData} : SqT K M a xs → RdA K M xs ds → Rd K M (.ref a) (.tuple ds)
inductive RdA (K : Fg) (M : Hp) : List V → List PyData → Prop
  | nil : RdA K M [] []
  | cons {v : V} {vs : List V} {d : PyData} {ds : List PyData} : Rd K M v d → RdA K M vs ds → RdA K M (v :: vs) (d :: ds)
end

/-- one heap holds all of the other -/
def Ex (H H' : Hp) : Prop := ∀ a o, H a = some o → H' a = some o
theorem Ex.refl (H : Hp) : Ex H H := fun _ _ h => h
theorem Ex.trans {H H1 H2 : Hp} (a : Ex H H1) (b : Ex H1 H2) : Ex H H2 := fun x o h => b x o (a x o h)
theorem Ex.sqt {K : Fg} {H H' : Hp} {a : Addr} {xs : List V} (e : Ex H H') (h : SqT K H a xs) : SqT K H' a xs := by
  rcases h with (h | ⟨o, h⟩) | h
  · exact .inl (.inl (e _ _ h))
  · exact .inl (.inr ⟨o, e _ _ h⟩)
  · exact .inr h

mutual
theorem Rd.mono {K : Fg} {M M' : Hp} (e : Ex M M') : ∀ {v : V} {d : PyData}, Rd K M v d → Rd K M' v d
  | _, _, .non => .non
  | _, _, .bl b => .bl b
  | _, _, .int i => .int i
  | _, _, .str x => .str x
  | _, _, .lst h r => .lst (e _ _ h) (RdA.mono e r)
  | _, _, .tup h r => .tup (e.sqt h) (RdA.mono e r)
theorem RdA.mono {K : Fg} {M M' : Hp} (e : Ex M M') : ∀ {vs : List V} {ds : List PyData}, RdA K M vs ds → RdA K M' vs ds
  | _, _, .nil => .nil
  | _, _, .cons h r => .cons (Rd.mono e h) (RdA.mono e r)
end
mutual
theorem Rd.dp {K : Fg} {M : Hp} : ∀ {v : V} {d : PyData}, Rd K M v d → Dp K M v d
  | _, _, .non => .non
  | _, _, .bl b => .bl b
  | _, _, .int i => .int i
  | _, _, .str x => .str x
  | _, _, .lst h r => .lst (SqL.of h) (RdA.dp r)
  | _, _, .tup h r => .tup h (RdA.dp r)
theorem RdA.dp {K : Fg} {M : Hp} : ∀ {vs : List V} {ds : List PyData}, RdA K M vs ds → DpAll K M vs ds
  | _, _, .nil => .nil
  | _, _, .cons h r => .cons (Rd.dp h) (RdA.dp r)
end
theorem RdA.length {K : Fg} {M : Hp} : ∀ {vs : List V} {ds : List PyData}, RdA K M vs ds → vs.length = ds.length
  | _, _, .nil => rfl
  | _, _, .cons _ r => by simp only [List.length_cons, RdA.length r]
theorem RdA.append {K : Fg} {M : Hp} : ∀ {vs ws : List V} {ds es : List PyData}, RdA K M vs ds → RdA K M ws es → RdA K M (vs ++ ws) (ds ++ es)
  | _, _, _, _, .nil, s => s
  | _, _, _, _, .cons h r, s => .cons h (RdA.append r s)
theorem RdA.get {K : Fg} {M : Hp} : ∀ {vs : List V} {ds : List PyData} {i : Nat} {d : PyData}, RdA K M vs ds → ds[i]? = some d → ∃ v, vs[i]? = some v ∧ Rd K M v d
  | _, _, _, _, .nil, e => by simp at e
  | _, _, 0, _, .cons h _, e => by simp at e; subst e; exact ⟨_, rfl, h⟩
  | _, _, i + 1, d, .cons _ r, e => by
    obtain ⟨v, h1, h2⟩ := RdA.get (i := i) (d := d) r (by simpa using e)
    exact ⟨v, by simpa using h1, h2⟩
theorem RdA.get' {K : Fg} {M : Hp} : ∀ {vs : List V} {ds : List PyData} {i : Nat} {v : V}, RdA K M vs ds → vs[i]? = some v → ∃ d, ds[i]? = some d ∧ Rd K M v d
  | _, _, _, _, .nil, e => by simp at e
  | _, _, 0, _, .cons h _, e => by simp at e; subst e; exact ⟨_, rfl, h⟩
  | _, _, i + 1, d, .cons _ r, e => by
    obtain ⟨v, h1, h2⟩ := RdA.get' (i := i) (v := d) r (by simpa using e)
    exact ⟨v, by simpa using h1, h2⟩
theorem RdA.take {K : Fg} {M : Hp} : ∀ {vs : List V} {ds : List PyData} (n : Nat), RdA K M vs ds → RdA K M (vs.take n) (ds.take n)
  | _, _, 0, _ => .nil
  | _, _, _ + 1, .nil => .nil
  | _, _, n + 1, .cons h r => .cons h (RdA.take n r)
theorem RdA.drop {K : Fg} {M : Hp} : ∀ {vs : List V} {ds : List PyData} (n : Nat), RdA K M vs ds → RdA K M (vs.drop n) (ds.drop n)
  | _, _, 0, r => r
  | _, _, _ + 1, .nil => .nil
  | _, _, n + 1, .cons _ r => RdA.drop n r
theorem RdA.set {K : Fg} {M : Hp} {v : V} {d : PyData} (q : Rd K M v d) : ∀ {vs : List V} {ds : List PyData} (n : Nat), RdA K M vs ds → RdA K M (vs.set n v) (ds.set n d)
  | _, _, _, .nil => .nil
  | _, _, 0, .cons _ r => .cons q r
  | _, _, n + 1, .cons h r => .cons h (RdA.set q n r)
/-- shapes of values by their data -/
theorem Rd.inv_int {K : Fg} {M : Hp} {v : V} {i : Int} (h : Rd K M v (.int i)) : v = .int i := by cases h; rfl
theorem Rd.inv_bool {K : Fg} {M : Hp} {v : V} {b : Bool} (h : Rd K M v (.bool b)) : v = .bl b := by cases h; rfl
theorem Rd.inv_none {K : Fg} {M : Hp} {v : V} (h : Rd K M v .none) : v = .non := by cases h; rfl
theorem Rd.inv_str {K : Fg} {M : Hp} {v : V} {x : Str} (h : Rd K M v (.str x)) : v = .str x := by cases h; rfl
theorem Rd.inv_list {K : Fg} {M : Hp} {v : V} {ds : List PyData} (h : Rd K M v (.list ds)) : ∃ a xs, v = .ref a ∧ M a = some (.lst xs) ∧ RdA K M xs ds := by
  cases h with
  | lst h r => exact ⟨_, _, rfl, h, r⟩
theorem Rd.inv_tuple {K : Fg} {M : Hp} {v : V} {ds : List PyData} (h : Rd K M v (.tuple ds)) : ∃ a xs, v = .ref a ∧ SqT K M a xs ∧ RdA K M xs ds := by
  cases h with
  | tup h r => exact ⟨_, _, rfl, h, r⟩
theorem RdA.ints {K : Fg} {M : Hp} : ∀ {vs : List V} {ns : List Int}, RdA K M vs (ns.map PyData.int) → vs = ns.map V.int
  | _, [], h => by cases h; rfl
  | _, n :: ns, h => by
    cases h with
    | cons h r => rw [Rd.inv_int h, RdA.ints r]; rfl
theorem RdA.bools {K : Fg} {M : Hp} : ∀ {vs : List V} {ns : List Bool}, RdA K M vs (ns.map PyData.bool) → vs = ns.map V.bl
  | _, [], h => by cases h; rfl
  | _, n :: ns, h => by
    cases h with
    | cons h r => rw [Rd.inv_bool h, RdA.bools r]; rfl

/-- a value of the pure layer: a datum, or a thing that is known by its place alone -/
inductive Vl where
  | d (x : PyData) | o (v : V) | st | rg (lo hi : Int)
/-- what the whole run has fixed: the written part; the moving state's value, its addresses, what is held of them -/
structure Kx where
  fg : Fg
  sd : V
  S : Addr → Prop
  SI : Nat → Hp → Prop
/-- so many draws there are in all at most -/
def lim : Nat := 2 ^ 4000
instance : Coe Kx Fg := ⟨Kx.fg⟩
def VlOk (K : Kx) (M : Hp) (v : V) : Vl → Prop
  | .d x => Rd K M v x
  | .o w => v = w
  | .st => v = K.sd
  | .rg lo hi => ∃ p, v = .ref p ∧ M p = some (.rng lo hi)
theorem VlOk.mono {K : Kx} {M M' : Hp} (e : Ex M M') {v : V} {x : Vl} (h : VlOk K M v x) : VlOk K M' v x := by
  cases x with
  | d x => exact Rd.mono e h
  | o w => exact h
  | st => exact h
  | rg lo hi => obtain ⟨p, e1, e2⟩ := h; exact ⟨p, e1, e _ _ e2⟩
inductive VlA (K : Kx) (M : Hp) : List V → List Vl → Prop
  | nil : VlA K M [] []
  | cons {v : V} {vs : List V} {d : Vl} {ds : List Vl} : VlOk K M v d → VlA K M vs ds → VlA K M (v :: vs) (d :: ds)
theorem VlA.mono {K : Kx} {M M' : Hp} (e : Ex M M') : ∀ {vs : List V} {ds : List Vl}, VlA K M vs ds → VlA K M' vs ds
  | _, _, .nil => .nil
  | _, _, .cons h r => .cons (h.mono e) (VlA.mono e r)
theorem VlA.length {K : Kx} {M : Hp} : ∀ {vs : List V} {ds : List Vl}, VlA K M vs ds → vs.length = ds.length
  | _, _, .nil => rfl
  | _, _, .cons _ r => by simp only [List.length_cons, VlA.length r]
theorem VlA.get {K : Kx} {M : Hp} : ∀ {vs : List V} {ds : List Vl} {i : Nat} {d : Vl}, VlA K M vs ds → ds[i]? = some d → ∃ v, vs[i]? = some v ∧ VlOk K M v d
  | _, _, _, _, .nil, e => by simp at e
  | _, _, 0, _, .cons h _, e => by simp at e; subst e; exact ⟨_, rfl, h⟩
  | _, _, i + 1, d, .cons _ r, e => by
    obtain ⟨v, h1, h2⟩ := VlA.get (i := i) (d := d) r (by simpa using e)
    exact ⟨v, by simpa using h1, h2⟩
theorem VlA.data {K : Kx} {M : Hp} : ∀ {vs : List V} {ds : List PyData}, VlA K M vs (ds.map Vl.d) → RdA K M vs ds
  | _, [], h => by cases h; exact .nil
  | _, d :: ds, h => by
    cases h with
    | cons h r => exact .cons h (VlA.data r)

/-- a slot -/
inductive Sl where
  | non | v (x : Vl) | own (xs : List PyData)
abbrev En := List Sl
abbrev Sg := L2.St

open Classical in
/-- the heap without what is barred -/
noncomputable def mask (B : Addr → Prop) (H : Hp) : Hp := fun a => if B a then none else H a
theorem mask_of {B : Addr → Prop} {H : Hp} {a : Addr} {o : HO} (h : mask B H a = some o) : ¬ B a ∧ H a = some o := by
  unfold mask at h
  by_cases hb : B a
  · rw [if_pos hb] at h; cases h
  · rw [if_neg hb] at h; exact ⟨hb, h⟩
theorem mask_at {B : Addr → Prop} {H : Hp} {a : Addr} {o : HO} (hb : ¬ B a) (h : H a = some o) : mask B H a = some o := by
  unfold mask; rw [if_neg hb]; exact h
theorem mask_le {B : Addr → Prop} {H : Hp} : Ex (mask B H) H := fun _ _ h => (mask_of h).2

/-- what a def's body stands in: the barred addresses ahead (the callers' and the state's), the moving state's, the heap at the entry, how often was drawn at most -/
structure Ct where
  B : Addr → Prop
  S : Addr → Prop
  H0 : Hp
  m : Nat
@[reducible] def Ct.up (C : Ct) (m : Nat) : Ct := ⟨C.B, C.S, C.H0, m⟩
structure CtOk (B S : Addr → Prop) (SI : Nat → Hp → Prop) : Prop where
  sb : ∀ a, S a → B a
  st : ∀ m H H', (∀ a, S a → H a = H' a) → (∀ a q, H a = some (LamX.CodeO a q) → H' a = some (LamX.CodeO a q)) → SI m H → SI m H'
  th : ∀ m H, SI m H → ∀ a, S a → H a ≠ none
  up : ∀ m m' H, m ≤ m' → SI m H → SI m' H

def bar (B : Addr → Prop) (σ : Sg) (ρ : En) (a : Addr) : Prop := B a ∨ ∃ (i : Nat) (xs : List PyData), ρ[i]? = some (Sl.own xs) ∧ σ[i]? = some (some (V.ref a))
noncomputable abbrev mq (C : Ct) (σ : Sg) (ρ : En) (H : Hp) : Hp := mask (bar C.B σ ρ) H

structure Good (K : Kx) (C : Ct) (σ : Sg) (ρ : En) (H : Hp) : Prop where
  eS : C.S = K.S
  ct : CtOk C.B C.S K.SI
  si : K.SI C.m H
  bd : ∀ a, C.B a → H a ≠ none
  fr : ∀ a o, ¬ C.S a → C.H0 a = some o → H a = some o
  len : ρ.length = σ.length
  sl : ∀ (i : Nat) (x : Vl), ρ[i]? = some (.v x) → ∃ v, σ[i]? = some (some v) ∧ VlOk K (mq C σ ρ H) v x
  ow : ∀ (i : Nat) (xs : List PyData), ρ[i]? = some (.own xs) → ∃ p vs, σ[i]? = some (some (.ref p)) ∧ H p = some (.lst vs) ∧ RdA K (mq C σ ρ H) vs xs ∧ C.H0 p = none ∧ ¬ C.B p
  inj : ∀ (i j : Nat) (xs ys : List PyData) (p : Addr), ρ[i]? = some (.own xs) → ρ[j]? = some (.own ys) → σ[i]? = some (some (.ref p)) → σ[j]? = some (some (.ref p)) → i = j

/-- what an expression may do to the heap -/
def Tr (S : Addr → Prop) (SI : Hp → Prop) (H H' : Hp) : Prop := (∀ a o, ¬ S a → H a = some o → H' a = some o) ∧ SI H'
theorem Tr.refl {S : Addr → Prop} {SI : Hp → Prop} {H : Hp} (h : SI H) : Tr S SI H H := ⟨fun _ _ _ e => e, h⟩
theorem Tr.trans {S : Addr → Prop} {SI SI' : Hp → Prop} {H H1 H2 : Hp} (a : Tr S SI H H1) (b : Tr S SI' H1 H2) : Tr S SI' H H2 := ⟨fun x o n e => b.1 x o n (a.1 x o n e), b.2⟩
section
variable {K : Kx} {C : Ct} {σ : Sg} {ρ : En} {H H' : Hp}
theorem Tr.ex {B S : Addr → Prop} {SI : Hp → Prop} (sb : ∀ a, S a → B a) (t : Tr S SI H H') : Ex (mask B H) (mask B H') := fun a o e => by
  obtain ⟨nb, e⟩ := mask_of e
  exact mask_at nb (t.1 a o (fun s => nb (sb a s)) e)
theorem Good.ex (G : Good K C σ ρ H) {m : Nat} (t : Tr C.S (K.SI m) H H') : Ex (mq C σ ρ H) (mq C σ ρ H') := t.ex fun a s => .inl (G.ct.sb a s)
theorem Good.tr (G : Good K C σ ρ H) {m : Nat} (t : Tr C.S (K.SI m) H H') : Good K (C.up m) σ ρ H' where
  eS := G.eS
  ct := G.ct
  si := t.2
  bd := fun a b e => by
    by_cases hs : C.S a
    · exact G.ct.th _ _ t.2 a hs e
    · cases q : H a with
      | none => exact G.bd a b q
      | some o => rw [t.1 a o hs q] at e; cases e
  fr := fun a o n e => t.1 a o n (G.fr a o n e)
  len := G.len
  sl := fun i x e => by
    obtain ⟨v, h1, h2⟩ := G.sl i x e
    exact ⟨v, h1, h2.mono (G.ex t)⟩
  ow := fun i xs e => by
    obtain ⟨p, vs, h1, h2, h3, h4, h5⟩ := G.ow i xs e
    exact ⟨p, vs, h1, t.1 p _ (fun s => h5 (G.ct.sb p s)) h2, h3.mono (G.ex t), h4, h5⟩
  inj := G.inj
/-- a list is no code object -/
theorem code_lst {a : Addr} {q : Str} {xs : List V} : HO.lst xs ≠ LamX.CodeO a q := fun z => by unfold LamX.CodeO at z; cases z
theorem code_upd {D : Addr} {xs : List V} {o : HO} (h : H D = some (.lst xs)) : ∀ a q, H a = some (LamX.CodeO a q) → (upd H D o) a = some (LamX.CodeO a q) := fun a q e => by
  rw [upd_ne (fun z => by rw [z, h] at e; exact code_lst (Option.some.inj e))]; exact e
/-- a new object -/
theorem Good.new (G : Good K C σ ρ H) {p : Addr} {o : HO} (n : H p = none)  : Tr C.S (K.SI C.m) H (upd H p o) :=
  ⟨fun a u _ e => by rw [upd_ne (ne_of_none e n)]; exact e, G.ct.st _ H _ (fun a s => by
    have : a ≠ p := fun z => G.ct.th _ H G.si a s (by rw [z]; exact n)
    rw [upd_ne this]) (fun a q e => by rw [upd_ne (ne_of_none e n)]; exact e) G.si⟩
theorem Good.nbar (G : Good K C σ ρ H) {p : Addr} (n : H p = none) : ¬ bar C.B σ ρ p := by
  rintro (b | ⟨i, xs, h1, h2⟩)
  · exact G.bd p b n
  · obtain ⟨q, vs, e1, e2, _⟩ := G.ow i xs h1
    rw [h2] at e1
    cases e1
    rw [n] at e2
    cases e2
theorem Good.mq_new (G : Good K C σ ρ H) {p : Addr} {o : HO} (n : H p = none) : mq C σ ρ (upd H p o) p = some o := mask_at (G.nbar n) upd_same
end
end Px

set_option Elab.async false
set_option linter.all false
set_option maxRecDepth 100000
set_option maxHeartbeats 2000000
/-! Px: a def's promise where no guard of a repr is up (so that repr may be asked within). -/
namespace Px
open PySem PySem.Spec PyProof.Rows L2

variable {P : Program} {w : World} {K : Fg} {mg : Str → Option Value} {base : Heap} {CX : CXT}

structure FnG (P : Program) (w : World) (K : Fg) (mg : Str → Option Value) (base : Heap) (CX : CXT) (k : Nat) (f : Addr) (fd : FuncData) (ps : List Str) (sp : Sp) : Prop where
  arity : ∀ vs H Q E, sp vs H Q E → vs.length = ps.length
  runs : ∀ (A : Around) (outer : List PySem.Env) (s : Shared) (H : Hp) (args : Args) (us : List Value) (vs : List V) (Q : VK) (E : XK), A.guards = some [] → Room k A →
    Env0 P w K mg base A outer s H → BindsTo s fd args (ps.zip us) → Vals vs us → sp vs H Q E → codeAny (model P w) A (.call (.ref f) args) (CR CX outer P w H s Q E) s
theorem FnG.up {j k : Nat} {f : Addr} {fd : FuncData} {ps : List Str} {sp : Sp} (F : FnG P w K mg base CX j f fd ps sp) (h : j ≤ k) : FnG P w K mg base CX k f fd ps sp :=
  ⟨F.arity, fun A outer s H args us vs Q E hg hr => F.runs A outer s H args us vs Q E hg (hr.mono h)⟩
theorem FnG.weak {k : Nat} {f : Addr} {fd : FuncData} {ps : List Str} {sp sp' : Sp} (F : FnG P w K mg base CX k f fd ps sp) (h : ∀ vs H Q E, sp' vs H Q E → sp vs H Q E) : FnG P w K mg base CX k f fd ps sp' :=
  ⟨fun vs H Q E q => F.arity vs H Q E (h _ _ _ _ q), fun A outer s H args us vs Q E hg hr he hb hv q => F.runs A outer s H args us vs Q E hg hr he hb hv (h _ _ _ _ q)⟩
theorem FnG.of {k : Nat} {f : Addr} {fd : FuncData} {ps : List Str} {sp : Sp} (F : FnOk P w K mg base CX k f fd ps sp) : FnG P w K mg base CX k f fd ps sp :=
  ⟨F.len, fun A outer s H args us vs Q E _ hr => F.run A outer s H args us vs Q E hr⟩

/-- a def by its body -/
theorem FnG.make {k : Nat} {f : Addr} {x qual : Str} {st : Stmt} {fd : FuncData} {N ps : List Str} {sp : Sp} (F : Fun K x qual st f fd) (S : FnScope N ps (defScope st))
    (len : ∀ vs H Q E, sp vs H Q E → vs.length = ps.length)
    (body : ∀ (cd : Value) (A : Around) (outer : List PySem.Env) (s : Shared) (H : Hp) (vs : List V) (Q : VK) (E : XK), A.guards = some [] → Room k (A.deeper (envOfC qual (defScope st) s.heap.objs.size f cd)) → sp vs H Q E →
      ∃ t, PSs (cxOf CX P w K mg base N qual (defScope st) f cd A outer s H E) (defBody st) t ∧ t { nx := fun _ H' => Q .non H', rt := Q } (start N vs) H) : FnG P w K mg base CX (k + 1) f fd ps sp := by
  obtain ⟨oc, od, kV, doc, pm, an, cd, ct, osl, rfl, lk, hcd⟩ := F.ex
  refine ⟨len, fun A outer s H args us vs Q E hg hr e0 hb r q => ?_⟩
  have hl := len _ _ _ _ q
  have KX := e0.mod.kin.keeps fun b o e => (e0.bs b o e).1
  have nolim := e0.mod.nolimit.keeps fun b o e => (e0.bs b o e).1
  refine codeAny_call_function hr.depth (KX _ _ lk) rfl S.co S.gen rfl (PySem.W.codeRec_of KX hcd) (hb _ _ _ _ ?_)
  refine wpAny_newFunctionEnv_cells S.kind (fun ⟨n, v⟩ hy => ?_) fun env he s1 hx => ?_
  · rcases S.par n (List.of_mem_zip hy).1 with z | z
    · exact .inl z
    · exact .inr ⟨z, PySem.W.cellsFrom_some _ _ _ (.inl z)⟩
  subst he
  refine ⟨nolim.keeps hx.toInCall.keep, codeAny_func ?_⟩
  obtain ⟨t, ht, hq⟩ := body cd A outer s H vs Q E hg (hr.deeper _) q
  have I := inv_start (CX := CX) (E := E) S hr.hd e0 hl r hx
  refine wpAny_mono (ht.run [] s1 (start N vs) H _ I hq) (fun fl s' hs => ?_) fun e s' hs => hs
  cases fl with
  | ret u => exact let ⟨v, σ', H', J, rv, q⟩ := hs; ⟨v, H', J.os, J.bare, J.base, J.hok, rv, q⟩
  | next => exact let ⟨σ', H', J, q⟩ := hs; ⟨.non, H', J.os, J.bare, J.base, J.hok, rfl, q⟩
  | brk => exact let ⟨_, _, _, q⟩ := hs; False.elim q
  | cont => exact let ⟨_, _, _, q⟩ := hs; False.elim q

section
variable {X : Cx} {k : Nat} {f : Addr} {fd : FuncData} {ps ks : List Str} {sp : Sp} {dvs : List V} {ds : List Value} {E : XK} {x : Str} {p pos : Pos} {e : Expr} {es : List Expr} {kws : List Keyword} {t tk : TA}
theorem goG {pins : List (Addr × Obj)} {σ : L2.St} {H : Hp} {s : Shared} {Q : VK} {us : List Value} {kw : List (Str × Value)} {zs : List Value} {vs : List V} (F : FnG X.prog X.w X.K X.mg X.base CX k f fd ps sp)
    (hg : X.A.guards = some []) (hr : Room k X.A) (hx : Passes CX X E) (I : Inv X pins σ H s) (hb : zs.length = ps.length → BindsTo s fd ⟨us, kw⟩ (ps.zip zs)) (r : Vals vs zs) (q : sp vs H Q E) :
    wpAny (model X.prog X.w) X.A (call (.ref f) us kw) (EP X pins σ Q) X.xe s := by
  have hl : zs.length = ps.length := by rw [← r.length]; exact F.arity _ _ _ _ q
  refine wpAny_call (codeAny_mono (F.runs X.A X.stack s H ⟨us, kw⟩ zs vs Q E hg hr I.env0 (hb hl) r q) fun r s' hq => ?_)
  cases r with
  | error e => exact hx pins σ H s e s' I hq
  | ok fl =>
    cases fl with
    | ret u => exact I.after hq
    | next => exact hq.elim
    | brk => exact hq.elim
    | cont => exact hq.elim
/-- f(a, ..) -/
theorem peG_call (F : FnG X.prog X.w X.K X.mg X.base CX k f fd ps sp) (hg : X.A.guards = some []) (hr : Room k X.A) (hx : Passes CX X E) (gl : Gl X x) (hm : X.mg x = some (.ref f)) (hk : PySem.W.keepIn X.K (.ref f) = true)
    (hb : Binds X.K fd ps []) (ha : PA X (e :: es) t) (hdb : (x == ("__debug__" : Str)) = false := by decide) (he : starEach (e :: es) X.env = (false, eval e X.env) :: starEach es X.env := by rfl)
    (hpl : (backTo pos (starEach es X.env)).any (·.1) = false := by rfl) : PE X (.Call (.Name x p) (e :: es) [] pos) (tCall sp [] E t) := by
  refine ⟨fun pins s σ H Q I h => wpAny_Call_Name_kw (ld_glob I gl hm ?_ hdb)⟩
  refine PySem.W.callWith_K (h₀ := X.base) I.ok.mod.kin hk (thn (ha.run pos pins s σ H _ I h) fun us s1 ⟨vs, H1, I1, r, q⟩ => ⟨I1.kIn, ?_⟩) he hpl
  have q' : sp vs H1 Q E := by simpa using q
  exact goG F hg hr hx I1 (zs := us) (fun hl => by have := hb s1 us I1.kIn (by simpa using hl); simpa using this) r q'
/-- f() -/
theorem peG_call0 (F : FnG X.prog X.w X.K X.mg X.base CX k f fd ps sp) (hg : X.A.guards = some []) (hr : Room k X.A) (hx : Passes CX X E) (gl : Gl X x) (hm : X.mg x = some (.ref f)) (hk : PySem.W.keepIn X.K (.ref f) = true)
    (hb : Binds X.K fd ps []) (hdb : (x == ("__debug__" : Str)) = false := by decide) : PE X (.Call (.Name x p) [] [] pos) (tCall sp [] E tNil) := by
  refine ⟨fun pins s σ H Q I h => wpAny_Call_Name_kw (ld_glob I gl hm ?_ hdb)⟩
  have q' : sp [] H Q E := h
  exact PySem.W.callWith_K0 I.kIn hk (goG F hg hr hx I (us := []) (zs := []) (fun hl => by have := hb s [] I.kIn (by simpa using hl); simpa using this) .nil q')
/-- f(a, .., k = v, ..) -/
theorem peG_callK {g : List Value → List Value → List Value} {gV : List V → List V → List V} (F : FnG X.prog X.w X.K X.mg X.base CX k f fd ps sp) (hg : X.A.guards = some []) (hr : Room k X.A) (hx : Passes CX X E) (gl : Gl X x)
    (hm : X.mg x = some (.ref f)) (hk : PySem.W.keepIn X.K (.ref f) = true) (hb : KBinds X.K fd ps ks g gV) (ha : PA X (e :: es) t) (hkw : PK X kws tk)
    (hall : (backToKw pos (keywordEach kws X.env)).all (·.1.isSome) = true := by rfl) (hks : (backToKw pos (keywordEach kws X.env)).filterMap (·.1) = ks := by rfl) (hdb : (x == ("__debug__" : Str)) = false := by decide)
    (he : starEach (e :: es) X.env = (false, eval e X.env) :: starEach es X.env := by rfl)
    (hpl : ((backTo pos (starEach (e :: es) X.env)).any (·.1) || (backToKw pos (keywordEach kws X.env)).any (·.1.isNone)) = false := by rfl) : PE X (.Call (.Name x p) (e :: es) kws pos) (tCallK sp gV E t tk) := by
  refine ⟨fun pins s σ H Q I h => wpAny_Call_Name_kw (ld_glob I gl hm ?_ hdb)⟩
  refine PySem.W.callWith_KW (h₀ := X.base) I.ok.mod.kin hk hall (thn (ha.run pos pins s σ H _ I h) fun us s1 ⟨vs, H1, I1, r, q⟩ => ?_) hpl he
  refine thn (hkw.run pos pins s1 σ H1 _ I1 q) fun ws s2 ⟨zs, H2, I2, rz, q2⟩ => ⟨I2.kIn, ?_⟩
  rw [hks]
  exact goG F hg hr hx I2 (zs := g us ws) (fun hl => hb.to s2 us ws I2.kIn hl) (hb.rel r rz) q2
end

/-- the law's call, from its promise -/
theorem walkG {l : PySem.W.OpenLaw} {n k : Nat} {q : Program} {loose : List Str} {XP : (Str → Option Value) → Heap → Prop} {YP : World → Heap → Prop} {d : DefRec} {K : Params → Fg} {sp : Fg → Sp} {x : Str}
    (hn : l.most = some n) (hn2 : n ≤ sizeLine) (hdf : d.params.defaults = []) (hr : Room k callerA) (hY : ∀ (w : World) (h : Heap), YP w h → (K w.params).In h)
    (F : ∀ (w : World) (mg : Str → Option Value) (fa : Addr) (h : Heap), (K w.params).In h → h.Ns mainGlobals mg → mg d.name = some (.ref fa) →
      ∃ fd : FuncData, (∀ (s : Shared) (u : Value), BindsTo s fd ⟨[u], []⟩ [(x, u)]) ∧ ∀ base : Heap, (K w.params).In base → base.Ns mainGlobals mg → FnG l.prog w (K w.params) mg base CX0 k fa fd [x] (sp (K w.params)))
    (hsp : ∀ (K : Fg) (H : Hp) (a : Addr) (ns : List Int), ns.length ≤ n → Only H → SqL K H a (ns.map V.int) → sp K [.ref a] H (fun v _ => v = .bl true) fun _ _ _ => False) :
    PySem.W.WalkO q loose XP YP l.row.toRowW d [] (fun f vs => PySem.call f vs) := by
  refine Att.attach_call hn hdf fun w s₀ s₁ mg mb fa o pm cd doc a vs ns G Y ho hd hcd hmg hobj hints hlen hgens => ?_
  have KX := hY w _ Y
  obtain ⟨fd, hb, hF⟩ := F w mg fa _ KX G.T.g hmg
  -- the layer's own head, for a promise that is had at the caller's own around alone
  have core : ∀ base : Heap, (K w.params).In base → base.Ns mainGlobals mg → ∀ (s : Shared) (H : Hp) (args : Args) (us : List Value) (vs : List V) (Q : VK) (E : XK),
      Env0 l.prog w (K w.params) mg base callerA [] s H → BindsTo s fd args ([x].zip us) → Vals vs us → sp (K w.params) vs H Q E → codeAny (model l.prog w) callerA (.call (.ref fa) args) (CR CX0 [] l.prog w H s Q E) s :=
    fun base h1 h2 s H args us vs Q E e0 hb' hv hs => (hF base h1 h2).runs callerA [] s H args us vs Q E rfl hr e0 hb' hv hs
  have rv := vals_ints hints
  have lenV := hints.length
  have lift : ∀ H : Hp, Only H → SqL (K w.params) H a (ns.map V.int) → HOk l.prog w H s₁.heap → (∀ b, H b ≠ none → b = a) → (H a ≠ none → (K w.params).lookup a = none) →
      codeAny (model l.prog w) callerA (.call (.ref fa) ⟨[.ref a], []⟩) (fun r s' => r = .ok (.ret (.bool true)) ∧ OldK s₁.heap s'.heap ∧ s'.os = s₁.os ∧ AllBare s'.gens) s₁ := by
    intro H hO hS hok hA hKa
    have at0 : ∀ {b : Addr} {ob : Obj} {es : Array DictEntry} {ep : Nat}, s₁.heap.get? b = some ob → ob.data = .dict es ep → H b = none := by
      intro b ob es ep e dd
      cases qq : H b with
      | none => rfl
      | some u =>
        obtain rfl : b = a := hA b (by rw [qq]; simp)
        rw [hobj] at e
        cases e
        exact absurd dd (by intro z; cases z)
    have nsK : ∀ {b : Addr} {m : Str → Option Value}, s₁.heap.Ns b m → (hidT s₁.heap H).Ns b m := fun ⟨ob, es, ep, e, dd, r⟩ => ⟨ob, es, ep, hidT_get e (at0 e dd), dd, r⟩
    have hKb : (K w.params).In (hidT s₁.heap H) := by
      intro b ob e
      refine hidT_get (KX b ob e) ?_
      cases qq : H b with
      | none => rfl
      | some u =>
        obtain rfl : b = a := hA b (by rw [qq]; simp)
        rw [hKa (by rw [qq]; simp)] at e
        cases e
    have hM : Mod (K w.params) mg (hidT s₁.heap H) := ⟨hKb, nsK G.T.g, ⟨mb, nsK G.T.b, G.T.builtins⟩, let ⟨mc, h1, h2⟩ := G.T.nolimit; ⟨mc, nsK h1, h2⟩⟩
    have e0 : Env0 l.prog w (K w.params) mg (hidT s₁.heap H) callerA [] s₁ H :=
      ⟨rfl, hM, fun b ob e => of_hidT e, Nat.le_of_eq (hidT_size _ _), trivial, fun b hb => absurd (show b ∈ ([] : List Addr) from hb) (by simp), hok, .of_eq hgens⟩
    refine codeAny_mono (core _ hKb (nsK G.T.g) s₁ H ⟨[.ref a], []⟩ [.ref a] [.ref a] _ _ e0 (hb s₁ (.ref a)) (.cons rfl .nil) (hsp _ H a ns hlen hO hS)) fun r s' h => ?_
    cases r with
    | error e => exact h.elim
    | ok fl =>
      cases fl with
      | next => exact h.elim
      | brk => exact h.elim
      | cont => exact h.elim
      | ret u =>
        obtain ⟨v, H', os, bare, un, hok', r', vq⟩ := h
        obtain rfl : v = .bl true := vq
        obtain rfl : u = Value.bool true := r'
        refine ⟨rfl, OldK.of_keep fun b ob e => ?_, os, bare⟩
        cases qq : H b with
        | none => exact un.keep b ob e qq (fun z => absurd (show b ∈ ([] : List Addr) from z) (by simp)) (by simp)
        | some u =>
          rcases hO b with z | ⟨ob2, xs, z⟩
          · rw [qq] at z; cases z
          · obtain ⟨e1, _⟩ := hok b _ z
            obtain ⟨e2, _⟩ := hok' b _ (un.frzs b ob2 _ z)
            rw [e] at e1
            cases e1
            exact e2
  cases hk : (K w.params).lookup a with
  | some ob =>
    have e := KX a ob hk
    rw [hobj] at e
    cases e
    refine lift (fun _ => none) (fun _ => .inl rfl) (.inr ⟨_, vs.toArray, _, hk, rfl, rfl, rfl, by rw [List.size_toArray, lenV]; exact Nat.le_trans hlen hn2, by simpa using rv⟩)
      (fun b u z => by cases (show (none : Option HO) = some u from z)) (fun b z => absurd rfl z) fun z => absurd rfl z
  | none =>
    have at1 : ∀ b, (if b = a then some (HO.frz { cls := .type "list", data := .seq vs.toArray } (.lst (ns.map V.int))) else none) ≠ none → b = a := fun b z => by
      by_cases hb : b = a
      · exact hb
      · exact absurd (if_neg hb) z
    refine lift (fun b => if b = a then some (.frz { cls := .type "list", data := .seq vs.toArray } (.lst (ns.map V.int))) else none) (fun b => ?_)
      (.inl (.inr ⟨{ cls := .type "list", data := .seq vs.toArray }, if_pos rfl⟩)) (fun b u z => ?_) at1 fun _ => hk
    · by_cases hb : b = a
      · exact .inr ⟨_, _, if_pos hb⟩
      · exact .inl (if_neg hb)
    · obtain rfl : b = a := at1 b (fun y => by cases y.symm.trans z)
      have z' := (if_pos rfl).symm.trans z
      cases z'
      exact ⟨hobj, by rw [List.length_map]; exact Nat.le_trans hlen hn2, vs, _, rv, hobj⟩
end Px

set_option Elab.async false
set_option linter.all false
set_option maxRecDepth 100000
set_option maxHeartbeats 2000000
/-! Px: expressions and tests. -/
namespace Px
open PySem PySem.Spec PyProof.Rows L2

/-- one context, or those of a comprehension's blocks -/
structure Fm where
  I : Type
  X : I → Cx
  K : Kx
  mg : Str → Option Value
  N : List Str
  P : Program
  w : World
  base : Heap
  k : Nat
  eK : ∀ i, (X i).K = K.fg
  eM : ∀ i, (X i).mg = mg
  eN : ∀ i, (X i).N = N
  eP : ∀ i, (X i).prog = P
  eW : ∀ i, (X i).w = w
  eB : ∀ i, (X i).base = base
  nd : N.Nodup
  calm : ∀ i, (X i).calm = true
  room : ∀ i, Room k (X i).A
  gu : ∀ i, (X i).A.guards = some []
  own : ∀ i, PassesOwn (model (X i).prog (X i).w) (X i).A (X i).env (X i).xe
def Fm.one (X : Cx) (K : Kx) (eK : X.K = K.fg) (k : Nat) (nd : X.N.Nodup) (calm : X.calm = true) (room : Room k X.A) (gu : X.A.guards = some []) (own : PassesOwn (model X.prog X.w) X.A X.env X.xe) : Fm :=
  ⟨Unit, fun _ => X, K, X.mg, X.N, X.prog, X.w, X.base, k, fun _ => eK, fun _ => rfl, fun _ => rfl, fun _ => rfl, fun _ => rfl, fun _ => rfl, nd, fun _ => calm, fun _ => room, fun _ => gu, fun _ => own⟩
def Fm.blk (F : Fm) (scope : Scope) : Fm :=
  ⟨F.I × Shared × Hp × Addr × List (Str × Addr) × List Addr, fun p => (F.X p.1).blk p.2.1 p.2.2.1 scope (compEnvC scope p.2.2.2.2.1 p.2.2.2.1 (F.X p.1).env) p.2.2.2.2.2,
    F.K, F.mg, F.N, F.P, F.w, F.base, F.k, fun p => F.eK p.1, fun p => F.eM p.1, fun p => F.eN p.1, fun p => F.eP p.1, fun p => F.eW p.1, fun p => F.eB p.1, F.nd, fun p => F.calm p.1, fun p => F.room p.1, fun p => F.gu p.1, fun _ => PassesOwn.never⟩

abbrev FE := En → (Vl → Prop) → Prop
abbrev FT := En → (Bool → Prop) → Prop
abbrev FA := En → (List Vl → Prop) → Prop
abbrev FL := En → (List PyData → Prop) → Prop

def SE (K : Kx) (t : TE) (c : Nat) (f : FE) : Prop := ∀ (C : Ct) (σ : Sg) (ρ : En) (H : Hp) (R : Vl → Prop) (Q : VK), C.m + c ≤ lim → Good K C σ ρ H → f ρ R →
  (∀ v H' x m, C.m ≤ m → m ≤ C.m + c → Tr C.S (K.SI m) H H' → VlOk K (mq C σ ρ H') v x → R x → Q v H') → t σ H Q
def ST (K : Kx) (t : TT) (c : Nat) (f : FT) : Prop := ∀ (C : Ct) (σ : Sg) (ρ : En) (H : Hp) (R : Bool → Prop) (Q : Bool → Hp → Prop), C.m + c ≤ lim → Good K C σ ρ H → f ρ R →
  (∀ b H' m, C.m ≤ m → m ≤ C.m + c → Tr C.S (K.SI m) H H' → R b → Q b H') → t σ H Q
def SA (K : Kx) (t : TA) (c : Nat) (f : FA) : Prop := ∀ (C : Ct) (σ : Sg) (ρ : En) (H : Hp) (R : List Vl → Prop) (Q : List V → Hp → Prop), C.m + c ≤ lim → Good K C σ ρ H → f ρ R →
  (∀ vs H' xs m, C.m ≤ m → m ≤ C.m + c → Tr C.S (K.SI m) H H' → VlA K (mq C σ ρ H') vs xs → R xs → Q vs H') → t σ H Q
/-- a new list, nobody else's -/
def SL (K : Kx) (t : TE) (c : Nat) (f : FL) : Prop := ∀ (C : Ct) (σ : Sg) (ρ : En) (H : Hp) (R : List PyData → Prop) (Q : VK), C.m + c ≤ lim → Good K C σ ρ H → f ρ R →
  (∀ p H' vs ds m, C.m ≤ m → m ≤ C.m + c → H p = none → Tr C.S (K.SI m) H H' → H' p = some (.lst vs) → RdA K (mask (fun a => bar C.B σ ρ a ∨ a = p) H') vs ds → R ds → Q (.ref p) H') → t σ H Q
/-- two values in, one out -/
abbrev G2 := Vl → Vl → (Vl → Prop) → Prop
def S2 (K : Kx) (r : R2) (g : G2) : Prop := ∀ (C : Ct) (σ : Sg) (ρ : En) (H : Hp) (v w : V) (x y : Vl) (R : Vl → Prop) (Q : VK), Good K C σ ρ H → VlOk K (mq C σ ρ H) v x → VlOk K (mq C σ ρ H) w y → g x y R →
  (∀ u H' z, Tr C.S (K.SI C.m) H H' → VlOk K (mq C σ ρ H') u z → R z → Q u H') → r v w H Q
abbrev GC := List Vl → (Vl → Prop) → Prop
def SC (K : Kx) (r : List V → Hp → VK → Prop) (g : GC) : Prop := ∀ (C : Ct) (σ : Sg) (ρ : En) (H : Hp) (vs : List V) (xs : List Vl) (R : Vl → Prop) (Q : VK), Good K C σ ρ H → VlA K (mq C σ ρ H) vs xs → g xs R →
  (∀ u H' z, Tr C.S (K.SI C.m) H H' → VlOk K (mq C σ ρ H') u z → R z → Q u H') → r vs H Q

structure Ee (F : Fm) (e : Expr) (c : Nat) (f : FE) : Prop where
  ex : ∃ t, (∀ i, PE (F.X i) e t) ∧ SE F.K t c f
structure Et (F : Fm) (e : Expr) (c : Nat) (f : FT) : Prop where
  ex : ∃ t, (∀ i, PT (F.X i) e t) ∧ ST F.K t c f
structure Ew (F : Fm) (e : Expr) (c : Nat) (f : FT) : Prop where
  ex : ∃ t, (∀ i, PW (F.X i) e t) ∧ ST F.K t c f
structure Ea (F : Fm) (es : List Expr) (c : Nat) (f : FA) : Prop where
  ex : ∃ t, (∀ i, PA (F.X i) es t) ∧ SA F.K t c f
structure El (F : Fm) (e : Expr) (c : Nat) (f : FL) : Prop where
  ex : ∃ t, (∀ i, PE (F.X i) e t) ∧ SL F.K t c f

section
variable {F : Fm} {e a b c : Expr} {es : List Expr} {pos p : Pos} {fa fb fc : FE} {n na nb nc : Nat}

/-! ### names, constants -/
def rd (ρ : En) (i : Nat) (R : Vl → Prop) : Prop := match ρ[i]? with
  | some (.v x) => R x
  | _ => False
theorem le0 {n : Nat} : n ≤ n + 0 := Nat.le_refl _
theorem se_var {K : Kx} (i : Nat) : SE K (tVar i) 0 (fun ρ R => rd ρ i R) := fun C σ ρ H R Q _ G h k => by
  have h : rd ρ i R := h
  unfold rd at h
  split at h
  · rename_i x e
    obtain ⟨v, h1, h2⟩ := G.sl i x e
    exact ⟨v, h1, k v H x C.m (Nat.le_refl _) le0 (Tr.refl G.si) h2 h⟩
  · exact h.elim
theorem e_var (i : Nat) {x : Str} (hN : F.N[i]? = some x) (hv : ∀ j, Vis (F.X j).env.scope x) (hd : (x == ("__debug__" : Str)) = false := by decide) (hcd : (x == ("__classdict__" : Str)) = false := by decide) :
    Ee F (.Name x p) 0 (fun ρ R => rd ρ i R) := ⟨_, fun j => pe_var (by rw [F.eN]; exact hN) (hv j) hd hcd, se_var i⟩
theorem se_c {K : Kx} {v : V} {x : PyData} (h : ∀ M, Rd K M v x) : SE K (tC v) 0 (fun _ R => R (.d x)) := fun C _ _ H _ _ _ G hr k => k v H (.d x) C.m (Nat.le_refl _) le0 (Tr.refl G.si) (h _) hr
theorem e_int {i : Int} {j : Nat} : Ee F (.Constant (.int i) j p) 0 (fun _ R => R (.d (.int i))) := ⟨_, fun _ => pe_int, se_c fun _ => .int i⟩
theorem e_bool {i : Bool} {j : Nat} : Ee F (.Constant (.bool i) j p) 0 (fun _ R => R (.d (.bool i))) := ⟨_, fun _ => pe_bl, se_c fun _ => .bl i⟩
theorem e_none {j : Nat} : Ee F (.Constant .none j p) 0 (fun _ R => R (.d .none)) := ⟨_, fun _ => pe_non, se_c fun _ => .non⟩
theorem e_str {i : Str} {j : Nat} : Ee F (.Constant (.str i) j p) 0 (fun _ R => R (.d (.str i))) := ⟨_, fun _ => pe_str, se_c fun _ => .str i⟩
/-- a constant of the module -/
theorem e_glob {x : Str} {v : V} {u : Value} {d : PyData} (hm : F.mg x = some u) (r : RelV v u) (h : ∀ M, Rd F.K M v d) (hg : ∀ i, Gl (F.X i) x := by intro _; rfl) (hd : (x == ("__debug__" : Str)) = false := by decide) :
    Ee F (.Name x p) 0 (fun _ R => R (.d d)) := ⟨_, fun i => pe_glob (hg i) (by rw [F.eM]; exact hm) r hd, se_c h⟩
/-- a thing of the module that is handed on as it is -/
theorem e_globO {x : Str} {v : V} {u : Value} (hm : F.mg x = some u) (r : RelV v u) (hg : ∀ i, Gl (F.X i) x := by intro _; rfl) (hd : (x == ("__debug__" : Str)) = false := by decide) :
    Ee F (.Name x p) 0 (fun _ R => R (.o v)) := ⟨_, fun i => pe_glob (hg i) (by rw [F.eM]; exact hm) r hd, fun C _ _ H _ _ _ G hr k => k v H (.o v) C.m (Nat.le_refl _) le0 (Tr.refl G.si) rfl hr⟩

/-! ### operators -/
theorem OpR.or {X : Cx} {f : Value → Value → Sem Value} {r r' : R2} (h : OpR X f r) (h' : OpR X f r') : OpR X f (fun x y H Q => r x y H Q ∨ r' x y H Q) := fun pins s σ H x y v u Q I rx ry q => by
  rcases q with q | q
  · exact h pins s σ H x y v u Q I rx ry q
  · exact h' pins s σ H x y v u Q I rx ry q
theorem CallR.or {X : Cx} {f : Value} {r r' : List V → Hp → VK → Prop} (h : CallR X f r) (h' : CallR X f r') : CallR X f (fun x H Q => r x H Q ∨ r' x H Q) := fun pins s σ H xs us Q I rx q => by
  rcases q with q | q
  · exact h pins s σ H xs us Q I rx q
  · exact h' pins s σ H xs us Q I rx q
theorem se_op {K : Kx} {r : R2} {ta tb : TE} {g : G2} (ha : SE K ta na fa) (hb : SE K tb nb fb) (hr : S2 K r g) : SE K (tOp r ta tb) (na + nb) (fun ρ R => fa ρ fun x => fb ρ fun y => g x y R) := fun C σ ρ H R Q hm G h k =>
  ha C σ ρ H _ _ (by omega) G h fun v H1 x m1 l1 u1 t1 ox h1 => hb (C.up m1) σ ρ H1 _ _ (by show m1 + nb ≤ lim; omega) (G.tr t1) h1 fun w H2 y m2 l2 u2 t2 oy h2 =>
    hr (C.up m2) σ ρ H2 v w x y R Q ((G.tr t1).tr t2) (ox.mono ((G.tr t1).ex t2)) oy h2 fun u H3 z t3 oz h3 => k u H3 z m2 (Nat.le_trans l1 l2) (by have : m2 ≤ m1 + nb := u2; omega) ((t1.trans t2).trans t3) oz h3
theorem e_bin {op : Operator} {r : R2} {g : G2} (ho : ∀ i, OpR (F.X i) (binaryOp op) r) (hr : S2 F.K r g) (ha : Ee F a na fa) (hb : Ee F b nb fb) : Ee F (.BinOp a op b pos) (na + nb) (fun ρ R => fa ρ fun x => fb ρ fun y => g x y R) := by
  obtain ⟨ta, pa, sa⟩ := ha
  obtain ⟨tb, pb, sb⟩ := hb
  exact ⟨_, fun i => pe_op (ho i) (pa i) (pb i), se_op sa sb hr⟩
theorem e_cmp {op : CmpOp} {r : R2} {g : G2} (ho : ∀ i, OpR (F.X i) (compareOp op) r) (hr : S2 F.K r g) (ha : Ee F a na fa) (hb : Ee F b nb fb) (hm : behindInMarks op b = false := by first | exact nomark _ | rfl) :
    Ee F (.Compare a [op] [b] pos) (na + nb) (fun ρ R => fa ρ fun x => fb ρ fun y => g x y R) := by
  obtain ⟨ta, pa, sa⟩ := ha
  obtain ⟨tb, pb, sb⟩ := hb
  exact ⟨_, fun i => pe_cmpR (ho i) (pa i) (pb i) hm, se_op sa sb hr⟩
/-- a value that is a bool, told on -/
def asB (R : Bool → Prop) : Vl → Prop
  | .d (.bool b) => R b
  | _ => False
theorem st_test {K : Kx} {t : TE} {f : FE} (h : SE K t n f) : ST K (tTest t) n (fun ρ R => f ρ (asB R)) := fun C σ ρ H R Q hm G hf k =>
  h C σ ρ H _ _ hm G hf fun v H1 x m l u t1 ox h1 => by
    match x, h1, ox with
    | .d (.bool b), h1, ox => exact ⟨b, Rd.inv_bool ox, k b H1 m l u t1 h1⟩
theorem t_cmp {op : CmpOp} {r : R2} {g : G2} (ho : ∀ i, OpR (F.X i) (compareOp op) r) (hr : S2 F.K r g) (ha : Ee F a na fa) (hb : Ee F b nb fb) (hm : behindInMarks op b = false := by first | exact nomark _ | rfl) :
    Et F (.Compare a [op] [b] pos) (na + nb) (fun ρ R => fa ρ fun x => fb ρ fun y => g x y (asB R)) := by
  obtain ⟨ta, pa, sa⟩ := ha
  obtain ⟨tb, pb, sb⟩ := hb
  exact ⟨_, fun i => pt_cmpR (ho i) (pa i) (pb i) hm, st_test (se_op sa sb hr)⟩
theorem se_chain {K : Kx} {r r' : R2} {ta tb tc : TE} {g g' : G2} (ha : SE K ta na fa) (hb : SE K tb nb fb) (hc : SE K tc nc fc) (hr : S2 K r g) (hr' : S2 K r' g') :
    SE K (tChain r r' ta tb tc) (na + nb + nc) (fun ρ R => fa ρ fun x => fb ρ fun y => g x y (asB fun k => if k = true then fc ρ fun z => g' y z R else R (.d (.bool false)))) := fun C σ ρ H R Q hm G h k =>
  ha C σ ρ H _ _ (by omega) G h fun v H1 x m1 l1 u1 t1 ox h1 => hb (C.up m1) σ ρ H1 _ _ (by show m1 + nb ≤ lim; omega) (G.tr t1) h1 fun w H2 y m2 l2 u2 t2 oy h2 =>
    hr (C.up m2) σ ρ H2 v w x y _ _ ((G.tr t1).tr t2) (ox.mono ((G.tr t1).ex t2)) oy h2 fun u H3 z t3 oz h3 => by
      have G3 := ((G.tr t1).tr t2).tr t3
      have v2 : m2 ≤ m1 + nb := u2
      have w2 : m1 ≤ m2 := l2
      match z, h3, oz with
      | .d (.bool d), h3, oz =>
        refine ⟨d, Rd.inv_bool oz, ?_⟩
        cases d with
        | true =>
          exact iteT (hc (C.up m2) σ ρ H3 _ _ (by show m2 + nc ≤ lim; omega) G3 (by simpa [asB] using h3) fun w' H4 z' m4 l4 u4 t4 oz' h4 => hr' (C.up m4) σ ρ H4 w w' y z' R Q (G3.tr t4) (oy.mono (((G.tr t1).tr t2).ex (t3.trans t4))) oz' h4 fun u' H5 y' t5 oy' h5 =>
            k u' H5 y' m4 (by have : m2 ≤ m4 := l4; omega) (by have : m4 ≤ m2 + nc := u4; omega) ((((t1.trans t2).trans t3).trans t4).trans t5) oy' h5)
        | false => exact iteF (k _ H3 (.d (.bool false)) m2 (by omega) (by omega) ((t1.trans t2).trans t3) (Rd.bl false) (by simpa [asB] using h3))
theorem e_chain {op op' : CmpOp} {r r' : R2} {g g' : G2} (ho : ∀ i, OpR (F.X i) (compareOp op) r) (hr : S2 F.K r g) (ho' : ∀ i, OpR (F.X i) (compareOp op') r') (hr' : S2 F.K r' g') (ha : Ee F a na fa) (hb : Ee F b nb fb) (hc : Ee F c nc fc)
    (hm : lastMarks [op, op'] [b, c] = false := by with_unfolding_all rfl) :
    Ee F (.Compare a [op, op'] [b, c] pos) (na + nb + nc) (fun ρ R => fa ρ fun x => fb ρ fun y => g x y (asB fun k => if k = true then fc ρ fun z => g' y z R else R (.d (.bool false)))) := by
  obtain ⟨ta, pa, sa⟩ := ha
  obtain ⟨tb, pb, sb⟩ := hb
  obtain ⟨tc, pc, sc⟩ := hc
  exact ⟨_, fun i => pe_chain (ho i) (ho' i) (pa i) (pb i) (pc i) hm, se_chain sa sb sc hr hr'⟩
theorem t_chain {op op' : CmpOp} {r r' : R2} {g g' : G2} (ho : ∀ i, OpR (F.X i) (compareOp op) r) (hr : S2 F.K r g) (ho' : ∀ i, OpR (F.X i) (compareOp op') r') (hr' : S2 F.K r' g') (ha : Ee F a na fa) (hb : Ee F b nb fb) (hc : Ee F c nc fc)
    (hm : lastMarks [op, op'] [b, c] = false := by with_unfolding_all rfl) :
    Et F (.Compare a [op, op'] [b, c] pos) (na + nb + nc) (fun ρ R => fa ρ fun x => fb ρ fun y => g x y (asB fun k => if k = true then fc ρ fun z => g' y z (asB R) else R false)) := by
  obtain ⟨ta, pa, sa⟩ := ha
  obtain ⟨tb, pb, sb⟩ := hb
  obtain ⟨tc, pc, sc⟩ := hc
  exact ⟨_, fun i => pt_chain (ho i) (ho' i) (pa i) (pb i) (pc i) hm, st_test (se_chain sa sb sc hr hr')⟩

/-! ### truth -/
def truD : PyData → Option Bool
  | .none => some false
  | .bool b => some b
  | .int i => some (i != 0)
  | .list xs => some (!xs.isEmpty)
  | .tuple xs => some (!xs.isEmpty)
  | _ => none
def asTru (R : Bool → Prop) : Vl → Prop
  | .d x => match truD x with
    | some b => R b
    | none => False
  | _ => False
theorem isEmptyRd {K : Kx} {M : Hp} {vs : List V} {ds : List PyData} (h : RdA K M vs ds) : (!ds.isEmpty) = !vs.isEmpty := by cases h <;> rfl
theorem t_val {f : FE} (h : Ee F e n f) (he : ∀ i whole, isTrue e (F.X i).env whole = (do let v ← whole; standAt e.pos; holding [v] (truthy v)) := by intro _ _; rfl) : Et F e n (fun ρ R => f ρ (asTru R)) := by
  obtain ⟨t, pt, st⟩ := h
  refine ⟨_, fun i => by have := pt_truth (pt i) (he i); rw [F.eK i] at this; exact this, fun C σ ρ H R Q hm G hf k => st C σ ρ H _ _ hm G hf fun v H1 x m l u t1 ox h1 => ?_⟩
  match x, h1, ox with
  | .d .none, h1, ox => cases Rd.inv_none ox; exact ⟨false, rfl, k _ _ m l u t1 h1⟩
  | .d (.bool b), h1, ox => cases Rd.inv_bool ox; exact ⟨b, rfl, k _ _ m l u t1 h1⟩
  | .d (.int n), h1, ox => cases Rd.inv_int ox; exact ⟨n != 0, rfl, k _ _ m l u t1 h1⟩
  | .d (.list xs), h1, ox =>
    obtain ⟨p, vs, rfl, hp, hr⟩ := Rd.inv_list ox
    exact ⟨!xs.isEmpty, .inl ⟨vs, SqL.of (mask_le _ _ hp), isEmptyRd hr⟩, k _ _ m l u t1 h1⟩
  | .d (.tuple xs), h1, ox =>
    obtain ⟨p, vs, rfl, hp, hr⟩ := Rd.inv_tuple ox
    exact ⟨!xs.isEmpty, .inr (.inl ⟨vs, Ex.sqt mask_le hp, isEmptyRd hr⟩), k _ _ m l u t1 h1⟩
theorem t_not {f : FT} (h : Et F a n f) : Et F (.UnaryOp .Not a pos) n (fun ρ R => f ρ fun b => R (!b)) := by
  obtain ⟨t, pt, st⟩ := h
  exact ⟨_, fun i => pt_not (pt i), fun C σ ρ H R Q hm G hf k => st C σ ρ H _ _ hm G hf fun b H1 m l u t1 h1 => k _ H1 m l u t1 h1⟩
theorem t_w {f : FT} (h : Ew F a n f) : Et F a n f := by
  obtain ⟨t, pt, st⟩ := h
  exact ⟨_, fun i => (pt i).pt, st⟩
theorem w_one1 {f : FT} (h : Et F a n f) : Ew F (.BoolOp .And [a] pos) n f := by
  obtain ⟨t, pt, st⟩ := h
  exact ⟨_, fun i => pw_and1 (pt i), st⟩
theorem w_one2 {f : FT} (h : Et F a n f) : Ew F (.BoolOp .Or [a] pos) n f := by
  obtain ⟨t, pt, st⟩ := h
  exact ⟨_, fun i => pw_or1 (pt i), st⟩
theorem w_and {f g : FT} (h : Et F a na f) (h2 : Ew F (.BoolOp .And (b :: es) pos) nb g) : Ew F (.BoolOp .And (a :: b :: es) pos) (na + nb) (fun ρ R => f ρ fun k => if k = true then g ρ R else R false) := by
  obtain ⟨t, pt, st⟩ := h
  obtain ⟨u, pu, su⟩ := h2
  refine ⟨_, fun i => pw_and (pt i) (pu i), fun C σ ρ H R Q hm G hf k => st C σ ρ H _ _ (by omega) G hf fun b H1 m1 l1 u1 t1 h1 => ?_⟩
  cases b with
  | true => exact iteT (su (C.up m1) σ ρ H1 _ _ (by show m1 + nb ≤ lim; omega) (G.tr t1) (by simpa using h1) fun b H2 m2 l2 u2 t2 h2 => k b H2 m2 (Nat.le_trans l1 l2) (by have : m2 ≤ m1 + nb := u2; omega) (t1.trans t2) h2)
  | false => exact iteF (k false H1 m1 l1 (by omega) t1 (by simpa using h1))
theorem w_or {f g : FT} (h : Et F a na f) (h2 : Ew F (.BoolOp .Or (b :: es) pos) nb g) : Ew F (.BoolOp .Or (a :: b :: es) pos) (na + nb) (fun ρ R => f ρ fun k => if k = true then R true else g ρ R) := by
  obtain ⟨t, pt, st⟩ := h
  obtain ⟨u, pu, su⟩ := h2
  refine ⟨_, fun i => pw_or (pt i) (pu i), fun C σ ρ H R Q hm G hf k => st C σ ρ H _ _ (by omega) G hf fun b H1 m1 l1 u1 t1 h1 => ?_⟩
  cases b with
  | false => exact iteF (su (C.up m1) σ ρ H1 _ _ (by show m1 + nb ≤ lim; omega) (G.tr t1) (by simpa using h1) fun b H2 m2 l2 u2 t2 h2 => k b H2 m2 (Nat.le_trans l1 l2) (by have : m2 ≤ m1 + nb := u2; omega) (t1.trans t2) h2)
  | true => exact iteT (k true H1 m1 l1 (by omega) t1 (by simpa using h1))
/-! ### and, or, not as values (bools but for the last) -/
theorem e_one {op : BoolOp} (h : Ee F a na fa) : Ee F (.BoolOp op [a] pos) na fa := by
  obtain ⟨t, pt, st⟩ := h
  exact ⟨_, fun i => pe_one (pt i), st⟩
theorem e_and (h : Ee F a na fa) (h2 : Ee F (.BoolOp .And (b :: es) pos) nb fb) : Ee F (.BoolOp .And (a :: b :: es) pos) (na + nb) (fun ρ R => fa ρ (asB fun k => if k = true then fb ρ R else R (.d (.bool false)))) := by
  obtain ⟨t, pt, st⟩ := h
  obtain ⟨u, pu, su⟩ := h2
  refine ⟨_, fun i => pe_and (pt i) (pu i), fun C σ ρ H R Q hm G hf k => st C σ ρ H _ _ (by omega) G hf fun v H1 x m1 l1 u1 t1 ox h1 => ?_⟩
  match x, h1, ox with
  | .d (.bool true), h1, ox => exact ⟨true, Rd.inv_bool ox, iteT (su (C.up m1) σ ρ H1 _ _ (by show m1 + nb ≤ lim; omega) (G.tr t1) (by simpa [asB] using h1) fun b H2 x m2 l2 u2 t2 ox h2 => k b H2 x m2 (Nat.le_trans l1 l2) (by have : m2 ≤ m1 + nb := u2; omega) (t1.trans t2) ox h2)⟩
  | .d (.bool false), h1, ox => exact ⟨false, Rd.inv_bool ox, iteF (k _ H1 (.d (.bool false)) m1 l1 (by omega) t1 (Rd.bl false) (by simpa [asB] using h1))⟩
theorem e_or (h : Ee F a na fa) (h2 : Ee F (.BoolOp .Or (b :: es) pos) nb fb) : Ee F (.BoolOp .Or (a :: b :: es) pos) (na + nb) (fun ρ R => fa ρ (asB fun k => if k = true then R (.d (.bool true)) else fb ρ R)) := by
  obtain ⟨t, pt, st⟩ := h
  obtain ⟨u, pu, su⟩ := h2
  refine ⟨_, fun i => pe_or (pt i) (pu i), fun C σ ρ H R Q hm G hf k => st C σ ρ H _ _ (by omega) G hf fun v H1 x m1 l1 u1 t1 ox h1 => ?_⟩
  match x, h1, ox with
  | .d (.bool false), h1, ox => exact ⟨false, Rd.inv_bool ox, iteF (su (C.up m1) σ ρ H1 _ _ (by show m1 + nb ≤ lim; omega) (G.tr t1) (by simpa [asB] using h1) fun b H2 x m2 l2 u2 t2 ox h2 => k b H2 x m2 (Nat.le_trans l1 l2) (by have : m2 ≤ m1 + nb := u2; omega) (t1.trans t2) ox h2)⟩
  | .d (.bool true), h1, ox => exact ⟨true, Rd.inv_bool ox, iteT (k _ H1 (.d (.bool true)) m1 l1 (by omega) t1 (Rd.bl true) (by simpa [asB] using h1))⟩
theorem e_not (h : Ee F a na fa) : Ee F (.UnaryOp .Not a pos) na (fun ρ R => fa ρ (asB fun k => R (.d (.bool (!k))))) := by
  obtain ⟨t, pt, st⟩ := h
  refine ⟨_, fun i => pe_not (pt i), fun C σ ρ H R Q hm G hf k => st C σ ρ H _ _ hm G hf fun v H1 x m l u t1 ox h1 => ?_⟩
  match x, h1, ox with
  | .d (.bool c), h1, ox => exact ⟨c, Rd.inv_bool ox, k _ H1 (.d (.bool (!c))) m l u t1 (Rd.bl _) h1⟩
theorem e_if {ft : FT} (ht : Et F c nc ft) (ha : Ee F a na fa) (hb : Ee F b nb fb) : Ee F (.IfExp c a b pos) (nc + (na + nb)) (fun ρ R => ft ρ fun k => if k = true then fa ρ R else fb ρ R) := by
  obtain ⟨t, pt, st⟩ := ht
  obtain ⟨ta, pa, sa⟩ := ha
  obtain ⟨tb, pb, sb⟩ := hb
  refine ⟨_, fun i => pe_ifExp (pt i) (pa i) (pb i), fun C σ ρ H R Q hm G hf k => st C σ ρ H _ _ (by omega) G hf fun d H1 m1 l1 u1 t1 h1 => ?_⟩
  cases d with
  | true => exact iteT (sa (C.up m1) σ ρ H1 _ _ (by show m1 + na ≤ lim; omega) (G.tr t1) (by simpa using h1) fun v H2 x m2 l2 u2 t2 ox h2 => k v H2 x m2 (Nat.le_trans l1 l2) (by have : m2 ≤ m1 + na := u2; omega) (t1.trans t2) ox h2)
  | false => exact iteF (sb (C.up m1) σ ρ H1 _ _ (by show m1 + nb ≤ lim; omega) (G.tr t1) (by simpa using h1) fun v H2 x m2 l2 u2 t2 ox h2 => k v H2 x m2 (Nat.le_trans l1 l2) (by have : m2 ≤ m1 + nb := u2; omega) (t1.trans t2) ox h2)
def asNeg (R : Vl → Prop) : Vl → Prop
  | .d (.int i) => R (.d (.int (-i)))
  | _ => False
theorem e_neg (h : Ee F a na fa) : Ee F (.UnaryOp .USub a pos) na (fun ρ R => fa ρ (asNeg R)) := by
  obtain ⟨t, pt, st⟩ := h
  refine ⟨_, fun i => pe_un un_neg (pt i), fun C σ ρ H R Q hm G hf k => st C σ ρ H _ _ hm G hf fun v H1 x m l u t1 ox h1 => ?_⟩
  match x, h1, ox with
  | .d (.int n), h1, ox => exact ⟨n, Rd.inv_int ox, k _ H1 (.d (.int (-n))) m l u t1 (Rd.int _) h1⟩

/-! ### argument lists, displays -/
theorem a_nil : Ea F [] 0 (fun _ R => R []) := ⟨_, fun _ => pa_nil, fun C _ _ H _ _ _ G hf k => k [] H [] C.m (Nat.le_refl _) le0 (Tr.refl G.si) .nil hf⟩
theorem a_cons {f : FA} (h : Ee F e na fa) (hr : Ea F es nb f) (hs : ∀ i, starEach (e :: es) (F.X i).env = (false, eval e (F.X i).env) :: starEach es (F.X i).env := by intro _; rfl) :
    Ea F (e :: es) (na + nb) (fun ρ R => fa ρ fun x => f ρ fun xs => R (x :: xs)) := by
  obtain ⟨t, pt, st⟩ := h
  obtain ⟨u, pu, su⟩ := hr
  exact ⟨_, fun i => pa_cons (pt i) (pu i) (hs i), fun C σ ρ H R Q hm G hf k => st C σ ρ H _ _ (by omega) G hf fun v H1 x m1 l1 u1 t1 ox h1 => su (C.up m1) σ ρ H1 _ _ (by show m1 + nb ≤ lim; omega) (G.tr t1) h1 fun vs H2 xs m2 l2 u2 t2 oxs h2 =>
    k _ H2 _ m2 (Nat.le_trans l1 l2) (by have : m2 ≤ m1 + nb := u2; omega) (t1.trans t2) (.cons (ox.mono ((G.tr t1).ex t2)) oxs) h2⟩
/-- all of them data -/
def allD : List Vl → (List PyData → Prop) → Prop
  | [], R => R []
  | .d x :: r, R => allD r fun ds => R (x :: ds)
  | .o _ :: _, _ => False
  | .st :: _, _ => False
  | .rg _ _ :: _, _ => False
theorem allD_of : ∀ {xs : List Vl} {R : List PyData → Prop}, allD xs R → ∃ ds, xs = ds.map Vl.d ∧ R ds
  | [], _, h => ⟨[], rfl, h⟩
  | .d x :: r, R, h => by
    obtain ⟨ds, e, q⟩ := allD_of (xs := r) h
    exact ⟨x :: ds, by rw [e]; rfl, q⟩
theorem small_le {n : Nat} (h : n ≤ 1000000) : n ≤ sizeLine := Nat.le_trans h (by rw [sizeLine_eq]; decide)
theorem small_lt {n : Nat} (h : n < 1000000) : n < sizeLine := Nat.lt_of_lt_of_le h (small_le (Nat.le_refl _))
theorem e_tup {f : FA} {x1 : Nat} (h : Ea F es n f) : Ee F (.Tuple es x1 pos) n (fun ρ R => f ρ fun xs => xs.length ≤ 1000000 ∧ allD xs fun ds => R (.d (.tuple ds))) := by
  obtain ⟨t, pt, st⟩ := h
  refine ⟨_, fun i => pe_tup (pt i), fun C σ ρ H R Q hm G hf k => st C σ ρ H _ _ hm G hf fun vs H1 xs m l u t1 oxs h1 => ?_⟩
  obtain ⟨hl, h1⟩ := h1
  obtain ⟨ds, rfl, h2⟩ := allD_of h1
  have G1 := G.tr t1
  refine ⟨small_le (by rw [oxs.length]; exact hl), fun p hp => k _ _ (.d (.tuple ds)) m l u (t1.trans (G1.new hp)) ?_ h2⟩
  exact .tup (.inl (.inl (G1.mq_new hp))) (oxs.data.mono (G1.ex (G1.new hp)))
theorem Good.back {K : Kx} {C : Ct} {σ : Sg} {ρ : En} {H H1 : Hp} {m : Nat} (G : Good K C σ ρ H) (t1 : Tr C.S (K.SI m) H H1) {p : Addr} (hp : H1 p = none) : H p = none := by
  cases q : H p with
  | none => rfl
  | some o =>
    by_cases hs : C.S p
    · exact absurd hp (G.ct.th _ _ t1.2 p hs)
    · rw [t1.1 p o hs q] at hp; cases hp
theorem l_lst {f : FA} (h : Ea F es n f) : El F (.List es pos) n (fun ρ R => f ρ fun xs => xs.length ≤ 1000000 ∧ allD xs R) := by
  obtain ⟨t, pt, st⟩ := h
  refine ⟨_, fun i => pe_lst (pt i), fun C σ ρ H R Q hm G hf k => st C σ ρ H _ _ hm G hf fun vs H1 xs m l u t1 oxs h1 => ?_⟩
  obtain ⟨hl, h1⟩ := h1
  obtain ⟨ds, rfl, h2⟩ := allD_of h1
  have G1 := G.tr t1
  refine ⟨small_le (by rw [oxs.length]; exact hl), fun p hp => k p _ vs ds m l u (G.back t1 hp) (t1.trans (G1.new hp)) upd_same ?_ h2⟩
  refine oxs.data.mono fun a o ha => ?_
  obtain ⟨nb, ha⟩ := mask_of ha
  have ne : a ≠ p := ne_of_none ha hp
  refine mask_at (fun z => z.elim nb ne) ?_
  rw [upd_ne ne]
  exact ha
/-- a new list as a value -/
theorem se_l {K : Kx} {t : TE} {f : FL} (h : SL K t n f) : SE K t n (fun ρ R => f ρ fun ds => R (.d (.list ds))) := fun C σ ρ H R Q hm G hf k =>
  h C σ ρ H _ _ hm G hf fun p H' vs ds m l u hp t1 hv hr h1 => k _ H' (.d (.list ds)) m l u t1 (.lst (mask_at (G.nbar hp) hv) (hr.mono fun a o ha => by
    obtain ⟨nb, ha⟩ := mask_of ha
    exact mask_at (fun z => nb (.inl z)) ha)) h1
theorem e_l {f : FL} (h : El F e n f) : Ee F e n (fun ρ R => f ρ fun ds => R (.d (.list ds))) := by
  obtain ⟨t, pt, st⟩ := h
  exact ⟨t, pt, se_l st⟩

/-! ### calls of built-ins -/
theorem se_cb {K : Kx} {r : List V → Hp → VK → Prop} {t : TA} {f : FA} {g : GC} (h : SA K t n f) (hr : SC K r g) : SE K (tCB r t) n (fun ρ R => f ρ fun xs => g xs R) := fun C σ ρ H R Q hm G hf k =>
  h C σ ρ H _ _ hm G hf fun vs H1 xs m l u t1 oxs h1 => hr (C.up m) σ ρ H1 vs xs R Q (G.tr t1) oxs h1 fun u' H2 z t2 oz h2 => k u' H2 z m l u (t1.trans t2) oz h2
section
variable {x : Str} {r : List V → Hp → VK → Prop} {f : FA} {g : GC} {id T : String}
theorem e_callB (hc : ∀ i, CallR (F.X i) (.builtin id) r) (hr : SC F.K r g) (hm : F.mg x = none) (hv : bootBuiltins x = some (.builtin id)) (ha : Ea F (e :: es) n f) (hg : ∀ i, Gl (F.X i) x := by intro _; rfl) (hn : x ≠ "__name__" := by decide)
    (hdb : (x == ("__debug__" : Str)) = false := by decide) (he : ∀ i, starEach (e :: es) (F.X i).env = (false, eval e (F.X i).env) :: starEach es (F.X i).env := by intro _; rfl)
    (hpl : ∀ i, (backTo pos (starEach es (F.X i).env)).any (·.1) = false := by intro _; rfl) : Ee F (.Call (.Name x p) (e :: es) [] pos) n (fun ρ R => f ρ fun xs => g xs R) := by
  obtain ⟨t, pt, st⟩ := ha
  exact ⟨_, fun i => pe_callB (hc i) (hg i) (by rw [F.eM]; exact hm) hv (pt i) hn hdb (he i) (hpl i), se_cb st hr⟩
theorem e_callT (hc : ∀ i, CallR (F.X i) (.type T) r) (hr : SC F.K r g) (hm : F.mg x = none) (hv : bootBuiltins x = some (.type T)) (ha : Ea F (e :: es) n f) (hg : ∀ i, Gl (F.X i) x := by intro _; rfl) (hn : x ≠ "__name__" := by decide)
    (hdb : (x == ("__debug__" : Str)) = false := by decide) (he : ∀ i, starEach (e :: es) (F.X i).env = (false, eval e (F.X i).env) :: starEach es (F.X i).env := by intro _; rfl)
    (hpl : ∀ i, (backTo pos (starEach es (F.X i).env)).any (·.1) = false := by intro _; rfl) : Ee F (.Call (.Name x p) (e :: es) [] pos) n (fun ρ R => f ρ fun xs => g xs R) := by
  obtain ⟨t, pt, st⟩ := ha
  exact ⟨_, fun i => pe_callTy (hc i) (hg i) (by rw [F.eM]; exact hm) hv (pt i) hn hdb (he i) (hpl i), se_cb st hr⟩
/-- a library function of the module's (gcd) -/
theorem e_callL (hc : ∀ i, CallR (F.X i) (.builtin id) r) (hr : SC F.K r g) (hm : F.mg x = some (.builtin id)) (ha : Ea F (e :: es) n f) (hg : ∀ i, Gl (F.X i) x := by intro _; rfl)
    (hdb : (x == ("__debug__" : Str)) = false := by decide) (he : ∀ i, starEach (e :: es) (F.X i).env = (false, eval e (F.X i).env) :: starEach es (F.X i).env := by intro _; rfl)
    (hpl : ∀ i, (backTo pos (starEach es (F.X i).env)).any (·.1) = false := by intro _; rfl) : Ee F (.Call (.Name x p) (e :: es) [] pos) n (fun ρ R => f ρ fun xs => g xs R) := by
  obtain ⟨t, pt, st⟩ := ha
  exact ⟨_, fun i => pe_callBfun (hc i) (hg i) (by rw [F.eM]; exact hm) (pt i) hdb (he i) (hpl i), se_cb st hr⟩
/-- a subscript -/
theorem e_ix {r : R2} {g : G2} (hr : ∀ i, IxR (F.X i) r) (s : S2 F.K r g) (ha : Ee F a na fa) (hb : Ee F b nb fb) (hs : PlainIx b := by intro _ _; rfl) : Ee F (.Subscript a b pos) (na + nb) (fun ρ R => fa ρ fun x => fb ρ fun y => g x y R) := by
  obtain ⟨ta, pa, sa⟩ := ha
  obtain ⟨tb, pb, sb⟩ := hb
  exact ⟨_, fun i => pe_ix (hr i) (pa i) (pb i) hs, se_op sa sb s⟩
end

/-! ### calls of defs -/
/-- what a def asks of its arguments and of what is wanted of its answer -/
abbrev FS := List Vl → (Vl → Prop) → Prop
/-- the promise: at most so many draws, c -/
def spF (K : Kx) (n c : Nat) (f : FS) : Sp := fun vs H Q _ => ∃ (B : Addr → Prop) (m : Nat) (xs : List Vl) (R : Vl → Prop), CtOk B K.S K.SI ∧ K.SI m H ∧ m + c ≤ lim ∧ (∀ a, B a → H a ≠ none) ∧ xs.length = n ∧ VlA K (mask B H) vs xs ∧ f xs R ∧
  ∀ v H' x m', m ≤ m' → m' ≤ m + c → Tr K.S (K.SI m') H H' → VlOk K (mask B H') v x → R x → Q v H'
theorem Good.bdAll {K : Kx} {C : Ct} {σ : Sg} {ρ : En} {H : Hp} (G : Good K C σ ρ H) : ∀ a, bar C.B σ ρ a → H a ≠ none := fun a h e => G.nbar e h
theorem Good.ctAll {K : Kx} {C : Ct} {σ : Sg} {ρ : En} {H : Hp} (G : Good K C σ ρ H) : CtOk (bar C.B σ ρ) K.S K.SI := ⟨fun a s => .inl (G.ct.sb a (by rw [G.eS]; exact s)), fun m H H' h => G.ct.st m H H' (by rw [G.eS]; exact h), fun m H h a s => G.ct.th m H h a (by rw [G.eS]; exact s), G.ct.up⟩
/-- a call's promise from where one stands -/
theorem sp_ok {K : Kx} {C : Ct} {σ : Sg} {ρ : En} {H : Hp} {R : Vl → Prop} {Q : VK} {vs : List V} {xs : List Vl} {E : XK} {n c : Nat} {fs : FS} (hm : C.m + c ≤ lim) (G : Good K C σ ρ H) (o : VlA K (mq C σ ρ H) vs xs) (h : xs.length = n ∧ fs xs R)
    (kk : ∀ v H' z m, C.m ≤ m → m ≤ C.m + c → Tr C.S (K.SI m) H H' → VlOk K (mq C σ ρ H') v z → R z → Q v H') : spF K n c fs vs H Q E :=
  ⟨bar C.B σ ρ, C.m, xs, R, G.ctAll, G.si, hm, G.bdAll, h.1, o, h.2, fun v H' z m l u t => kk v H' z m l u (by rw [G.eS]; exact t)⟩
section
variable {x : Str} {f : Addr} {fd : FuncData} {ps ks : List Str} {fs : FS} {ff fk : FA} {kws : List Keyword} {k cf : Nat}
theorem e_call (Fn : FnG F.P F.w F.K F.mg F.base CX0 k f fd ps (spF F.K ps.length cf fs)) (hk : k ≤ F.k) (hm : F.mg x = some (.ref f)) (hkp : PySem.W.keepIn F.K (.ref f) = true) (hb : Binds F.K fd ps []) (ha : Ea F (e :: es) n ff)
    (hg : ∀ i, Gl (F.X i) x := by intro _; rfl) (hdb : (x == ("__debug__" : Str)) = false := by decide) (he : ∀ i, starEach (e :: es) (F.X i).env = (false, eval e (F.X i).env) :: starEach es (F.X i).env := by intro _; rfl)
    (hpl : ∀ i, (backTo pos (starEach es (F.X i).env)).any (·.1) = false := by intro _; rfl) : Ee F (.Call (.Name x p) (e :: es) [] pos) (n + cf) (fun ρ R => ff ρ fun xs => xs.length = ps.length ∧ fs xs R) := by
  obtain ⟨t, pt, st⟩ := ha
  refine ⟨tCall (spF F.K ps.length cf fs) [] E0 t, fun i => ?_, fun C σ ρ H R Q hm G hf kk => st C σ ρ H _ _ (by omega) G hf fun vs H1 xs m1 l1 u1 t1 oxs h1 => ?_⟩
  · have q1 := F.eK i
    have q2 := F.eM i
    have q3 := F.eP i
    have q4 := F.eW i
    have q5 := F.eB i
    exact peG_call (by rw [q1, q2, q3, q4, q5]; exact Fn) (F.gu i) ((F.room i).mono hk) pass0 (hg i) (by rw [q2]; exact hm) (by rw [q1]; exact hkp) (by rw [q1]; exact hb) (pt i) hdb (he i) (hpl i)
  · have q := sp_ok (C := C.up m1) (E := E0) (Q := Q) (by show m1 + cf ≤ lim; omega) (G.tr t1) oxs h1 fun v H' z m2 l2 u2 t2 oz hz => kk v H' z m2 (Nat.le_trans l1 l2) (by have : m2 ≤ m1 + cf := u2; omega) (t1.trans t2) oz hz
    show spF F.K ps.length cf fs (vs ++ []) H1 Q E0
    rw [List.append_nil]
    exact q
theorem e_call0 (Fn : FnG F.P F.w F.K F.mg F.base CX0 k f fd [] (spF F.K 0 cf fs)) (hk : k ≤ F.k) (hm : F.mg x = some (.ref f)) (hkp : PySem.W.keepIn F.K (.ref f) = true) (hb : Binds F.K fd [] [])
    (hg : ∀ i, Gl (F.X i) x := by intro _; rfl) (hdb : (x == ("__debug__" : Str)) = false := by decide) : Ee F (.Call (.Name x p) [] [] pos) cf (fun _ R => fs [] R) := by
  refine ⟨tCall (spF F.K 0 cf fs) [] E0 tNil, fun i => ?_, fun C σ ρ H R Q hm G hf kk => sp_ok (E := E0) hm G .nil ⟨rfl, hf⟩ kk⟩
  have q1 := F.eK i
  have q2 := F.eM i
  have q3 := F.eP i
  have q4 := F.eW i
  have q5 := F.eB i
  exact peG_call0 (by rw [q1, q2, q3, q4, q5]; exact Fn) (F.gu i) ((F.room i).mono hk) pass0 (hg i) (by rw [q2]; exact hm) (by rw [q1]; exact hkp) (by rw [q1]; exact hb) hdb
end
end
end Px

set_option Elab.async false
set_option linter.all false
set_option maxRecDepth 100000
set_option maxHeartbeats 2000000
/-! Px: what operators and built-ins do with data. -/
namespace Px
open PySem PySem.Spec PyProof.Rows L2

section
variable {F : Fm} {K : Kx}
theorem Good.fin {C : Ct} {σ : Sg} {ρ : En} {H : Hp} {R : Vl → Prop} {Q : VK} (G : Good K C σ ρ H) (k : ∀ u H' z, Tr C.S (K.SI C.m) H H' → VlOk K (mq C σ ρ H') u z → R z → Q u H') {u : V} {d : PyData} (h : ∀ M, Rd K M u d) (hr : R (.d d)) : Q u H :=
  k u H (.d d) (Tr.refl G.si) (h _) hr
/-- a new tuple of things at hand -/
theorem Good.finT {C : Ct} {σ : Sg} {ρ : En} {H : Hp} {R : Vl → Prop} {Q : VK} (G : Good K C σ ρ H) (k : ∀ u H' z, Tr C.S (K.SI C.m) H H' → VlOk K (mq C σ ρ H') u z → R z → Q u H') {vs : List V} {ds : List PyData} (h : RdA K (mq C σ ρ H) vs ds) (hr : R (.d (.tuple ds)))
    {p : Addr} (hp : H p = none) : Q (.ref p) (upd H p (.tup vs)) :=
  k _ _ (.d (.tuple ds)) (G.new hp) (.tup (.inl (.inl (G.mq_new hp))) (h.mono (G.ex (G.new hp)))) hr
theorem Good.finL {C : Ct} {σ : Sg} {ρ : En} {H : Hp} {R : Vl → Prop} {Q : VK} (G : Good K C σ ρ H) (k : ∀ u H' z, Tr C.S (K.SI C.m) H H' → VlOk K (mq C σ ρ H') u z → R z → Q u H') {vs : List V} {ds : List PyData} (h : RdA K (mq C σ ρ H) vs ds) (hr : R (.d (.list ds)))
    {p : Addr} (hp : H p = none) : Q (.ref p) (upd H p (.lst vs)) :=
  k _ _ (.d (.list ds)) (G.new hp) (.lst (G.mq_new hp) (h.mono (G.ex (G.new hp)))) hr
theorem Good.lt {C : Ct} {σ : Sg} {ρ : En} {H : Hp} (G : Good K C σ ρ H) : True := trivial

/-! ### + -/
def rAdd (K : Fg) : R2 := fun x y H Q => (rI0 fun i j => .int (i + j)) x y H Q ∨ rCat x y H Q ∨ rCatA K x y H Q ∨ ∃ i j, x = .str i ∧ y = .str j ∧ i.length + j.length ≤ sizeLine ∧ Q (.str (i ++ j)) H
theorem oAdd (i) : OpR (F.X i) (binaryOp .Add) (rAdd F.K) := by
  have h := OpR.or (X := F.X i) op_add (OpR.or op_cat (OpR.or op_catA op_add_str))
  rw [F.eK i] at h
  exact h
def fAdd : G2
  | .d (.int i), .d (.int j), R => R (.d (.int (i + j)))
  | .d (.list xs), .d (.list ys), R => xs.length + ys.length ≤ 1000000 ∧ R (.d (.list (xs ++ ys)))
  | .d (.tuple xs), .d (.tuple ys), R => xs.length + ys.length ≤ 1000000 ∧ R (.d (.tuple (xs ++ ys)))
  | .d (.str x), .d (.str y), R => x.length + y.length ≤ 1000000 ∧ R (.d (.str (x ++ y)))
  | _, _, _ => False
theorem sAdd : S2 K (rAdd K) fAdd := fun C σ ρ H v w x y R Q G ox oy h k => by
  match x, y, h, ox, oy with
  | .d (.int i), .d (.int j), h, ox, oy => exact .inl ⟨i, j, Rd.inv_int ox, Rd.inv_int oy, G.fin k (fun _ => .int _) h⟩
  | .d (.list xs), .d (.list ys), h, ox, oy =>
    obtain ⟨a, vs, rfl, ha, ra⟩ := Rd.inv_list ox
    obtain ⟨b, ws, rfl, hb, rb⟩ := Rd.inv_list oy
    exact .inr (.inl ⟨a, b, vs, ws, rfl, rfl, mask_le _ _ ha, mask_le _ _ hb, small_le (by rw [ra.length, rb.length]; exact h.1), fun p hp => G.finL k (ra.append rb) h.2 hp⟩)
  | .d (.tuple xs), .d (.tuple ys), h, ox, oy =>
    obtain ⟨a, vs, rfl, ha, ra⟩ := Rd.inv_tuple ox
    obtain ⟨b, ws, rfl, hb, rb⟩ := Rd.inv_tuple oy
    refine .inr (.inr (.inl ⟨a, b, vs, ws, rfl, rfl, Ex.sqt mask_le ha, Ex.sqt mask_le hb, small_le (by rw [ra.length, rb.length]; exact h.1), fun z => ?_, fun _ z => ?_, fun _ _ p hp => G.finT k (ra.append rb) h.2 hp⟩))
    · subst z
      cases ra
      exact k _ H _ (Tr.refl G.si) oy h.2
    · subst z
      cases rb
      exact k _ H _ (Tr.refl G.si) ox (by simpa using h.2)
  | .d (.str i), .d (.str j), h, ox, oy => exact .inr (.inr (.inr ⟨i, j, Rd.inv_str ox, Rd.inv_str oy, small_le h.1, G.fin k (fun _ => .str _) h.2⟩))

/-! ### - * // % ** -/
def fSub : G2
  | .d (.int i), .d (.int j), R => R (.d (.int (i - j)))
  | _, _, _ => False
theorem oSub (i) : OpR (F.X i) (binaryOp .Sub) (rI0 fun i j => .int (i - j)) := op_sub
theorem sSub : S2 K (rI0 fun i j => .int (i - j)) fSub := fun C σ ρ H v w x y R Q G ox oy h k => by
  match x, y, h, ox, oy with
  | .d (.int i), .d (.int j), h, ox, oy => exact ⟨i, j, Rd.inv_int ox, Rd.inv_int oy, G.fin k (fun _ => .int _) h⟩
def rMul (K : Fg) : R2 := fun x y H Q => (rI CMulW fun i j => .int (i * j)) x y H Q ∨ rRep x y H Q ∨ rRepT K x y H Q
theorem oMul (i) : OpR (F.X i) (binaryOp .Mult) (rMul F.K) := by
  have h := OpR.or (X := F.X i) op_mulW (OpR.or op_rep op_repT)
  rw [F.eK i] at h
  exact h
/-- the size that * lets -/
def mulOk (i j : Int) : Prop := i.natAbs < 2 ^ 400000 ∧ j.natAbs < 2 ^ 400000
def fMul : G2
  | .d (.int i), .d (.int j), R => CMulW i j ∧ R (.d (.int (i * j)))
  | .d (.list xs), .d (.int j), R => j ≤ 1000 ∧ -1000 ≤ j ∧ xs.length ≤ 1000 ∧ R (.d (.list (List.replicate j.toNat xs).flatten))
  | .d (.tuple xs), .d (.int j), R => 2 ≤ j ∧ j ≤ 1000 ∧ xs ≠ [] ∧ xs.length ≤ 1000 ∧ R (.d (.tuple (List.replicate j.toNat xs).flatten))
  | _, _, _ => False
theorem RdA.rep {M : Hp} {vs : List V} {ds : List PyData} (h : RdA K M vs ds) : ∀ n : Nat, RdA K M (List.replicate n vs).flatten (List.replicate n ds).flatten
  | 0 => .nil
  | n + 1 => by simpa [List.replicate_succ] using h.append (RdA.rep h n)
theorem sMul : S2 K (rMul K) fMul := fun C σ ρ H v w x y R Q G ox oy h k => by
  match x, y, h, ox, oy with
  | .d (.int i), .d (.int j), h, ox, oy => exact .inl ⟨i, j, Rd.inv_int ox, Rd.inv_int oy, h.1, G.fin k (fun _ => .int _) h.2⟩
  | .d (.list xs), .d (.int j), h, ox, oy =>
    obtain ⟨a, vs, rfl, ha, ra⟩ := Rd.inv_list ox
    obtain ⟨h1, h2, h3, h4⟩ := h
    refine .inr (.inl ⟨a, j, vs, rfl, Rd.inv_int oy, mask_le _ _ ha, by omega, by omega, small_le ?_, fun p hp => G.finL k (RdA.rep ra j.toNat) h4 hp⟩)
    have e := ra.length
    have : vs.length * j.toNat ≤ 1000 * 1000 := Nat.mul_le_mul (by omega) (by omega)
    omega
  | .d (.tuple xs), .d (.int j), h, ox, oy =>
    obtain ⟨a, vs, rfl, ha, ra⟩ := Rd.inv_tuple ox
    obtain ⟨h1, h2, h3, h4, h5⟩ := h
    have e := ra.length
    exact .inr (.inr ⟨a, j, vs, rfl, Rd.inv_int oy, Ex.sqt mask_le ha, fun z => h3 (by subst z; cases ra; rfl), h1, h2, by omega, fun p hp => G.finT k (RdA.rep ra j.toNat) h5 hp⟩)
def CDivA (_ j : Int) : Prop := j ≠ 0 ∧ j.natAbs.log2 < 9000
theorem oFdiv (i) : OpR (F.X i) (binaryOp .FloorDiv) (rI CDivA fun i j => .int (i.fdiv j)) := opI fun _ _ _ _ _ _ _ hc q => floordiv_int hc.1 q (.inl (PyProof.noPylong_of_log2 hc.2))
def fFdiv : G2
  | .d (.int i), .d (.int j), R => CDivA i j ∧ R (.d (.int (i.fdiv j)))
  | _, _, _ => False
theorem sFdiv : S2 K (rI CDivA fun i j => .int (i.fdiv j)) fFdiv := fun C σ ρ H v w x y R Q G ox oy h k => by
  match x, y, h, ox, oy with
  | .d (.int i), .d (.int j), h, ox, oy => exact ⟨i, j, Rd.inv_int ox, Rd.inv_int oy, h.1, G.fin k (fun _ => .int _) h.2⟩
theorem oMod (i) : OpR (F.X i) (binaryOp .Mod) (rI (fun _ j => j ≠ 0) fun i j => .int (i.fmod j)) := op_modN
def fMod : G2
  | .d (.int i), .d (.int j), R => j ≠ 0 ∧ R (.d (.int (i.fmod j)))
  | _, _, _ => False
theorem sMod : S2 K (rI (fun _ j => j ≠ 0) fun i j => .int (i.fmod j)) fMod := fun C σ ρ H v w x y R Q G ox oy h k => by
  match x, y, h, ox, oy with
  | .d (.int i), .d (.int j), h, ox, oy => exact ⟨i, j, Rd.inv_int ox, Rd.inv_int oy, h.1, G.fin k (fun _ => .int _) h.2⟩
theorem oPow (i) : OpR (F.X i) (binaryOp .Pow) (rI CPow fun i j => .int (i ^ j.toNat)) := op_pow
def fPow : G2
  | .d (.int i), .d (.int j), R => CPow i j ∧ R (.d (.int (i ^ j.toNat)))
  | _, _, _ => False
theorem sPow : S2 K (rI CPow fun i j => .int (i ^ j.toNat)) fPow := fun C σ ρ H v w x y R Q G ox oy h k => by
  match x, y, h, ox, oy with
  | .d (.int i), .d (.int j), h, ox, oy => exact ⟨i, j, Rd.inv_int ox, Rd.inv_int oy, h.1, G.fin k (fun _ => .int _) h.2⟩

/-! ### comparisons -/
def fRel (g : Int → Int → Bool) : G2
  | .d (.int i), .d (.int j), R => R (.d (.bool (g i j)))
  | _, _, _ => False
theorem sRel {g : Int → Int → Bool} : S2 K (rI0 fun i j => .bl (g i j)) (fRel g) := fun C σ ρ H v w x y R Q G ox oy h k => by
  match x, y, h, ox, oy with
  | .d (.int i), .d (.int j), h, ox, oy => exact ⟨i, j, Rd.inv_int ox, Rd.inv_int oy, G.fin k (fun _ => .bl _) h⟩
theorem oLt (i) : OpR (F.X i) (compareOp .Lt) (rI0 fun i j => .bl (decide (i < j))) := op_lt
theorem oLe (i) : OpR (F.X i) (compareOp .LtE) (rI0 fun i j => .bl (decide (i ≤ j))) := op_le
theorem oGt (i) : OpR (F.X i) (compareOp .Gt) (rI0 fun i j => .bl (decide (j < i))) := op_gt
theorem oGe (i) : OpR (F.X i) (compareOp .GtE) (rI0 fun i j => .bl (decide (j ≤ i))) := op_ge
/-- == of data without dicts (texts within: of real signs), 64 deep at most; two texts: any -/
def fEq (neg : Bool) : G2
  | .d (.str x), .d (.str y), R => R (.d (.bool (neg ^^ decide (x = y))))
  | .d x, .d y, R => SeqAt.shaped x = true ∧ SeqAt.shaped y = true ∧ R (.d (.bool (neg ^^ PyData.eqv x y)))
  | _, _, _ => False
def rEqA (K : Fg) : R2 := fun x y H Q => rEq x y H Q ∨ rEqD K x y H Q
def rNeA (K : Fg) : R2 := fun x y H Q => rNe x y H Q ∨ rNeD K x y H Q
theorem oEq (i) : OpR (F.X i) (compareOp .Eq) (rEqA F.K) := by
  have h := OpR.or (X := F.X i) op_eq (op_eqD (F.room i).units)
  rw [F.eK i] at h
  exact h
theorem oNe (i) : OpR (F.X i) (compareOp .NotEq) (rNeA F.K) := by
  have h := OpR.or (X := F.X i) op_ne (op_neD (F.room i).units)
  rw [F.eK i] at h
  exact h
theorem dec_str {x y : Str} : decide (V.str x = V.str y) = decide (x = y) := by
  by_cases e : x = y
  · subst e; simp
  · rw [decide_eq_false e, decide_eq_false fun z => e (V.str.inj z)]
theorem sEq : S2 K (rEqA K) (fEq false) := fun C σ ρ H v w x y R Q G ox oy h k => by
  have gen : ∀ x y : PyData, VlOk K (mq C σ ρ H) v (.d x) → VlOk K (mq C σ ρ H) w (.d y) → SeqAt.shaped x = true ∧ SeqAt.shaped y = true ∧ R (.d (.bool (false ^^ PyData.eqv x y))) → rEqA K v w H Q := fun x y ox oy h =>
    .inr ⟨x, y, (Rd.mono mask_le ox).dp, (Rd.mono mask_le oy).dp, h.1, h.2.1, G.fin k (fun _ => .bl _) (by simpa using h.2.2)⟩
  match x, y, h, ox, oy with
  | .d (.str i), .d (.str j), h, ox, oy =>
    cases Rd.inv_str ox
    cases Rd.inv_str oy
    refine .inl ⟨rfl, ?_⟩
    rw [dec_str]
    exact G.fin k (fun _ => .bl _) (by simpa [fEq] using h)
  | .d .none, .d y, h, ox, oy => exact gen _ _ ox oy h
  | .d (.bool _), .d y, h, ox, oy => exact gen _ _ ox oy h
  | .d (.int _), .d y, h, ox, oy => exact gen _ _ ox oy h
  | .d (.list _), .d y, h, ox, oy => exact gen _ _ ox oy h
  | .d (.tuple _), .d y, h, ox, oy => exact gen _ _ ox oy h
  | .d (.dict _), .d y, h, ox, oy => exact gen _ _ ox oy h
  | .d (.str i), .d .none, h, ox, oy => exact gen _ _ ox oy h
  | .d (.str i), .d (.bool _), h, ox, oy => exact gen _ _ ox oy h
  | .d (.str i), .d (.int _), h, ox, oy => exact gen _ _ ox oy h
  | .d (.str i), .d (.list _), h, ox, oy => exact gen _ _ ox oy h
  | .d (.str i), .d (.tuple _), h, ox, oy => exact gen _ _ ox oy h
  | .d (.str i), .d (.dict _), h, ox, oy => exact gen _ _ ox oy h
theorem sNe : S2 K (rNeA K) (fEq true) := fun C σ ρ H v w x y R Q G ox oy h k => by
  have gen : ∀ x y : PyData, VlOk K (mq C σ ρ H) v (.d x) → VlOk K (mq C σ ρ H) w (.d y) → SeqAt.shaped x = true ∧ SeqAt.shaped y = true ∧ R (.d (.bool (true ^^ PyData.eqv x y))) → rNeA K v w H Q := fun x y ox oy h =>
    .inr ⟨x, y, (Rd.mono mask_le ox).dp, (Rd.mono mask_le oy).dp, h.1, h.2.1, G.fin k (fun _ => .bl _) (by simpa using h.2.2)⟩
  match x, y, h, ox, oy with
  | .d (.str i), .d (.str j), h, ox, oy =>
    cases Rd.inv_str ox
    cases Rd.inv_str oy
    refine .inl ⟨rfl, ?_⟩
    rw [dec_str]
    exact G.fin k (fun _ => .bl _) (by simpa [fEq] using h)
  | .d .none, .d y, h, ox, oy => exact gen _ _ ox oy h
  | .d (.bool _), .d y, h, ox, oy => exact gen _ _ ox oy h
  | .d (.int _), .d y, h, ox, oy => exact gen _ _ ox oy h
  | .d (.list _), .d y, h, ox, oy => exact gen _ _ ox oy h
  | .d (.tuple _), .d y, h, ox, oy => exact gen _ _ ox oy h
  | .d (.dict _), .d y, h, ox, oy => exact gen _ _ ox oy h
  | .d (.str i), .d .none, h, ox, oy => exact gen _ _ ox oy h
  | .d (.str i), .d (.bool _), h, ox, oy => exact gen _ _ ox oy h
  | .d (.str i), .d (.int _), h, ox, oy => exact gen _ _ ox oy h
  | .d (.str i), .d (.list _), h, ox, oy => exact gen _ _ ox oy h
  | .d (.str i), .d (.tuple _), h, ox, oy => exact gen _ _ ox oy h
  | .d (.str i), .d (.dict _), h, ox, oy => exact gen _ _ ox oy h
/-- is, is not: of None on the right, of two bools -/
def isNon : PyData → Bool
  | .none => true
  | _ => false
def fIs (neg : Bool) : G2
  | .d (.bool a), .d (.bool b), R => R (.d (.bool (neg ^^ decide (a = b))))
  | .d x, .d .none, R => R (.d (.bool (neg ^^ isNon x)))
  | _, _, _ => False
def rIsA : R2 := fun x y H Q => (y = .non ∧ Q (.bl (decide (x = .non))) H) ∨ ∃ a b, x = .bl a ∧ y = .bl b ∧ Q (.bl (decide (a = b))) H
def rIsNotA : R2 := fun x y H Q => (y = .non ∧ Q (.bl (!decide (x = .non))) H) ∨ ∃ a b, x = .bl a ∧ y = .bl b ∧ Q (.bl (!decide (a = b))) H
theorem oIs (i) : OpR (F.X i) (compareOp .Is) rIsA := OpR.or op_isN op_is_bl
theorem oIsNot (i) : OpR (F.X i) (compareOp .IsNot) rIsNotA := OpR.or op_notN op_isnot_bl
theorem isNon_of {M : Hp} {v : V} {x : PyData} (h : Rd K M v x) : decide (v = .non) = isNon x := by cases h <;> rfl
theorem sIs : S2 K rIsA (fIs false) := fun C σ ρ H v w x y R Q G ox oy h k => by
  match x, y, h, ox, oy with
  | .d (.bool a), .d (.bool b), h, ox, oy => exact .inr ⟨a, b, Rd.inv_bool ox, Rd.inv_bool oy, G.fin k (fun _ => .bl _) (by simpa [fIs] using h)⟩
  | .d (.bool a), .d .none, h, ox, oy => exact .inl ⟨Rd.inv_none oy, by rw [isNon_of ox]; exact G.fin k (fun _ => .bl _) (by simpa [fIs] using h)⟩
  | .d .none, .d .none, h, ox, oy => exact .inl ⟨Rd.inv_none oy, by rw [isNon_of ox]; exact G.fin k (fun _ => .bl _) (by simpa [fIs] using h)⟩
  | .d (.int _), .d .none, h, ox, oy => exact .inl ⟨Rd.inv_none oy, by rw [isNon_of ox]; exact G.fin k (fun _ => .bl _) (by simpa [fIs] using h)⟩
  | .d (.str _), .d .none, h, ox, oy => exact .inl ⟨Rd.inv_none oy, by rw [isNon_of ox]; exact G.fin k (fun _ => .bl _) (by simpa [fIs] using h)⟩
  | .d (.list _), .d .none, h, ox, oy => exact .inl ⟨Rd.inv_none oy, by rw [isNon_of ox]; exact G.fin k (fun _ => .bl _) (by simpa [fIs] using h)⟩
  | .d (.tuple _), .d .none, h, ox, oy => exact .inl ⟨Rd.inv_none oy, by rw [isNon_of ox]; exact G.fin k (fun _ => .bl _) (by simpa [fIs] using h)⟩
theorem sIsNot : S2 K rIsNotA (fIs true) := fun C σ ρ H v w x y R Q G ox oy h k => by
  match x, y, h, ox, oy with
  | .d (.bool a), .d (.bool b), h, ox, oy => exact .inr ⟨a, b, Rd.inv_bool ox, Rd.inv_bool oy, G.fin k (fun _ => .bl _) (by simpa [fIs] using h)⟩
  | .d (.bool a), .d .none, h, ox, oy => exact .inl ⟨Rd.inv_none oy, by rw [isNon_of ox]; exact G.fin k (fun _ => .bl _) (by simpa [fIs] using h)⟩
  | .d .none, .d .none, h, ox, oy => exact .inl ⟨Rd.inv_none oy, by rw [isNon_of ox]; exact G.fin k (fun _ => .bl _) (by simpa [fIs] using h)⟩
  | .d (.int _), .d .none, h, ox, oy => exact .inl ⟨Rd.inv_none oy, by rw [isNon_of ox]; exact G.fin k (fun _ => .bl _) (by simpa [fIs] using h)⟩
  | .d (.str _), .d .none, h, ox, oy => exact .inl ⟨Rd.inv_none oy, by rw [isNon_of ox]; exact G.fin k (fun _ => .bl _) (by simpa [fIs] using h)⟩
  | .d (.list _), .d .none, h, ox, oy => exact .inl ⟨Rd.inv_none oy, by rw [isNon_of ox]; exact G.fin k (fun _ => .bl _) (by simpa [fIs] using h)⟩
  | .d (.tuple _), .d .none, h, ox, oy => exact .inl ⟨Rd.inv_none oy, by rw [isNon_of ox]; exact G.fin k (fun _ => .bl _) (by simpa [fIs] using h)⟩

/-! ### subscripts -/
def fIx : G2
  | .d (.list xs), .d (.int i), R => ∃ x, atI xs i = some x ∧ R (.d x)
  | .d (.tuple xs), .d (.int i), R => ∃ x, atI xs i = some x ∧ R (.d x)
  | _, _, _ => False
theorem oIx (i) : IxR (F.X i) (rIx F.K) := by
  have h := ix_seq (X := F.X i)
  rw [F.eK i] at h
  exact h
theorem RdA.at {M : Hp} {vs : List V} {ds : List PyData} {i : Int} {d : PyData} (r : RdA K M vs ds) (h : atI ds i = some d) : ∃ v, atI vs i = some v ∧ Rd K M v d := by
  unfold atI at h ⊢
  rw [r.length]
  cases q : ixN ds.length i with
  | none => rw [q] at h; cases h
  | some j =>
    rw [q] at h
    obtain ⟨v, h1, h2⟩ := r.get (i := j) (d := d) h
    exact ⟨v, h1, h2⟩
theorem sIx : S2 K (rIx K) fIx := fun C σ ρ H v w x y R Q G ox oy h k => by
  match x, y, h, ox, oy with
  | .d (.list xs), .d (.int i), h, ox, oy =>
    obtain ⟨a, vs, rfl, ha, ra⟩ := Rd.inv_list ox
    obtain ⟨d, e, hr⟩ := h
    obtain ⟨z, e1, rz⟩ := ra.at e
    exact .inl ⟨a, vs, i, z, rfl, Rd.inv_int oy, SqL.of (mask_le _ _ ha), e1, k z H (.d d) (Tr.refl G.si) rz hr⟩
  | .d (.tuple xs), .d (.int i), h, ox, oy =>
    obtain ⟨a, vs, rfl, ha, ra⟩ := Rd.inv_tuple ox
    obtain ⟨d, e, hr⟩ := h
    obtain ⟨z, e1, rz⟩ := ra.at e
    exact .inr (.inl ⟨a, vs, i, z, rfl, Rd.inv_int oy, Ex.sqt mask_le ha, e1, k z H (.d d) (Tr.refl G.si) rz hr⟩)

/-! ### built-ins -/
def gLen : GC
  | [.d (.list xs)], R => R (.d (.int xs.length))
  | [.d (.tuple xs)], R => R (.d (.int xs.length))
  | _, _ => False
def rLenA (K : Fg) : List V → Hp → VK → Prop := fun xs H Q => ∃ p ys, xs = [.ref p] ∧ (SqL K H p ys ∨ SqT K H p ys) ∧ Q (.int ys.length) H
theorem cLen (i) : CallR (F.X i) (.builtin "len") (rLenA F.K) := by
  have h := call_len_seq (X := F.X i)
  rw [F.eK i] at h
  exact h
theorem VlA.one {M : Hp} {vs : List V} {x : Vl} (h : VlA K M vs [x]) : ∃ v, vs = [v] ∧ VlOk K M v x := by
  cases h with
  | cons h r => cases r; exact ⟨_, rfl, h⟩
theorem VlA.two {M : Hp} {vs : List V} {x y : Vl} (h : VlA K M vs [x, y]) : ∃ v w, vs = [v, w] ∧ VlOk K M v x ∧ VlOk K M w y := by
  cases h with
  | cons h r =>
    obtain ⟨w, rfl, h2⟩ := r.one
    exact ⟨_, w, rfl, h, h2⟩
theorem sLen : SC K (rLenA K) gLen := fun C σ ρ H vs xs R Q G o h k => by
  match xs, h, o with
  | [.d (.list ds)], h, o =>
    obtain ⟨v, rfl, o1⟩ := o.one
    obtain ⟨a, ws, rfl, ha, ra⟩ := Rd.inv_list o1
    exact ⟨a, ws, rfl, .inl (SqL.of (mask_le _ _ ha)), by rw [ra.length]; exact G.fin k (fun _ => .int _) h⟩
  | [.d (.tuple ds)], h, o =>
    obtain ⟨v, rfl, o1⟩ := o.one
    obtain ⟨a, ws, rfl, ha, ra⟩ := Rd.inv_tuple o1
    exact ⟨a, ws, rfl, .inr (Ex.sqt mask_le ha), by rw [ra.length]; exact G.fin k (fun _ => .int _) h⟩
def gAbs : GC
  | [.d (.int i)], R => R (.d (.int (if i < 0 then -i else i)))
  | _, _ => False
theorem cAbs (i) : CallR (F.X i) (.builtin "abs") (fun xs H Q => ∃ i, xs = [.int i] ∧ Q (.int (if i < 0 then -i else i)) H) := call_abs
theorem sAbs : SC K (fun xs H Q => ∃ i, xs = [.int i] ∧ Q (.int (if i < 0 then -i else i)) H) gAbs := fun C σ ρ H vs xs R Q G o h k => by
  match xs, h, o with
  | [.d (.int i)], h, o =>
    obtain ⟨v, rfl, o1⟩ := o.one
    exact ⟨i, by rw [Rd.inv_int o1], G.fin k (fun _ => .int _) h⟩
def gInt : GC
  | [.d (.int i)], R => R (.d (.int i))
  | [.d (.bool b)], R => R (.d (.int (if b then 1 else 0)))
  | _, _ => False
theorem cInt (i) : CallR (F.X i) (.type "int") (fun xs H Q => (∃ i, xs = [.int i] ∧ Q (.int i) H) ∨ ∃ k, xs = [.bl k] ∧ Q (.int (if k then 1 else 0)) H) := call_int1
theorem sInt : SC K (fun xs H Q => (∃ i, xs = [.int i] ∧ Q (.int i) H) ∨ ∃ k, xs = [.bl k] ∧ Q (.int (if k then 1 else 0)) H) gInt := fun C σ ρ H vs xs R Q G o h k => by
  match xs, h, o with
  | [.d (.int i)], h, o =>
    obtain ⟨v, rfl, o1⟩ := o.one
    exact .inl ⟨i, by rw [Rd.inv_int o1], G.fin k (fun _ => .int _) h⟩
  | [.d (.bool b)], h, o =>
    obtain ⟨v, rfl, o1⟩ := o.one
    exact .inr ⟨b, by rw [Rd.inv_bool o1], G.fin k (fun _ => .int _) h⟩
def gTuple : GC
  | [.d (.list xs)], R => R (.d (.tuple xs))
  | [.d (.tuple xs)], R => R (.d (.tuple xs))
  | _, _ => False
def rTupleA (K : Fg) : List V → Hp → VK → Prop := fun xs H Q => ∃ p ys, xs = [.ref p] ∧ ((SqL K H p ys ∧ ∀ l, H l = none → Q (.ref l) (upd H l (.tup ys))) ∨ (SqT K H p ys ∧ Q (.ref p) H))
theorem cTuple (i) : CallR (F.X i) (.type "tuple") (rTupleA F.K) := by
  have h := call_tuple_of (X := F.X i)
  rw [F.eK i] at h
  exact h
theorem sTuple : SC K (rTupleA K) gTuple := fun C σ ρ H vs xs R Q G o h k => by
  match xs, h, o with
  | [.d (.list ds)], h, o =>
    obtain ⟨v, rfl, o1⟩ := o.one
    obtain ⟨a, ws, rfl, ha, ra⟩ := Rd.inv_list o1
    exact ⟨a, ws, rfl, .inl ⟨SqL.of (mask_le _ _ ha), fun p hp => G.finT k ra h hp⟩⟩
  | [.d (.tuple ds)], h, o =>
    obtain ⟨v, rfl, o1⟩ := o.one
    obtain ⟨a, ws, e, ha, ra⟩ := Rd.inv_tuple o1
    subst e
    exact ⟨a, ws, rfl, .inr ⟨Ex.sqt mask_le ha, k _ H _ (Tr.refl G.si) o1 h⟩⟩
def gList : GC
  | [.d (.list xs)], R => R (.d (.list xs))
  | [.d (.tuple xs)], R => R (.d (.list xs))
  | _, _ => False
def rListA (K : Fg) : List V → Hp → VK → Prop := fun xs H Q => ∃ p ys, xs = [.ref p] ∧ (SqL K H p ys ∨ SqT K H p ys) ∧ ∀ l, H l = none → Q (.ref l) (upd H l (.lst ys))
theorem cList (i) : CallR (F.X i) (.type "list") (rListA F.K) := by
  have h := call_list_of (X := F.X i)
  rw [F.eK i] at h
  exact h
theorem sList : SC K (rListA K) gList := fun C σ ρ H vs xs R Q G o h k => by
  match xs, h, o with
  | [.d (.list ds)], h, o =>
    obtain ⟨v, rfl, o1⟩ := o.one
    obtain ⟨a, ws, rfl, ha, ra⟩ := Rd.inv_list o1
    exact ⟨a, ws, rfl, .inl (SqL.of (mask_le _ _ ha)), fun p hp => G.finL k ra h hp⟩
  | [.d (.tuple ds)], h, o =>
    obtain ⟨v, rfl, o1⟩ := o.one
    obtain ⟨a, ws, rfl, ha, ra⟩ := Rd.inv_tuple o1
    exact ⟨a, ws, rfl, .inr (Ex.sqt mask_le ha), fun p hp => G.finL k ra h hp⟩
def gGcd : GC
  | [.d (.int i), .d (.int j)], R => R (.d (.int (Nat.gcd i.natAbs j.natAbs)))
  | _, _ => False
theorem cGcd (i) : CallR (F.X i) (.builtin "math.gcd") rGcd := cr_gcd
theorem sGcd : SC K rGcd gGcd := fun C σ ρ H vs xs R Q G o h k => by
  match xs, h, o with
  | [.d (.int i), .d (.int j)], h, o =>
    obtain ⟨v, w, rfl, o1, o2⟩ := o.two
    exact ⟨i, j, by rw [Rd.inv_int o1, Rd.inv_int o2], G.fin k (fun _ => .int _) h⟩

/-- all ints -/
def allI : List PyData → Option (List Int)
  | [] => some []
  | .int i :: r => (allI r).map (i :: ·)
  | _ :: _ => none
theorem allI_of : ∀ {ds : List PyData} {ns : List Int}, allI ds = some ns → ds = ns.map PyData.int
  | [], _, h => by cases h; rfl
  | .int i :: r, ns, h => by
    unfold allI at h
    cases q : allI r with
    | none => rw [q] at h; cases h
    | some ms => rw [q] at h; cases h; rw [allI_of q]; rfl
theorem allI_map : ∀ ns : List Int, allI (ns.map PyData.int) = some ns
  | [] => rfl
  | n :: r => by simp [allI, allI_map r]
def gSum : GC
  | [.d (.list xs)], R => ∃ ns, allI xs = some ns ∧ R (.d (.int ns.sum))
  | _, _ => False
theorem cSum (i) : CallR (F.X i) (.builtin "sum") (rSum F.K) := by
  have h := cr_sum (X := F.X i) (F.calm i)
  rw [F.eK i] at h
  exact h
theorem sSum : SC K (rSum K) gSum := fun C σ ρ H vs xs R Q G o h k => by
  match xs, h, o with
  | [.d (.list ds)], h, o =>
    obtain ⟨v, rfl, o1⟩ := o.one
    obtain ⟨a, ws, rfl, ha, ra⟩ := Rd.inv_list o1
    obtain ⟨ns, e, h⟩ := h
    rw [allI_of e] at ra
    exact ⟨a, ns, rfl, SqL.of (by rw [← ra.ints]; exact mask_le _ _ ha), G.fin k (fun _ => .int _) h⟩
/-- max, min of a list of ints, or of two -/
def isMax (ns : List Int) (m : Int) : Prop := m ∈ ns ∧ ∀ y ∈ ns, y ≤ m
def isMin (ns : List Int) (m : Int) : Prop := m ∈ ns ∧ ∀ y ∈ ns, m ≤ y
def gMax : GC
  | [.d (.list xs)], R => ∃ ns, allI xs = some ns ∧ 0 < ns.length ∧ ∀ m, isMax ns m → R (.d (.int m))
  | [.d (.int i), .d (.int j)], R => R (.d (.int (if j > i then j else i)))
  | _, _ => False
def gMin : GC
  | [.d (.list xs)], R => ∃ ns, allI xs = some ns ∧ 0 < ns.length ∧ ∀ m, isMin ns m → R (.d (.int m))
  | [.d (.int i), .d (.int j)], R => R (.d (.int (if j < i then j else i)))
  | _, _ => False
def rMaxA (K : Fg) : List V → Hp → VK → Prop := fun xs H Q => rMax K xs H Q ∨ ∃ i j, xs = [.int i, .int j] ∧ Q (.int (if j > i then j else i)) H
def rMinA (K : Fg) : List V → Hp → VK → Prop := fun xs H Q => rMin K xs H Q ∨ ∃ i j, xs = [.int i, .int j] ∧ Q (.int (if j < i then j else i)) H
theorem cMax (i) : CallR (F.X i) (.builtin "max") (rMaxA F.K) := by
  have h := CallR.or (cr_max (X := F.X i) (F.calm i)) (call_max2 (F.calm i))
  rw [F.eK i] at h
  exact h
theorem cMin (i) : CallR (F.X i) (.builtin "min") (rMinA F.K) := by
  have h := CallR.or (cr_min (X := F.X i) (F.calm i)) (call_min2 (F.calm i))
  rw [F.eK i] at h
  exact h
theorem sMax : SC K (rMaxA K) gMax := fun C σ ρ H vs xs R Q G o h k => by
  match xs, h, o with
  | [.d (.list ds)], h, o =>
    obtain ⟨v, rfl, o1⟩ := o.one
    obtain ⟨a, ws, rfl, ha, ra⟩ := Rd.inv_list o1
    obtain ⟨ns, e, h0, h⟩ := h
    rw [allI_of e] at ra
    exact .inl ⟨a, ns, rfl, SqL.of (by rw [← ra.ints]; exact mask_le _ _ ha), h0, fun m h1 h2 => G.fin k (fun _ => .int _) (h m ⟨h1, h2⟩)⟩
  | [.d (.int i), .d (.int j)], h, o =>
    obtain ⟨v, w, rfl, o1, o2⟩ := o.two
    exact .inr ⟨i, j, by rw [Rd.inv_int o1, Rd.inv_int o2], G.fin k (fun _ => .int _) h⟩
theorem sMin : SC K (rMinA K) gMin := fun C σ ρ H vs xs R Q G o h k => by
  match xs, h, o with
  | [.d (.list ds)], h, o =>
    obtain ⟨v, rfl, o1⟩ := o.one
    obtain ⟨a, ws, rfl, ha, ra⟩ := Rd.inv_list o1
    obtain ⟨ns, e, h0, h⟩ := h
    rw [allI_of e] at ra
    exact .inl ⟨a, ns, rfl, SqL.of (by rw [← ra.ints]; exact mask_le _ _ ha), h0, fun m h1 h2 => G.fin k (fun _ => .int _) (h m ⟨h1, h2⟩)⟩
  | [.d (.int i), .d (.int j)], h, o =>
    obtain ⟨v, w, rfl, o1, o2⟩ := o.two
    exact .inr ⟨i, j, by rw [Rd.inv_int o1, Rd.inv_int o2], G.fin k (fun _ => .int _) h⟩
def allBs : List PyData → Option (List Bool)
  | [] => some []
  | .bool i :: r => (allBs r).map (i :: ·)
  | _ :: _ => none
theorem allBs_of : ∀ {ds : List PyData} {ns : List Bool}, allBs ds = some ns → ds = ns.map PyData.bool
  | [], _, h => by cases h; rfl
  | .bool i :: r, ns, h => by
    unfold allBs at h
    cases q : allBs r with
    | none => rw [q] at h; cases h
    | some ms => rw [q] at h; cases h; rw [allBs_of q]; rfl
theorem allBs_map : ∀ ns : List Bool, allBs (ns.map PyData.bool) = some ns
  | [] => rfl
  | n :: r => by simp [allBs, allBs_map r]
def gAll : GC
  | [.d (.list xs)], R => ∃ ns, allBs xs = some ns ∧ R (.d (.bool (ns.all id)))
  | _, _ => False
def gAny : GC
  | [.d (.list xs)], R => ∃ ns, allBs xs = some ns ∧ R (.d (.bool (ns.any id)))
  | _, _ => False
theorem cAll (i) : CallR (F.X i) (.builtin "all") (rAll F.K) := by
  have h := cr_all (X := F.X i) (F.calm i)
  rw [F.eK i] at h
  exact h
theorem cAny (i) : CallR (F.X i) (.builtin "any") (rAny F.K) := by
  have h := cr_any (X := F.X i) (F.calm i)
  rw [F.eK i] at h
  exact h
theorem sAll : SC K (rAll K) gAll := fun C σ ρ H vs xs R Q G o h k => by
  match xs, h, o with
  | [.d (.list ds)], h, o =>
    obtain ⟨v, rfl, o1⟩ := o.one
    obtain ⟨a, ws, rfl, ha, ra⟩ := Rd.inv_list o1
    obtain ⟨ns, e, h⟩ := h
    rw [allBs_of e] at ra
    exact ⟨a, ns, rfl, SqL.of (by rw [← ra.bools]; exact mask_le _ _ ha), G.fin k (fun _ => .bl _) h⟩
theorem sAny : SC K (rAny K) gAny := fun C σ ρ H vs xs R Q G o h k => by
  match xs, h, o with
  | [.d (.list ds)], h, o =>
    obtain ⟨v, rfl, o1⟩ := o.one
    obtain ⟨a, ws, rfl, ha, ra⟩ := Rd.inv_list o1
    obtain ⟨ns, e, h⟩ := h
    rw [allBs_of e] at ra
    exact ⟨a, ns, rfl, SqL.of (by rw [← ra.bools]; exact mask_le _ _ ha), G.fin k (fun _ => .bl _) h⟩
end
end Px

set_option Elab.async false
set_option linter.all false
set_option maxRecDepth 100000
set_option maxHeartbeats 2000000
set_option exponentiation.threshold 5000
/-! Px: repr of data. -/
namespace Px
open PySem PySem.Spec PyProof.Rows L2

mutual
/-- ints of at most 500 figures, bools, None, in lists and tuples -/
def okI : PyData → Bool
  | .none | .bool _ => true
  | .int i => decide (i.natAbs < 10 ^ 500)
  | .str x => decide (x.length ≤ 40) && x.cps.toList.all fun c => decide (c < 16 ^ 8)
  | .list xs | .tuple xs => okIs xs
  | _ => false
def okIs : List PyData → Bool
  | [] => true
  | x :: r => okI x && okIs r
end
mutual
def nods : PyData → Nat
  | .list xs | .tuple xs => 1 + nodsA xs
  | _ => 1
def nodsA : List PyData → Nat
  | [] => 0
  | x :: r => nods x + nodsA r
end
theorem log_1920 {n : Nat} (h : n < 10 ^ 500) : n.log2 < 1920 := by
  by_cases z : n = 0
  · subst z; decide
  · rw [Nat.log2_lt z]
    exact Nat.lt_of_lt_of_le h (by decide +kernel)
mutual
theorem okI_show : ∀ d : PyData, okI d = true → d.showable = true ∧ d.hasDict = false ∧ d.shown.length + 2 ≤ 510 * nods d
  | .none, _ => ⟨rfl, rfl, by show (4 : Nat) + 2 ≤ 510 * 1; decide⟩
  | .bool true, _ => ⟨rfl, rfl, by show (4 : Nat) + 2 ≤ 510 * 1; decide⟩
  | .bool false, _ => ⟨rfl, rfl, by show (5 : Nat) + 2 ≤ 510 * 1; decide⟩
  | .int i, h => by
    have h' : i.natAbs < 10 ^ 500 := by simpa [okI] using h
    refine ⟨by simp only [PyData.showable, decide_eq_true_eq]; exact log_1920 h', rfl, ?_⟩
    have e := int_text_length_le10 (k := 500) (by decide) h'
    have e2 : (PyData.shown (.int i)).length ≤ 501 := by
      show (Str.ofString (toString i)).length ≤ 501
      first | (rw [PySem.ofString_length]; exact e) | (rw [ofString_length]; exact e) | simpa using e
    show (PyData.shown (.int i)).length + 2 ≤ 510 * 1
    omega
  | .str x, h => by
    have h' : x.length ≤ 40 ∧ ∀ c ∈ x.cps.toList, c < 16 ^ 8 := by
      simp only [okI, Bool.and_eq_true, decide_eq_true_eq, List.all_eq_true] at h
      exact h
    refine ⟨rfl, rfl, ?_⟩
    have e := PySem.StrLaws.reprText_len x h'.2
    show (reprText x).length + 2 ≤ 510 * 1
    omega
  | .dict _, h => by simp [okI] at h
  | .list xs, h => by
    obtain ⟨h1, h2, h3⟩ := okIs_show xs (by simpa [okI] using h)
    refine ⟨by simpa [PyData.showable] using h1, by simpa [PyData.hasDict] using h2, ?_⟩
    have e := listText_len_le (PyData.shownAll xs)
    have hl : (PyData.shownAll xs).length = xs.length := shownAll_len xs
    show (listText (PyData.shownAll xs)).length + 2 ≤ 510 * (1 + nodsA xs)
    omega
  | .tuple xs, h => by
    obtain ⟨h1, h2, h3⟩ := okIs_show xs (by simpa [okI] using h)
    refine ⟨by simpa [PyData.showable] using h1, by simpa [PyData.hasDict] using h2, ?_⟩
    have e := tupleText_len_le (PyData.shownAll xs)
    have hl : (PyData.shownAll xs).length = xs.length := shownAll_len xs
    show (tupleText (PyData.shownAll xs)).length + 2 ≤ 510 * (1 + nodsA xs)
    omega
theorem okIs_show : ∀ xs : List PyData, okIs xs = true → PyData.showableAll xs = true ∧ PyData.hasDictAll xs = false ∧ ((PyData.shownAll xs).map (·.length)).sum + 2 * xs.length ≤ 510 * nodsA xs
  | [], _ => ⟨rfl, rfl, by simp [PyData.shownAll, nodsA]⟩
  | x :: r, h => by
    have h' : okI x = true ∧ okIs r = true := by simpa [okIs] using h
    obtain ⟨a1, a2, a3⟩ := okI_show x h'.1
    obtain ⟨b1, b2, b3⟩ := okIs_show r h'.2
    refine ⟨by simp [PyData.showableAll, a1, b1], by simp [PyData.hasDictAll, a2, b2], ?_⟩
    simp only [PyData.shownAll, List.map_cons, List.sum_cons, List.length_cons, nodsA]
    omega
theorem shownAll_len : ∀ xs : List PyData, (PyData.shownAll xs).length = xs.length
  | [] => rfl
  | x :: r => by simp only [PyData.shownAll, List.length_cons, shownAll_len r]
end
/-- data whose repr may be asked -/
def shw (d : PyData) : Prop := okI d = true ∧ nods d ≤ 30000 ∧ d.depth ≤ 60
theorem shw.fits {d : PyData} (h : shw d) : d.shown.length ≤ sizeLine := by
  have := (okI_show d h.1).2.2
  have e : sizeLine = 16777216 := sizeLine_eq
  have := h.2.1
  omega
section
variable {F : Fm} {K : Kx}
def rRepr (K : Fg) : List V → Hp → VK → Prop := fun xs H Q => ∃ x d, xs = [x] ∧ Dp K H x d ∧ shw d ∧ Q (.str d.shown) H
theorem call_repr {X : Cx} (hg : X.A.guards = some []) (hu : X.A.units + 64 < cLine) : CallR X (.builtin "repr") (rRepr X.K) := by
  intro pins s σ H xs us Q I r h
  obtain ⟨x, d, rfl, hd, hs, q⟩ := h
  cases r with
  | cons rx rr =>
    cases rr
    obtain ⟨as, rd⟩ := Dp.reads I d x _ hd rx
    obtain ⟨s1, s2, _⟩ := okI_show d hs.1
    cases hd with
    | non => cases (show _ = Value.none from rx); exact PySem.P.repr_of_none ⟨.str _, H, I.tok _, ⟨_, rfl⟩, q⟩
    | bl b => cases (show _ = Value.bool b from rx); exact PySem.P.repr_of_bool ⟨.str _, H, I.tok _, ⟨_, rfl⟩, q⟩
    | int i =>
      obtain ⟨t, rfl⟩ := (show ∃ t, _ = Value.int i t from rx)
      exact PySem.P.repr_of_int (log_1920 (by simpa [okI] using hs.1)) ⟨.str _, H, I.tok _, ⟨_, rfl⟩, q⟩
    | str x =>
      obtain ⟨t, rfl⟩ := (show ∃ t, _ = Value.str x t from rx)
      exact PySem.P.repr_of_str ⟨.str _, H, I.tok _, ⟨_, rfl⟩, q⟩ hs.fits
    | @lst a xs ds h1 h2 =>
      cases (show _ = Value.ref a from rx)
      refine repr_of_reads' rd s1 (PyData.noDict_hsm s2) hg (by have := hs.2.2; omega) (fun _ _ e => e) (fun h' u tk hk => ?_) hs.fits
      exact ⟨.str _, H, I.kept (t' := tk) hk, ⟨_, rfl⟩, q⟩
    | @tup a xs ds h1 h2 =>
      cases (show _ = Value.ref a from rx)
      refine repr_of_reads' rd s1 (PyData.noDict_hsm s2) hg (by have := hs.2.2; omega) (fun _ _ e => e) (fun h' u tk hk => ?_) hs.fits
      exact ⟨.str _, H, I.kept (t' := tk) hk, ⟨_, rfl⟩, q⟩
theorem cRepr (i) : CallR (F.X i) (.builtin "repr") (rRepr F.K) := by
  have h := call_repr (X := F.X i) (F.gu i) (F.room i).units
  rw [F.eK i] at h
  exact h
def gRepr : GC
  | [.d x], R => shw x ∧ R (.d (.str x.shown))
  | _, _ => False
theorem sRepr : SC K (rRepr K) gRepr := fun C σ ρ H vs xs R Q G o h k => by
  match xs, h, o with
  | [.d d], h, o =>
    obtain ⟨v, rfl, o1⟩ := o.one
    exact ⟨v, d, rfl, (Rd.mono mask_le o1).dp, h.1, G.fin k (fun _ => .str _) h.2⟩
end
end Px

set_option Elab.async false
set_option linter.all false
set_option maxRecDepth 100000
set_option maxHeartbeats 2000000
/-! Px: targets, walks, comprehensions, statements. -/
namespace Px
open PySem PySem.Spec PyProof.Rows L2

theorem mask_sub {B B' : Addr → Prop} {H : Hp} (h : ∀ a, B' a → B a) : Ex (mask B H) (mask B' H) := fun a o e => by
  obtain ⟨nb, e⟩ := mask_of e
  exact mask_at (fun z => nb (h a z)) e
theorem set_at {α : Type} {l : List α} {i j : Nat} {x y : α} (h : (l.set i x)[j]? = some y) : (j = i ∧ y = x ∧ i < l.length) ∨ (j ≠ i ∧ l[j]? = some y) := by
  by_cases e : i = j
  · subst e
    rw [List.getElem?_set_self'] at h
    cases q : l[i]? with
    | none => rw [q] at h; cases h
    | some z =>
      rw [q] at h
      exact .inl ⟨rfl, (Option.some.inj h).symm, (List.getElem?_eq_some_iff.mp q).1⟩
  · rw [List.getElem?_set_ne e] at h
    exact .inr ⟨fun z => e z.symm, h⟩
theorem set_self {α : Type} {l : List α} {i : Nat} {x : α} (h : i < l.length) : (l.set i x)[i]? = some x := by simp [h]
theorem set_oth {α : Type} {l : List α} {i j : Nat} {x : α} (h : j ≠ i) : (l.set i x)[j]? = l[j]? := List.getElem?_set_ne (fun z => h z.symm)

section
variable {K : Kx} {C : Ct} {σ : Sg} {ρ : En} {H H' : Hp}
theorem bar_set {i : Nat} {v : V} {x : Vl} {a : Addr} (h : bar C.B (σ.set i (some v)) (ρ.set i (.v x)) a) : bar C.B σ ρ a := by
  rcases h with h | ⟨j, xs, h1, h2⟩
  · exact .inl h
  · rcases set_at h1 with ⟨_, e, _⟩ | ⟨ne, e1⟩
    · cases e
    · rw [set_oth ne] at h2
      exact .inr ⟨j, xs, e1, h2⟩
theorem Good.set (G : Good K C σ ρ H) {i : Nat} {v : V} {x : Vl} (hi : i < ρ.length) (ox : VlOk K (mq C σ ρ H) v x) :
    Good K C (σ.set i (some v)) (ρ.set i (.v x)) H ∧ Ex (mq C σ ρ H) (mq C (σ.set i (some v)) (ρ.set i (.v x)) H) := by
  have ex : Ex (mq C σ ρ H) (mq C (σ.set i (some v)) (ρ.set i (.v x)) H) := mask_sub fun a h => bar_set h
  refine ⟨⟨G.eS, G.ct, G.si, G.bd, G.fr, by simp [G.len], fun j y e => ?_, fun j xs e => ?_, fun j k xs ys p e1 e2 e3 e4 => ?_⟩, ex⟩
  · rcases set_at e with ⟨rfl, e, _⟩ | ⟨ne, e⟩
    · cases e
      exact ⟨v, set_self (by rw [← G.len]; exact hi), ox.mono ex⟩
    · obtain ⟨w, h1, h2⟩ := G.sl j y e
      exact ⟨w, by rw [set_oth ne]; exact h1, h2.mono ex⟩
  · rcases set_at e with ⟨rfl, e, _⟩ | ⟨ne, e⟩
    · cases e
    · obtain ⟨p, vs, h1, h2, h3, h4, h5⟩ := G.ow j xs e
      exact ⟨p, vs, by rw [set_oth ne]; exact h1, h2, h3.mono ex, h4, h5⟩
  · rcases set_at e1 with ⟨_, e, _⟩ | ⟨n1, e1⟩
    · cases e
    · rcases set_at e2 with ⟨_, e, _⟩ | ⟨n2, e2⟩
      · cases e
      · rw [set_oth n1] at e3
        rw [set_oth n2] at e4
        exact G.inj j k xs ys p e1 e2 e3 e4
/-- an own list becomes a plain one -/
def frz (ρ : En) (i : Nat) : En := match ρ[i]? with
  | some (.own xs) => ρ.set i (.v (.d (.list xs)))
  | _ => ρ
theorem Good.frz (G : Good K C σ ρ H) (i : Nat) : Good K C σ (frz ρ i) H ∧ Ex (mq C σ ρ H) (mq C σ (frz ρ i) H) := by
  unfold Px.frz
  split
  · rename_i xs e
    obtain ⟨p, vs, h1, h2, h3, h4, h5⟩ := G.ow i xs e
    have hi : i < ρ.length := (List.getElem?_eq_some_iff.mp e).1
    have sub : ∀ a, bar C.B σ (ρ.set i (.v (.d (.list xs)))) a → bar C.B σ ρ a := fun a h => by
      rcases h with h | ⟨j, ys, q1, q2⟩
      · exact .inl h
      · rcases set_at q1 with ⟨_, z, _⟩ | ⟨ne, q1⟩
        · cases z
        · exact .inr ⟨j, ys, q1, q2⟩
    have ex : Ex (mq C σ ρ H) (mq C σ (ρ.set i (.v (.d (.list xs)))) H) := mask_sub sub
    have np : ¬ bar C.B σ (ρ.set i (.v (.d (.list xs)))) p := fun h => by
      rcases h with h | ⟨j, ys, q1, q2⟩
      · exact h5 h
      · rcases set_at q1 with ⟨_, z, _⟩ | ⟨ne, q1⟩
        · cases z
        · exact ne (G.inj j i ys xs p q1 e q2 h1)
    refine ⟨⟨G.eS, G.ct, G.si, G.bd, G.fr, by simp [G.len], fun j y z => ?_, fun j ys z => ?_, fun j k ys zs q e1 e2 e3 e4 => ?_⟩, ex⟩
    · rcases set_at z with ⟨rfl, z, _⟩ | ⟨ne, z⟩
      · cases z
        exact ⟨_, h1, .lst (mask_at np h2) (h3.mono ex)⟩
      · obtain ⟨w, q1, q2⟩ := G.sl j y z
        exact ⟨w, q1, q2.mono ex⟩
    · rcases set_at z with ⟨rfl, z, _⟩ | ⟨ne, z⟩
      · cases z
      · obtain ⟨q, ws, a1, a2, a3, a4, a5⟩ := G.ow j ys z
        exact ⟨q, ws, a1, a2, a3.mono ex, a4, a5⟩
    · rcases set_at e1 with ⟨_, z, _⟩ | ⟨n1, e1⟩
      · cases z
      · rcases set_at e2 with ⟨_, z, _⟩ | ⟨n2, e2⟩
        · cases z
        · exact G.inj j k ys zs q e1 e2 e3 e4
  · exact ⟨G, Ex.refl _⟩
theorem Good.h0 (G : Good K C σ ρ H) {p : Addr} (n : H p = none) : C.H0 p = none := by
  cases q : C.H0 p with
  | none => rfl
  | some o =>
    by_cases hs : C.S p
    · exact absurd n (G.ct.th _ _ G.si p hs)
    · rw [G.fr p o hs q] at n; cases n
/-- a new list goes to a slot as its own -/
theorem Good.own (G : Good K C σ ρ H) {i : Nat} {p : Addr} {vs : List V} {ds : List PyData} (hi : i < ρ.length) (n : H p = none) {m : Nat} (t : Tr C.S (K.SI m) H H') (hp : H' p = some (.lst vs))
    (r : RdA K (mask (fun a => bar C.B σ ρ a ∨ a = p) H') vs ds) :
    Good K (C.up m) (σ.set i (some (.ref p))) (ρ.set i (.own ds)) H' ∧ Ex (mq C σ ρ H) (mq C (σ.set i (some (.ref p))) (ρ.set i (.own ds)) H') := by
  have G' := G.tr t
  have sub : ∀ a, bar C.B (σ.set i (some (.ref p))) (ρ.set i (.own ds)) a → bar C.B σ ρ a ∨ a = p := fun a h => by
    rcases h with h | ⟨j, ys, q1, q2⟩
    · exact .inl (.inl h)
    · rcases set_at q1 with ⟨rfl, z, _⟩ | ⟨ne, q1⟩
      · rcases set_at q2 with ⟨_, z2, _⟩ | ⟨ne, _⟩
        · cases z2; exact .inr rfl
        · exact absurd rfl ne
      · rw [set_oth ne] at q2
        exact .inl (.inr ⟨j, ys, q1, q2⟩)
  have e2 : Ex (mask (fun a => bar C.B σ ρ a ∨ a = p) H') (mq C (σ.set i (some (.ref p))) (ρ.set i (.own ds)) H') := mask_sub sub
  have e1 : Ex (mq C σ ρ H) (mask (fun a => bar C.B σ ρ a ∨ a = p) H') := fun a o e => by
    obtain ⟨nb, e⟩ := mask_of e
    have ne : a ≠ p := ne_of_none e n
    exact mask_at (fun z => z.elim nb ne) (t.1 a o (fun s => nb (.inl (G.ct.sb a s))) e)
  have ex := e1.trans e2
  have npB : ¬ C.B p := fun z => G.bd p z n
  have ne_p : ∀ (j : Nat) (xs : List PyData) (q : Addr), ρ[j]? = some (Sl.own xs) → σ[j]? = some (some (V.ref q)) → q ≠ p := fun j xs q q1 q2 z => by
    subst z
    obtain ⟨q', ws, a1, a2, _⟩ := G.ow j xs q1
    rw [q2] at a1
    cases a1
    rw [n] at a2
    cases a2
  refine ⟨⟨G.eS, G.ct, t.2, G'.bd, G'.fr, by simp [G.len], fun j y z => ?_, fun j ys z => ?_, fun j k ys zs q q1 q2 q3 q4 => ?_⟩, ex⟩
  · rcases set_at z with ⟨_, z, _⟩ | ⟨ne, z⟩
    · cases z
    · obtain ⟨w, a1, a2⟩ := G.sl j y z
      exact ⟨w, by rw [set_oth ne]; exact a1, a2.mono ex⟩
  · rcases set_at z with ⟨rfl, z, _⟩ | ⟨ne, z⟩
    · cases z
      exact ⟨p, vs, set_self (by rw [← G.len]; exact hi), hp, r.mono e2, G.h0 n, npB⟩
    · obtain ⟨q, ws, a1, a2, a3, a4, a5⟩ := G.ow j ys z
      exact ⟨q, ws, by rw [set_oth ne]; exact a1, t.1 q _ (fun s => a5 (G.ct.sb q s)) a2, a3.mono ex, a4, a5⟩
  · rcases set_at q1 with ⟨ej, z, _⟩ | ⟨n1, p1⟩
    · rcases set_at q2 with ⟨ek, _, _⟩ | ⟨n2, p2⟩
      · exact ej.trans ek.symm
      · rw [set_oth n2] at q4
        rw [ej] at q3
        rcases set_at q3 with ⟨_, z3, _⟩ | ⟨ne, _⟩
        · cases z3
          exact absurd rfl (ne_p k zs _ p2 q4)
        · exact absurd rfl ne
    · rw [set_oth n1] at q3
      rcases set_at q2 with ⟨ek, z, _⟩ | ⟨n2, p2⟩
      · rw [ek] at q4
        rcases set_at q4 with ⟨_, z3, _⟩ | ⟨ne, _⟩
        · cases z3
          exact absurd rfl (ne_p j ys _ p1 q3)
        · exact absurd rfl ne
      · rw [set_oth n2] at q4
        exact G.inj j k ys zs q p1 p2 q3 q4
/-- an own list is stored anew -/
theorem Good.put (G : Good K C σ ρ H) {i : Nat} {p : Addr} {vs : List V} {xs ds : List PyData} (e : ρ[i]? = some (.own xs)) (e2 : σ[i]? = some (some (.ref p))) (r : RdA K (mq C σ ρ H) vs ds) :
    Good K C σ (ρ.set i (.own ds)) (upd H p (.lst vs)) ∧ Ex (mq C σ ρ H) (mq C σ (ρ.set i (.own ds)) (upd H p (.lst vs))) := by
  obtain ⟨p', ws, h1, h2, h3, h4, h5⟩ := G.ow i xs e
  rw [e2] at h1
  cases h1
  have hi : i < ρ.length := (List.getElem?_eq_some_iff.mp e).1
  have bp : bar C.B σ ρ p := .inr ⟨i, xs, e, e2⟩
  have sub : ∀ a, bar C.B σ (ρ.set i (.own ds)) a → bar C.B σ ρ a := fun a h => by
    rcases h with h | ⟨j, ys, q1, q2⟩
    · exact .inl h
    · rcases set_at q1 with ⟨rfl, z, _⟩ | ⟨ne, q1⟩
      · exact .inr ⟨j, xs, e, q2⟩
      · exact .inr ⟨j, ys, q1, q2⟩
  have ex : Ex (mq C σ ρ H) (mq C σ (ρ.set i (.own ds)) (upd H p (.lst vs))) := fun a o q => by
    obtain ⟨nb, q⟩ := mask_of q
    have ne : a ≠ p := fun z => nb (z ▸ bp)
    exact mask_at (fun z => nb (sub a z)) (by rw [upd_ne ne]; exact q)
  have nS : ¬ C.S p := fun s => h5 (G.ct.sb p s)
  refine ⟨⟨G.eS, G.ct, G.ct.st _ H _ (fun a s => by rw [upd_ne (fun z => nS (by rw [← z]; exact s))]) (code_upd h2) G.si, fun a b z => ?_, fun a o ns q => ?_, by simp [G.len], fun j y z => ?_, fun j ys z => ?_, fun j k ys zs q q1 q2 q3 q4 => ?_⟩, ex⟩
  · by_cases ea : a = p
    · subst ea; rw [upd_same] at z; cases z
    · rw [upd_ne ea] at z; exact G.bd a b z
  · rw [upd_ne (ne_of_none q h4)]
    exact G.fr a o ns q
  · rcases set_at z with ⟨_, z, _⟩ | ⟨ne, z⟩
    · cases z
    · obtain ⟨w, a1, a2⟩ := G.sl j y z
      exact ⟨w, a1, a2.mono ex⟩
  · rcases set_at z with ⟨rfl, z, _⟩ | ⟨ne, z⟩
    · cases z
      exact ⟨p, vs, e2, upd_same, r.mono ex, h4, h5⟩
    · obtain ⟨q, us, a1, a2, a3, a4, a5⟩ := G.ow j ys z
      have nq : q ≠ p := fun w => ne (G.inj j i ys xs p z e (w ▸ a1) e2)
      exact ⟨q, us, a1, by rw [upd_ne nq]; exact a2, a3.mono ex, a4, a5⟩
  · have back : ∀ (j : Nat) (ys : List PyData), (ρ.set i (Sl.own ds))[j]? = some (Sl.own ys) → ∃ ys', ρ[j]? = some (Sl.own ys') := fun j ys z => by
      rcases set_at z with ⟨rfl, _, _⟩ | ⟨_, z⟩
      · exact ⟨xs, e⟩
      · exact ⟨ys, z⟩
    obtain ⟨ys', b1⟩ := back j ys q1
    obtain ⟨zs', b2⟩ := back k zs q2
    exact G.inj j k ys' zs' q b1 b2 q3 q4
end

/-! ### targets -/
theorem wipe_get {σ : Sg} {i : Nat} : ∀ (L : List Nat), (wipe σ L)[i]? = if i ∈ L ∧ i < σ.length then some none else σ[i]?
  | [] => by simp [wipe]
  | v :: L => by
    have ih := wipe_get (σ := σ) (i := i) L
    have hl := wipe_length σ L
    show ((wipe σ L).set v none)[i]? = _
    by_cases e : v = i
    · subst e
      by_cases hv : v < σ.length
      · rw [set_self (by rw [hl]; exact hv), if_pos ⟨by simp, hv⟩]
      · rw [List.set_eq_of_length_le (by rw [hl]; omega), ih, if_neg (fun z => hv z.2), if_neg (fun z => hv z.2)]
    · rw [List.getElem?_set_ne e, ih]
      have : (i ∈ L ∧ i < σ.length) ↔ (i ∈ v :: L ∧ i < σ.length) := ⟨fun z => ⟨List.mem_cons_of_mem _ z.1, z.2⟩, fun z => ⟨(List.mem_cons.mp z.1).resolve_left fun q => e q.symm, z.2⟩⟩
      simp only [this]
theorem wipe_len {σ : Sg} (L : List Nat) : (wipe σ L).length = σ.length := wipe_length σ L
theorem wipe_eq {σ σ' : Sg} {L : List Nat} (h : σ.length = σ'.length) (g : ∀ i, i ∉ L → σ[i]? = σ'[i]?) : wipe σ L = wipe σ' L := by
  apply List.ext_getElem?
  intro i
  rw [wipe_get, wipe_get, h]
  by_cases z : i ∈ L ∧ i < σ'.length
  · rw [if_pos z, if_pos z]
  · rw [if_neg z, if_neg z]
    by_cases m : i ∈ L
    · have : ¬ i < σ'.length := fun q => z ⟨m, q⟩
      rw [List.getElem?_eq_none (by omega), List.getElem?_eq_none (by omega)]
    · exact g i m
theorem of_wipe {σ σ' : Sg} {L : List Nat} (h : wipe σ L = wipe σ' L) : σ.length = σ'.length ∧ ∀ i, i ∉ L → σ[i]? = σ'[i]? := by
  refine ⟨by rw [← wipe_len (σ := σ) L, h, wipe_len], fun i m => ?_⟩
  have q := congrArg (fun l => l[i]?) h
  simp only [wipe_get] at q
  rw [if_neg (fun z => m z.1), if_neg (fun z => m z.1)] at q
  exact q
abbrev FG := Vl → En → (En → Prop) → Prop
def SG (K : Kx) (g : TG) (L : List Nat) (f : FG) : Prop := ∀ (C : Ct) (σ : Sg) (ρ : En) (H : Hp) (v : V) (x : Vl) (Nx : En → Prop) (Q : Sg → Hp → Prop), Good K C σ ρ H → VlOk K (mq C σ ρ H) v x → f x ρ Nx →
  (∀ σ' ρ', Good K C σ' ρ' H → Ex (mq C σ ρ H) (mq C σ' ρ' H) → wipe σ' L = wipe σ L → Nx ρ' → Q σ' H) → g v σ H Q
abbrev FGs := List PyData → En → (En → Prop) → Prop
def SGs (K : Kx) (g : TGs) (L : List Nat) (f : FGs) : Prop := ∀ (C : Ct) (σ : Sg) (ρ : En) (H : Hp) (vs : List V) (xs : List PyData) (Nx : En → Prop) (Q : Sg → Hp → Prop), Good K C σ ρ H → RdA K (mq C σ ρ H) vs xs → f xs ρ Nx →
  (∀ σ' ρ', Good K C σ' ρ' H → Ex (mq C σ ρ H) (mq C σ' ρ' H) → wipe σ' L = wipe σ L → Nx ρ' → Q σ' H) → g vs σ H Q
structure Eg (F : Fm) (e : Expr) (L : List Nat) (f : FG) : Prop where
  ex : ∃ t, (∀ i, PG (F.X i) e t) ∧ SG F.K t L f
structure Egs (F : Fm) (es : List Expr) (L : List Nat) (f : FGs) : Prop where
  ex : ∃ t, (∀ i, PGs (F.X i) es t) ∧ SGs F.K t L f
section
variable {F : Fm} {K : Kx} {e : Expr} {es : List Expr} {pos p : Pos}
def gNm (i : Nat) : FG := fun x ρ Nx => i < ρ.length ∧ Nx (ρ.set i (.v x))
theorem sg_name {i : Nat} : SG K (gName i) [i] (gNm i) := fun C σ ρ H v x Nx Q G ox h k => by
  obtain ⟨G', ex⟩ := G.set h.1 ox
  exact k _ _ G' ex (wipe_eq (by simp) fun j m => set_oth (by simpa using m)) h.2
theorem g_name (i : Nat) {x : Str} (hi : F.N[i]? = some x) (hx : ∀ j, Loc (F.X j).env.scope x) (hf : ∀ j, (F.X j).fn x = true ∨ (F.X j).env.scope.names.lookup x = some .local) : Eg F (.Name x p) [i] (gNm i) :=
  ⟨_, fun j => pg_name (by rw [F.eN]; exact F.nd) (by rw [F.eN]; exact hi) (hx j) (hf j), sg_name⟩
theorem gs_nil : Egs F [] [] (fun xs ρ Nx => xs = [] ∧ Nx ρ) := ⟨_, fun _ => pgs_nil, fun C σ ρ H vs xs Nx Q G r h k => by
  obtain ⟨rfl, h⟩ := h
  cases r
  exact ⟨rfl, k σ ρ G (Ex.refl _) rfl h⟩⟩
theorem gs_cons {L L' : List Nat} {f : FG} {g : FGs} (h : Eg F e L f) (hs : Egs F es L' g) (hh : ∀ i, assignEach (e :: es) (F.X i).env = ((assignEach [e] (F.X i).env) ++ assignEach es (F.X i).env) := by intro _; rfl) (q : ∀ {X : Cx} {t : TG} {u : TGs}, PG X e t → PGs X es u → PGs X (e :: es) (gCons t u) := by intro _ _ _ a b; exact pgs_cons a b) :
    Egs F (e :: es) (L ++ L') (fun xs ρ Nx => match xs with | x :: r => f (.d x) ρ fun ρ1 => g r ρ1 Nx | [] => False) := by
  obtain ⟨t, pt, st⟩ := h
  obtain ⟨u, pu, su⟩ := hs
  refine ⟨_, fun i => q (pt i) (pu i), fun C σ ρ H vs xs Nx Q G r hf k => ?_⟩
  match xs, r, hf with
  | x :: xs, r, hf =>
    cases r with
    | cons r1 r2 =>
      refine ⟨_, _, rfl, st C σ ρ H _ (.d x) _ _ G r1 hf fun σ1 ρ1 G1 e1 w1 h1 => su C σ1 ρ1 H _ xs _ _ G1 (r2.mono e1) h1 fun σ2 ρ2 G2 e2 w2 h2 => k σ2 ρ2 G2 (e1.trans e2) ?_ h2⟩
      obtain ⟨a1, a2⟩ := of_wipe w1
      obtain ⟨b1, b2⟩ := of_wipe w2
      exact wipe_eq (b1.trans a1) fun i m => (b2 i fun z => m (List.mem_append_right _ z)).trans (a2 i fun z => m (List.mem_append_left _ z))
theorem g_tup {L : List Nat} {g : FGs} {k : Nat} {n : Nat} (h : Egs F es L g) (hn : es.length = n) (q : ∀ {X : Cx} {t : TGs}, X.calm = true → PGs X es t → PG X (.Tuple es k pos) (gTup X.K n t)) :
    Eg F (.Tuple es k pos) L (fun x ρ Nx => match x with | .d (.tuple xs) => xs.length = n ∧ g xs ρ Nx | _ => False) := by
  obtain ⟨t, pt, st⟩ := h
  refine ⟨gTup F.K n t, fun i => by have := q (F.calm i) (pt i); rw [F.eK i] at this; exact this, fun C σ ρ H v x Nx Q G ox hf kk => ?_⟩
  match x, ox, hf with
  | .d (.tuple xs), ox, hf =>
    obtain ⟨a, vs, rfl, ha, ra⟩ := Rd.inv_tuple ox
    exact ⟨a, vs, rfl, Ex.sqt mask_le ha, by rw [ra.length]; exact hf.1, st C σ ρ H vs xs Nx Q G ra hf.2 kk⟩
end

/-! ### walks -/
abbrev FI := En → (List Vl → Prop) → Prop
structure WOk (K : Kx) (M0 : Hp) (J : It) (items : List Vl) : Prop where
  ex : ∃ G Y, Walk J items.length G Y ∧ (∀ H, Ex M0 H → G H) ∧ ∀ i H x H', i < items.length → Ex M0 H → Y i H x H' → ∃ it, items[i]? = some it ∧ ((H' = H ∧ VlOk K M0 x it) ∨ ∃ T o, H T = none ∧ H' = upd H T o ∧ VlOk K (upd M0 T o) x it)
def SI (K : Kx) (wi : TI) (c : Nat) (f : FI) : Prop := ∀ (C : Ct) (σ : Sg) (ρ : En) (H : Hp) (R : List Vl → Prop) (Q : It → Hp → Prop), C.m + c ≤ lim → Good K C σ ρ H → f ρ R →
  (∀ J H' items m, C.m ≤ m → m ≤ C.m + c → Tr C.S (K.SI m) H H' → WOk K (mq C σ ρ H') J items → R items → Q J H') → wi σ H Q
structure Ei (F : Fm) (tg e : Expr) (c : Nat) (f : FI) : Prop where
  ex : ∃ t, (∀ i, PI (F.X i) tg e t) ∧ SI F.K t c f
theorem Ex.sq {K : Kx} {H H' : Hp} {a : Addr} {xs : List V} (e : Ex H H') (h : H a = some (.lst xs)) : SqL K H' a xs := SqL.of (e _ _ h)
section
variable {F : Fm} {K : Kx} {tg e e2 : Expr} {es : List Expr} {pos p : Pos} {n : Nat}
theorem WOk.list {M0 : Hp} {a : Addr} {vs : List V} {ds : List PyData} (h : M0 a = some (.lst vs)) (r : RdA K M0 vs ds) : WOk K M0 (Itl K a) (ds.map Vl.d) := by
  refine ⟨_, _, by rw [List.length_map, ← r.length]; exact walk_list, fun H e => e.sq h, fun i H x H' hi e y => ?_⟩
  obtain ⟨e1, e2⟩ := y
  obtain ⟨d, q1, q2⟩ := r.get' e2
  exact ⟨.d d, by simp [q1], .inl ⟨e1, q2⟩⟩
theorem WOk.tup {M0 : Hp} {a : Addr} {vs : List V} {ds : List PyData} (h : SqT K M0 a vs) (r : RdA K M0 vs ds) : WOk K M0 (Itt K a) (ds.map Vl.d) := by
  refine ⟨_, _, by rw [List.length_map, ← r.length]; exact walk_tup, fun H e => e.sqt h, fun i H x H' hi e y => ?_⟩
  obtain ⟨e1, e2⟩ := y
  obtain ⟨d, q1, q2⟩ := r.get' e2
  exact ⟨.d d, by simp [q1], .inl ⟨e1, q2⟩⟩
/-- a list -/
def asL (R : List Vl → Prop) : Vl → Prop
  | .d (.list xs) => R (xs.map Vl.d)
  | _ => False
def asT (R : List Vl → Prop) : Vl → Prop
  | .d (.tuple xs) => R (xs.map Vl.d)
  | _ => False
theorem i_list {f : FE} (h : Ee F e n f) : Ei F tg e n (fun ρ R => f ρ (asL R)) := by
  obtain ⟨t, pt, st⟩ := h
  refine ⟨iList F.K t, fun i => by have := pi_list (tg := tg) (pt i); rw [F.eK i] at this; exact this, fun C σ ρ H R Q hm G hf k => st C σ ρ H _ _ hm G hf fun v H1 x m l u t1 ox h1 => ?_⟩
  match x, ox, h1 with
  | .d (.list xs), ox, h1 =>
    obtain ⟨a, vs, rfl, ha, ra⟩ := Rd.inv_list ox
    exact ⟨a, rfl, ⟨vs, SqL.of (mask_le _ _ ha)⟩, k _ H1 _ m l u t1 (WOk.list ha ra) h1⟩
theorem i_tup {f : FE} (h : Ee F e n f) : Ei F tg e n (fun ρ R => f ρ (asT R)) := by
  obtain ⟨t, pt, st⟩ := h
  refine ⟨iTup F.K t, fun i => by have := pi_tup (tg := tg) (pt i); rw [F.eK i] at this; exact this, fun C σ ρ H R Q hm G hf k => st C σ ρ H _ _ hm G hf fun v H1 x m l u t1 ox h1 => ?_⟩
  match x, ox, h1 with
  | .d (.tuple xs), ox, h1 =>
    obtain ⟨a, vs, rfl, ha, ra⟩ := Rd.inv_tuple ox
    exact ⟨a, rfl, ⟨vs, Ex.sqt mask_le ha⟩, k _ H1 _ m l u t1 (WOk.tup ha ra) h1⟩
def irange0 (lo : Int) (n : Nat) : List Vl := (List.range n).map fun i => .d (.int (lo + (i : Nat)))
theorem irange_ex (lo : Int) (n : Nat) : ∃ xs : List Vl, xs = irange0 lo n := ⟨_, rfl⟩
/-- the range's items; nothing but irange_def opens it -/
noncomputable def irange (lo : Int) (n : Nat) : List Vl := Classical.choose (irange_ex lo n)
theorem irange_def (lo : Int) (n : Nat) : irange lo n = (List.range n).map fun i => .d (.int (lo + (i : Nat))) := Classical.choose_spec (irange_ex lo n)
theorem WOk.rng {M0 : Hp} {lo : Int} {n : Nat} : WOk K M0 (Itr lo n) (irange lo n) := by
  refine ⟨_, _, by rw [irange_def, List.length_map, List.length_range]; exact walk_range, fun _ _ => trivial, fun i H x H' hi e y => ?_⟩
  obtain ⟨e1, e2⟩ := y
  rw [irange_def] at hi ⊢
  rw [List.length_map, List.length_range] at hi
  exact ⟨_, by rw [List.getElem?_map, List.getElem?_range hi]; rfl, .inl ⟨e1, by rw [e2]; exact Rd.int _⟩⟩
def asR1 (R : List Vl → Prop) : List Vl → Prop
  | [.d (.int j)] => -(2 ^ 62) ≤ j ∧ j < 2 ^ 62 ∧ R (irange 0 j.toNat)
  | _ => False
def asR2 (R : List Vl → Prop) : List Vl → Prop
  | [.d (.int i), .d (.int j)] => (-(2 ^ 62) ≤ i ∧ i < 2 ^ 62 ∧ -(2 ^ 62) ≤ j ∧ j < 2 ^ 62) ∧ R (irange i (j - i).toNat)
  | _ => False
theorem i_rng1 {f : FA} (hm : F.mg "range" = none) (ha : Ea F [e] n f) (hg : ∀ i, Gl (F.X i) "range" := by intro _; rfl) (hs : ∀ i, starEach [e] (F.X i).env = [(false, eval e (F.X i).env)] := by intro _; rfl) :
    Ei F tg (.Call (.Name "range" p) [e] [] pos) n (fun ρ R => f ρ (asR1 R)) := by
  obtain ⟨t, pt, st⟩ := ha
  refine ⟨_, fun i => pi_range1 (hg i) (by rw [F.eM]; exact hm) (pt i) (hs i), fun C σ ρ H R Q hm G hf k => st C σ ρ H _ _ hm G hf fun vs H1 xs m l u t1 oxs h1 => ?_⟩
  match xs, oxs, h1 with
  | [.d (.int j)], oxs, h1 =>
    obtain ⟨v, rfl, o1⟩ := oxs.one
    exact ⟨j, by rw [Rd.inv_int o1], h1.1, h1.2.1, k _ H1 _ m l u t1 WOk.rng h1.2.2⟩
theorem i_rng2 {f : FA} (hm : F.mg "range" = none) (ha : Ea F [e, e2] n f) (hg : ∀ i, Gl (F.X i) "range" := by intro _; rfl)
    (hs : ∀ i, starEach [e, e2] (F.X i).env = [(false, eval e (F.X i).env), (false, eval e2 (F.X i).env)] := by intro _; rfl) (hs2 : ∀ i, starEach [e2] (F.X i).env = [(false, eval e2 (F.X i).env)] := by intro _; rfl) :
    Ei F tg (.Call (.Name "range" p) [e, e2] [] pos) n (fun ρ R => f ρ (asR2 R)) := by
  obtain ⟨t, pt, st⟩ := ha
  refine ⟨_, fun i => pi_range2 (hg i) (by rw [F.eM]; exact hm) (pt i) (hs i) (hs2 i), fun C σ ρ H R Q hm G hf k => st C σ ρ H _ _ hm G hf fun vs H1 xs m l u t1 oxs h1 => ?_⟩
  match xs, oxs, h1 with
  | [.d (.int i), .d (.int j)], oxs, h1 =>
    obtain ⟨v, w, rfl, o1, o2⟩ := oxs.two
    exact ⟨i, j, by rw [Rd.inv_int o1, Rd.inv_int o2], h1.1, k _ H1 _ m l u t1 WOk.rng h1.2⟩
/-- pairs that are made on the way -/
theorem pair_ok {M0 : Hp} {T : Addr} {x y : V} {dx dy : PyData} (n : M0 T = none) (hx : Rd K M0 x dx) (hy : Rd K M0 y dy) : VlOk K (upd M0 T (.tup [x, y])) (.ref T) (.d (.tuple [dx, dy])) := by
  have ex : Ex M0 (upd M0 T (.tup [x, y])) := fun a o e => by rw [upd_ne (ne_of_none e n)]; exact e
  exact Rd.tup (.inl (.inl upd_same)) (.cons (hx.mono ex) (.cons (hy.mono ex) .nil))
def pairs : List PyData → List PyData → List Vl
  | x :: xs, y :: ys => .d (.tuple [x, y]) :: pairs xs ys
  | _, _ => []
theorem pairs_len : ∀ xs ys : List PyData, (pairs xs ys).length = min xs.length ys.length
  | [], _ => by simp [pairs]
  | _ :: _, [] => by simp [pairs]
  | x :: xs, y :: ys => by simp only [pairs, List.length_cons, pairs_len xs ys]; omega
theorem pairs_get : ∀ (xs ys : List PyData) (i : Nat) (a b : PyData), xs[i]? = some a → ys[i]? = some b → (pairs xs ys)[i]? = some (.d (.tuple [a, b]))
  | [], _, _, _, _, h, _ => by simp at h
  | _ :: _, [], _, _, _, _, h => by simp at h
  | x :: xs, y :: ys, 0, a, b, h1, h2 => by simp at h1 h2; subst h1 h2; rfl
  | x :: xs, y :: ys, i + 1, a, b, h1, h2 => by simpa [pairs] using pairs_get xs ys i a b (by simpa using h1) (by simpa using h2)
theorem WOk.pairs {M0 : Hp} {J : It} {G : Hp → Prop} {vs ws : List V} {xs ys : List PyData} (w : ∀ {n : Nat}, n = min vs.length ws.length → Walk J n G (YPair (fun i => vs[i]?) (fun i => ws[i]?))) (hG : ∀ H, Ex M0 H → G H)
    (rx : RdA K M0 vs xs) (ry : RdA K M0 ws ys) : WOk K M0 J (Px.pairs xs ys) := by
  refine ⟨_, _, w (by rw [pairs_len, rx.length, ry.length]), hG, fun i H x H' hi e y => ?_⟩
  obtain ⟨T, a, b, rfl, n, rfl, e1, e2⟩ := y
  obtain ⟨da, q1, r1⟩ := rx.get' e1
  obtain ⟨db, q2, r2⟩ := ry.get' e2
  have n0 : M0 T = none := by
    cases q : M0 T with
    | none => rfl
    | some o => rw [e T o q] at n; cases n
  exact ⟨_, pairs_get xs ys i da db q1 q2, .inr ⟨T, _, n, rfl, pair_ok n0 r1 r2⟩⟩
theorem walk_zipT {a b : Addr} {xs ys : List V} {n : Nat} (hn : n = min xs.length ys.length) : Walk (RZ.ItzT K a b) n (fun H => SqT K H a xs ∧ SqT K H b ys) (YPair (fun i => xs[i]?) (fun i => ys[i]?)) := by
  subst hn
  refine ⟨fun i _ hi q => ?_, fun _ q => ⟨xs, ys, q.1, q.2, by omega⟩, fun i H v H' _ q y => ?_⟩
  · have h1 : i < xs.length := by omega
    have h2 : i < ys.length := by omega
    exact ⟨xs, ys, xs[i], ys[i], q.1, q.2, by simp [h1], by simp [h2]⟩
  · obtain ⟨T, x, z, h1, h2, h3, h4, h5⟩ := y
    exact ⟨T, x, z, h1, h2, h3, h4 xs q.1, h5 ys q.2⟩
def asZ (R : List Vl → Prop) : List Vl → Prop
  | [.d (.list xs), .d (.list ys)] => R (pairs xs ys)
  | [.d (.tuple xs), .d (.tuple ys)] => R (pairs xs ys)
  | _ => False
theorem i_zip {f : FA} {elts : List Expr} {kk : Nat} {tpos : Pos} (hm : F.mg "zip" = none) (ha : Ea F [e, e2] n f) (hg : ∀ i, Gl (F.X i) "zip" := by intro _; rfl)
    (hs : ∀ i, starEach [e, e2] (F.X i).env = (false, eval e (F.X i).env) :: starEach [e2] (F.X i).env := by intro _; rfl) (hpl : ∀ i, (backTo pos (starEach [e2] (F.X i).env)).any (·.1) = false := by intro _; rfl) :
    Ei F (.Tuple elts kk tpos) (.Call (.Name "zip" p) [e, e2] [] pos) n (fun ρ R => f ρ (asZ R)) := by
  obtain ⟨t, pt, st⟩ := ha
  refine ⟨RZ.iZipA F.K t, fun i => by have := RZ.pi_zipA (elts := elts) (kk := kk) (tpos := tpos) (p := p) (hg i) (by rw [F.eM]; exact hm) (pt i) (hs i) (hpl i); rw [F.eK i] at this; exact this, fun C σ ρ H R Q hm G hf k => st C σ ρ H _ _ hm G hf fun vs H1 xs m l u t1 oxs h1 => ?_⟩
  match xs, oxs, h1 with
  | [.d (.list xs), .d (.list ys)], oxs, h1 =>
    obtain ⟨v, w, rfl, o1, o2⟩ := oxs.two
    obtain ⟨a, us, rfl, ha, ra⟩ := Rd.inv_list o1
    obtain ⟨b, ws, rfl, hb, rb⟩ := Rd.inv_list o2
    exact ⟨a, b, us, ws, rfl, .inl ⟨SqL.of (mask_le _ _ ha), SqL.of (mask_le _ _ hb), k _ H1 _ m l u t1 (WOk.pairs (fun hn => walk_zip hn) (fun H e => ⟨e.sq ha, e.sq hb⟩) ra rb) h1⟩⟩
  | [.d (.tuple xs), .d (.tuple ys)], oxs, h1 =>
    obtain ⟨v, w, rfl, o1, o2⟩ := oxs.two
    obtain ⟨a, us, rfl, ha, ra⟩ := Rd.inv_tuple o1
    obtain ⟨b, ws, rfl, hb, rb⟩ := Rd.inv_tuple o2
    exact ⟨a, b, us, ws, rfl, .inr ⟨Ex.sqt mask_le ha, Ex.sqt mask_le hb, k _ H1 _ m l u t1 (WOk.pairs (fun hn => walk_zipT hn) (fun H e => ⟨e.sqt ha, e.sqt hb⟩) ra rb) h1⟩⟩
end
end Px

set_option Elab.async false
set_option linter.all false
set_option maxRecDepth 100000
set_option maxHeartbeats 2000000
/-! Px: comprehensions, statements, defs. -/
namespace Px
open PySem PySem.Spec PyProof.Rows L2

/-! ### comprehensions -/
def unown : Sl → Sl
  | .own _ => .non
  | s => s
def wipeE (ρ : En) : List Nat → En
  | [] => ρ
  | v :: vs => (wipeE ρ vs).set v .non
def blkE (ρ : En) (L : List Nat) : En := wipeE (ρ.map unown) L
theorem wipeE_len (ρ : En) : ∀ L : List Nat, (wipeE ρ L).length = ρ.length
  | [] => rfl
  | v :: L => by unfold wipeE; rw [List.length_set, wipeE_len ρ L]
theorem wipeE_get {ρ : En} {i : Nat} {s : Sl} : ∀ (L : List Nat), (wipeE ρ L)[i]? = some s → s = .non ∨ (i ∉ L ∧ ρ[i]? = some s)
  | [], h => .inr ⟨by simp, h⟩
  | v :: L, h => by
    rcases set_at h with ⟨_, e, _⟩ | ⟨ne, h⟩
    · exact .inl e
    · rcases wipeE_get L h with e | ⟨m, e⟩
      · exact .inl e
      · exact .inr ⟨fun z => (List.mem_cons.mp z).elim ne m, e⟩
theorem blkE_get {ρ : En} {L : List Nat} {i : Nat} {s : Sl} (h : (blkE ρ L)[i]? = some s) : s = .non ∨ ∃ x, s = .v x ∧ i ∉ L ∧ ρ[i]? = some (.v x) := by
  rcases wipeE_get L h with e | ⟨m, e⟩
  · exact .inl e
  · rw [List.getElem?_map] at e
    cases q : ρ[i]? with
    | none => rw [q] at e; cases e
    | some t =>
      rw [q] at e
      cases t with
      | non => exact .inl (Option.some.inj e).symm
      | own _ => exact .inl (Option.some.inj e).symm
      | v x => exact .inr ⟨x, (Option.some.inj e).symm, m, rfl⟩
@[reducible] def blkC (C : Ct) (σ : Sg) (ρ : En) (D : Addr) (m : Nat) : Ct := ⟨fun a => bar C.B σ ρ a ∨ a = D, C.S, fun _ => none, m⟩
section
variable {K : Kx} {C : Ct} {σ : Sg} {ρ : En} {H1 H : Hp} {D : Addr} {L : List Nat}
theorem blk_bar {σ' : Sg} {a : Addr} {m : Nat} (h : bar (blkC C σ ρ D m).B σ' (blkE ρ L) a) : bar C.B σ ρ a ∨ a = D := by
  rcases h with h | ⟨i, xs, h1, _⟩
  · exact h
  · rcases blkE_get h1 with e | ⟨x, e, _⟩ <;> cases e
theorem blk_ex {m : Nat} (hD : H1 D = none) (G : Good K C σ ρ H1) (t : Tr C.S (K.SI m) H1 H) : Ex (mq C σ ρ H1) (mask (fun a => bar C.B σ ρ a ∨ a = D) H) := fun a o e => by
  obtain ⟨nb, e⟩ := mask_of e
  exact mask_at (fun z => z.elim nb (ne_of_none e hD)) (t.1 a o (fun s => nb (.inl (G.ct.sb a s))) e)
theorem Good.blk {m : Nat} (G : Good K C σ ρ H1) (hD : H1 D = none) (t : Tr C.S (K.SI m) H1 H) (hH : H D ≠ none) : Good K (blkC C σ ρ D m) (wipe σ L) (blkE ρ L) H where
  eS := G.eS
  ct := ⟨fun a s => .inl (.inl (G.ct.sb a s)), G.ct.st, G.ct.th, G.ct.up⟩
  si := t.2
  bd := fun a b => by
    rcases b with b | b
    · intro z
      exact (G.tr t).nbar z b
    · rw [b]; exact hH
  fr := fun a o _ e => by cases e
  len := by unfold blkE; rw [wipeE_len, List.length_map, wipe_len, G.len]
  sl := fun i x e => by
    rcases blkE_get e with e | ⟨y, e, m, q⟩
    · cases e
    · cases e
      obtain ⟨v, h1, h2⟩ := G.sl i x q
      refine ⟨v, by rw [wipe_get, if_neg (fun z => m z.1)]; exact h1, h2.mono ((blk_ex hD G t).trans (mask_sub fun a z => blk_bar z))⟩
  ow := fun i xs e => by rcases blkE_get e with e | ⟨y, e, _⟩ <;> cases e
  inj := fun i j xs ys p e => by rcases blkE_get e with e | ⟨y, e, _⟩ <;> cases e
end
def lcF (fg : FG) (ft : FT) (fe : FE) (ρ : En) : List Vl → List PyData → (List PyData → Prop) → Prop
  | [], acc, R => R acc
  | x :: xs, acc, R => fg x ρ fun ρ2 => ft ρ2 fun b => if b = true then fe ρ2 fun y => (match y with | .d d => lcF fg ft fe ρ xs (acc ++ [d]) R | _ => False) else lcF fg ft fe ρ xs acc R
structure Ets (F : Fm) (es : List Expr) (c : Nat) (f : FT) : Prop where
  ex : ∃ t, (∀ i, PTs (F.X i) es t) ∧ ST F.K t c f
theorem ts_nil {F : Fm} : Ets F [] 0 (fun _ R => R true) := ⟨_, fun _ => pts_nil, fun C _ _ H _ _ _ G hf k => k true H C.m (Nat.le_refl _) le0 (Tr.refl G.si) hf⟩
theorem ts_one {F : Fm} {e : Expr} {n : Nat} {f : FT} (h : Et F e n f) : Ets F [e] n f := by
  obtain ⟨t, pt, st⟩ := h
  exact ⟨_, fun i => pts_one (pt i), st⟩
theorem turn_le {i n k l c : Nat} (hi : i < n) (hn : n ≤ k) (hc : l + k * c ≤ lim) : l + i * c + c ≤ lim := by
  have h1 : (i + 1) * c ≤ k * c := Nat.mul_le_mul_right c (by omega)
  rw [Nat.add_mul, Nat.one_mul] at h1
  omega
theorem turn_up {i l c m b : Nat} (h : m ≤ l + i * c) (h2 : b ≤ m + c) : b ≤ l + (i + 1) * c := by
  rw [Nat.add_mul, Nat.one_mul]
  omega
theorem sl_lc {K : Kx} {wi : TI} {g : TG} {tt : TT} {te : TE} {L : List Nat} {fi : FI} {fg : FG} {ft : FT} {fe : FE} {ni nt ne : Nat} (hi : SI K wi ni fi) (hg : SG K g L fg) (ht : ST K tt nt ft) (he : SE K te ne fe) :
    SL K (tLc wi g tt te L) (ni + 1000000 * (nt + ne)) (fun ρ R => fi ρ fun items => items.length < 1000000 ∧ lcF fg ft fe (blkE ρ L) items [] R) := fun C σ ρ H R Q hm G hf k =>
  hi C σ ρ H _ _ (by omega) G hf fun J H1 items m1 l1 u1 t1 wok h1 => by
    obtain ⟨hlen, hlc⟩ := h1
    obtain ⟨Gd, Y, walk, hG, hY⟩ := wok
    have G1 := G.tr t1
    intro D hD
    have nSD : ¬ C.S D := fun s => G1.ct.th _ _ G1.si D s hD
    have hm1 : m1 + 1000000 * (nt + ne) ≤ lim := by omega
    refine lc_it walk (fun i H => ∃ m, m1 ≤ m ∧ m ≤ m1 + i * (nt + ne) ∧ Tr C.S (K.SI m) H1 H ∧ ∃ acc vs, H D = some (.lst vs) ∧ RdA K (mask (fun a => bar C.B σ ρ a ∨ a = D) H) vs acc ∧ vs.length ≤ i ∧ lcF fg ft fe (blkE ρ L) (items.drop i) acc R) ?_ ?_ ?_ ?_
    · exact ⟨m1, Nat.le_refl _, by omega, G1.new hD, [], [], upd_same, .nil, Nat.le_refl _, by simpa using hlc⟩
    · rintro i H' _ ⟨m, _, _, t, _⟩
      exact hG H' ((G1.ex t).trans mask_le)
    · rintro i x H' H'' hi' ⟨m, lm, um, t, acc, vs, hd, hr, hl, hf⟩ y
      have hx : items[i]? = some items[i] := List.getElem?_eq_getElem hi'
      have hml : m + (nt + ne) ≤ lim := by
        have := turn_le hi' (Nat.le_of_lt hlen) hm1
        omega
      obtain ⟨it, e1, e2⟩ := hY i H' x H'' hi' ((G1.ex t).trans mask_le) y
      rw [hx] at e1
      have e1 : items[i] = it := Option.some.inj e1
      rw [List.drop_eq_getElem_cons hi', e1] at hf
      have hDn : H' D ≠ none := by rw [hd]; simp
      have GB : Good K (blkC C σ ρ D m) (wipe σ L) (blkE ρ L) H' := G1.blk hD t hDn
      have m0 : Ex (mq C σ ρ H1) (mq (blkC C σ ρ D m) (wipe σ L) (blkE ρ L) H') := (blk_ex hD G1 t).trans (mask_sub fun a z => blk_bar z)
      have step : Tr C.S (K.SI m) H' H'' ∧ VlOk K (mq (blkC C σ ρ D m) (wipe σ L) (blkE ρ L) H'') x it ∧ H'' D = some (.lst vs) := by
        rcases e2 with ⟨rfl, o⟩ | ⟨T, o, n, rfl, ok⟩
        · exact ⟨Tr.refl t.2, o.mono m0, hd⟩
        · have tt := GB.new (o := o) n
          refine ⟨tt, ok.mono fun a u z => ?_, by rw [upd_ne (ne_of_none hd n)]; exact hd⟩
          by_cases ea : a = T
          · subst ea
            rw [upd_same] at z
            cases z
            exact GB.mq_new n
          · rw [upd_ne ea] at z
            exact (GB.ex tt) a u (m0 a u z)
      obtain ⟨t2, ox, hd2⟩ := step
      refine hg (blkC C σ ρ D m) (wipe σ L) (blkE ρ L) H'' x it _ _ (GB.tr t2) ox hf fun σ2 ρ2 G2 x2 w2 h2 => ⟨?_, ?_⟩
      · rw [w2]
        exact wipe_eq (wipe_len L) fun j m => by rw [wipe_get, if_neg (fun z => m z.1)]
      · have acc_of : ∀ {H3 : Hp} {m3 : Nat}, Tr C.S (K.SI m3) H'' H3 → H3 D = some (.lst vs) := fun t3 => t3.1 D _ nSD hd2
        have rd_of : ∀ {H3 : Hp} {m3 : Nat}, Tr C.S (K.SI m3) H' H3 → RdA K (mask (fun a => bar C.B σ ρ a ∨ a = D) H3) vs acc := fun t3 => hr.mono (t3.ex fun a s => .inl (.inl (G1.ct.sb a s)))
        refine ht (blkC C σ ρ D m) σ2 ρ2 H'' _ _ (by show m + nt ≤ lim; omega) G2 h2 fun b H3 m3 l3 u3 t3 h3 => ?_
        have l3' : m ≤ m3 := l3
        have u3' : m3 ≤ m + nt := u3
        cases b with
        | false => exact iteF ⟨m3, by omega, turn_up um (by omega), (t.trans t2).trans t3, acc, vs, acc_of t3, rd_of (t2.trans t3), by omega, by simpa using h3⟩
        | true =>
          refine iteT (he (blkC C σ ρ D m3) σ2 ρ2 H3 _ _ (by show m3 + ne ≤ lim; omega) (G2.tr t3) (by simpa using h3) fun v H4 z m4 l4 u4 t4 oz h4 => ?_)
          have l4' : m3 ≤ m4 := l4
          have u4' : m4 ≤ m3 + ne := u4
          match z, oz, h4 with
          | .d d, oz, h4 =>
            have t34 := t3.trans t4
            have t24 := (t2.trans t3).trans t4
            have oz' : Rd K (mask (fun a => bar C.B σ ρ a ∨ a = D) H4) v d := Rd.mono (mask_sub fun a z => .inl z) oz
            have same : mask (fun a => bar C.B σ ρ a ∨ a = D) (upd H4 D (.lst (vs ++ [v]))) = mask (fun a => bar C.B σ ρ a ∨ a = D) H4 := by
              funext a
              unfold mask
              by_cases z : bar C.B σ ρ a ∨ a = D
              · rw [if_pos z, if_pos z]
              · rw [if_neg z, if_neg z, upd_ne (fun q => z (.inr q))]
            refine ⟨vs, acc_of t34, small_lt (by omega), m4, by omega, turn_up um (by omega), ⟨fun a o ns e => ?_, ?_⟩, acc ++ [d], vs ++ [v], upd_same, ?_, by simp; omega, h4⟩
            · rw [upd_ne (ne_of_none e hD)]
              exact (t.trans t24).1 a o ns e
            · exact G1.ct.st _ H4 _ (fun a s => by rw [upd_ne (fun q => nSD (by rw [← q]; exact s))]) (code_upd (acc_of t34)) t24.2
            · rw [same]
              exact (rd_of t24).append (.cons oz' .nil)
    · rintro H' ⟨m, lm, um, t, acc, vs, hd, hr, _, hf⟩
      rw [List.drop_length] at hf
      have : items.length * (nt + ne) ≤ 1000000 * (nt + ne) := Nat.mul_le_mul_right _ (Nat.le_of_lt hlen)
      exact k D H' vs acc m (by omega) (by omega) (G.back t1 hD) (t1.trans t) hd hr hf
section
variable {F : Fm} {e elt tg iter : Expr} {ifs : List Expr} {scope : Scope} {pos p : Pos} {fi : FI} {fg : FG} {ft : FT} {fe : FE} {ni nt ne : Nat}
theorem l_lc (own : List (Str × Nat)) (hi : Ei F tg iter ni fi) (ok : ∀ i, BlkOk F.N (F.X i).env.scope scope own) (hg : Eg (F.blk scope) tg (own.map (·.2)) fg) (ht : Ets (F.blk scope) ifs nt ft) (he : Ee (F.blk scope) elt ne fe)
    (hs : ∀ i x, foldedSetIterable iter (F.X i).env x = pure x := by intro _ _; rfl) :
    El F (.ListComp elt [⟨tg, iter, ifs, 0⟩] scope pos) (ni + 1000000 * (nt + ne)) (fun ρ R => fi ρ fun items => items.length < 1000000 ∧ lcF fg ft fe (blkE ρ (own.map (·.2))) items [] R) := by
  obtain ⟨wi, pi, si⟩ := hi
  obtain ⟨g, pg, sg⟩ := hg
  obtain ⟨tt, ptt, stt⟩ := ht
  obtain ⟨te, pte, ste⟩ := he
  exact ⟨_, fun i => pe_lc (F.calm i) (by rw [F.eN]; exact F.nd) (pi i) (by rw [F.eN]; exact ok i) (fun s H c cl fp => pg (i, s, H, c, cl, fp)) (fun s H c cl fp => ptt (i, s, H, c, cl, fp)) (fun s H c cl fp => pte (i, s, H, c, cl, fp)) (hs i), sl_lc si sg stt ste⟩
end

/-! ### statements -/
structure SEn where
  nx : En → Prop
  rt : Vl → Prop
  bk : En → Prop := fun _ => False
  ct : En → Prop := fun _ => False
abbrev FSt := En → SEn → Prop
structure Lk (K : Kx) (C : Ct) (c : Nat) (M : Hp) (N : SEn) (D : Ends) : Prop where
  nx : ∀ σ' ρ' H' m, C.m ≤ m → m ≤ C.m + c → Good K (C.up m) σ' ρ' H' → Ex M (mq C σ' ρ' H') → N.nx ρ' → D.nx σ' H'
  bk : ∀ σ' ρ' H' m, C.m ≤ m → m ≤ C.m + c → Good K (C.up m) σ' ρ' H' → Ex M (mq C σ' ρ' H') → N.bk ρ' → D.bk σ' H'
  ct : ∀ σ' ρ' H' m, C.m ≤ m → m ≤ C.m + c → Good K (C.up m) σ' ρ' H' → Ex M (mq C σ' ρ' H') → N.ct ρ' → D.ct σ' H'
  rt : ∀ v H' x m, C.m ≤ m → m ≤ C.m + c → K.SI m H' → (∀ a o, ¬ C.S a → C.H0 a = some o → H' a = some o) → VlOk K (mask C.B H') v x → N.rt x → D.rt v H'
theorem Lk.go {K : Kx} {C : Ct} {M M' : Hp} {N : SEn} {D : Ends} {c c' m1 : Nat} (l : Lk K C c M N D) (h1 : C.m ≤ m1) (h2 : m1 + c' ≤ C.m + c) (e : Ex M M') : Lk K (C.up m1) c' M' N D :=
  ⟨fun σ' ρ' H' m a b G x => l.nx σ' ρ' H' m (Nat.le_trans h1 a) (Nat.le_trans b h2) G (e.trans x), fun σ' ρ' H' m a b G x => l.bk σ' ρ' H' m (Nat.le_trans h1 a) (Nat.le_trans b h2) G (e.trans x),
    fun σ' ρ' H' m a b G x => l.ct σ' ρ' H' m (Nat.le_trans h1 a) (Nat.le_trans b h2) G (e.trans x), fun v H' x m a b => l.rt v H' x m (Nat.le_trans h1 a) (Nat.le_trans b h2)⟩
def SS (K : Kx) (t : TS) (c : Nat) (f : FSt) : Prop := ∀ (C : Ct) (σ : Sg) (ρ : En) (H : Hp) (N : SEn) (D : Ends), C.m + c ≤ lim → Good K C σ ρ H → f ρ N → Lk K C c (mq C σ ρ H) N D → t D σ H
structure E1 (F : Fm) (st : Stmt) (c : Nat) (f : FSt) : Prop where
  ex : ∃ t, (∀ i, PS (F.X i) st t) ∧ SS F.K t c f
structure Es (F : Fm) (sts : List Stmt) (c : Nat) (f : FSt) : Prop where
  ex : ∃ t, (∀ i, PSs (F.X i) sts t) ∧ SS F.K t c f
section
variable {F : Fm} {K : Kx} {st : Stmt} {sts a b : List Stmt} {e c iter tg : Expr} {pos p : Pos} {f g : FSt} {fe fa fb : FE} {ft : FT} {fl : FL} {fg : FG} {fi : FI} {x : Str} {n na nb ni nt ne : Nat}
theorem ss_nil : Es F [] 0 (fun ρ N => N.nx ρ) := ⟨_, fun _ => pss_nil, fun C σ ρ H N D _ G h l => l.nx σ ρ H C.m (Nat.le_refl _) le0 G (Ex.refl _) h⟩
theorem ss_cons (h : E1 F st na f) (hs : Es F sts nb g) : Es F (st :: sts) (na + nb) (fun ρ N => f ρ { N with nx := fun ρ' => g ρ' N }) := by
  obtain ⟨t, pt, s1⟩ := h
  obtain ⟨u, pu, s2⟩ := hs
  exact ⟨_, fun i => pss_cons (pt i) (pu i), fun C σ ρ H N D hm G hf l => s1 C σ ρ H { N with nx := fun ρ' => g ρ' N } { D with nx := u D } (by omega) G hf
    ⟨fun σ' ρ' H' m a b G' x h => s2 (C.up m) σ' ρ' H' N D (by show m + nb ≤ lim; omega) G' h (l.go a (by omega) x), fun σ' ρ' H' m a b => l.bk σ' ρ' H' m a (by omega), fun σ' ρ' H' m a b => l.ct σ' ρ' H' m a (by omega), fun v H' x m a b => l.rt v H' x m a (by omega)⟩⟩
/-- the own list at slot i is a plain one from here on -/
theorem ss_frz (i : Nat) (hs : Es F sts n g) : Es F sts n (fun ρ N => g (frz ρ i) N) := by
  obtain ⟨u, pu, s2⟩ := hs
  exact ⟨u, pu, fun C σ ρ H N D hm G hf l => let ⟨G', x⟩ := G.frz i; s2 C σ (frz ρ i) H N D hm G' hf (l.go (Nat.le_refl _) (Nat.le_refl _) x)⟩
theorem s_frz (i : Nat) (hs : E1 F st n g) : E1 F st n (fun ρ N => g (frz ρ i) N) := by
  obtain ⟨u, pu, s2⟩ := hs
  exact ⟨u, pu, fun C σ ρ H N D hm G hf l => let ⟨G', x⟩ := G.frz i; s2 C σ (frz ρ i) H N D hm G' hf (l.go (Nat.le_refl _) (Nat.le_refl _) x)⟩
theorem sw_of {te : TE} {i : Nat} (h : SE K te n fe) : SS K (tAsg te (gName i)) n (fun ρ N => fe ρ fun y => i < ρ.length ∧ N.nx (ρ.set i (.v y))) := fun C σ ρ H N D hm G hf l =>
  h C σ ρ H _ _ hm G hf fun v H1 y m l1 u1 t1 oy h1 => by
    obtain ⟨G', ex⟩ := (G.tr t1).set h1.1 oy
    exact l.nx _ _ _ m l1 u1 G' ((G.ex t1).trans ex) h1.2
theorem so_of {te : TE} {i : Nat} (h : SL K te n fl) : SS K (tAsg te (gName i)) n (fun ρ N => fl ρ fun ds => i < ρ.length ∧ N.nx (ρ.set i (.own ds))) := fun C σ ρ H N D hm G hf l =>
  h C σ ρ H _ _ hm G hf fun q H1 vs ds m l1 u1 hp t1 hv hr h1 => by
    obtain ⟨G', ex⟩ := G.own h1.1 hp t1 hv hr
    exact l.nx _ _ _ m l1 u1 G' ex h1.2
section
variable {p' : Pos}
/-- x = e -/
theorem s_set (i : Nat) (hi : F.N[i]? = some x) (he : Ee F e n fe) (hx : ∀ j, Loc (F.X j).env.scope x := by intro _; first | exact .inl rfl | exact .inr rfl)
    (hf : ∀ j, (F.X j).fn x = true ∨ (F.X j).env.scope.names.lookup x = some .local := by intro _; exact .inl rfl) (hs : ∀ j, swapsWith e (some (.Name x p')) pos.line (F.X j).env = pure false := by intro _; rfl) :
    E1 F (.Assign [.Name x p'] e pos) n (fun ρ N => fe ρ fun y => i < ρ.length ∧ N.nx (ρ.set i (.v y))) := by
  obtain ⟨t, pt, s⟩ := he
  exact ⟨_, fun j => ps_set (by rw [F.eN]; exact F.nd) (by rw [F.eN]; exact hi) (hx j) (pt j) (hs j) (hf j), sw_of s⟩
/-- x = a new list that is filled further on -/
theorem s_own (i : Nat) (hi : F.N[i]? = some x) (he : El F e n fl) (hx : ∀ j, Loc (F.X j).env.scope x := by intro _; first | exact .inl rfl | exact .inr rfl)
    (hf : ∀ j, (F.X j).fn x = true ∨ (F.X j).env.scope.names.lookup x = some .local := by intro _; exact .inl rfl) (hs : ∀ j, swapsWith e (some (.Name x p')) pos.line (F.X j).env = pure false := by intro _; rfl) :
    E1 F (.Assign [.Name x p'] e pos) n (fun ρ N => fl ρ fun ds => i < ρ.length ∧ N.nx (ρ.set i (.own ds))) := by
  obtain ⟨t, pt, s⟩ := he
  exact ⟨_, fun j => ps_set (by rw [F.eN]; exact F.nd) (by rw [F.eN]; exact hi) (hx j) (pt j) (hs j) (hf j), so_of s⟩
/-- x = [.. for ..], x a plain local name -/
theorem p_lc {elt : Expr} {ifs : List Expr} {scope : Scope} {fi : FI} {fg : FG} {ft : FT} {fe : FE} (i : Nat) (hi' : F.N[i]? = some x) (own : List (Str × Nat)) (hi : Ei F tg iter ni fi) (ok : ∀ i, BlkOk F.N (F.X i).env.scope scope own)
    (hg : Eg (F.blk scope) tg (own.map (·.2)) fg) (ht : Ets (F.blk scope) ifs nt ft) (he : Ee (F.blk scope) elt ne fe) (hyl : ∀ j, (F.X j).env.scope.names.lookup x = some .local)
    (hsw : ∀ j, swapsWith (.ListComp elt [⟨tg, iter, ifs, 0⟩] scope p) (some (.Name x p')) pos.line (F.X j).env = pure true) (hs : ∀ i x, foldedSetIterable iter (F.X i).env x = pure x := by intro _ _; rfl) :
    ∃ te, (∀ j, PS (F.X j) (.Assign [.Name x p'] (.ListComp elt [⟨tg, iter, ifs, 0⟩] scope p) pos) (tAsg te (gName i))) ∧
      SL F.K te (ni + 1000000 * (nt + ne)) (fun ρ R => fi ρ fun items => items.length < 1000000 ∧ lcF fg ft fe (blkE ρ (own.map (·.2))) items [] R) := by
  obtain ⟨wi, pi, si⟩ := hi
  obtain ⟨g, pg, sg⟩ := hg
  obtain ⟨tt, ptt, stt⟩ := ht
  obtain ⟨te, pte, ste⟩ := he
  exact ⟨_, fun i => ps_setLc (F.calm i) (by rw [F.eN]; exact F.nd) (by rw [F.eN]; exact hi') (hyl i) (hsw i) (pi i) (by rw [F.eN]; exact ok i) (fun s H c cl fp => pg (i, s, H, c, cl, fp)) (fun s H c cl fp => ptt (i, s, H, c, cl, fp)) (fun s H c cl fp => pte (i, s, H, c, cl, fp)) (hs i), sl_lc si sg stt ste⟩
theorem s_lc {i : Nat} (h : ∃ te, (∀ j, PS (F.X j) st (tAsg te (gName i))) ∧ SL F.K te n fl) : E1 F st n (fun ρ N => fl ρ fun ds => i < ρ.length ∧ N.nx (ρ.set i (.v (.d (.list ds))))) := by
  obtain ⟨te, pt, s⟩ := h
  exact ⟨_, pt, sw_of (se_l s)⟩
theorem s_lcOwn {i : Nat} (h : ∃ te, (∀ j, PS (F.X j) st (tAsg te (gName i))) ∧ SL F.K te n fl) : E1 F st n (fun ρ N => fl ρ fun ds => i < ρ.length ∧ N.nx (ρ.set i (.own ds))) := by
  obtain ⟨te, pt, s⟩ := h
  exact ⟨_, pt, so_of s⟩
end
/-- a, b = e -/
theorem s_unp {L : List Nat} (hg : Eg F tg L fg) (he : Ee F e n fe) (hs : ∀ j, swapsWithSole [tg] e pos.line (F.X j).env = pure false := by intro _; rfl) (hw : ∀ j, swappedStores [tg] e (F.X j).env = pure none := by intro _; rfl)
    (h1 : ∀ j, (assignEach [tg] (F.X j).env).map (·.2) = [assign tg (F.X j).env] := by intro _; rfl) :
    E1 F (.Assign [tg] e pos) n (fun ρ N => fe ρ fun y => fg y ρ N.nx) := by
  obtain ⟨t, pt, s⟩ := he
  obtain ⟨u, pu, su⟩ := hg
  exact ⟨_, fun j => ps_asg (pt j) (pu j) (hs j) (hw j) (h1 := h1 j), fun C σ ρ H N D hm G hf l => s C σ ρ H _ _ hm G hf fun v H1 y m l1 u1 t1 oy h1 => su (C.up m) σ ρ H1 v y _ _ (G.tr t1) oy h1 fun σ' ρ' G' x _ h2 => l.nx σ' ρ' H1 m l1 u1 G' ((G.ex t1).trans x) h2⟩
/-- two names stored at once -/
def asTwo (i j : Nat) (ρ : En) (Nx : En → Prop) : List Vl → Prop
  | [u, w] => (i < ρ.length ∧ j < ρ.length) ∧ Nx ((ρ.set i (.v u)).set j (.v w))
  | _ => False
/-- a, b = e1, e2 -/
theorem s_par {y : Str} {e2 : Expr} {px py pt pt2 : Pos} {kt k2 : Nat} {ff : FA} (i j : Nat) (hi : F.N[i]? = some x) (hj : F.N[j]? = some y) (hij : i ≠ j) (ha : Ea F [e, e2] n ff)
    (q : ∀ {k : F.I} {ta : TA}, PA (F.X k) [e, e2] ta → PS (F.X k) (.Assign [.Tuple [.Name x px, .Name y py] kt pt] (.Tuple [e, e2] k2 pt2) pos) (tPar i j ta)) :
    E1 F (.Assign [.Tuple [.Name x px, .Name y py] kt pt] (.Tuple [e, e2] k2 pt2) pos) n (fun ρ N => ff ρ (asTwo i j ρ N.nx)) := by
  obtain ⟨t, pt, s⟩ := ha
  refine ⟨_, fun k => q (pt k), fun C σ ρ H N D hm G hf l => s C σ ρ H _ _ hm G hf fun vs H1 xs m l1 u1 t1 oxs h1 => ?_⟩
  match xs, oxs, h1 with
  | [u, w], oxs, h1 =>
    obtain ⟨v1, v2, rfl, o1, o2⟩ := oxs.two
    obtain ⟨G', ex⟩ := (G.tr t1).set h1.1.1 o1
    obtain ⟨G'', ex'⟩ := G'.set (i := j) (by simpa using h1.1.2) (o2.mono ex)
    exact ⟨v1, v2, rfl, l.nx _ _ _ m l1 u1 G'' (((G.ex t1).trans ex).trans ex') h1.2⟩
theorem s_expr (he : Ee F e n fe) (hs : ∀ j, swapsWith e none pos.line (F.X j).env = pure false := by intro _; rfl) : E1 F (.Expr e pos) n (fun ρ N => fe ρ fun _ => N.nx ρ) := by
  obtain ⟨t, pt, s⟩ := he
  exact ⟨_, fun j => ps_expr (pt j) (hs j), fun C σ ρ H N D hm G hf l => s C σ ρ H _ _ hm G hf fun v H1 y m l1 u1 t1 oy h1 => l.nx σ ρ H1 m l1 u1 (G.tr t1) (G.ex t1) h1⟩
theorem s_pass : E1 F (.Pass pos) 0 (fun ρ N => N.nx ρ) := ⟨_, fun _ => ps_pass, fun C σ ρ H N D _ G h l => l.nx σ ρ H C.m (Nat.le_refl _) le0 G (Ex.refl _) h⟩
theorem s_break : E1 F (.Break pos) 0 (fun ρ N => N.bk ρ) := ⟨_, fun _ => ps_break, fun C σ ρ H N D _ G h l => l.bk σ ρ H C.m (Nat.le_refl _) le0 G (Ex.refl _) h⟩
theorem s_cont : E1 F (.Continue pos) 0 (fun ρ N => N.ct ρ) := ⟨_, fun _ => ps_continue, fun C σ ρ H N D _ G h l => l.ct σ ρ H C.m (Nat.le_refl _) le0 G (Ex.refl _) h⟩
/-- what is not reached -/
theorem s_never : E1 F st 0 (fun _ _ => False) := ⟨_, fun _ => ps_never, fun _ _ _ _ _ _ _ _ h _ => h.elim⟩
theorem s_ret (he : Ee F e n fe) : E1 F (.Return (some e) pos) n (fun ρ N => fe ρ N.rt) := by
  obtain ⟨t, pt, s⟩ := he
  exact ⟨_, fun j => ps_ret (pt j), fun C σ ρ H N D hm G hf l => s C σ ρ H _ _ hm G hf fun v H1 y m l1 u1 t1 oy h1 => l.rt v H1 y m l1 u1 t1.2 (G.tr t1).fr (oy.mono (mask_sub fun a h => .inl h)) h1⟩
theorem s_retN : E1 F (.Return none pos) 0 (fun _ N => N.rt (.d .none)) := ⟨_, fun _ => ps_retN, fun C σ ρ H N D _ G h l => l.rt .non H (.d .none) C.m (Nat.le_refl _) le0 G.si G.fr Rd.non h⟩
theorem s_if (hc : Et F c n ft) (ha : Es F a na f) (hb : Es F b nb g) : E1 F (.If c a b pos) (n + (na + nb)) (fun ρ N => ft ρ fun k => if k = true then f ρ N else g ρ N) := by
  obtain ⟨t, pt, s⟩ := hc
  obtain ⟨u, pu, su⟩ := ha
  obtain ⟨w, pw, sw⟩ := hb
  refine ⟨_, fun j => ps_if (pt j) (pu j) (pw j), fun C σ ρ H N D hm G hf l => s C σ ρ H _ _ (by omega) G hf fun k H1 m l1 u1 t1 h1 => ?_⟩
  cases k with
  | true => exact iteT (su (C.up m) σ ρ H1 N D (by show m + na ≤ lim; omega) (G.tr t1) (by simpa using h1) (l.go l1 (by omega) (G.ex t1)))
  | false => exact iteF (sw (C.up m) σ ρ H1 N D (by show m + nb ≤ lim; omega) (G.tr t1) (by simpa using h1) (l.go l1 (by omega) (G.ex t1)))
/-- what an own list takes -/
def asApp (i : Nat) (xs : List PyData) (ρ : En) (Nx : En → Prop) : Vl → Prop
  | .d d => xs.length < 1000000 ∧ Nx (ρ.set i (.own (xs ++ [d])))
  | _ => False
def ownAt (i : Nat) (ρ : En) (R : List PyData → Prop) : Prop := match ρ[i]? with
  | some (.own xs) => R xs
  | _ => False
theorem ownAt_of {i : Nat} {ρ : En} {R : List PyData → Prop} (h : ownAt i ρ R) : ∃ xs, ρ[i]? = some (.own xs) ∧ R xs := by
  unfold ownAt at h
  split at h
  · rename_i xs e
    exact ⟨xs, e, h⟩
  · exact h.elim
/-- xs.append(e), xs an own list -/
theorem s_app (i : Nat) {apos cpos : Pos} (hi : F.N[i]? = some x) (he : Ee F e n fe) (hv : ∀ j, Vis (F.X j).env.scope x)
    (q : ∀ {k : F.I} {t : TE}, PE (F.X k) (.Name x p) (tVar i) → PE (F.X k) e t → PS (F.X k) (.Expr (.Call (.Attribute (.Name x p) "append" apos) [e] [] cpos) pos) (tDrop (tBM (F.X k).K "list" rAppend (tVar i) (tCons t tNil))))
    (hd : (x == ("__debug__" : Str)) = false := by decide) (hcd : (x == ("__classdict__" : Str)) = false := by decide) :
    E1 F (.Expr (.Call (.Attribute (.Name x p) "append" apos) [e] [] cpos) pos) n (fun ρ N => ownAt i ρ fun xs => fe ρ (asApp i xs ρ N.nx)) := by
  obtain ⟨t, pt, s⟩ := he
  refine ⟨tDrop (tBM F.K "list" rAppend (tVar i) (tCons t tNil)), fun k => by have := q (k := k) (pe_var (by rw [F.eN]; exact hi) (hv k) hd hcd) (pt k); rw [F.eK k] at this; exact this, fun C σ ρ H N D hm G hf l => ?_⟩
  obtain ⟨xs, e0, hf'⟩ := ownAt_of hf
  obtain ⟨pp, vs, h1, h2, h3, h4, h5⟩ := G.ow i xs e0
  refine ⟨.ref pp, h1, .inl ⟨rfl, _, SqL.of h2⟩, s C σ ρ H _ _ hm G hf' fun v H1 y m l1 u1 t1 oy hy => ?_⟩
  match y, oy, hy with
  | .d d, oy, hy =>
    have G1 := G.tr t1
    obtain ⟨G2, ex⟩ := G1.put (vs := vs ++ [v]) (ds := xs ++ [d]) e0 h1 ((h3.mono (G.ex t1)).append (.cons oy .nil))
    exact ⟨pp, vs, v, rfl, rfl, t1.1 pp _ (fun s => h5 (G.ct.sb pp s)) h2, small_lt (by rw [h3.length]; exact hy.1), l.nx _ _ _ m l1 u1 G2 ((G.ex t1).trans ex) hy.2⟩

/-! ### loops -/
def loopF (fg : FG) (fb : FSt) (N : SEn) : List Vl → En → Prop
  | [], ρ => N.nx ρ
  | x :: xs, ρ => fg x ρ fun ρ1 => fb ρ1 { nx := loopF fg fb N xs, rt := N.rt, bk := N.nx, ct := loopF fg fb N xs }
/-- so many turns a loop with draws may have -/
abbrev big : Nat := 4611686018427387904
theorem s_for {L : List Nat} (hi : Ei F tg iter ni fi) (hg : Eg F tg L fg) (hb : Es F sts n f) (hs : ∀ j x, foldedSetIterable iter (F.X j).env x = pure x := by intro _ _; rfl) :
    E1 F (.For tg iter sts [] pos) (ni + big * n) (fun ρ N => fi ρ fun items => (n = 0 ∨ items.length ≤ big) ∧ loopF fg f N items ρ) := by
  obtain ⟨wi, pi, si⟩ := hi
  obtain ⟨g, pg, sg⟩ := hg
  obtain ⟨t, pt, s⟩ := hb
  refine ⟨_, fun i => ps_for (F.own i) (F.calm i) (pi i) (pg i) (pt i) (hs := hs i), fun C σ ρ H N D hm G hf l => si C σ ρ H _ _ (by omega) G hf fun J H1 items m1 l1 u1 t1 wok h1 => ?_⟩
  obtain ⟨hbig, h1⟩ := h1
  obtain ⟨Gd, Y, walk, hG, hY⟩ := wok
  have G1 := G.tr t1
  have tot : items.length * n ≤ big * n := by
    rcases hbig with z | z
    · subst z; simp
    · exact Nat.mul_le_mul_right n z
  refine for_it walk (fun i σ' H' => ∃ ρ' m, m1 ≤ m ∧ m ≤ m1 + i * n ∧ Good F.K (C.up m) σ' ρ' H' ∧ Ex (mq C σ ρ H1) (mq C σ' ρ' H') ∧ loopF fg f N (items.drop i) ρ') ⟨ρ, m1, Nat.le_refl _, by omega, G1, Ex.refl _, by simpa using h1⟩ ?_ ?_ ?_
  · rintro i σ' H' _ ⟨ρ', _, _, _, _, ex, _⟩
    exact hG H' (ex.trans mask_le)
  · rintro i x σ' H' H'' hi' ⟨ρ', m, lm, um, G', ex, hl⟩ y
    have hx : items[i]? = some items[i] := List.getElem?_eq_getElem hi'
    obtain ⟨it, e1, e2⟩ := hY i H' x H'' hi' (ex.trans mask_le) y
    rw [hx] at e1
    have e1 : items[i] = it := Option.some.inj e1
    rw [List.drop_eq_getElem_cons hi', e1] at hl
    have hstep : (i + 1) * n ≤ items.length * n := Nat.mul_le_mul_right n hi'
    rw [Nat.add_mul, Nat.one_mul] at hstep
    have step : Tr C.S (F.K.SI m) H' H'' ∧ VlOk F.K (mq C σ' ρ' H'') x it := by
      rcases e2 with ⟨rfl, o⟩ | ⟨T, o, n, rfl, ok⟩
      · exact ⟨Tr.refl G'.si, o.mono ex⟩
      · have tt := G'.new (o := o) n
        refine ⟨tt, ok.mono fun a u z => ?_⟩
        by_cases ea : a = T
        · subst ea
          rw [upd_same] at z
          cases z
          exact G'.mq_new n
        · rw [upd_ne ea] at z
          exact (G'.ex tt) a u (ex a u z)
    obtain ⟨t2, ox⟩ := step
    have G2 := G'.tr t2
    refine sg (C.up m) σ' ρ' H'' x it _ _ G2 ox hl fun σ2 ρ2 G3 x3 _ h3 => s (C.up m) σ2 ρ2 H'' _ _ (by show m + n ≤ lim; omega) G3 h3 ?_
    have exA : Ex (mq C σ ρ H1) (mq C σ2 ρ2 H'') := (ex.trans (G'.ex t2)).trans x3
    have up : ∀ {m4 : Nat}, m ≤ m4 → m4 ≤ m + n → m1 ≤ m4 ∧ m4 ≤ m1 + (i + 1) * n := fun a b => ⟨by omega, turn_up um b⟩
    exact ⟨fun σ4 ρ4 H4 m4 a b G4 x4 h4 => ⟨ρ4, m4, (up a b).1, (up a b).2, G4, exA.trans x4, h4⟩, fun σ4 ρ4 H4 m4 a b G4 x4 h4 => l.nx σ4 ρ4 H4 m4 (Nat.le_trans (Nat.le_trans l1 lm) a) (by have : m4 ≤ m + n := b; omega) G4 (((G.ex t1).trans exA).trans x4) h4,
      fun σ4 ρ4 H4 m4 a b G4 x4 h4 => ⟨ρ4, m4, (up a b).1, (up a b).2, G4, exA.trans x4, h4⟩, fun v H4 y m4 a b => l.rt v H4 y m4 (Nat.le_trans (Nat.le_trans l1 lm) a) (by have : m4 ≤ m + n := b; omega)⟩
  · rintro σ' H' ⟨ρ', m, lm, um, G', ex, hl⟩
    rw [List.drop_length] at hl
    exact l.nx σ' ρ' H' m (Nat.le_trans l1 lm) (by omega) G' ((G.ex t1).trans ex) hl
/-- while, so many turns at most -/
def whileF (ft : FT) (fb : FSt) (N : SEn) : Nat → En → Prop
  | 0, _ => False
  | n + 1, ρ => ft ρ fun k => if k = true then fb ρ { nx := whileF ft fb N n, rt := N.rt, bk := N.nx, ct := whileF ft fb N n } else N.nx ρ
theorem s_while (hc : Et F c nt ft) (hb : Es F sts n f) : E1 F (.While c sts [] pos) (big * (nt + n)) (fun ρ N => ∃ k, (nt + n = 0 ∨ k ≤ big) ∧ whileF ft f N k ρ) := by
  obtain ⟨t, pt, s⟩ := hc
  obtain ⟨u, pu, su⟩ := hb
  refine ⟨_, fun i => ps_while (F.own i) (pt i) (pu i), fun C σ ρ H N D hm G hf l => ?_⟩
  obtain ⟨k, hbig, hn⟩ := hf
  have tot : k * (nt + n) ≤ big * (nt + n) := by
    rcases hbig with z | z
    · rw [z]; simp
    · exact Nat.mul_le_mul_right _ z
  refine ⟨fun j σ' H' => ∃ ρ' m, C.m ≤ m ∧ m + j * (nt + n) ≤ C.m + big * (nt + n) ∧ Good F.K (C.up m) σ' ρ' H' ∧ Ex (mq C σ ρ H) (mq C σ' ρ' H') ∧ whileF ft f N j ρ', ⟨k, ρ, C.m, Nat.le_refl _, by omega, G, Ex.refl _, hn⟩, ?_⟩
  rintro j σ' H' ⟨ρ', m, lm, um, G', ex, hw⟩
  match j, um, hw with
  | j + 1, um, hw =>
    rw [Nat.add_mul, Nat.one_mul] at um
    refine s (C.up m) σ' ρ' H' _ _ (by show m + nt ≤ lim; omega) G' hw fun k H1 m2 l2 u2 t1 h1 => ?_
    have l2' : m ≤ m2 := l2
    have u2' : m2 ≤ m + nt := u2
    have ex1 := ex.trans (G'.ex t1)
    cases k with
    | false => exact iteF (l.nx σ' ρ' H1 m2 (by omega) (by omega) (G'.tr t1) ex1 (by simpa using h1))
    | true =>
      refine iteT ⟨fun σ2 H2 => ∃ ρ2 m, C.m ≤ m ∧ m + j * (nt + n) ≤ C.m + big * (nt + n) ∧ Good F.K (C.up m) σ2 ρ2 H2 ∧ Ex (mq C σ ρ H) (mq C σ2 ρ2 H2) ∧ whileF ft f N j ρ2, fun σ2 H2 q => ⟨j, Nat.lt_succ_self _, q⟩, ?_⟩
      have h1' : f ρ' { nx := whileF ft f N j, rt := N.rt, bk := N.nx, ct := whileF ft f N j } := by simpa using h1
      exact su (C.up m2) σ' ρ' H1 _ _ (by show m2 + n ≤ lim; omega) (G'.tr t1) h1' ⟨fun σ4 ρ4 H4 m4 a b G4 x4 h4 => ⟨ρ4, m4, by have : m2 ≤ m4 := a; omega, by have : m4 ≤ m2 + n := b; omega, G4, ex1.trans x4, h4⟩,
        fun σ4 ρ4 H4 m4 a b G4 x4 h4 => l.nx σ4 ρ4 H4 m4 (by have : m2 ≤ m4 := a; omega) (by have : m4 ≤ m2 + n := b; omega) G4 (ex1.trans x4) h4, fun σ4 ρ4 H4 m4 a b G4 x4 h4 => ⟨ρ4, m4, by have : m2 ≤ m4 := a; omega, by have : m4 ≤ m2 + n := b; omega, G4, ex1.trans x4, h4⟩,
        fun v H4 y m4 a b => l.rt v H4 y m4 (by have : m2 ≤ m4 := a; omega) (by have : m4 ≤ m2 + n := b; omega)⟩
end

/-! ### defs -/
theorem VlA.of_start {K : Kx} {M : Hp} : ∀ {vs : List V} {xs : List Vl} (n : Nat), VlA K M vs xs → ∀ (i : Nat) (x : Vl), (xs.map Sl.v ++ List.replicate n Sl.non)[i]? = some (.v x) → ∃ v, (vs.map some ++ List.replicate n none)[i]? = some (some v) ∧ VlOk K M v x
  | _, _, n, .nil, i, x, h => by
    simp only [List.map_nil, List.nil_append] at h
    rw [List.getElem?_replicate] at h
    split at h
    · exact absurd (Option.some.inj h) (fun z => nomatch z)
    · cases h
  | _, _, n, .cons o r, 0, x, h => by simp at h; subst h; exact ⟨_, by simp, o⟩
  | _, _, n, .cons o r, i + 1, x, h => by
    obtain ⟨v, a, b⟩ := VlA.of_start n r i x (by simpa using h)
    exact ⟨v, by simpa using a, b⟩
theorem no_own {xs : List Vl} {n i : Nat} {ys : List PyData} (h : (xs.map Sl.v ++ List.replicate n Sl.non)[i]? = some (.own ys)) : False := by
  rw [List.getElem?_append] at h
  split at h
  · rw [List.getElem?_map] at h
    cases q : xs[i]? with
    | none => rw [q] at h; cases h
    | some z => rw [q] at h; cases h
  · rw [List.getElem?_replicate] at h
    split at h <;> cases h
/-- the context of a def's body -/
def fmOf (P : Program) (w : World) (K : Kx) (mg : Str → Option Value) (base : Heap) (N : List Str) (qual : Str) (st : Stmt) (fa : Addr) (cd : Value) (A : Around) (outer : List PySem.Env) (s : Shared) (H : Hp) (E : XK) (k : Nat) (nd : N.Nodup)
    (hr : Room k (A.deeper (envOfC qual (defScope st) s.heap.objs.size fa cd))) (hg : A.guards = some []) : Fm :=
  Fm.one (cxOf CX0 P w K mg base N qual (defScope st) fa cd A outer s H E).nox K rfl k nd rfl hr hg PassesOwn.never
/-- a def: its body's reading from the arguments shows the promise f -/
theorem fn_make {P : Program} {w : World} {K : Kx} {mg : Str → Option Value} {base : Heap} {k cf : Nat} {fa : Addr} {x qual : Str} {st : Stmt} {fd : FuncData} {N ps : List Str} {f : FS} (Fu : Fun K x qual st fa fd) (S : FnScope N ps (defScope st)) (hN : ps.length ≤ N.length)
    (body : ∀ (cd : Value) (A : Around) (outer : List PySem.Env) (s : Shared) (H : Hp) (E : XK) (hr : Room k (A.deeper (envOfC qual (defScope st) s.heap.objs.size fa cd))) (hg : A.guards = some []),
      ∃ c g, c ≤ cf ∧ Es (fmOf P w K mg base N qual st fa cd A outer s H E k S.nd hr hg) (defBody st) c g ∧
        ∀ (xs : List Vl) (R : Vl → Prop), xs.length = ps.length → f xs R → g (xs.map Sl.v ++ List.replicate (N.length - ps.length) Sl.non) { nx := fun _ => R (.d .none), rt := R }) :
    FnG P w K mg base CX0 (k + 1) fa fd ps (spF K ps.length cf f) := by
  refine FnG.make Fu S (fun vs H Q E h => ?_) fun cd A outer s H vs Q E hg hr h => ?_
  · obtain ⟨B, m, xs, R, _, _, _, _, hl, r, _⟩ := h
    rw [r.length, hl]
  · obtain ⟨B, m, xs, R, ct, si, hm, bd, hl, r, hf, kk⟩ := h
    obtain ⟨c, g, hc, ⟨t, pt, s1⟩, hgg⟩ := body cd A outer s H E hr hg
    refine ⟨t, PSs.nox (pt ()), ?_⟩
    have hvl : vs.length = ps.length := by rw [r.length, hl]
    have est : L2.start N vs = vs.map some ++ List.replicate (N.length - ps.length) none := by unfold L2.start; rw [hvl]
    rw [est]
    have m0 : ∀ a, bar B (vs.map some ++ List.replicate (N.length - ps.length) none) (xs.map Sl.v ++ List.replicate (N.length - ps.length) Sl.non) a → B a := fun a z => by
      rcases z with z | ⟨i, ys, z, _⟩
      · exact z
      · exact (no_own z).elim
    refine s1 ⟨B, K.S, H, m⟩ _ (xs.map Sl.v ++ List.replicate (N.length - ps.length) Sl.non) H _ _ (by show m + c ≤ lim; omega) ⟨rfl, ct, si, bd, fun a o _ e => e, by simp [r.length], fun i y e => ?_, fun i ys e => (no_own e).elim, fun i j ys zs p e => (no_own e).elim⟩ (hgg xs R hl hf) ⟨?_, ?_, ?_, ?_⟩
    · obtain ⟨v, a, b⟩ := VlA.of_start _ r i y e
      exact ⟨v, a, b.mono (mask_sub m0)⟩
    · exact fun σ' ρ' H' m' a b G' _ h' => kk .non H' (.d .none) m' a (by have : m' ≤ m + c := b; omega) ⟨fun a o n e => G'.fr a o n e, G'.si⟩ Rd.non h'
    · exact fun _ _ _ _ _ _ _ _ z => z.elim
    · exact fun _ _ _ _ _ _ _ _ z => z.elim
    · exact fun v H' y m' a b si' fr' o h' => kk v H' y m' a (by have : m' ≤ m + c := b; omega) ⟨fr', si'⟩ o h'
end Px

set_option Elab.async false
set_option linter.all false
set_option maxRecDepth 100000
set_option maxHeartbeats 2000000
/-! Px: defs by their names; calls of them, with keywords too; short words. -/
namespace Px
open PySem PySem.Spec PyProof.Rows L2

/-- a def of the text that keeps its promise -/
structure Df (P : Program) (w : World) (K : Kx) (mg : Str → Option Value) (base : Heap) (x : Str) (st : Stmt) (ps : List Str) (k cf : Nat) (fs : FS) : Prop where
  ex : ∃ fa fd, FnG P w K mg base CX0 k fa fd ps (spF K ps.length cf fs) ∧ mg x = some (.ref fa) ∧ Fun K x x st fa fd
theorem Df.weak {P : Program} {w : World} {K : Kx} {mg : Str → Option Value} {base : Heap} {x : Str} {st : Stmt} {ps : List Str} {k cf : Nat} {fs fs' : FS} (D : Df P w K mg base x st ps k cf fs) (h : ∀ xs R, fs' xs R → fs xs R) : Df P w K mg base x st ps k cf fs' := by
  obtain ⟨fa, fd, F, hm, Fu⟩ := D
  refine ⟨fa, fd, F.weak fun vs H Q E q => ?_, hm, Fu⟩
  obtain ⟨B, m, xs, R, a, b, b2, c, d, e, f, g⟩ := q
  exact ⟨B, m, xs, R, a, b, b2, c, d, e, h _ _ f, g⟩
/-- the positional binding, by computing -/
def BindP (x : Str) (st : Stmt) (ps : List Str) : Prop := ∀ (kV doc pm : Value) (an : Option Addr) (cd ct : Value) (us : List Value), us.length = ps.length →
  bindArgs (PySem.W.fnOf x x (defArgs st) (defBody st) (defScope st) .none kV doc pm an cd ct) ⟨us, []⟩ = pure (ps.zip us)
/-- a binding with keywords ks behind n positional values: g puts them in the parameters' order -/
def BindK (x : Str) (st : Stmt) (ps ks : List Str) (n : Nat) (g : List Value → List Value → List Value) : Prop := ∀ (kV doc pm : Value) (an : Option Addr) (cd ct : Value) (us ws : List Value), us.length = n → ws.length = ks.length →
  bindArgs (PySem.W.fnOf x x (defArgs st) (defBody st) (defScope st) .none kV doc pm an cd ct) ⟨us, ks.zip ws⟩ = pure (ps.zip (g us ws))
section
variable {F : Fm} {e : Expr} {es : List Expr} {kws : List Keyword} {pos p : Pos} {x : Str} {st : Stmt} {ps ks : List Str} {fs : FS} {ff fk : FA} {k n cf nf nk : Nat}
theorem e_def (D : Df F.P F.w F.K F.mg F.base x st ps k cf fs) (hb : BindP x st ps) (ha : Ea F (e :: es) nf ff) (hk : k ≤ F.k := by exact Nat.le_of_ble_eq_true rfl) (hg : ∀ i, Gl (F.X i) x := by intro _; rfl) (hdb : (x == ("__debug__" : Str)) = false := by decide)
    (he : ∀ i, starEach (e :: es) (F.X i).env = (false, eval e (F.X i).env) :: starEach es (F.X i).env := by intro _; rfl) (hpl : ∀ i, (backTo pos (starEach es (F.X i).env)).any (·.1) = false := by intro _; rfl) :
    Ee F (.Call (.Name x p) (e :: es) [] pos) (nf + cf) (fun ρ R => ff ρ fun xs => xs.length = ps.length ∧ fs xs R) := by
  obtain ⟨fa, fd, Fn, hm, Fu⟩ := D
  exact e_call Fn hk hm Fu.kp (Fu.binds hb) ha hg hdb he hpl
theorem e_def0 (D : Df F.P F.w F.K F.mg F.base x st [] k cf fs) (hb : BindP x st []) (hk : k ≤ F.k := by exact Nat.le_of_ble_eq_true rfl) (hg : ∀ i, Gl (F.X i) x := by intro _; rfl) (hdb : (x == ("__debug__" : Str)) = false := by decide) : Ee F (.Call (.Name x p) [] [] pos) cf (fun _ R => fs [] R) := by
  obtain ⟨fa, fd, Fn, hm, Fu⟩ := D
  exact e_call0 Fn hk hm Fu.kp (Fu.binds hb) hg hdb

/-- keywords' values -/
structure Ek (F : Fm) (kws : List Keyword) (c : Nat) (f : FA) : Prop where
  ex : ∃ t, (∀ i, PK (F.X i) kws t) ∧ SA F.K t c f
theorem k_nil : Ek F [] 0 (fun _ R => R []) := ⟨_, fun _ => pk_nil, fun C _ _ H _ _ _ G hf k => k [] H [] C.m (Nat.le_refl _) le0 (Tr.refl G.si) .nil hf⟩
theorem k_cons {fa : FE} {f : FA} {nm : Option Str} {kp : Pos} {na nb : Nat} (h : Ee F e na fa) (hr : Ek F kws nb f) : Ek F (⟨nm, e, kp⟩ :: kws) (na + nb) (fun ρ R => fa ρ fun x => f ρ fun xs => R (x :: xs)) := by
  obtain ⟨t, pt, st⟩ := h
  obtain ⟨u, pu, su⟩ := hr
  exact ⟨_, fun i => pk_cons (pt i) (pu i), fun C σ ρ H R Q hm G hf k => st C σ ρ H _ _ (by omega) G hf fun v H1 x m1 l1 u1 t1 ox h1 => su (C.up m1) σ ρ H1 _ _ (by show m1 + nb ≤ lim; omega) (G.tr t1) h1 fun vs H2 xs m2 l2 u2 t2 oxs h2 =>
    k _ H2 _ m2 (Nat.le_trans l1 l2) (by have : m2 ≤ m1 + nb := u2; omega) (t1.trans t2) (.cons (ox.mono ((G.tr t1).ex t2)) oxs) h2⟩
/-- a choice of values by numbers: the positional ones, then the keywords' -/
def pick {α : Type} (d : α) (is : List Nat) (us ws : List α) : List α := is.map fun i => (us ++ ws).getD i d
theorem pick_rel {is : List Nat} {vs : List V} {us : List Value} {zs : List V} {ws : List Value} (r : Vals vs us) (q : Vals zs ws) : Vals (pick .non is vs zs) (pick .none is us ws) := by
  have rq := r.append q
  unfold pick
  induction is with
  | nil => exact .nil
  | cons i is ih =>
    refine .cons ?_ ih
    show L2.RelV ((vs ++ zs).getD i V.non) ((us ++ ws).getD i Value.none)
    rw [List.getD_eq_getElem?_getD, List.getD_eq_getElem?_getD]
    cases z : (vs ++ zs)[i]? with
    | none => rw [rq.none_of z]; rfl
    | some v =>
      obtain ⟨u, h1, h2⟩ := rq.get z
      rw [h1]
      exact h2
theorem VlA.append {K : Kx} {M : Hp} : ∀ {vs ws : List V} {xs ys : List Vl}, VlA K M vs xs → VlA K M ws ys → VlA K M (vs ++ ws) (xs ++ ys)
  | _, _, _, _, .nil, s => s
  | _, _, _, _, .cons h r, s => .cons h (VlA.append r s)
theorem pick_ok {K : Kx} {M : Hp} {is : List Nat} {vs zs : List V} {xs ys : List Vl} (r : VlA K M vs xs) (q : VlA K M zs ys) : VlA K M (pick .non is vs zs) (pick (.d .none) is xs ys) := by
  have rq := r.append q
  unfold pick
  induction is with
  | nil => exact .nil
  | cons i is ih =>
    refine .cons ?_ ih
    show VlOk K M ((vs ++ zs).getD i V.non) ((xs ++ ys).getD i (Vl.d PyData.none))
    rw [List.getD_eq_getElem?_getD, List.getD_eq_getElem?_getD]
    cases z : (xs ++ ys)[i]? with
    | none =>
      have h1 : (xs ++ ys).length ≤ i := List.getElem?_eq_none_iff.mp z
      rw [List.getElem?_eq_none (by rw [rq.length]; exact h1)]
      exact Rd.non
    | some x =>
      obtain ⟨v, h1, h2⟩ := rq.get z
      rw [h1]
      exact h2
theorem peG_callK0 {X : Cx} {CX : CXT} {f : Addr} {fd : FuncData} {sp : Sp} {E : XK} {tk : TA} {g : List Value → List Value → List Value} {gV : List V → List V → List V} (F : FnG X.prog X.w X.K X.mg X.base CX k f fd ps sp) (hg : X.A.guards = some []) (hr : Room k X.A)
    (hx : Passes CX X E) (gl : Gl X x) (hm : X.mg x = some (.ref f)) (hk : PySem.W.keepIn X.K (.ref f) = true) (hb : KBinds X.K fd ps ks g gV) (hkw : PK X kws tk)
    (hall : (backToKw pos (keywordEach kws X.env)).all (·.1.isSome) = true := by rfl) (hks : (backToKw pos (keywordEach kws X.env)).filterMap (·.1) = ks := by rfl) (hdb : (x == ("__debug__" : Str)) = false := by decide)
    (hpl : ((backTo pos (starEach [] X.env)).any (·.1) || (backToKw pos (keywordEach kws X.env)).any (·.1.isNone)) = false := by rfl) : PE X (.Call (.Name x p) [] kws pos) (tCallK sp gV E tNil tk) := by
  refine ⟨fun pins s σ H Q I h => wpAny_Call_Name_kw (ld_glob I gl hm ?_ hdb)⟩
  refine PySem.W.callWith_KW0 (h₀ := X.base) (first := []) I.ok.mod.kin hk hall ?_ hpl
  refine thn (hkw.run pos pins s σ H _ I h) fun ws s2 ⟨zs, H2, I2, rz, q2⟩ => ⟨I2.kIn, ?_⟩
  rw [hks]
  exact goG F hg hr hx I2 (zs := g [] ws) (fun hl => hb.to s2 [] ws I2.kIn hl) (hb.rel .nil rz) q2
/-- .. where just so many are given -/
def pickN {α : Type} (n m : Nat) (d : α) (is : List Nat) (us ws : List α) : List α := if us.length = n ∧ ws.length = m then pick d is us ws else []
theorem kb_of {K : Kx} {fa : Addr} {fd : FuncData} {is : List Nat} (Fu : Fun K x x st fa fd) (hp : ps ≠ []) (hb : BindK x st ps ks n (pick .none is)) :
    KBinds K fd ps ks (pickN n ks.length .none is) (pickN n ks.length .non is) := by
  refine ⟨fun s us ws _ hl => ?_, fun {vs us zs ws} r q => ?_⟩
  · by_cases z : us.length = n ∧ ws.length = ks.length
    · obtain ⟨oc, od, kV, doc, pm, an, cd, ct, osl, rfl, lk, hcd⟩ := Fu.ex
      unfold pickN
      rw [if_pos z]
      exact .of_eq (hb kV doc pm an cd ct us ws z.1 z.2)
    · unfold pickN at hl
      rw [if_neg z] at hl
      exact absurd (List.length_eq_zero_iff.mp hl.symm) hp
  · unfold pickN
    rw [r.length, q.length]
    by_cases z : us.length = n ∧ ws.length = ks.length
    · rw [if_pos z, if_pos z]
      exact pick_rel r q
    · rw [if_neg z, if_neg z]
      exact .nil
/-- f(e, .., k = v, ..) -/
theorem e_defK (is : List Nat) (ks : List Str) (n : Nat) (D : Df F.P F.w F.K F.mg F.base x st ps k cf fs) (hp : ps ≠ []) (hb : BindK x st ps ks n (pick .none is)) (ha : Ea F (e :: es) nf ff) (hw : Ek F kws nk fk) (hk : k ≤ F.k := by exact Nat.le_of_ble_eq_true rfl) (hg : ∀ i, Gl (F.X i) x := by intro _; rfl)
    (hall : ∀ i, (backToKw pos (keywordEach kws (F.X i).env)).all (·.1.isSome) = true := by intro _; rfl) (hks : ∀ i, (backToKw pos (keywordEach kws (F.X i).env)).filterMap (·.1) = ks := by intro _; rfl) (hdb : (x == ("__debug__" : Str)) = false := by decide)
    (he : ∀ i, starEach (e :: es) (F.X i).env = (false, eval e (F.X i).env) :: starEach es (F.X i).env := by intro _; rfl)
    (hpl : ∀ i, ((backTo pos (starEach (e :: es) (F.X i).env)).any (·.1) || (backToKw pos (keywordEach kws (F.X i).env)).any (·.1.isNone)) = false := by intro _; rfl) :
    Ee F (.Call (.Name x p) (e :: es) kws pos) (nf + nk + cf) (fun ρ R => ff ρ fun xs => fk ρ fun ys => (xs.length = n ∧ ys.length = ks.length) ∧ (pick (.d .none) is xs ys).length = ps.length ∧ fs (pick (.d .none) is xs ys) R) := by
  obtain ⟨fa, fd, Fn, hm, Fu⟩ := D
  obtain ⟨t, pt, st⟩ := ha
  obtain ⟨u, pu, su⟩ := hw
  refine ⟨tCallK (spF F.K ps.length cf fs) (pickN n ks.length .non is) E0 t u, fun i => ?_, fun C σ ρ H R Q hm G hf kk => st C σ ρ H _ _ (by omega) G hf fun vs H1 xs m1 l1 u1 t1 oxs h1 => su (C.up m1) σ ρ H1 _ _ (by show m1 + nk ≤ lim; omega) (G.tr t1) h1 fun ws H2 ys m2 l2 u2 t2 oys h2 => ?_⟩
  · have q1 := F.eK i
    have q2 := F.eM i
    have q3 := F.eP i
    have q4 := F.eW i
    have q5 := F.eB i
    exact peG_callK (by rw [q1, q2, q3, q4, q5]; exact Fn) (F.gu i) ((F.room i).mono hk) pass0 (hg i) (by rw [q2]; exact hm) (by rw [q1]; exact Fu.kp) (by rw [q1]; exact kb_of Fu hp hb) (pt i) (pu i) (hall i) (hks i) hdb (he i) (hpl i)
  · have G2 := (G.tr t1).tr t2
    have oxs' := oxs.mono ((G.tr t1).ex t2)
    have e : pickN n ks.length V.non is vs ws = pick .non is vs ws := by unfold pickN; rw [if_pos ⟨by rw [oxs.length]; exact h2.1.1, by rw [oys.length]; exact h2.1.2⟩]
    show spF F.K ps.length cf fs (pickN n ks.length V.non is vs ws) H2 Q E0
    rw [e]
    have l2' : m1 ≤ m2 := l2
    have u2' : m2 ≤ m1 + nk := u2
    exact sp_ok (C := C.up m2) (by show m2 + cf ≤ lim; omega) G2 (pick_ok oxs' oys) h2.2 fun v H' z m3 l3 u3 t3 oz hz => kk v H' z m3 (by have : m2 ≤ m3 := l3; omega) (by have : m3 ≤ m2 + cf := u3; omega) ((t1.trans t2).trans t3) oz hz
/-- f(k = v, ..) -/
theorem e_defK0 (is : List Nat) (ks : List Str) (D : Df F.P F.w F.K F.mg F.base x st ps k cf fs) (hp : ps ≠ []) (hb : BindK x st ps ks 0 (pick .none is)) (hw : Ek F kws nk fk) (hk : k ≤ F.k := by exact Nat.le_of_ble_eq_true rfl) (hg : ∀ i, Gl (F.X i) x := by intro _; rfl)
    (hall : ∀ i, (backToKw pos (keywordEach kws (F.X i).env)).all (·.1.isSome) = true := by intro _; rfl) (hks : ∀ i, (backToKw pos (keywordEach kws (F.X i).env)).filterMap (·.1) = ks := by intro _; rfl) (hdb : (x == ("__debug__" : Str)) = false := by decide)
    (hpl : ∀ i, ((backTo pos (starEach [] (F.X i).env)).any (·.1) || (backToKw pos (keywordEach kws (F.X i).env)).any (·.1.isNone)) = false := by intro _; rfl) :
    Ee F (.Call (.Name x p) [] kws pos) (nk + cf) (fun ρ R => fk ρ fun ys => ys.length = ks.length ∧ (pick (.d .none) is [] ys).length = ps.length ∧ fs (pick (.d .none) is [] ys) R) := by
  obtain ⟨fa, fd, Fn, hm, Fu⟩ := D
  obtain ⟨u, pu, su⟩ := hw
  refine ⟨tCallK (spF F.K ps.length cf fs) (pickN 0 ks.length .non is) E0 tNil u, fun i => ?_, fun C σ ρ H R Q hm G hf kk => su C σ ρ H _ _ (by omega) G hf fun ws H2 ys m2 l2 u2 t2 oys h2 => ?_⟩
  · have q1 := F.eK i
    have q2 := F.eM i
    have q3 := F.eP i
    have q4 := F.eW i
    have q5 := F.eB i
    exact peG_callK0 (by rw [q1, q2, q3, q4, q5]; exact Fn) (F.gu i) ((F.room i).mono hk) pass0 (hg i) (by rw [q2]; exact hm) (by rw [q1]; exact Fu.kp) (by rw [q1]; exact kb_of Fu hp hb) (pu i) (hall i) (hks i) hdb (hpl i)
  · have e : pickN 0 ks.length V.non is [] ws = pick .non is [] ws := by unfold pickN; rw [if_pos ⟨rfl, by rw [oys.length]; exact h2.1⟩]
    show spF F.K ps.length cf fs (pickN 0 ks.length V.non is [] ws) H2 Q E0
    rw [e]
    exact sp_ok (C := C.up m2) (by show m2 + cf ≤ lim; omega) (G.tr t2) (pick_ok .nil oys) h2.2 fun v H' z m3 l3 u3 t3 oz hz => kk v H' z m3 (Nat.le_trans l2 l3) (by have : m3 ≤ m2 + cf := u3; omega) (t2.trans t3) oz hz
end

/-! ### short words -/
section
variable {F : Fm} {p : Pos} {x : Str}
/-- a name by its slot -/
theorem nm (i : Nat) (hN : F.N[i]? = some x := by rfl) (hv : ∀ j, Vis (F.X j).env.scope x := by intro _; first | exact .inl rfl | exact .inr (.inl rfl) | exact .inr (.inr rfl)) (hd : (x == ("__debug__" : Str)) = false := by decide)
    (hcd : (x == ("__classdict__" : Str)) = false := by decide) : Ee F (.Name x p) 0 (fun ρ R => rd ρ i R) := e_var i hN hv hd hcd
/-- a name as a target -/
theorem tn (i : Nat) (hi : F.N[i]? = some x := by rfl) (hx : ∀ j, Loc (F.X j).env.scope x := by intro _; first | exact .inl rfl | exact .inr rfl)
    (hf : ∀ j, (F.X j).fn x = true ∨ (F.X j).env.scope.names.lookup x = some .local := by intro _; first | exact .inl rfl | exact .inr rfl) : Eg F (.Name x p) [i] (gNm i) := g_name i hi hx hf
end
end Px

set_option Elab.async false
set_option linter.all false
set_option maxRecDepth 100000
set_option maxHeartbeats 2000000
/-! Px: kinds of values, constants, walks over lists and tuples alike, slices, own lists read. -/
namespace Px
open PySem PySem.Spec PyProof.Rows L2

def tyOf : PyData → String
  | .none => "NoneType"
  | .bool _ => "bool"
  | .int _ => "int"
  | .str _ => "str"
  | .list _ => "list"
  | .tuple _ => "tuple"
  | .dict _ => "dict"
section
variable {F : Fm} {K : Kx} {e a b : Expr} {es : List Expr} {p pos : Pos} {x : Str} {fe fa fb : FE} {n nb nl nu : Nat}
def rTy (K : Fg) : List V → Hp → VK → Prop := fun xs H Q => ∃ x d, xs = [x] ∧ Dp K H x d ∧ Q (.ty (tyOf d)) H
theorem call_ty {X : Cx} : CallR X (.type "type") (rTy X.K) := by
  intro pins s σ H xs us Q I r h
  obtain ⟨x, d, rfl, hd, q⟩ := h
  cases r with
  | cons rx rr =>
    cases rr
    have fin : ∀ T : String, tyOf d = T → EP X pins σ Q (.type T) s := fun T e => ⟨.ty T, H, I, rfl, by rw [← e]; exact q⟩
    cases hd with
    | non => cases (show _ = Value.none from rx); exact call_type_of (PySem.typeIs_none _) (by decide +kernel) (fin _ rfl)
    | bl b => cases (show _ = Value.bool b from rx); exact call_type_of (PySem.typeIs_bool _ _) (by decide +kernel) (fin _ rfl)
    | int i =>
      obtain ⟨t, rfl⟩ := (show ∃ t, _ = Value.int i t from rx)
      exact call_type_of (PySem.typeIs_int _ _ _) (by decide +kernel) (fin _ rfl)
    | str z =>
      obtain ⟨t, rfl⟩ := (show ∃ t, _ = Value.str z t from rx)
      exact call_type_of (PySem.typeIs_str _ _ _) (by decide +kernel) (fin _ rfl)
    | @lst a xs ds h1 h2 =>
      cases (show _ = Value.ref a from rx)
      obtain ⟨its, rv, p, _⟩ := I.list h1
      exact call_type_of p.isList.typeIs (by decide +kernel) (fin _ rfl)
    | @tup a xs ds h1 h2 =>
      cases (show _ = Value.ref a from rx)
      obtain ⟨its, rv, p, _⟩ := I.tuple h1
      exact call_type_of p.typeIs (by decide +kernel) (fin _ rfl)
theorem cTy (i) : CallR (F.X i) (.type "type") (rTy F.K) := by
  have h := call_ty (X := F.X i)
  rw [F.eK i] at h
  exact h
def gTy : GC
  | [.d x], R => R (.o (.ty (tyOf x)))
  | _, _ => False
theorem sTy : SC K (rTy K) gTy := fun C σ ρ H vs xs R Q G o h k => by
  match xs, h, o with
  | [.d d], h, o =>
    obtain ⟨v, rfl, o1⟩ := o.one
    exact ⟨v, d, rfl, (Rd.mono mask_le o1).dp, k _ H (.o (.ty (tyOf d))) (Tr.refl G.si) rfl h⟩
theorem e_ty (T : String) (hm : F.mg x = none) (hv : bootBuiltins x = some (.type T)) (hg : ∀ i, Gl (F.X i) x := by intro _; rfl) (hn : x ≠ "__name__" := by decide) (hd : (x == ("__debug__" : Str)) = false := by decide) :
    Ee F (.Name x p) 0 (fun _ R => R (.o (.ty T))) := ⟨_, fun i => pe_bltn (v := .ty T) (hg i) (by rw [F.eM]; exact hm) hv rfl hn hd, fun C _ _ H _ _ _ G hr k => k _ H (.o (.ty T)) C.m (Nat.le_refl _) le0 (Tr.refl G.si) rfl hr⟩
def rIsTy : R2 := fun x y H Q => ∃ a b, x = .ty a ∧ y = .ty b ∧ Q (.bl (decide (a = b))) H
theorem oIsTy (i) : OpR (F.X i) (compareOp .Is) rIsTy := by
  intro pins s σ H x y v u Q I rx ry h
  obtain ⟨a, b, rfl, rfl, q⟩ := h
  cases (show v = Value.type a from rx)
  cases (show u = Value.type b from ry)
  by_cases e : a = b
  · subst e
    exact wpAny_is_self rfl ⟨.bl true, H, I, rfl, by simpa using q⟩
  · exact wpAny_is_other rfl (fun z => e (Value.type.inj z)) ⟨.bl false, H, I, rfl, by simpa [e] using q⟩
def fIsTy : G2
  | .o (.ty a), .o (.ty b), R => R (.d (.bool (decide (a = b))))
  | _, _, _ => False
theorem sIsTy : S2 K rIsTy fIsTy := fun C σ ρ H v w x y R Q G ox oy h k => by
  match x, y, h, ox, oy with
  | .o (.ty a), .o (.ty b), h, ox, oy => exact ⟨a, b, ox, oy, G.fin k (fun _ => .bl _) h⟩

/-- a constant of the module, by what it reads as -/
structure Cn (K : Fg) (mg : Str → Option Value) (x : Str) (d : PyData) : Prop where
  ex : ∃ v u, mg x = some u ∧ RelV v u ∧ ∀ M, Rd K M v d
theorem e_con {d : PyData} (c : Cn F.K F.mg x d) (hg : ∀ i, Gl (F.X i) x := by intro _; rfl) (hd : (x == ("__debug__" : Str)) = false := by decide) : Ee F (.Name x p) 0 (fun _ R => R (.d d)) := by
  obtain ⟨v, u, h1, h2, h3⟩ := c
  exact e_glob h1 h2 h3 hg hd

/-- a list or a tuple, walked -/
def asS (R : List Vl → Prop) : Vl → Prop
  | .d (.list xs) => R (xs.map Vl.d)
  | .d (.tuple xs) => R (xs.map Vl.d)
  | _ => False
theorem PI.or {X : Cx} {tg : Expr} {t u : TI} (h : PI X tg e t) (h2 : PI X tg e u) : PI X tg e (fun σ H R => t σ H R ∨ u σ H R) := ⟨fun pins s σ H R I q => by
  rcases q with q | q
  · exact h.run pins s σ H R I q
  · exact h2.run pins s σ H R I q⟩
def iSeq (K : Fg) (tl : TE) : TI := fun σ H R => tl σ H fun x H1 => ∃ a, x = .ref a ∧ ((∃ xs, SqL K H1 a xs ∧ R (Itl K a) H1) ∨ ∃ xs, SqT K H1 a xs ∧ R (Itt K a) H1)
theorem pi_seq {X : Cx} {tg : Expr} {tl : TE} (hl : PE X e tl) : PI X tg e (iSeq X.K tl) := by
  refine ⟨fun pins s σ H R I h => thn (hl.run pins s σ H _ I h) fun v s1 ⟨x, H1, I1, r1, a, ex, q⟩ => ?_⟩
  subst ex
  cases r1
  have fp : ∀ c ∈ [s1.heap.objs.size], FpOk X pins H1 c := fun c hc => by
    rw [List.mem_singleton.mp hc]
    exact I1.fpOk (Nat.le_refl _) (I1.hok.fresh (Nat.le_refl _))
  rcases q with ⟨xs, h1, h2⟩ | ⟨xs, h1, h2⟩
  · obtain ⟨its, rv, pl, hz⟩ := I1.list h1
    exact wpAny_pyIter_list pl.isList ⟨_, _, _, _, H1, rfl, I1.kept (t' := s1.toks) fun c o e => Heap.get?_push_of_some _ e, turn_list a _, ⟨_, Heap.get?_push_size _ rfl, rfl, rfl⟩, fp, h2⟩
  · obtain ⟨its, rv, pl, hz⟩ := I1.tuple h1
    exact wpAny_pyIter_tuple (show s1.heap.IsTuple a its.toArray from pl) ⟨_, _, _, _, H1, rfl, I1.kept (t' := s1.toks) fun c o e => Heap.get?_push_of_some _ e, turn_tuple a _, ⟨_, Heap.get?_push_size _ rfl, rfl, rfl⟩, fp, h2⟩
theorem i_seq {tg : Expr} {f : FE} (h : Ee F e n f) : Ei F tg e n (fun ρ R => f ρ (asS R)) := by
  obtain ⟨t, pt, st⟩ := h
  refine ⟨iSeq F.K t, fun i => by have := pi_seq (tg := tg) (pt i); rw [F.eK i] at this; exact this, fun C σ ρ H R Q hm G hf k => st C σ ρ H _ _ hm G hf fun v H1 x m l u t1 ox h1 => ?_⟩
  match x, ox, h1 with
  | .d (.list xs), ox, h1 =>
    obtain ⟨a, vs, rfl, ha, ra⟩ := Rd.inv_list ox
    exact ⟨a, rfl, .inl ⟨vs, SqL.of (mask_le _ _ ha), k _ H1 _ m l u t1 (WOk.list ha ra) h1⟩⟩
  | .d (.tuple xs), ox, h1 =>
    obtain ⟨a, vs, rfl, ha, ra⟩ := Rd.inv_tuple ox
    exact ⟨a, rfl, .inr ⟨vs, Ex.sqt mask_le ha, k _ H1 _ m l u t1 (WOk.tup ha ra) h1⟩⟩

/-! ### own lists read without being given up -/
theorem e_ownIx (i : Nat) {p' : Pos} (hb : Ee F b nb fb) (hN : F.N[i]? = some x := by rfl) (hv : ∀ j, Vis (F.X j).env.scope x := by intro _; first | exact .inl rfl | exact .inr (.inl rfl)) (hs : PlainIx b := by intro _ _; rfl)
    (hd : (x == ("__debug__" : Str)) = false := by decide) (hcd : (x == ("__classdict__" : Str)) = false := by decide) :
    Ee F (.Subscript (.Name x p') b pos) nb (fun ρ R => ownAt i ρ fun xs => fb ρ fun y => fIx (.d (.list xs)) y R) := by
  obtain ⟨tb, pb, sb⟩ := hb
  refine ⟨tOp (rIx F.K) (tVar i) tb, fun j => pe_ix (oIx j) (pe_var (by rw [F.eN]; exact hN) (hv j) hd hcd) (pb j) hs, fun C σ ρ H R Q hm G hf k => ?_⟩
  obtain ⟨xs, e0, hf'⟩ := ownAt_of hf
  obtain ⟨q, vs, h1, h2, h3, h4, h5⟩ := G.ow i xs e0
  refine ⟨_, h1, sb C σ ρ H _ _ hm G hf' fun w H1 y m l u t1 oy hy => ?_⟩
  match y, oy, hy with
  | .d (.int n), oy, hy =>
    obtain ⟨d, e, hr⟩ := hy
    obtain ⟨z, e1, rz⟩ := (h3.mono (G.ex t1)).at e
    exact .inl ⟨q, vs, n, z, rfl, Rd.inv_int oy, SqL.of (t1.1 q _ (fun s => h5 (G.ct.sb q s)) h2), e1, k z H1 (.d d) m l u t1 rz hr⟩
theorem e_ownLen (hm : F.mg "len" = none) (i : Nat) {p' : Pos} (hN : F.N[i]? = some x := by rfl) (hv : ∀ j, Vis (F.X j).env.scope x := by intro _; first | exact .inl rfl | exact .inr (.inl rfl)) (hg : ∀ i, Gl (F.X i) "len" := by intro _; rfl)
    (hd : (x == ("__debug__" : Str)) = false := by decide) (hcd : (x == ("__classdict__" : Str)) = false := by decide)
    (he : ∀ i, starEach [.Name x p'] (F.X i).env = (false, eval (.Name x p') (F.X i).env) :: starEach [] (F.X i).env := by intro _; rfl) (hpl : ∀ i, (backTo pos (starEach [] (F.X i).env)).any (·.1) = false := by intro _; rfl) :
    Ee F (.Call (.Name "len" p) [.Name x p'] [] pos) 0 (fun ρ R => ownAt i ρ fun xs => R (.d (.int xs.length))) := by
  refine ⟨tCB (rLenA F.K) (tCons (tVar i) tNil), fun j => pe_callB (cLen j) (hg j) (by rw [F.eM]; exact hm) PySem.boot_len (pa_cons (pe_var (by rw [F.eN]; exact hN) (hv j) hd hcd) pa_nil (he j)) (by decide) (by decide) (he j) (hpl j), fun C σ ρ H R Q _ G hf k => ?_⟩
  obtain ⟨xs, e0, hf'⟩ := ownAt_of hf
  obtain ⟨q, vs, h1, h2, h3, h4, h5⟩ := G.ow i xs e0
  exact ⟨_, h1, q, vs, rfl, .inl (SqL.of h2), by rw [h3.length]; exact k _ H (.d (.int xs.length)) C.m (Nat.le_refl _) le0 (Tr.refl G.si) (Rd.int _) hf'⟩
theorem e_ownTuple (hm : F.mg "tuple" = none) (i : Nat) {p' : Pos} (hN : F.N[i]? = some x := by rfl) (hv : ∀ j, Vis (F.X j).env.scope x := by intro _; first | exact .inl rfl | exact .inr (.inl rfl)) (hg : ∀ i, Gl (F.X i) "tuple" := by intro _; rfl)
    (hd : (x == ("__debug__" : Str)) = false := by decide) (hcd : (x == ("__classdict__" : Str)) = false := by decide)
    (he : ∀ i, starEach [.Name x p'] (F.X i).env = (false, eval (.Name x p') (F.X i).env) :: starEach [] (F.X i).env := by intro _; rfl) (hpl : ∀ i, (backTo pos (starEach [] (F.X i).env)).any (·.1) = false := by intro _; rfl) :
    Ee F (.Call (.Name "tuple" p) [.Name x p'] [] pos) 0 (fun ρ R => ownAt i ρ fun xs => R (.d (.tuple xs))) := by
  refine ⟨tCB (rTupleA F.K) (tCons (tVar i) tNil), fun j => pe_callTy (cTuple j) (hg j) (by rw [F.eM]; exact hm) (by decide +kernel) (pa_cons (pe_var (by rw [F.eN]; exact hN) (hv j) hd hcd) pa_nil (he j)) (by decide) (by decide) (he j) (hpl j), fun C σ ρ H R Q _ G hf k => ?_⟩
  obtain ⟨xs, e0, hf'⟩ := ownAt_of hf
  obtain ⟨q, vs, h1, h2, h3, h4, h5⟩ := G.ow i xs e0
  exact ⟨_, h1, q, vs, rfl, .inl ⟨SqL.of h2, fun l hl => G.finT (fun u H' z t => k u H' z C.m (Nat.le_refl _) le0 t) h3 hf' hl⟩⟩
/-! ### slices -/
def cutD (xs : List PyData) (lo hi : Option Int) : List PyData := (xs.drop (HT.sIx xs.length 0 lo)).take (HT.sIx xs.length xs.length hi - HT.sIx xs.length 0 lo)
abbrev FO := En → (Option Int → Prop) → Prop
def SO (K : Kx) (t : TO) (c : Nat) (f : FO) : Prop := ∀ (C : Ct) (σ : Sg) (ρ : En) (H : Hp) (R : Option Int → Prop) (Q : Option Int → Hp → Prop), C.m + c ≤ lim → Good K C σ ρ H → f ρ R → (∀ o H' m, C.m ≤ m → m ≤ C.m + c → Tr C.S (K.SI m) H H' → R o → Q o H') → t σ H Q
structure Eo (F : Fm) (e : Option Expr) (c : Nat) (f : FO) : Prop where
  ex : ∃ t, (∀ i, PO (F.X i) e t) ∧ SO F.K t c f
theorem o_none : Eo F none 0 (fun _ R => R none) := ⟨_, fun _ => po_none, fun C _ _ H _ _ _ G h k => k none H C.m (Nat.le_refl _) le0 (Tr.refl G.si) h⟩
def asI (R : Option Int → Prop) : Vl → Prop
  | .d (.int i) => R (some i)
  | _ => False
theorem o_some (h : Ee F e n fe) : Eo F (some e) n (fun ρ R => fe ρ (asI R)) := by
  obtain ⟨t, pt, st⟩ := h
  refine ⟨_, fun i => po_some (pt i), fun C σ ρ H R Q hm G hf k => st C σ ρ H _ _ hm G hf fun v H1 x m l u t1 ox h1 => ?_⟩
  match x, ox, h1 with
  | .d (.int n), ox, h1 => exact ⟨n, Rd.inv_int ox, k _ H1 m l u t1 h1⟩
def rSl (K : Fg) : V → Option Int → Option Int → Hp → VK → Prop := fun x l u H Q => rSlL K x l u H Q ∨ rSlA K x l u H Q
def fSl (x : Vl) (l u : Option Int) (R : Vl → Prop) : Prop := match x with
  | .d (.list xs) => R (.d (.list (cutD xs l u)))
  | .d (.tuple xs) => R (.d (.tuple (cutD xs l u)))
  | _ => False
theorem RdA.cut {M : Hp} {vs : List V} {ds : List PyData} (h : RdA K M vs ds) (l u : Option Int) : RdA K M (cutV vs l u) (cutD ds l u) := by
  unfold cutV cutD
  rw [h.length]
  exact (h.drop _).take _
theorem cutD_all {ds : List PyData} {l u : Option Int} (h : HT.sIx ds.length 0 l = 0 ∧ HT.sIx ds.length ds.length u = ds.length) : cutD ds l u = ds := by
  unfold cutD
  rw [h.1, h.2, List.drop_zero, Nat.sub_zero, List.take_length]
theorem e_slice {lo hi : Option Expr} {fl fu : FO} {p2 : Pos} (he : Ee F e n fe) (hl : Eo F lo nl fl) (hu : Eo F hi nu fu) : Ee F (.Subscript e (.Slice lo hi none p2) pos) (n + nl + nu) (fun ρ R => fe ρ fun x => fl ρ fun l => fu ρ fun u => fSl x l u R) := by
  obtain ⟨t, pt, st⟩ := he
  obtain ⟨t2, p2', s2⟩ := hl
  obtain ⟨t3, p3, s3⟩ := hu
  refine ⟨tSl (rSl F.K) t t2 t3, fun i => pe_slice (by have h := SlR.or (sl_list (X := F.X i)) sl_tupA; rw [F.eK i] at h; exact h) (pt i) (p2' i) (p3 i), fun C σ ρ H R Q hm G hf k =>
    st C σ ρ H _ _ (by omega) G hf fun v H1 x m1 l1 u1 t1 ox h1 => s2 (C.up m1) σ ρ H1 _ _ (by show m1 + nl ≤ lim; omega) (G.tr t1) h1 fun l H2 m2 l2 u2 tt h2 => s3 (C.up m2) σ ρ H2 _ _ (by have : m2 ≤ m1 + nl := u2; show m2 + nu ≤ lim; omega) ((G.tr t1).tr tt) h2 fun u H3 m3 l3 u3 t5 h3 => ?_⟩
  have t' := (t1.trans tt).trans t5
  have G3 := ((G.tr t1).tr tt).tr t5
  have ox3 := ox.mono ((G.tr t1).ex (tt.trans t5))
  have a2 : m1 ≤ m2 := l2
  have b2 : m2 ≤ m1 + nl := u2
  have a3 : m2 ≤ m3 := l3
  have b3 : m3 ≤ m2 + nu := u3
  have k' := fun u H' z => k u H' z m3 (by omega) (by omega)
  match x, ox3, h3 with
  | .d (.list xs), ox3, h3 =>
    obtain ⟨a, vs, rfl, ha, ra⟩ := Rd.inv_list ox3
    exact .inl ⟨a, vs, rfl, SqL.of (mask_le _ _ ha), fun q hq => G3.finL (fun u H' z t6 => k' u H' z (t'.trans t6)) (ra.cut l u) h3 hq⟩
  | .d (.tuple xs), ox3, h3 =>
    obtain ⟨a, vs, e1, ha, ra⟩ := Rd.inv_tuple ox3
    subst e1
    refine .inr ⟨a, vs, rfl, Ex.sqt mask_le ha, fun hw => ?_, fun _ q hq => G3.finT (fun u H' z t6 => k' u H' z (t'.trans t6)) (ra.cut l u) h3 hq⟩
    rw [ra.length] at hw
    refine k' _ H3 (.d (.tuple xs)) t' ox3 ?_
    have h3' : R (.d (.tuple (cutD xs l u))) := h3
    rw [cutD_all hw] at h3'
    exact h3'
end
end Px

set_option Elab.async false
set_option linter.all false
set_option maxRecDepth 100000
set_option maxHeartbeats 2000000
set_option exponentiation.threshold 10000
/-! Px: the moving state of drawn numbers: a dict of two lists and a count. -/
namespace Px
open PySem PySem.Spec PyProof.Rows L2

/-- the state at d: its cells at c, what is left of them at l -/
abbrev stD (c l : Addr) (n : Nat) : List (Key × V) := [(.inr "cells", .ref c), (.inr "lefts", .ref l), (.inr "at", .int n)]
def stI (d c l : Addr) (nC : Nat) (m : Nat) (H : Hp) : Prop := ∃ (cells lefts : List Int) (at_ : Nat), H d = some (.dK (stD c l at_)) ∧ H c = some (.lst (cells.map V.int)) ∧ H l = some (.lst (lefts.map V.int)) ∧
  c ≠ l ∧ cells.length = nC ∧ lefts.length = nC ∧ at_ ≤ m
def stS (d c l : Addr) (a : Addr) : Prop := a = d ∨ a = c ∨ a = l
/-- the state and the tables of code objects of the defs that make lambdas -/
def stK (fg : Fg) (d c l : Addr) (nC : Nat) (T : List (Addr × Str)) : Kx := ⟨fg, .ref d, fun a => stS d c l a ∨ ∃ p ∈ T, a = p.1, fun m H => stI d c l nC m H ∧ LamX.Tabs T H⟩
theorem tabs_upd {T : List (Addr × Str)} {H : Hp} {D : Addr} {o : HO} (hn : ∀ ps, H D ≠ some (.tbl ps)) (hc : ∀ q, H D ≠ some (LamX.CodeO D q)) (t : LamX.Tabs T H) : LamX.Tabs T (upd H D o) := fun p hp => by
  obtain ⟨ps, h1, h2, h3⟩ := t p hp
  refine ⟨ps, by rw [upd_ne (fun z => hn ps (by rw [← z]; exact h1))]; exact h1, h2, fun pos cv h => ?_⟩
  obtain ⟨c, e, f⟩ := h3 pos cv h
  exact ⟨c, e, by rw [upd_ne (fun z => hc p.2 (by rw [← z]; exact f))]; exact f⟩
theorem tabs_of {T : List (Addr × Str)} {H H' : Hp} (e : ∀ a, (∃ p ∈ T, a = p.1) → H a = H' a) (c : ∀ a q, H a = some (LamX.CodeO a q) → H' a = some (LamX.CodeO a q)) (t : LamX.Tabs T H) : LamX.Tabs T H' := fun p hp => by
  obtain ⟨ps, h1, h2, h3⟩ := t p hp
  refine ⟨ps, by rw [← e p.1 ⟨p, hp, rfl⟩]; exact h1, h2, fun pos cv h => ?_⟩
  obtain ⟨c', e', f⟩ := h3 pos cv h
  exact ⟨c', e', c c' _ f⟩
theorem dK_code {a : Addr} {q : Str} {kvs : List (Key × V)} : HO.dK kvs ≠ LamX.CodeO a q := fun z => by unfold LamX.CodeO at z; cases z
theorem tabs_dK {T : List (Addr × Str)} {H : Hp} {D : Addr} {o : HO} {kvs : List (Key × V)} (h : H D = some (.dK kvs)) (t : LamX.Tabs T H) : LamX.Tabs T (upd H D o) := tabs_upd (fun ps z => by rw [h] at z; cases z) (fun q z => dK_code (Option.some.inj (h.symm.trans z))) t
theorem tabs_lst {T : List (Addr × Str)} {H : Hp} {D : Addr} {o : HO} {xs : List V} (h : H D = some (.lst xs)) (t : LamX.Tabs T H) : LamX.Tabs T (upd H D o) := tabs_upd (fun ps z => by rw [h] at z; cases z) (fun q z => code_lst (Option.some.inj (h.symm.trans z))) t
theorem stI_of {d c l : Addr} {nC m : Nat} {H H' : Hp} (h : ∀ a, stS d c l a → H a = H' a) (s : stI d c l nC m H) : stI d c l nC m H' := by
  obtain ⟨cs, ls, k, h1, h2, h3, h4⟩ := s
  exact ⟨cs, ls, k, by rw [← h d (.inl rfl)]; exact h1, by rw [← h c (.inr (.inl rfl))]; exact h2, by rw [← h l (.inr (.inr rfl))]; exact h3, h4⟩
theorem stK_ok {fg : Fg} {d c l : Addr} {nC : Nat} {T : List (Addr × Str)} {B : Addr → Prop} (h : ∀ a, (stS d c l a ∨ ∃ p ∈ T, a = p.1) → B a) : CtOk B (stK fg d c l nC T).S (stK fg d c l nC T).SI where
  sb := h
  st := fun m H H' e c s => ⟨stI_of (fun a ha => e a (.inl ha)) s.1, tabs_of (fun a ha => e a (.inr ha)) c s.2⟩
  th := fun m H s a ha => by
    obtain ⟨⟨cs, ls, k, h1, h2, h3, h4⟩, t⟩ := s
    rcases ha with (rfl | rfl | rfl) | ⟨p, hp, rfl⟩
    · rw [h1]; simp
    · rw [h2]; simp
    · rw [h3]; simp
    · obtain ⟨ps, e, _⟩ := t p hp
      rw [e]; simp
  up := fun m m' H hm s => by
    obtain ⟨⟨cs, ls, k, h1, h2, h3, h4, h5, h6, h7⟩, t⟩ := s
    exact ⟨⟨cs, ls, k, h1, h2, h3, h4, h5, h6, Nat.le_trans h7 hm⟩, t⟩
theorem log2_le_of {a b : Nat} (h : a ≤ b) : a.log2 ≤ b.log2 := by
  by_cases z : a = 0
  · rw [z, show Nat.log2 0 = 0 from by decide]; exact Nat.zero_le _
  · exact (Nat.le_log2 (by omega)).mpr (Nat.le_trans (Nat.log2_self_le z) h)

theorem atI_natG {α : Type} {xs : List α} {n : Nat} (h : n < xs.length) : atI xs (n : Int) = xs[n]? := by
  unfold atI ixN
  rw [if_pos (by omega), if_pos (by omega)]
  rfl
def tOpFin (K : Fg) (x y : V) (H : Hp) (Q : VK) : Prop := L2.rIx K x y H Q
section
variable {F : Fm} {fg : Fg} {d c l : Addr} {nC : Nat} {T : List (Addr × Str)} {pos p p1 p2 p3 p4 p5 pos' p2' p3' : Pos} {x y : Str} {e e2 : Expr} {fe fi : FE} {n ni : Nat} {sts : List Stmt} {f : FSt} {j1 j2 j3 : Nat}
/-- the slot holds the moving state -/
def isSt (ρ : En) (i : Nat) : Prop := ρ[i]? = some (.v .st)
theorem isSt_of {K : Kx} {C : Ct} {σ : Sg} {ρ : En} {H : Hp} {i : Nat} (hK : K = stK fg d c l nC T) (G : Good K C σ ρ H) (h : isSt ρ i) : σ[i]? = some (some (.ref d)) := by
  obtain ⟨v, h1, h2⟩ := G.sl i .st h
  subst hK
  cases (show v = V.ref d from h2)
  exact h1
abbrev tKey (i : Nat) (k : Str) : TE := tDGet (tVar i) (tC (.str k))
theorem pKey (i : Nat) {k : Str} (hN : F.N[i]? = some x) (hv : ∀ j, Vis (F.X j).env.scope x) (hd : (x == ("__debug__" : Str)) = false) (hcd : (x == ("__classdict__" : Str)) = false) :
    ∀ j, PE (F.X j) (.Subscript (.Name x p1) (.Constant (.str k) j1 p2) pos) (tKey i k) := fun j =>
  pe_dget (by have := (F.room j).un; omega) (pe_var (by rw [F.eN]; exact hN) (hv j) hd hcd) pe_str (by intro _ _; rfl)
theorem key_run {i : Nat} {k : Str} {σ : Sg} {H : Hp} {Q : VK} {kvs : List (Key × V)} {v : V} (h1 : σ[i]? = some (some (.ref d))) (h2 : H d = some (.dK kvs)) (h3 : valV kvs (.inr k) = some v) (q : Q v H) : tKey i k σ H Q :=
  ⟨_, h1, d, v, rfl, by rw [← h3]; exact DGet.k (k := .inr k) h2, q⟩

/-- len(state['cells']) -/
theorem e_stLen (hK : F.K = stK fg d c l nC T) (hm : F.mg "len" = none) (i : Nat) (hN : F.N[i]? = some x := by rfl) (hv : ∀ j, Vis (F.X j).env.scope x := by intro _; first | exact .inl rfl | exact .inr (.inl rfl)) (hg : ∀ i, Gl (F.X i) "len" := by intro _; rfl)
    (hd : (x == ("__debug__" : Str)) = false := by decide) (hcd : (x == ("__classdict__" : Str)) = false := by decide)
    (he : ∀ i, starEach [.Subscript (.Name x p1) (.Constant (.str "cells") j1 p2) p3] (F.X i).env = (false, eval (.Subscript (.Name x p1) (.Constant (.str "cells") j1 p2) p3) (F.X i).env) :: starEach [] (F.X i).env := by intro _; rfl) (hpl : ∀ i, (backTo pos (starEach [] (F.X i).env)).any (·.1) = false := by intro _; rfl) :
    Ee F (.Call (.Name "len" p) [.Subscript (.Name x p1) (.Constant (.str "cells") j1 p2) p3] [] pos) 0 (fun ρ R => isSt ρ i ∧ R (.d (.int nC))) := by
  refine ⟨tCB (rLenA F.K) (tCons (tKey i "cells") tNil), fun j => pe_callB (cLen j) (hg j) (by rw [F.eM]; exact hm) PySem.boot_len (pa_cons (pKey i hN hv hd hcd j) pa_nil (he j)) (by decide) (by decide) (he j) (hpl j), fun C σ ρ H R Q _ G hf k => ?_⟩
  have hs := isSt_of hK G hf.1
  have si := G.si
  rw [hK] at si
  obtain ⟨⟨cs, ls, a, h1, h2, h3, h4, h5, h6, h7⟩, tb0⟩ := si
  refine key_run hs h1 (v := .ref c) rfl ⟨c, cs.map V.int, rfl, .inl (SqL.of h2), ?_⟩
  rw [List.length_map, h5]
  exact k _ H (.d (.int nC)) C.m (Nat.le_refl _) le0 (Tr.refl G.si) (Rd.int _) hf.2
/-- state[k][e], k one of the two lists -/
theorem e_stIx {k : Str} (hk : k = "cells" ∨ k = "lefts") (hK : F.K = stK fg d c l nC T) (i : Nat) (hb : Ee F e n fe) (hN : F.N[i]? = some x := by rfl) (hv : ∀ j, Vis (F.X j).env.scope x := by intro _; first | exact .inl rfl | exact .inr (.inl rfl)) (hs : PlainIx e := by intro _ _; rfl)
    (hd : (x == ("__debug__" : Str)) = false := by decide) (hcd : (x == ("__classdict__" : Str)) = false := by decide) :
    Ee F (.Subscript (.Subscript (.Name x p1) (.Constant (.str k) j1 p2) p3) e pos) n (fun ρ R => isSt ρ i ∧ fe ρ fun y => ∃ j : Int, y = .d (.int j) ∧ 0 ≤ j ∧ j < nC ∧ ∀ z : Int, R (.d (.int z))) := by
  obtain ⟨tb, pb, sb⟩ := hb
  refine ⟨tOp (rIx F.K) (tKey i k) tb, fun j => pe_ix (oIx j) (pKey i hN hv hd hcd j) (pb j) hs, fun C σ ρ H R Q hm G hf kk => ?_⟩
  have hst := isSt_of hK G hf.1
  have si := G.si
  rw [hK] at si
  obtain ⟨⟨cs, ls, a, h1, h2, h3, h4, h5, h6, h7⟩, tb0⟩ := si
  have hp : ∃ p : Addr, valV (stD c l a) (.inr k) = some (.ref p) ∧ (p = c ∨ p = l) := by
    rcases hk with rfl | rfl
    · exact ⟨c, rfl, .inl rfl⟩
    · exact ⟨l, rfl, .inr rfl⟩
  obtain ⟨q, hq, hq2⟩ := hp
  refine key_run hst h1 hq ?_
  refine sb C σ ρ H _ _ hm G hf.2 fun w H1 y m l1 u t1 oy hy => ?_
  obtain ⟨j, rfl, j0, jn, hr⟩ := hy
  have si' := t1.2
  rw [hK] at si'
  obtain ⟨⟨cs', ls', a', g1, g2, g3, g4, g5, g6, g7⟩, tb1⟩ := si'
  obtain ⟨n, rfl⟩ := Int.eq_ofNat_of_zero_le j0
  have fin : ∀ xs : List Int, xs.length = nC → H1 q = some (.lst (xs.map V.int)) → tOpFin F.K (.ref q) w H1 Q := fun xs hx hH => by
    have hn : n < xs.length := by omega
    refine .inl ⟨q, xs.map V.int, n, .int xs[n], rfl, Rd.inv_int oy, SqL.of hH, ?_, kk _ H1 (.d (.int xs[n])) m l1 u t1 (Rd.int _) (hr _)⟩
    rw [atI_natG (by rw [List.length_map]; exact hn)]
    simp [hn]
  rcases hq2 with rfl | rfl
  · exact fin cs' g5 g2
  · exact fin ls' g6 g3

theorem inS {K : Kx} {C : Ct} {σ : Sg} {ρ : En} {H : Hp} (hK : K = stK fg d c l nC T) (G : Good K C σ ρ H) {a : Addr} (h : stS d c l a) : C.S a := by
  rw [G.eS, hK]
  exact .inl h
/-- v = state['at']; state['at'] = v + 1 -/
theorem ss_tick (hK : F.K = stK fg d c l nC T) (i j : Nat) (hij : i ≠ j) (hN : F.N[i]? = some x) (hN2 : F.N[j]? = some y) (he : Ee F e2 0 fe) (hs : Es F sts n f)
    (hv : ∀ j, Vis (F.X j).env.scope x := by intro _; first | exact .inl rfl | exact .inr (.inl rfl)) (hd : (x == ("__debug__" : Str)) = false := by decide) (hcd : (x == ("__classdict__" : Str)) = false := by decide)
    (hx : ∀ j, Loc (F.X j).env.scope y := by intro _; first | exact .inl rfl | exact .inr rfl)
    (hf : ∀ j, (F.X j).fn y = true ∨ (F.X j).env.scope.names.lookup y = some .local := by intro _; first | exact .inl rfl | exact .inr rfl)
    (hsw1 : ∀ j, swapsWithSole [.Name y p4] (.Subscript (.Name x p1) (.Constant (.str "at") j1 p2) p3) pos.line (F.X j).env = pure false := by intro _; rfl)
    (hsw2 : ∀ j, swappedStores [.Name y p4] (.Subscript (.Name x p1) (.Constant (.str "at") j1 p2) p3) (F.X j).env = pure none := by intro _; rfl)
    (hsw4 : ∀ j, swapsWith e2 (some (.Subscript (.Name x p5) (.Constant (.str "at") j2 p2') p3')) pos'.line (F.X j).env = pure false := by intro _; rfl) :
    Es F (.Assign [.Name y p4] (.Subscript (.Name x p1) (.Constant (.str "at") j1 p2) p3) pos :: .Assign [.Subscript (.Name x p5) (.Constant (.str "at") j2 p2') p3'] e2 pos' :: sts) (1 + n)
      (fun ρ N => isSt ρ i ∧ j < ρ.length ∧ ∀ k : Nat, k ≤ lim → fe (ρ.set j (.v (.d (.int k)))) (fun z => z = .d (.int (k + 1))) ∧ f (ρ.set j (.v (.d (.int k)))) N) := by
  obtain ⟨te, pe, se⟩ := he
  obtain ⟨u, pu, su⟩ := hs
  refine ⟨_, fun r => pss_cons (ps_asg (pKey i hN hv hd hcd r) (pg_name (by rw [F.eN]; exact F.nd) (by rw [F.eN]; exact hN2) (hx r) (hf r)) (hsw1 r) (hsw2 r) rfl)
    (pss_cons (ps_dput (by have := (F.room r).un; omega) (pe_var (by rw [F.eN]; exact hN) (hv r) hd hcd) pe_str (pe r) (hsw4 r)) (pu r)), fun C σ ρ H N D hm G hg lk => ?_⟩
  obtain ⟨g1, g2, g3⟩ := hg
  have hst := isSt_of hK G g1
  have si := G.si
  rw [hK] at si
  obtain ⟨⟨cs, ls, a, h1, h2, h3, h4, h5, h6, h7⟩, tb0⟩ := si
  obtain ⟨q1, q2⟩ := g3 a (by omega)
  refine key_run hst h1 (v := .int a) rfl ?_
  obtain ⟨G1, ex1⟩ := G.set (i := j) (v := .int a) (x := .d (.int a)) g2 (Rd.int _)
  refine se C (σ.set j (some (.int a))) _ H _ _ (by omega) G1 q1 fun v H1 z m l1 u1 t1 oz hz => ?_
  subst hz
  have si' := t1.2
  rw [hK] at si'
  obtain ⟨⟨cs', ls', a', k1, k2, k3, k4, k5, k6, k7⟩, tb1⟩ := si'
  have ev : v = .int (a + 1) := Rd.inv_int oz
  subst ev
  have dc : d ≠ c := fun z => by rw [← z, k1] at k2; cases k2
  have dl : d ≠ l := fun z => by rw [← z, k1] at k3; cases k3
  have t2 : Tr C.S (F.K.SI (C.m + 1)) H1 (upd H1 d (.dK (stD c l (a + 1)))) := by
    refine ⟨fun b o nb e => by rw [upd_ne (fun z => nb (inS hK G (.inl z)))]; exact e, ?_⟩
    rw [hK]
    exact ⟨⟨cs', ls', a + 1, upd_same, by rw [upd_ne dc.symm]; exact k2, by rw [upd_ne dl.symm]; exact k3, k4, k5, k6, by omega⟩, tabs_dK k1 tb1⟩
  have em : m = C.m := by omega
  subst em
  have G2 := (G1.tr (t1.trans t2))
  refine ⟨_, by rw [set_oth hij]; exact hst, d, upd H1 d (.dK (stD c l (a + 1))), rfl, ?_, su (C.up (C.m + 1)) _ _ _ N D (by show C.m + 1 + n ≤ lim; omega) G2 q2 (lk.go (by omega) (by omega) (ex1.trans (G1.ex (t1.trans t2))))⟩
  exact DPut.k (k := .inr "at") (v := .int (a + 1)) k1 (show 3 < sizeLine by decide)
/-- state['lefts'][e] = e2 -/
theorem s_stPut (hK : F.K = stK fg d c l nC T) (i : Nat) (hN : F.N[i]? = some x) (hi : Ee F e ni fi) (he : Ee F e2 n fe)
    (hv : ∀ j, Vis (F.X j).env.scope x := by intro _; first | exact .inl rfl | exact .inr (.inl rfl)) (hd : (x == ("__debug__" : Str)) = false := by decide) (hcd : (x == ("__classdict__" : Str)) = false := by decide)
    (ha : ∀ (r : F.I) (v : Value), assign (.Subscript (.Subscript (.Name x p1) (.Constant (.str "lefts") j1 p2) p3) e p4) (F.X r).env v = Sem.bind (holding [v] (eval (.Subscript (.Name x p1) (.Constant (.str "lefts") j1 p2) p3) (F.X r).env)) fun ov => Sem.bind (holding [v, ov] (eval e (F.X r).env)) fun iv => Sem.bind (standAt p4) fun _ => Sem.bind (holding [v, ov, iv] (setItem ov iv v)) fun _ => PySem.release [v, ov, iv] [] := by intro _ _; rfl)
    (hsw1 : ∀ j, swapsWithSole [.Subscript (.Subscript (.Name x p1) (.Constant (.str "lefts") j1 p2) p3) e p4] e2 pos.line (F.X j).env = pure false := by intro _; rfl)
    (hsw2 : ∀ j, swappedStores [.Subscript (.Subscript (.Name x p1) (.Constant (.str "lefts") j1 p2) p3) e p4] e2 (F.X j).env = pure none := by intro _; rfl)
    (hsw3 : ∀ j, (assignEach [.Subscript (.Subscript (.Name x p1) (.Constant (.str "lefts") j1 p2) p3) e p4] (F.X j).env).map (fun x => x.2) = [assign (.Subscript (.Subscript (.Name x p1) (.Constant (.str "lefts") j1 p2) p3) e p4) (F.X j).env] := by intro _; rfl) :
    E1 F (.Assign [.Subscript (.Subscript (.Name x p1) (.Constant (.str "lefts") j1 p2) p3) e p4] e2 pos) (n + ni) (fun ρ N => isSt ρ i ∧ fe ρ fun y => ∃ z : Int, y = .d (.int z) ∧ fi ρ fun y' => ∃ j : Int, y' = .d (.int j) ∧ 0 ≤ j ∧ j < nC ∧ N.nx ρ) := by
  obtain ⟨te, pe, se⟩ := he
  obtain ⟨ti, pi, si⟩ := hi
  refine ⟨_, fun r => ps_asg (pe r) (pg_sub (pKey i hN hv hd hcd r) (pi r) set_list (ha r)) (hsw1 r) (hsw2 r) (hsw3 r), fun C σ ρ H N D hm G hg lk => ?_⟩
  obtain ⟨g1, g2⟩ := hg
  have hst := isSt_of hK G g1
  refine se C σ ρ H _ _ (by omega) G g2 fun v H1 y m1 l1 u1 t1 oy hy => ?_
  obtain ⟨z, rfl, g3⟩ := hy
  have s1 := t1.2
  rw [hK] at s1
  obtain ⟨⟨cs, ls, a, h1, h2, h3, h4, h5, h6, h7⟩, tb0⟩ := s1
  refine key_run hst h1 (v := .ref l) rfl ?_
  refine si (C.up m1) σ ρ H1 _ _ (by show m1 + ni ≤ lim; omega) (G.tr t1) g3 fun w H2 y m2 l2 u2 t2 oy' hy => ?_
  obtain ⟨j, rfl, j0, jn, hr⟩ := hy
  have s2 := t2.2
  rw [hK] at s2
  obtain ⟨⟨cs', ls', a', k1, k2, k3, k4, k5, k6, k7⟩, tb1⟩ := s2
  obtain ⟨n, rfl⟩ := Int.eq_ofNat_of_zero_le j0
  have hn : n < ls'.length := by omega
  have ev : v = .int z := Rd.inv_int oy
  subst ev
  have t3 : Tr C.S (F.K.SI m2) H2 (upd H2 l (.lst ((ls'.map V.int).set n (.int z)))) := by
    refine ⟨fun b o nb e => by rw [upd_ne (fun z => nb (inS hK G (.inr (.inr z))))]; exact e, ?_⟩
    rw [hK]
    have dl : d ≠ l := fun z => by rw [← z, k1] at k3; cases k3
    exact ⟨⟨cs', ls'.set n z, a', by rw [upd_ne dl]; exact k1, by rw [upd_ne k4]; exact k2, by rw [upd_same, List.map_set], k4, k5, by rw [List.length_set]; exact k6, k7⟩, tabs_lst k3 tb1⟩
  have t' := (t1.trans t2).trans t3
  refine ⟨l, ls'.map V.int, n, n, rfl, Rd.inv_int oy', k3, ?_, lk.nx σ ρ _ m2 ?_ ?_ (G.tr t') (G.ex t') hr⟩
  · unfold ixN
    rw [if_pos (by omega), if_pos (by rw [List.length_map]; omega)]
    rfl
  · have : m1 ≤ m2 := l2
    omega
  · have : m2 ≤ m1 + ni := u2
    omega
end
end Px

set_option Elab.async false
set_option linter.all false
set_option maxRecDepth 100000
set_option maxHeartbeats 2000000
set_option exponentiation.threshold 10000
/-! Px: sizes of numbers, greatest common divisors, fractions as rationals. -/
namespace Px
open PySem PySem.Spec PyProof.Rows L2

/-! ### sizes -/
def Bd (n : Nat) (i : Int) : Prop := i.natAbs < 2 ^ n
theorem pw_le {n m : Nat} (h : n ≤ m) : 2 ^ n ≤ 2 ^ m := Nat.pow_le_pow_right (by decide) h
theorem Bd.mono {n m : Nat} {i : Int} (h : Bd n i) (l : n ≤ m) : Bd m i := Nat.lt_of_lt_of_le h (pw_le l)
theorem Bd.add {n : Nat} {i j : Int} (h : Bd n i) (h2 : Bd n j) : Bd (n + 1) (i + j) := by
  unfold Bd at *
  rw [Nat.pow_succ]
  omega
theorem Bd.sub {n : Nat} {i j : Int} (h : Bd n i) (h2 : Bd n j) : Bd (n + 1) (i - j) := by
  unfold Bd at *
  rw [Nat.pow_succ]
  omega
theorem Bd.neg {n : Nat} {i : Int} (h : Bd n i) : Bd n (-i) := by
  unfold Bd at *
  rw [Int.natAbs_neg]
  exact h
theorem Bd.mul {n m : Nat} {i j : Int} (h : Bd n i) (h2 : Bd m j) : Bd (n + m) (i * j) := wide_lt h h2
theorem Bd.ok {n m : Nat} {i j : Int} (h : Bd n i) (h2 : Bd m j) (hn : 0 < n) (hm : 0 < m) (l : n + m ≤ 1000000) : CMulW i j := wide_mul h h2 hn hm l
theorem Bd.fmod {n : Nat} {i j : Int} (h : Bd n j) (p : 0 < j) : Bd n (i.fmod j) := by
  unfold Bd at *
  rw [Int.fmod_eq_emod_of_nonneg i (by omega)]
  have := Int.emod_nonneg i (show j ≠ 0 by omega)
  have := Int.emod_lt_of_pos i p
  omega
theorem Bd.lit {n : Nat} {i : Int} (h : i.natAbs.log2 < n) : Bd n i := by
  unfold Bd
  by_cases z : i.natAbs = 0
  · rw [z]; exact Nat.two_pow_pos n
  · exact (Nat.log2_lt z).mp h
theorem Bd.log {n : Nat} {i : Int} (h : Bd n i) (hn : 0 < n) : i.natAbs.log2 < n := PySem.Flt.log2_lt_of hn h
theorem Bd.of_lt {n : Nat} {i : Int} {j : Nat} (h : i.natAbs ≤ j) (h2 : j < 2 ^ n) : Bd n i := Nat.lt_of_le_of_lt h h2
theorem fmod_rng {i j : Int} (p : 0 < j) : 0 ≤ i.fmod j ∧ i.fmod j < j := by
  rw [Int.fmod_eq_emod_of_nonneg i (by omega)]
  exact ⟨Int.emod_nonneg i (by omega), Int.emod_lt_of_pos i p⟩

/-! ### the divisor by Euclid's steps -/
def sg (a b : Int) : Int := if b < 0 then -((Nat.gcd a.natAbs b.natAbs : Nat) : Int) else (Nat.gcd a.natAbs b.natAbs : Nat)
/-- the fraction, as data -/
def fq (q : Rat) : PyData := .tuple [.int q.num, .int q.den]
theorem gcd_pos_r {a : Nat} {b : Int} (h : b ≠ 0) : 0 < Nat.gcd a b.natAbs := Nat.gcd_pos_of_pos_right _ (by omega)
theorem red_eq {a b : Int} (h : b ≠ 0) : (a.fdiv (sg a b) = (Rat.divInt a b).num) ∧ (b.fdiv (sg a b) = ((Rat.divInt a b).den : Int)) := by
  rw [Rat.num_divInt, Rat.den_divInt, if_neg h]
  have hg : Int.gcd b a = Nat.gcd a.natAbs b.natAbs := by rw [Int.gcd_comm]; rfl
  rw [hg]
  have gp : 0 < Nat.gcd a.natAbs b.natAbs := gcd_pos_r h
  have da : ((Nat.gcd a.natAbs b.natAbs : Nat) : Int) ∣ a := Int.ofNat_dvd_left.mpr (Nat.gcd_dvd_left _ _)
  have db : ((Nat.gcd a.natAbs b.natAbs : Nat) : Int) ∣ b := Int.ofNat_dvd_left.mpr (Nat.gcd_dvd_right _ _)
  generalize hG : Nat.gcd a.natAbs b.natAbs = G at *
  unfold sg
  rw [hG]
  obtain ⟨x, rfl⟩ := da
  obtain ⟨y, rfl⟩ := db
  have Gp : (0 : Int) < (G : Int) := by exact_mod_cast gp
  have y0 : y ≠ 0 := fun z => h (by rw [z]; simp)
  have ax : ((G : Int) * x) / (G : Int) = x := Int.mul_ediv_cancel_left x (by omega)
  have nb : ((G : Int) * y).natAbs / G = y.natAbs := by
    rw [Int.natAbs_mul, Int.natAbs_natCast]
    exact Nat.mul_div_cancel_left _ gp
  rw [nb]
  by_cases hy : y < 0
  · have hb : (G : Int) * y < 0 := Int.mul_neg_of_pos_of_neg Gp hy
    rw [if_pos hb, Int.sign_eq_neg_one_of_neg hb]
    have e1 : (G : Int) * x = (-(G : Int)) * (-x) := (Int.neg_mul_neg _ _).symm
    have e2 : (G : Int) * y = (-(G : Int)) * (-y) := (Int.neg_mul_neg _ _).symm
    constructor
    · rw [show (-1 : Int) * ((G : Int) * x) = (G : Int) * (-x) by (rw [Int.mul_neg]; omega), Int.mul_ediv_cancel_left _ (by omega), e1, Int.mul_fdiv_cancel_left _ (by omega)]
    · rw [e2, Int.mul_fdiv_cancel_left _ (by omega)]
      omega
  · have yp : 0 < y := by omega
    have hb : 0 < (G : Int) * y := Int.mul_pos Gp yp
    rw [if_neg (by omega), Int.sign_eq_one_of_pos hb]
    constructor
    · rw [Int.one_mul, ax, Int.mul_fdiv_cancel_left _ (by omega)]
    · rw [Int.mul_fdiv_cancel_left _ (by omega)]
      omega
theorem red_fq {a b : Int} (h : b ≠ 0) : PyData.tuple [.int (a.fdiv (sg a b)), .int (b.fdiv (sg a b))] = fq (Rat.divInt a b) := by
  obtain ⟨h1, h2⟩ := red_eq (a := a) h
  rw [h1, h2]
  rfl
theorem sg_ne {a b : Int} (h : b ≠ 0) : sg a b ≠ 0 := by
  have := gcd_pos_r (a := a.natAbs) h
  unfold sg
  split <;> omega
theorem sg_bd {a b : Int} {n : Nat} (h : b ≠ 0) (hb : Bd n b) : Bd n (sg a b) := by
  have l := Nat.gcd_le_right (m := a.natAbs) (n := b.natAbs) (by omega)
  unfold Bd sg at *
  split <;> omega
/-- sizes of fractions -/
def Fb (n : Nat) (q : Rat) : Prop := Bd n q.num ∧ q.den < 2 ^ n
theorem Fb.mono {n m : Nat} {q : Rat} (h : Fb n q) (l : n ≤ m) : Fb m q := ⟨h.1.mono l, Nat.lt_of_lt_of_le h.2 (pw_le l)⟩
theorem fdiv_le {i j : Int} (d : j ∣ i) (h : j ≠ 0) : (i.fdiv j).natAbs ≤ i.natAbs := by
  obtain ⟨k, rfl⟩ := d
  rw [Int.mul_fdiv_cancel_left _ h, Int.natAbs_mul]
  exact Nat.le_mul_of_pos_left _ (by omega)
theorem sg_dvd (a b : Int) : sg a b ∣ a ∧ sg a b ∣ b := by
  have da : ((Nat.gcd a.natAbs b.natAbs : Nat) : Int) ∣ a := Int.ofNat_dvd_left.mpr (Nat.gcd_dvd_left _ _)
  have db : ((Nat.gcd a.natAbs b.natAbs : Nat) : Int) ∣ b := Int.ofNat_dvd_left.mpr (Nat.gcd_dvd_right _ _)
  unfold sg
  split
  · exact ⟨Int.neg_dvd.mpr da, Int.neg_dvd.mpr db⟩
  · exact ⟨da, db⟩
theorem Fb.red {n : Nat} {a b : Int} (h : b ≠ 0) (ha : Bd n a) (hb : Bd n b) : Fb n (Rat.divInt a b) := by
  obtain ⟨h1, h2⟩ := red_eq (a := a) h
  obtain ⟨d1, d2⟩ := sg_dvd a b
  have l1 := fdiv_le d1 (sg_ne (a := a) h)
  have l2 := fdiv_le d2 (sg_ne (a := a) h)
  rw [h1] at l1
  rw [h2] at l2
  unfold Fb Bd at *
  omega
theorem q_eq (q : Rat) : Rat.divInt q.num q.den = q := Rat.num_divInt_den q
theorem den_ne (q : Rat) : (q.den : Int) ≠ 0 := by have := q.den_nz; omega
theorem den_pos (q : Rat) : 1 ≤ (q.den : Int) := by have := q.den_nz; omega
theorem Fb.den {n : Nat} {q : Rat} (h : Fb n q) : Bd n (q.den : Int) := by
  have := h.2
  unfold Bd
  omega
theorem add_q (a b : Rat) : Rat.divInt (a.num * b.den + b.num * a.den) (a.den * b.den) = a + b := by
  rw [← Rat.divInt_add_divInt a.num b.num (den_ne a) (den_ne b), q_eq, q_eq]
theorem mul_q (a b : Rat) : Rat.divInt (a.num * b.num) (a.den * b.den) = a * b := by
  rw [← Rat.divInt_mul_divInt a.num b.num, q_eq, q_eq]
theorem neg_q (a : Rat) : Rat.divInt (-a.num) a.den = -a := by
  have := Rat.neg_divInt a.num a.den
  rw [q_eq] at this
  exact this.symm
theorem sub_q (a b : Rat) : Rat.divInt (a.num * b.den - b.num * a.den) (a.den * b.den) = a - b := by
  have h := Rat.divInt_add_divInt a.num (-b.num) (den_ne a) (den_ne b)
  rw [q_eq, neg_q] at h
  rw [Rat.sub_eq_add_neg, h, Int.neg_mul, Int.sub_eq_add_neg]
theorem num_ne {q : Rat} (h : q ≠ 0) : q.num ≠ 0 := fun z => h (Rat.num_eq_zero.mp z)
theorem div_q {a b : Rat} (h : b ≠ 0) : Rat.divInt (a.num * b.den) (a.den * b.num) = a / b := by
  have e : Rat.divInt (a.num * b.den) (a.den * b.num) * b = a := by
    have q := Rat.divInt_mul_divInt (a.num * b.den) b.num (d₁ := a.den * b.num) (d₂ := b.den)
    rw [q_eq] at q
    rw [q]
    have r : Rat.divInt (a.num * b.den * b.num) (a.den * b.num * b.den) = Rat.divInt a.num a.den := by
      refine (Rat.divInt_eq_divInt_iff ?_ (den_ne a)).mpr ?_
      · exact Int.mul_ne_zero (Int.mul_ne_zero (den_ne a) (num_ne h)) (den_ne b)
      · grind
    rw [r, q_eq]
  rw [← e]
  grind
theorem lt_q (a b : Rat) : decide (a.num * b.den < b.num * a.den) = decide (a < b) := by
  rw [decide_eq_decide]
  exact (Rat.lt_iff a b).symm
theorem fq_inj {a b : Rat} : fq a = fq b ↔ a = b := by
  constructor
  · intro h
    unfold fq at h
    injection h with h
    injection h with h1 h
    injection h with h2 _
    injection h1 with h1
    injection h2 with h2
    exact Rat.ext h1 (by omega)
  · intro h; rw [h]
theorem Fb.add {n : Nat} {a b : Rat} (h : Fb n a) (h2 : Fb n b) : Fb (n + n + 1) (a + b) := by
  rw [← add_q]
  exact Fb.red (Int.mul_ne_zero (den_ne a) (den_ne b)) ((h.1.mul h2.den).add (h2.1.mul h.den)) ((h.den.mul h2.den).mono (by omega))
theorem Fb.sub {n : Nat} {a b : Rat} (h : Fb n a) (h2 : Fb n b) : Fb (n + n + 1) (a - b) := by
  rw [← sub_q]
  exact Fb.red (Int.mul_ne_zero (den_ne a) (den_ne b)) ((h.1.mul h2.den).sub (h2.1.mul h.den)) ((h.den.mul h2.den).mono (by omega))
theorem Fb.mul {n m : Nat} {a b : Rat} (h : Fb n a) (h2 : Fb m b) : Fb (n + m) (a * b) := by
  rw [← mul_q]
  exact Fb.red (Int.mul_ne_zero (den_ne a) (den_ne b)) (h.1.mul h2.1) (h.den.mul h2.den)
theorem Fb.div {n : Nat} {a b : Rat} (h : Fb n a) (h2 : Fb n b) (hb : b ≠ 0) : Fb (n + n) (a / b) := by
  rw [← div_q hb]
  exact Fb.red (Int.mul_ne_zero (den_ne a) (num_ne hb)) (h.1.mul h2.den) (h.den.mul h2.1)

/-! ### data that is compared -/
theorem fEq_int {neg : Bool} {i j : Int} {R : Vl → Prop} : fEq neg (.d (.int i)) (.d (.int j)) R = R (.d (.bool (neg ^^ decide (i = j)))) := by
  have e : PyData.eqv (.int i) (.int j) = decide (i = j) := by
    show (i == j) = _
    exact Bool.beq_eq_decide_eq i j
  simp [fEq, e, SeqAt.shaped, PyData.canLay0, PyData.depth]
theorem eqv_fq (a b : Rat) : PyData.eqv (fq a) (fq b) = decide (a = b) := by
  have e : PyData.eqv (fq a) (fq b) = ((a.num == b.num) && (((a.den : Int) == (b.den : Int)) && true)) := rfl
  rw [e]
  by_cases h : a = b
  · subst h; simp
  · rw [decide_eq_false h, Bool.and_true]
    by_cases h1 : a.num = b.num
    · have : a.den ≠ b.den := fun z => h (Rat.ext h1 z)
      simp; omega
    · simp [h1]
theorem fEq_fq {neg : Bool} {a b : Rat} {R : Vl → Prop} : fEq neg (.d (fq a)) (.d (fq b)) R = R (.d (.bool (neg ^^ decide (a = b)))) := by
  have e := eqv_fq a b
  have s : ∀ a : Rat, SeqAt.shaped (fq a) = true := fun a => rfl
  have u : fEq neg (.d (fq a)) (.d (fq b)) R = (SeqAt.shaped (fq a) = true ∧ SeqAt.shaped (fq b) = true ∧ R (.d (.bool (neg ^^ PyData.eqv (fq a) (fq b))))) := rfl
  rw [u, e, s, s]
  simp
theorem fq_zero : fq 0 = .tuple [.int 0, .int 1] := rfl
theorem fq_one : fq 1 = .tuple [.int 1, .int 1] := rfl
end Px

set_option Elab.async false
set_option linter.all false
set_option maxRecDepth 100000
set_option maxHeartbeats 2000000
set_option exponentiation.threshold 10000
/-! Px: rows for the pure goals. -/
namespace Px
open PySem PySem.Spec PyProof.Rows L2

theorem atI_nat {α : Type} {xs : List α} {n : Nat} (h : n < xs.length) : atI xs (n : Int) = xs[n]? := by
  unfold atI ixN
  rw [if_pos (by omega), if_pos (by omega)]
  rfl
theorem at_0 {α : Type} {a : α} {xs : List α} : atI (a :: xs) 0 = some a := by
  rw [show (0 : Int) = ((0 : Nat) : Int) from rfl, atI_nat (by simp)]; rfl
theorem at_1 {α : Type} {a b : α} {xs : List α} : atI (a :: b :: xs) 1 = some b := by
  rw [show (1 : Int) = ((1 : Nat) : Int) from rfl, atI_nat (by simp)]; rfl
theorem at_2 {α : Type} {a b c : α} {xs : List α} : atI (a :: b :: c :: xs) 2 = some c := by
  rw [show (2 : Int) = ((2 : Nat) : Int) from rfl, atI_nat (by simp)]; rfl
theorem at_3 {α : Type} {a b c d : α} {xs : List α} : atI (a :: b :: c :: d :: xs) 3 = some d := by
  rw [show (3 : Int) = ((3 : Nat) : Int) from rfl, atI_nat (by simp)]; rfl
theorem at_4 {α : Type} {a b c d e : α} {xs : List α} : atI (a :: b :: c :: d :: e :: xs) 4 = some e := by
  rw [show (4 : Int) = ((4 : Nat) : Int) from rfl, atI_nat (by simp)]; rfl
theorem ex_some {x : PyData} {p : PyData → Prop} : (∃ y, some x = some y ∧ p y) = p x := by
  apply propext
  constructor
  · rintro ⟨y, e, h⟩
    cases e
    exact h
  · exact fun h => ⟨x, rfl, h⟩
theorem fIx_l {xs : List PyData} {i : Int} {R : Vl → Prop} : fIx (.d (.list xs)) (.d (.int i)) R = ∃ x, atI xs i = some x ∧ R (.d x) := rfl
theorem fIx_t {xs : List PyData} {i : Int} {R : Vl → Prop} : fIx (.d (.tuple xs)) (.d (.int i)) R = ∃ x, atI xs i = some x ∧ R (.d x) := rfl
theorem ix0 {q : Rat} {R : Vl → Prop} : fIx (.d (fq q)) (.d (.int 0)) R = R (.d (.int q.num)) := by
  show (∃ x, atI _ 0 = some x ∧ _) = _
  rw [at_0, ex_some]
theorem ix1 {q : Rat} {R : Vl → Prop} : fIx (.d (fq q)) (.d (.int 1)) R = R (.d (.int q.den)) := by
  show (∃ x, atI _ 1 = some x ∧ _) = _
  rw [at_1, ex_some]
theorem fEq_str {neg : Bool} {x y : Str} {R : Vl → Prop} : fEq neg (.d (.str x)) (.d (.str y)) R = R (.d (.bool (neg ^^ decide (x = y)))) := rfl
theorem fEq_bool {neg x y : Bool} {R : Vl → Prop} : fEq neg (.d (.bool x)) (.d (.bool y)) R = R (.d (.bool (neg ^^ decide (x = y)))) := by
  have e : PyData.eqv (.bool x) (.bool y) = decide (x = y) := by cases x <;> cases y <;> rfl
  have u : fEq neg (.d (.bool x)) (.d (.bool y)) R = (SeqAt.shaped (.bool x) = true ∧ SeqAt.shaped (.bool y) = true ∧ R (.d (.bool (neg ^^ PyData.eqv (.bool x) (.bool y))))) := rfl
  have s : ∀ x : Bool, SeqAt.shaped (.bool x) = true := fun _ => rfl
  rw [u, e, s, s]
  simp
/-- something of data only, with a use of it -/
theorem fMul_i {i j : Int} {R : Vl → Prop} : fMul (.d (.int i)) (.d (.int j)) R = (CMulW i j ∧ R (.d (.int (i * j)))) := rfl
theorem fSub_i {i j : Int} {R : Vl → Prop} : fSub (.d (.int i)) (.d (.int j)) R = R (.d (.int (i - j))) := rfl
end Px

set_option Elab.async false
set_option linter.all false
set_option maxRecDepth 100000
set_option maxHeartbeats 2000000
set_option exponentiation.threshold 10000
/-! Px: the moving state is made. -/
namespace Px
open PySem PySem.Spec PyProof.Rows L2

/-- no moving state yet -/
def K0 (fg : Fg) : Kx := ⟨fg, .non, fun _ => False, fun _ _ => True⟩
theorem SqL.new {K : Fg} {H : Hp} {a p : Addr} {o : HO} {xs : List V} (h : SqL K H a xs) (n : H p = none) : SqL K (upd H p o) a xs := by
  rcases h with (h | ⟨u, h⟩) | h
  · exact .inl (.inl (by rw [upd_ne (ne_of_none h n)]; exact h))
  · exact .inl (.inr ⟨u, by rw [upd_ne (ne_of_none h n)]; exact h⟩)
  · exact .inr h
theorem dp_ints {K : Fg} {H : Hp} : ∀ ns : List Int, DpAll K H (ns.map V.int) (ns.map PyData.int)
  | [] => .nil
  | n :: ns => .cons (.int n) (dp_ints ns)
theorem lay_ints : ∀ ns : List Int, PyData.canLayAll0 (ns.map .int) = true
  | [] => rfl
  | n :: ns => by simp [PyData.canLayAll0, PyData.canLay0, lay_ints ns]
theorem dep_ints : ∀ ns : List Int, PyData.depthAll (ns.map .int) ≤ 1
  | [] => by simp [PyData.depthAll]
  | n :: ns => by
    have := dep_ints ns
    simp only [List.map_cons, PyData.depthAll, PyData.depth]
    first | omega | (simp; done) | (simpa using this)
theorem shaped_ints (ns : List Int) : SeqAt.shaped (.list (ns.map .int)) = true := by
  have := dep_ints ns
  have e : PyData.depth (.list (ns.map .int)) = PyData.depthAll (ns.map .int) + 1 := by simp only [PyData.depth]
  have e2 : PyData.canLay0 (.list (ns.map .int)) = true := by simp only [PyData.canLay0, lay_ints ns]
  unfold SeqAt.shaped
  rw [e, e2, decide_eq_true (by omega)]
  rfl
theorem rd_ints {K : Fg} {H : Hp} : ∀ ns : List Int, RdA K H (ns.map V.int) (ns.map PyData.int)
  | [] => .nil
  | n :: ns => .cons (.int n) (rd_ints ns)
theorem good0 {fg : Fg} {σ : Sg} {ρ : En} {H : Hp} (hl : ρ.length = σ.length) (sl : ∀ (i : Nat) (x : Vl), ρ[i]? = some (.v x) → ∃ v, σ[i]? = some (some v) ∧ VlOk (K0 fg) (mask (fun _ => False) H) v x) (no : ∀ (i : Nat) (xs : List PyData), ρ[i]? ≠ some (.own xs)) :
    Good (K0 fg) ⟨fun _ => False, fun _ => False, fun _ => none, 0⟩ σ ρ H where
  eS := rfl
  ct := ⟨fun _ h => h, fun _ _ _ _ _ h => h, fun _ _ _ _ h => h.elim, fun _ _ _ _ h => h⟩
  si := trivial
  bd := fun _ h => h.elim
  fr := fun _ _ _ h => by cases h
  len := hl
  sl := fun i x e => by
    obtain ⟨v, h1, h2⟩ := sl i x e
    refine ⟨v, h1, h2.mono (mask_sub fun a z => ?_)⟩
    rcases z with z | ⟨j, xs, z, _⟩
    · exact z
    · exact no j xs z
  ow := fun i xs e => absurd e (no i xs)
  inj := fun i j xs ys p e => absurd e (no i xs)
section
variable {F : Fm} {fg : Fg} {vL : Expr} {n : Nat} {fL : FL} {q1 q2 q3 q4 q5 q6 q7 q8 q9 q10 q11 q12 q13 q14 q15 q16 q17 q18 : Pos} {j0 j1 j2 j3 j4 : Nat}
theorem ss_begin (hK : F.K = K0 fg) (hm : F.mg "list" = none) (hL : El F vL n fL) (hn : n ≤ lim) (hN0 : F.N[0]? = some ("script" : Str)) (hN1 : F.N[1]? = some ("cells_so" : Str))
    (hf : ∀ (a : Addr) (ns : List Int), ns.length ≤ 1000 → fL [.v (.o (.ref a)), .v (.d (.list (ns.map .int))), .non] fun ds => ∃ ls : List Int, ds = ls.map .int ∧ ls.length = ns.length)
    (hv0 : ∀ j, Vis (F.X j).env.scope "script" := by intro _; first | exact .inl rfl | exact .inr (.inl rfl)) (hv1 : ∀ j, Vis (F.X j).env.scope "cells_so" := by intro _; first | exact .inl rfl | exact .inr (.inl rfl))
    (hg : ∀ i, Gl (F.X i) "list" := by intro _; rfl)
    (hx : ∀ j, Loc (F.X j).env.scope "cells_so" := by intro _; first | exact .inl rfl | exact .inr rfl)
    (hff : ∀ j, (F.X j).fn "cells_so" = true ∨ (F.X j).env.scope.names.lookup ("cells_so" : Str) = some .local := by intro _; first | exact .inl rfl | exact .inr rfl)
    (he : ∀ i, starEach [.Name "script" q6] (F.X i).env = (false, eval (.Name "script" q6) (F.X i).env) :: starEach [] (F.X i).env := by intro _; rfl)
    (hpl : ∀ i, (backTo q7 (starEach [] (F.X i).env)).any (·.1) = false := by intro _; rfl)
    (he0 : ∀ i, starEach [.Constant (.int 0) j0 q8] (F.X i).env = (false, eval (.Constant (.int 0) j0 q8) (F.X i).env) :: starEach [] (F.X i).env := by intro _; rfl)
    (hsw1 : ∀ j, swapsWithSole [.Name "cells_so" q1] (.IfExp (.Compare (.Name "script" q2) [.NotEq] [.List [] q3] q4) (.Call (.Name "list" q5) [.Name "script" q6] [] q7) (.List [.Constant (.int 0) j0 q8] q9) q10) q11.line (F.X j).env = pure false := by intro _; rfl)
    (hsw2 : ∀ j, swappedStores [.Name "cells_so" q1] (.IfExp (.Compare (.Name "script" q2) [.NotEq] [.List [] q3] q4) (.Call (.Name "list" q5) [.Name "script" q6] [] q7) (.List [.Constant (.int 0) j0 q8] q9) q10) (F.X j).env = pure none := by intro _; rfl) :
    ∃ t, (∀ i, PSs (F.X i) [.Assign [.Name "cells_so" q1] (.IfExp (.Compare (.Name "script" q2) [.NotEq] [.List [] q3] q4) (.Call (.Name "list" q5) [.Name "script" q6] [] q7) (.List [.Constant (.int 0) j0 q8] q9) q10) q11,
      .Return (some (.Dict [some (.Constant (.str "cells") j1 q12), some (.Constant (.str "lefts") j2 q13), some (.Constant (.str "at") j3 q14)] [.Name "cells_so" q15, vL, .Constant (.int 0) j4 q16] q17)) q18] t) ∧
    ∀ (D : Ends) (H : Hp) (a : Addr) (ns : List Int), SqL fg H a (ns.map V.int) → ns.length ≤ 1000 →
      (∀ (d c l : Addr) (H' : Hp) (nC : Nat), H d = none → H c = none → H l = none → (∀ b o, H b = some o → H' b = some o) → stI d c l nC 0 H' → 0 < nC → nC ≤ 1000 → D.rt (.ref d) H') → t D [some (.ref a), none, none] H := by
  obtain ⟨tL, pL, sL⟩ := hL
  refine ⟨_, fun i => pss_cons (ps_asg (pe_ifExp (pt_cmpR (oNe i) (pe_var (by rw [F.eN]; exact hN0) (hv0 i) (by decide) (by decide)) (pe_lst pa_nil) (nomark _))
      (pe_callTy (cList i) (hg i) (by rw [F.eM]; exact hm) (by decide +kernel) (pa_cons (pe_var (by rw [F.eN]; exact hN0) (hv0 i) (by decide) (by decide)) pa_nil (he i)) (by decide) (by decide) (he i) (hpl i))
      (pe_lst (pa_cons pe_int pa_nil (he0 i)))) (pg_name (by rw [F.eN]; exact F.nd) (by rw [F.eN]; exact hN1) (hx i) (hff i)) (hsw1 i) (hsw2 i) rfl)
    (pss_cons (ps_ret (pe_disp (pps_cons pe_str (pe_var (by rw [F.eN]; exact hN1) (hv1 i) (by decide) (by decide)) (pps_cons pe_str (pL i) (pps_cons pe_str pe_int pps_nil))) rfl rfl (by simp) (show 3 ≤ 15 by decide))) pss_nil), fun D H a ns hs hn' k => ?_⟩
  have hs' : SqL F.K.fg H a (ns.map V.int) := by rw [hK]; exact hs
  -- behind the cells' list
  have after : ∀ (H2 : Hp) (c : Addr) (cells : List Int), H c = none → (∀ b o, H b = some o → H2 b = some o) → H2 c = some (.lst (cells.map V.int)) → 0 < cells.length → cells.length ≤ 1000 →
      tDisp [(tC (.str "cells"), tVar 1), (tC (.str "lefts"), tL), (tC (.str "at"), tC (.int 0))] [some (.ref a), some (.ref c), none] H2 D.rt := fun H2 c cells hc hle hcc c0 c1 d hd => by
    refine ⟨.ref c, rfl, ?_⟩
    have cd : c ≠ d := ne_of_none hcc hd
    have hc3 : (upd H2 d (HO.dK [])) c = some (.lst (cells.map V.int)) := by rw [upd_ne cd]; exact hcc
    have G : Good (K0 fg) ⟨fun _ => False, fun _ => False, fun _ => none, 0⟩ [some (.ref a), some (.ref c), none] [.v (.o (.ref a)), .v (.d (.list (cells.map .int))), .non] (upd H2 d (HO.dK [])) := by
      refine good0 rfl (fun i x e => ?_) (fun i xs e => ?_)
      · match i, e with
        | 0, e => cases e; exact ⟨_, rfl, rfl⟩
        | 1, e => cases e; exact ⟨_, rfl, .lst (mask_at (fun z => z) hc3) (rd_ints cells)⟩
        | 2, e => cases e
        | i + 3, e => cases e
      · match i, e with
        | 0, e => cases e
        | 1, e => cases e
        | 2, e => cases e
        | i + 3, e => cases e
    rw [hK] at sL
    refine sL _ _ _ _ _ _ (by show 0 + n ≤ lim; omega) G (hf a cells c1) fun l H3 vs ds m _ _ hl t1 hv hr hd' => ?_
    obtain ⟨ls, rfl, hll⟩ := hd'
    have ev : vs = ls.map V.int := RdA.ints hr
    subst ev
    have kp : ∀ b o, (upd H2 d (HO.dK [])) b = some o → H3 b = some o := fun b o e => t1.1 b o (fun z => z) e
    have hd3 : H3 d = some (.dK []) := kp d _ upd_same
    refine ⟨hd3, [(.inr "cells", .ref c), (.inr "lefts", .ref l), (.inr "at", .int 0)], rfl, (show 3 ≤ 15 by decide), ?_⟩
    have cl : c ≠ l := ne_of_none hc3 hl
    have ld : l ≠ d := fun z => by rw [z, upd_same] at hl; cases hl
    have hl2 : H2 l = none := by rw [upd_ne ld] at hl; exact hl
    have up : ∀ p, H2 p = none → H p = none := fun p e => by
      cases q : H p with
      | none => rfl
      | some o => rw [hle p o q] at e; cases e
    refine k d c l _ cells.length (up d hd) hc (up l hl2) (fun b o e => ?_) ⟨cells, ls, 0, upd_same, ?_, ?_, cl, rfl, hll, Nat.le_refl _⟩ c0 c1
    · have bd : b ≠ d := fun z => by rw [z, up d hd] at e; cases e
      rw [upd_ne bd]
      exact kp b o (by rw [upd_ne bd]; exact hle b o e)
    · rw [upd_ne cd]; exact kp c _ hc3
    · rw [upd_ne ld]; exact hv
  refine ⟨.ref a, rfl, small_le (by simp), fun p hp => .inr ⟨.list (ns.map .int), .list [], .lst (Px.SqL.new hs' hp) (dp_ints ns), .lst (.inl (.inl upd_same)) .nil, shaped_ints ns, rfl, _, rfl, ?_⟩⟩
  have old : ∀ b o, H b = some o → (upd H p (HO.lst [])) b = some o := fun b o e => by rw [upd_ne (ne_of_none e hp)]; exact e
  by_cases z : PyData.eqv (.list (ns.map .int)) (.list []) = true
  · rw [z]
    refine iteF ⟨small_le (show 1 ≤ 1000000 by decide), fun c hc => ?_⟩
    have hc0 : H c = none := by
      cases q : H c with
      | none => rfl
      | some o => rw [old c o q] at hc; cases hc
    exact after _ c [0] hc0 (fun b o e => by rw [upd_ne (ne_of_none (old b o e) hc)]; exact old b o e) upd_same (by decide) (by decide)
  · have z' : PyData.eqv (.list (ns.map .int)) (.list []) = false := by simpa using z
    rw [z']
    refine iteT ⟨.ref a, rfl, a, ns.map V.int, rfl, .inl (Px.SqL.new hs' hp), fun c hc => ?_⟩
    have hc0 : H c = none := by
      cases q : H c with
      | none => rfl
      | some o => rw [old c o q] at hc; cases hc
    refine after _ c ns hc0 (fun b o e => by rw [upd_ne (ne_of_none (old b o e) hc)]; exact old b o e) upd_same ?_ hn'
    cases ns with
    | nil => exact absurd rfl z
    | cons x xs => simp
/-- what the def that makes the state asks -/
def spBeg (fg : Fg) : Sp := fun vs H Q _ => ∃ (a : Addr) (ns : List Int), vs = [.ref a] ∧ SqL fg H a (ns.map V.int) ∧ ns.length ≤ 1000 ∧
  ∀ (d c l : Addr) (H' : Hp) (nC : Nat), H d = none → H c = none → H l = none → (∀ b o, H b = some o → H' b = some o) → stI d c l nC 0 H' → 0 < nC → nC ≤ 1000 → Q (.ref d) H'
/-- what a law of one script asks and gives -/
def spLaw (K : Fg) (Ps : List Addr) : Sp := fun vs H Q _ => ∃ (a : Addr) (ns : List Int), vs = [.ref a] ∧ SqL K H a (ns.map V.int) ∧ ns.length ≤ 1000 ∧ (∀ P ∈ Ps, H P = some (.tbl #[])) ∧ ∀ H', Q (.bl true) H'
theorem pss_ex {X : Cx} {ι : Type} {sts : List Stmt} {tr : ι → TS} (h : ∀ i, PSs X sts (tr i)) : PSs X sts (fun D σ H => ∃ i, tr i D σ H) := ⟨fun pins s σ H D I ⟨i, q⟩ => (h i).run pins s σ H D I q⟩
theorem ss_first {ι : Type} {sts : List Stmt} {tr : ι → TS} {fa : Addr} {fd : FuncData} {k : Nat} {st0 : Stmt} (hb : FnG F.P F.w F.K F.mg F.base CX0 k fa fd ["script"] (spBeg F.K)) (hm : F.mg "_law_begin" = some (.ref fa)) (Fu : Fun F.K "_law_begin" "_law_begin" st0 fa fd) (hp : BindP "_law_begin" st0 ["script"]) (hk : k ≤ F.k)
    (hN0 : F.N[0]? = some ("script" : Str)) (hN1 : F.N[1]? = some ("state_so" : Str)) (hr : ∀ i r, PSs (F.X r) sts (tr i))
    (hv0 : ∀ j, Vis (F.X j).env.scope "script" := by intro _; first | exact .inl rfl | exact .inr (.inl rfl)) (hg : ∀ i, Gl (F.X i) "_law_begin" := by intro _; rfl)
    (hx : ∀ j, Loc (F.X j).env.scope "state_so" := by intro _; first | exact .inl rfl | exact .inr rfl)
    (hff : ∀ j, (F.X j).fn "state_so" = true ∨ (F.X j).env.scope.names.lookup ("state_so" : Str) = some .local := by intro _; first | exact .inl rfl | exact .inr rfl)
    (he : ∀ i, starEach [.Name "script" q3] (F.X i).env = (false, eval (.Name "script" q3) (F.X i).env) :: starEach [] (F.X i).env := by intro _; rfl)
    (hpl : ∀ i, (backTo q4 (starEach [] (F.X i).env)).any (·.1) = false := by intro _; rfl)
    (hsw1 : ∀ j, swapsWithSole [.Name "state_so" q1] (.Call (.Name "_law_begin" q2) [.Name "script" q3] [] q4) q5.line (F.X j).env = pure false := by intro _; rfl)
    (hsw2 : ∀ j, swappedStores [.Name "state_so" q1] (.Call (.Name "_law_begin" q2) [.Name "script" q3] [] q4) (F.X j).env = pure none := by intro _; rfl) :
    ∃ t, (∀ i, PSs (F.X i) (.Assign [.Name "state_so" q1] (.Call (.Name "_law_begin" q2) [.Name "script" q3] [] q4) q5 :: sts) t) ∧
    ∀ (D : Ends) (H : Hp) (a : Addr) (ns : List Int) (σr : Sg), SqL F.K H a (ns.map V.int) → ns.length ≤ 1000 →
      (∀ (d c l : Addr) (H' : Hp) (nC : Nat), H d = none → H c = none → H l = none → (∀ b o, H b = some o → H' b = some o) → stI d c l nC 0 H' → 0 < nC → nC ≤ 1000 → ∃ i, tr i D (some (.ref a) :: some (.ref d) :: σr) H') → t D (some (.ref a) :: none :: σr) H := by
  have call : ∀ i, PE (F.X i) (.Call (.Name "_law_begin" q2) [.Name "script" q3] [] q4) (tCall (spBeg F.K) [] E0 (tCons (tVar 0) tNil)) := fun i => by
    have q1 := F.eK i
    have q2 := F.eM i
    have q3 := F.eP i
    have q4 := F.eW i
    have q5 := F.eB i
    exact peG_call (by rw [q1, q2, q3, q4, q5]; exact hb) (F.gu i) ((F.room i).mono hk) pass0 (hg i) (by rw [q2]; exact hm) (by rw [q1]; exact Fu.kp) (by rw [q1]; exact Fu.binds hp) (pa_cons (pe_var (by rw [F.eN]; exact hN0) (hv0 i) (by decide) (by decide)) pa_nil (he i)) (by decide) (he i) (hpl i)
  refine ⟨_, fun i => pss_cons (ps_asg (call i) (pg_name (by rw [F.eN]; exact F.nd) (by rw [F.eN]; exact hN1) (hx i) (hff i)) (hsw1 i) (hsw2 i) rfl) (pss_ex fun j => hr j i), fun D H a ns σr hs hn k => ?_⟩
  exact ⟨.ref a, rfl, a, ns, rfl, hs, hn, fun d c l H' nC h1 h2 h3 h4 h5 h6 h7 => k d c l H' nC h1 h2 h3 h4 h5 h6 h7⟩
/-- where the law stands behind the state -/
theorem good_st {fg : Fg} {d c l a : Addr} {nC : Nat} {T : List (Addr × Str)} {H : Hp} (n : Nat) (s : stI d c l nC 0 H) (tb : LamX.Tabs T H) :
    Good (stK fg d c l nC T) ⟨(stK fg d c l nC T).S, (stK fg d c l nC T).S, fun _ => none, 0⟩ (some (.ref a) :: some (.ref d) :: List.replicate n none) (.v (.o (.ref a)) :: .v .st :: List.replicate n .non) H where
  eS := rfl
  ct := stK_ok fun _ h => h
  si := ⟨s, tb⟩
  bd := (stK_ok (fg := fg) (nC := nC) (T := T) (B := (stK fg d c l nC T).S) fun _ h => h).th 0 H ⟨s, tb⟩
  fr := fun _ _ _ h => by cases h
  len := by simp
  sl := fun i x e => by
    match i, e with
    | 0, e => cases e; exact ⟨_, rfl, rfl⟩
    | 1, e => cases e; exact ⟨_, rfl, rfl⟩
    | i + 2, e =>
      simp only [List.getElem?_cons_succ] at e
      rw [List.getElem?_replicate] at e
      split at e <;> cases e
  ow := fun i xs e => by
    match i, e with
    | 0, e => cases e
    | 1, e => cases e
    | i + 2, e =>
      simp only [List.getElem?_cons_succ] at e
      rw [List.getElem?_replicate] at e
      split at e <;> cases e
  inj := fun i j xs ys p e => by
    match i, e with
    | 0, e => cases e
    | 1, e => cases e
    | i + 2, e =>
      simp only [List.getElem?_cons_succ] at e
      rw [List.getElem?_replicate] at e
      split at e <;> cases e
end
end Px

set_option Elab.async false
set_option linter.all false
set_option maxRecDepth 100000
set_option maxHeartbeats 2000000
namespace Px
open PySem PySem.Spec PyProof.Rows L2 Px
theorem enum_cls (v : Value) : Builtin.SmallTypes.newClass "enumerate" { pos := [Value.type "enumerate", v] } = pure (Value.type "enumerate", [v]) := by
  unfold Builtin.SmallTypes.newClass
  have e : isType (Value.type "enumerate") = pure true := rfl
  simp only [e, sub_enumerate]
  rfl
theorem wpite {α : Type} {M : Model} {A : Around} {E : Value → Shared → Prop} {s : Shared} {c : Prop} [Decidable c] {a b : Sem α} {Q : α → Shared → Prop} (h1 : wpAny M A a Q E s) (h2 : wpAny M A b Q E s) : wpAny M A (if c then a else b) Q E s := by
  split
  · exact h1
  · exact h2
theorem rec_end {M : Model} {A : Around} {R : Result → Shared → Prop} {s0 : Shared} {o : Obj} {E : Value → Shared → Prop}
    (hR : R (Except.ok (Flow.ret (Value.ref (s0.heap.push o).objs.size))) { heap := (s0.heap.push o).push { cls := Value.type "enumerate", data := Data.fields #[Value.none, Value.bool false, Value.ref s0.heap.objs.size, rawInt 0, Value.none, Value.none] }, gens := s0.gens, drawn := s0.drawn, toks := s0.toks, os := s0.os }) :
    wpAny M A (Builtin.SmallTypes.newRecord (Value.type "enumerate") (Builtin.SmallTypes.ownedTupleFields ++ [Value.ref s0.heap.objs.size, rawInt 0, Value.none, Value.none]))
      (fun a s' => wpAny M A (ret a) (fun fin s' => ∃ v, fin = Fin.done (Flow.ret v) ∧ R (Except.ok (Flow.ret v)) s') E s') E { heap := s0.heap.push o, gens := s0.gens, drawn := s0.drawn, toks := s0.toks, os := s0.os } := by
  unfold Builtin.SmallTypes.newRecord Builtin.SmallTypes.ownedTupleFields
  simp only [List.cons_append, List.nil_append]
  unfold newObj
  refine wpAny_ite_false (show decide (6 > sizeLine + 2) = false by decide) ?_
  unfold newObjAsIs
  refine wpAny_bind (wpAny_alloc ?_)
  exact wpAny_pure (wpAny_pure ⟨_, rfl, hR⟩)
theorem meets_enum1 (v : Value) (o : Obj) (H : Heap → Prop) (B : Begins v o H) : Meets (Builtin.«enumerate.__new__» { pos := [Value.type "enumerate", v] }) fun x R s => H s.heap ∧ R (Except.ok (Flow.ret (Value.ref (s.heap.push o).objs.size)))
   { heap := (s.heap.push o).push { cls := Value.type "enumerate", data := Data.fields #[Value.none, Value.bool false, Value.ref s.heap.objs.size, rawInt 0, Value.none, Value.none] }, gens := s.gens, drawn := s.drawn, toks := s.toks, os := s.os } := by
  refine Meets.of_wp fun prog w A R s ⟨h, hR⟩ => ?_
  unfold Builtin.«enumerate.__new__»
  refine wpAny_bind (wpAny_of_eq (enum_cls v) ?_)
  have e2 : (Value.type "enumerate" == Value.type "enumerate") = true := by simp
  simp only [e2, if_true]
  unfold Builtin.SmallTypes.calledThroughType
  refine wpAny_bind (wpAny_bind (wpAny_stack_any fun st => wpAny_pure ?_))
  refine wpite ?_ ?_
  · refine wpAny_bind (wpAny_of_eq (a := (v, none)) rfl ?_)
    refine wpAny_bind (B.iter prog w A.in1 _ s _ h ?_)
    refine wpAny_bind ?_
    exact rec_end hR
  · refine wpAny_bind (wpAny_of_eq (a := (v, none)) rfl ?_)
    refine wpAny_bind (B.iter prog w A.in1 _ s _ h ?_)
    refine wpAny_bind ?_
    exact rec_end hR
theorem call_enum1 {prog : Program} {w : World} {A : Around} {E : Value → Shared → Prop} {s : Shared} {v : Value} {o : Obj} {H : Heap → Prop} {Q : Value → Shared → Prop} (B : Begins v o H) (h : H s.heap)
    (k : ∀ h' : Heap, IsEnum h' (s.heap.objs.size + 1) s.heap.objs.size 0 Value.none → h'.get? s.heap.objs.size = some o → h'.objs.size = s.heap.objs.size + 2 → (∀ (b : Addr) (o : Obj), s.heap.get? b = some o → h'.get? b = some o) →
      Q (Value.ref (s.heap.objs.size + 1)) { heap := h', gens := s.gens, drawn := s.drawn, toks := s.toks, os := s.os }) : wpAny (model prog w) A (PySem.call (Value.type "enumerate") [v]) Q E s := by
  refine callType_new F.called_enumerate (by decide) (F.typeCall_enumerate_1 v) (F.newCall_enumerate_1 v) (fun obj => F.args_object_init_2 obj v) F.entry_enumerate_new (meets_enum1 v o H B) ⟨h, ?_⟩
  have sz : (s.heap.push o).objs.size = s.heap.objs.size + 1 := Heap.size_push _ _
  have e1 : ((s.heap.push o).push { cls := Value.type "enumerate", data := Data.fields #[Value.none, Value.bool false, Value.ref s.heap.objs.size, rawInt 0, Value.none, Value.none] }).get? (s.heap.push o).objs.size = some { cls := Value.type "enumerate", data := Data.fields #[Value.none, Value.bool false, Value.ref s.heap.objs.size, rawInt 0, Value.none, Value.none] } := Heap.get?_push_size _ rfl
  show _ ∧ Q _ _
  refine ⟨?_, ?_⟩
  · exact ⟨_, e1, rfl⟩
  · rw [sz] at e1 ⊢
    refine k _ e1 (Heap.get?_push_of_some _ (Heap.get?_push_size _ B.free)) (by rw [Heap.size_push, sz]) fun b o e => Heap.get?_push_of_some _ (Heap.get?_push_of_some _ e)
/-- enumerate over a tuple -/
def IteT (K : PySem.W.Frag) (a : Addr) : It where
  go := fun i H => ∃ xs x, SqT K H a xs ∧ xs[i]? = some x
  yld := fun i H v H' => ∃ T x, v = V.ref T ∧ H T = none ∧ H' = upd H T (HO.tup [V.int i, x]) ∧ ∀ xs : List V, SqT K H a xs → xs[i]? = some x
  stop := fun i H => ∃ xs, SqT K H a xs ∧ xs.length = i
theorem turn_enumT {P : Program} {w : World} {K : PySem.W.Frag} {elts : List Expr} {kk : Nat} {tpos : Pos} (a e it : Addr) : Turn P w K (.Tuple elts kk tpos) (IteT K a) [e, it] e (fun i h => (∃ old, IsEnum h e it i old) ∧ h.IsTupleIter it a i ∧ e ≠ it) where
  mem := by simp
  obj := fun i h tn b hb => by
    obtain ⟨⟨old, h1⟩, ⟨o, h2, h3, h4⟩, h5⟩ := tn
    rcases List.mem_cons.mp hb with rfl | hb
    · exact ⟨_, h1, fun v z => by cases z⟩
    · rw [List.mem_singleton.mp hb]
      exact ⟨o, h2, fun v z => by rw [h4] at z; cases z⟩
  keep := fun i h h' tn k => by
    obtain ⟨⟨old, h1⟩, ⟨o, h2, h3, h4⟩, h5⟩ := tn
    exact ⟨⟨old, k e (by simp) _ h1⟩, ⟨o, k it (by simp) _ h2, h3, h4⟩, h5⟩
  item := fun X hP hw hK hc i pins s σ H E I hfp tn hgo => by
    subst hP
    subst hw
    obtain ⟨xs, x, hS, hx⟩ := hgo
    obtain ⟨⟨old, h1⟩, ⟨o, h2, h3, h4⟩, h5⟩ := tn
    obtain ⟨its, rv, pl, hz⟩ := I.tuple (by rw [hK]; exact hS)
    obtain ⟨u, hu, ru⟩ := rv.get hx
    have ae : e ≠ a := fun z => by
      obtain ⟨q, q1, q2, _⟩ := pl
      rw [← z, h1] at q1
      cases q1
      exact absurd q2 (by simp)
    have ai : a ≠ it := fun z => by
      obtain ⟨q, q1, q2, _⟩ := pl
      rw [z, h2] at q1
      cases q1
      rw [h3] at q2
      exact absurd q2 (by simp)
    have D := Draws.tuple (prog := X.prog) (w := X.w) (A := X.A.in1) (I.ok.hd hc) it a ai its.toArray
    have G := GoesN.enumFrom (A := X.A) (elts := elts) (x1 := kk) (pos := tpos) 0 D e h5 (by simp [h5, ae]) (by simp)
    have hi : i < its.toArray.size := by
      have := (List.getElem?_eq_some_iff.mp hu).1
      simpa using this
    refine G.goes i s (fun u s2 => ∃ x H', L2.Inv X pins σ H' s2 ∧ L2.RelV x u ∧ (IteT K a).yld i H x H' ∧ ((∃ old, IsEnum s2.heap e it ((i + 1 : Nat) : Int) old) ∧ s2.heap.IsTupleIter it a (i + 1) ∧ e ≠ it) ∧ ∀ b ∈ [e, it], H' b = none) E hi ⟨⟨old, by simpa using h1⟩, ⟨o, h2, h3, h4⟩, pl⟩ fun v h' tk hY hSt hold htk => ?_
    obtain ⟨T, t, x', rfl, hT, hx', hTup⟩ := hY
    obtain ⟨⟨old', g1⟩, g2, g3⟩ := hSt
    have hTn : H T = none := I.hok.fresh hT
    have ex : x' = u := by
      rw [List.getElem?_toArray, hu] at hx'
      exact (Option.some.inj hx').symm
    subst ex
    refine ⟨.ref T, upd H T (.tup [.int i, x]), I.turnedNew (ch := [e, it]) hold hfp hT ?_, rfl, ⟨T, x, rfl, hTn, rfl, fun ys hy => ?_⟩, ⟨⟨old', by simpa using g1⟩, g2, h5⟩, fun b hb => ?_⟩
    · exact ⟨(show 2 ≤ sizeLine by decide), [.int (0 + (i : Int)) t, x'], .cons ⟨t, by rw [Int.zero_add]⟩ (.cons ru .nil), hTup⟩
    · have := I.tuple_inj (by rw [hK]; exact hS) (by rw [hK]; exact hy)
      rw [← this]
      exact hx
    · have hbT : b ≠ T := fun z => by
        obtain ⟨q, q1, q2, _⟩ := hTup
        rcases List.mem_cons.mp hb with rfl | hb
        · rw [← z, g1] at q1
          cases q1
          exact absurd q2 (by simp)
        · obtain ⟨o2, r1, r2, _⟩ := g2
          rw [← z, List.mem_singleton.mp hb, r1] at q1
          cases q1
          rw [r2] at q2
          exact absurd q2 (by simp)
      rw [upd_ne hbT]
      exact (hfp b hb).1
  done := fun X hP hw hK hc i pins s σ H E I hfp tn hst => by
    subst hP
    subst hw
    obtain ⟨xs, hS, rfl⟩ := hst
    obtain ⟨⟨old, h1⟩, ⟨o, h2, h3, h4⟩, h5⟩ := tn
    obtain ⟨its, rv, pl, hz⟩ := I.tuple (by rw [hK]; exact hS)
    have ae : e ≠ a := fun z => by
      obtain ⟨q, q1, q2, _⟩ := pl
      rw [← z, h1] at q1
      cases q1
      exact absurd q2 (by simp)
    have ai : a ≠ it := fun z => by
      obtain ⟨q, q1, q2, _⟩ := pl
      rw [z, h2] at q1
      cases q1
      rw [h3] at q2
      exact absurd q2 (by simp)
    have D := Draws.tuple (prog := X.prog) (w := X.w) (A := X.A.in1) (I.ok.hd hc) it a ai its.toArray
    have G := GoesN.enumFrom (A := X.A) (elts := elts) (x1 := kk) (pos := tpos) 0 D e h5 (by simp [h5, ae]) (by simp)
    have en : its.toArray.size = xs.length := by rw [List.size_toArray, rv.length]
    refine G.stops s (fun s2 => L2.Inv X pins σ H s2) E ⟨⟨old, by rw [en]; simpa using h1⟩, ⟨o, h2, h3, by rw [en]; exact h4⟩, pl⟩ fun h' tk hold htk => ?_
    exact I.turnedL (ch := [e, it]) hold hfp
  self := fun A i s Q E tn hq => by
    obtain ⟨⟨old, h1⟩, _⟩ := tn
    exact wpAny_pyIter_enum h1 hq
theorem walk_enumT {K : PySem.W.Frag} {a : Addr} {xs : List V} : Walk (IteT K a) xs.length (fun H => SqT K H a xs) (YPair (fun i => some (V.int i)) fun i => xs[i]?) := by
  refine ⟨fun i H hi hS => ⟨xs, xs[i], hS, by simp [hi]⟩, fun H hS => ⟨xs, hS, rfl⟩, fun i H x H' hi hS y => ?_⟩
  obtain ⟨T, z, h1, h2, h3, h4⟩ := y
  exact ⟨T, .int i, z, h1, h2, h3, rfl, h4 xs hS⟩
def iEnumA (K : PySem.W.Frag) (ta : TA) : TI := fun σ H R => ta σ H fun vs H1 => ∃ a, vs = [V.ref a] ∧ ((∃ xs, SqL K H1 a xs ∧ R (Ite K a) H1) ∨ ∃ xs, SqT K H1 a xs ∧ R (IteT K a) H1)
theorem pi_enumA {X : Cx} {e : Expr} {ta : TA} {p pos tpos : Pos} {elts : List Expr} {kk : Nat} (gl : Gl X "enumerate") (hm : X.mg "enumerate" = none) (ha : PA X [e] ta) (he : starEach [e] X.env = [(false, eval e X.env)]) :
    PI X (.Tuple elts kk tpos) (.Call (.Name "enumerate" p) [e] [] pos) (iEnumA X.K ta) := by
  refine ⟨fun pins s σ H R I h => wpAny_Call_Name_kw ?_⟩
  refine ld_blt I gl hm PyProof.Rows.boot_enumerate ?_
  refine PyProof.Rows.callWith_type1 (thn (ha.run pos pins s σ H _ I h) fun us s2 ⟨vs, H2, I2, r2, q2⟩ => ?_) (by rw [he]; rfl) (by rfl)
  obtain ⟨a, rfl, q2⟩ := q2
  obtain ⟨u1, rfl, ru⟩ : ∃ u1, us = [u1] ∧ u1 = Value.ref a := by
    cases r2 with
    | cons r1 r2 => cases r2; exact ⟨_, rfl, r1⟩
  subst ru
  have fp : ∀ c ∈ [s2.heap.objs.size + 1, s2.heap.objs.size], FpOk X pins H2 c := fun c hc => by
    have : s2.heap.objs.size ≤ c := by
      rcases List.mem_cons.mp hc with rfl | hc
      · omega
      · rw [List.mem_singleton.mp hc]; exact Nat.le_refl _
    exact I2.fpOk this (I2.hok.fresh this)
  rcases q2 with ⟨xs, h1, h2⟩ | ⟨xs, h1, h2⟩
  · obtain ⟨its, rv, pl, hz⟩ := I2.list h1
    refine call_enumerate_list pl.isList fun h' e1 e2 e3 e4 => ?_
    refine wpAny_pyIter_enum e1 ⟨_, _, _, _, H2, rfl, I2.kept (t' := s2.toks) e4, turn_enum a _ _, ⟨⟨_, e1⟩, e2, Nat.succ_ne_self _⟩, fp, h2⟩
  · obtain ⟨its, rv, pl, hz⟩ := I2.tuple h1
    refine call_enum1 (begins_tuple a its.toArray) pl fun h' e1 e2 e3 e4 => ?_
    refine wpAny_pyIter_enum e1 ⟨_, _, _, _, H2, rfl, I2.kept (t' := s2.toks) e4, turn_enumT a _ _, ⟨⟨_, e1⟩, ⟨_, e2, rfl, rfl⟩, Nat.succ_ne_self _⟩, fp, h2⟩
/-- pairs of places and items -/
def enumD (n : Nat) : List PyData → List Vl
  | [] => []
  | x :: xs => .d (.tuple [.int n, x]) :: enumD (n + 1) xs
theorem enumD_len : ∀ (xs : List PyData) (n : Nat), (enumD n xs).length = xs.length
  | [], _ => rfl
  | x :: xs, n => by simp only [enumD, List.length_cons, enumD_len xs]
theorem enumD_get : ∀ (xs : List PyData) (n i : Nat) (a : PyData), xs[i]? = some a → (enumD n xs)[i]? = some (.d (.tuple [.int ((n + i : Nat) : Int), a]))
  | [], _, _, _, h => by simp at h
  | x :: xs, n, 0, a, h => by simp at h; subst h; rfl
  | x :: xs, n, i + 1, a, h => by
    have := enumD_get xs (n + 1) i a (by simpa using h)
    simp only [enumD, List.getElem?_cons_succ, this]
    congr 5
    omega
theorem WOk.enum {K : Kx} {M0 : Hp} {J : It} {G : Hp → Prop} {vs : List V} {ds : List PyData} (w : Walk J vs.length G (YPair (fun i => some (V.int i)) fun i => vs[i]?)) (hG : ∀ H, Ex M0 H → G H) (r : RdA K M0 vs ds) : WOk K M0 J (enumD 0 ds) := by
  refine ⟨G, _, by rw [enumD_len, ← r.length]; exact w, hG, fun i H x H' hi e y => ?_⟩
  obtain ⟨T, a, b, rfl, hT, rfl, ha, hb⟩ := y
  cases ha
  obtain ⟨d, q1, q2⟩ := r.get' hb
  have n0 : M0 T = none := by
    cases q : M0 T with
    | none => rfl
    | some o => rw [e T o q] at hT; cases hT
  exact ⟨_, enumD_get ds 0 i d q1, .inr ⟨T, _, hT, rfl, by rw [Nat.zero_add]; exact pair_ok n0 (.int _) q2⟩⟩
def asE (R : List Vl → Prop) : List Vl → Prop
  | [.d (.list xs)] => R (enumD 0 xs)
  | [.d (.tuple xs)] => R (enumD 0 xs)
  | _ => False
theorem i_enum {F : Fm} {e : Expr} {n : Nat} {f : FA} {p pos tpos : Pos} {elts : List Expr} {kk : Nat} (hm : F.mg "enumerate" = none) (ha : Ea F [e] n f) (hg : ∀ i, Gl (F.X i) "enumerate" := by intro _; rfl) (hs : ∀ i, starEach [e] (F.X i).env = [(false, eval e (F.X i).env)] := by intro _; rfl) :
    Ei F (.Tuple elts kk tpos) (.Call (.Name "enumerate" p) [e] [] pos) n (fun ρ R => f ρ (asE R)) := by
  obtain ⟨t, pt, st⟩ := ha
  refine ⟨iEnumA F.K t, fun i => by have := pi_enumA (p := p) (pos := pos) (tpos := tpos) (elts := elts) (kk := kk) (hg i) (by rw [F.eM]; exact hm) (pt i) (hs i); rw [F.eK i] at this; exact this, fun C σ ρ H R Q hm G hf k => st C σ ρ H _ _ hm G hf fun vs H1 xs m l u t1 oxs h1 => ?_⟩
  match xs, oxs, h1 with
  | [.d (.list ds)], oxs, h1 =>
    obtain ⟨v, rfl, o1⟩ := oxs.one
    obtain ⟨a, ws, rfl, h2, ra⟩ := Rd.inv_list o1
    exact ⟨a, rfl, .inl ⟨ws, SqL.of (mask_le _ _ h2), k _ H1 _ m l u t1 (WOk.enum walk_enum (fun H e => e.sq h2) ra) h1⟩⟩
  | [.d (.tuple ds)], oxs, h1 =>
    obtain ⟨v, rfl, o1⟩ := oxs.one
    obtain ⟨a, ws, rfl, h2, ra⟩ := Rd.inv_tuple o1
    exact ⟨a, rfl, .inr ⟨ws, Ex.sqt mask_le h2, k _ H1 _ m l u t1 (WOk.enum walk_enumT (fun H e => e.sqt h2) ra) h1⟩⟩
end Px

set_option Elab.async false
set_option linter.all false
set_option maxRecDepth 100000
set_option maxHeartbeats 2000000
/-! Px: a def handed on and called by a local name; ranges kept in a name; comprehensions with two walks; parallel assignments that begin a list. -/
namespace Px
open PySem PySem.Spec PyProof.Rows L2
section
variable {F : Fm} {K : Kx} {e e1 e2 e3 : Expr} {es : List Expr} {pos p : Pos} {x y z : Str} {st : Stmt} {ps : List Str} {fs : FS} {ff : FA} {fe fe1 fe2 : FE} {k n n1 n2 cf : Nat}
/-! ### a def handed on -/
/-- the name of a def, as a value -/
theorem e_fn (D : Df F.P F.w F.K F.mg F.base x st ps k cf fs) (hg : ∀ i, Gl (F.X i) x := by intro _; rfl) (hd : (x == ("__debug__" : Str)) = false := by decide) :
    Ee F (.Name x p) 0 (fun _ R => ∀ fa, F.mg x = some (.ref fa) → R (.o (.ref fa))) := by
  obtain ⟨fa, fd, Fn, hm, Fu⟩ := D
  exact ⟨_, fun i => pe_glob (v := .ref fa) (hg i) (by rw [F.eM]; exact hm) rfl hd, fun C _ _ H _ _ _ G hr k => k (.ref fa) H (.o (.ref fa)) C.m (Nat.le_refl _) le0 (Tr.refl G.si) rfl (hr fa hm)⟩
theorem peG_callL {X : Cx} {CX : CXT} {i : Nat} {f : Addr} {fd : FuncData} {sp : Sp} {E : XK} {t : TA} (Fn : FnG X.prog X.w X.K X.mg X.base CX k f fd ps sp) (hgu : X.A.guards = some []) (hr : Room k X.A) (hx : Passes CX X E) (hN : X.N[i]? = some x) (hv : Vis X.env.scope x) (hk : PySem.W.keepIn X.K (.ref f) = true)
    (hb : Binds X.K fd ps []) (ha : PA X (e :: es) t) (hdb : (x == ("__debug__" : Str)) = false := by decide) (hcd : (x == ("__classdict__" : Str)) = false := by decide)
    (he : starEach (e :: es) X.env = (false, eval e X.env) :: starEach es X.env := by rfl) (hpl : (backTo pos (starEach es X.env)).any (·.1) = false := by rfl) : PE X (.Call (.Name x p) (e :: es) [] pos) (tCallL i f sp [] E t) := by
  refine ⟨fun pins s σ H Q I h => ?_⟩
  obtain ⟨hs, ht⟩ := h
  refine wpAny_Call_Name_kw (thn ((pe_var (pos := p) hN hv hdb hcd).run pins s σ H (fun v H1 => v = .ref f ∧ H1 = H) I ⟨.ref f, hs, rfl, rfl⟩) fun u s1 ⟨v, H1, I1, r1, q1⟩ => ?_)
  obtain ⟨rfl, rfl⟩ := q1
  cases r1
  refine PySem.W.callWith_K (h₀ := X.base) I.ok.mod.kin hk (thn (ha.run pos pins s1 σ _ _ I1 ht) fun us s2 ⟨vs, H2, I2, r, q⟩ => ⟨I2.kIn, ?_⟩) he hpl
  have q' : sp vs H2 Q E := by simpa using q
  exact goG Fn hgu hr hx I2 (zs := us) (fun hl => by have := hb s2 us I2.kIn (by simpa using hl); simpa using this) r q'
/-- the i-th slot holds the def f -/
def isFn (mg : Str → Option Value) (g : Str) (ρ : En) (i : Nat) : Prop := ∃ fa, mg g = some (.ref fa) ∧ ρ[i]? = some (.v (.o (.ref fa)))
/-- h(e, ..), h a local name that holds the def g -/
theorem e_callV {g : Str} (D : Df F.P F.w F.K F.mg F.base g st ps k cf fs) (i : Nat) (hb : BindP g st ps) (ha : Ea F (e :: es) n ff) (hk : k ≤ F.k := by exact Nat.le_of_ble_eq_true rfl) (hN : F.N[i]? = some x := by rfl) (hv : ∀ j, Vis (F.X j).env.scope x := by intro _; first | exact .inl rfl | exact .inr (.inl rfl) | exact .inr (.inr rfl))
    (hdb : (x == ("__debug__" : Str)) = false := by decide) (hcd : (x == ("__classdict__" : Str)) = false := by decide)
    (he : ∀ i, starEach (e :: es) (F.X i).env = (false, eval e (F.X i).env) :: starEach es (F.X i).env := by intro _; rfl) (hpl : ∀ i, (backTo pos (starEach es (F.X i).env)).any (·.1) = false := by intro _; rfl) :
    Ee F (.Call (.Name x p) (e :: es) [] pos) (n + cf) (fun ρ R => isFn F.mg g ρ i ∧ ff ρ fun xs => xs.length = ps.length ∧ fs xs R) := by
  obtain ⟨fa, fd, Fn, hm, Fu⟩ := D
  obtain ⟨t, pt, st⟩ := ha
  refine ⟨tCallL i fa (spF F.K ps.length cf fs) [] E0 t, fun j => ?_, fun C σ ρ H R Q hm' G hf kk => ?_⟩
  · have q1 := F.eK j
    have q2 := F.eM j
    have q3 := F.eP j
    have q4 := F.eW j
    have q5 := F.eB j
    exact peG_callL (by rw [q1, q2, q3, q4, q5]; exact Fn) (F.gu j) ((F.room j).mono hk) pass0 (by rw [F.eN]; exact hN) (hv j) (by rw [q1]; exact Fu.kp) (by rw [q1]; exact Fu.binds hb) (pt j) hdb hcd (he j) (hpl j)
  · obtain ⟨⟨fa', e1, e2⟩, hf⟩ := hf
    have ef : fa' = fa := by rw [hm] at e1; injection e1 with e1; injection e1 with e1; exact e1.symm
    subst ef
    obtain ⟨v, h1, h2⟩ := G.sl i _ e2
    have hv' : v = .ref fa' := h2
    subst hv'
    refine ⟨h1, st C σ ρ H _ _ (by omega) G hf fun vs H1 xs m1 l1 u1 t1 oxs h1 => ?_⟩
    have q := sp_ok (C := C.up m1) (E := E0) (Q := Q) (by show m1 + cf ≤ lim; omega) (G.tr t1) oxs h1 fun v H' z m2 l2 u2 t2 oz hz => kk v H' z m2 (Nat.le_trans l1 l2) (by have : m2 ≤ m1 + cf := u2; omega) (t1.trans t2) oz hz
    show spF F.K ps.length cf fs (vs ++ []) H1 Q E0
    rw [List.append_nil]
    exact q
/-! ### a range kept in a name -/
theorem cr_range1 {X : Cx} : CallR X (.type "range") (fun vs H Q => ∃ j, vs = [V.int j] ∧ ∀ p, H p = none → Q (.ref p) (upd H p (.rng 0 j))) := by
  intro pins s σ H vs us Q I r h
  obtain ⟨j, rfl, q⟩ := h
  cases r with
  | cons rj rr =>
    cases rr
    obtain ⟨t, rfl⟩ := rj
    refine call_range_1 ⟨.ref s.heap.objs.size, upd H s.heap.objs.size (.rng 0 j), I.laid (t' := s.toks + 1 + 1) (fun b o e => Heap.get?_push_of_some _ e) (Nat.le_refl _) ?_, rfl, q _ (I.hok.fresh (Nat.le_refl _))⟩
    exact ⟨_, _, _, Heap.get?_push_size _ rfl⟩
def asRg (R : Vl → Prop) : List Vl → Prop
  | [.d (.int j)] => R (.rg 0 j)
  | _ => False
theorem e_range1 {f : FA} (hm : F.mg "range" = none) (ha : Ea F [e] n f) (hg : ∀ i, Gl (F.X i) "range" := by intro _; rfl) (he : ∀ i, starEach [e] (F.X i).env = (false, eval e (F.X i).env) :: starEach [] (F.X i).env := by intro _; rfl)
    (hpl : ∀ i, (backTo pos (starEach [] (F.X i).env)).any (·.1) = false := by intro _; rfl) : Ee F (.Call (.Name "range" p) [e] [] pos) n (fun ρ R => f ρ (asRg R)) := by
  obtain ⟨t, pt, st⟩ := ha
  refine ⟨_, fun i => pe_callTy cr_range1 (hg i) (by rw [F.eM]; exact hm) boot_range (pt i) (by decide) (by decide) (he i) (hpl i), fun C σ ρ H R Q hm G hf k => st C σ ρ H _ _ hm G hf fun vs H1 xs m l u t1 oxs h1 => ?_⟩
  match xs, oxs, h1 with
  | [.d (.int j)], oxs, h1 =>
    obtain ⟨v, rfl, o1⟩ := oxs.one
    refine ⟨j, by rw [Rd.inv_int o1], fun q hq => k _ _ (.rg 0 j) m l u (t1.trans ((G.tr t1).new hq)) ⟨q, rfl, ?_⟩ h1⟩
    exact mask_at (fun z => (G.tr t1).nbar hq z) upd_same
def iRg (te : TE) : TI := fun σ H R => te σ H fun v H1 => ∃ p lo hi, v = .ref p ∧ H1 p = some (.rng lo hi) ∧ (-(2 ^ 62) ≤ lo ∧ lo < 2 ^ 62 ∧ -(2 ^ 62) ≤ hi ∧ hi < 2 ^ 62) ∧ R (Itr lo (hi - lo).toNat) H1
theorem pi_rg {X : Cx} {tg : Expr} {te : TE} (h : PE X e te) : PI X tg e (iRg te) := by
  refine ⟨fun pins s σ H R I q => thn (h.run pins s σ H _ I q) fun v s1 ⟨x, H1, I1, r1, p, lo, hi, ex, hp, ⟨h1, h2, h3, h4⟩, q⟩ => ?_⟩
  subst ex
  cases r1
  obtain ⟨t, u, w, ho⟩ := I1.hok p _ hp
  refine wpAny_pyIter_range (r := p) (a := lo) (b := hi) (c := 1) (t := t) (u := u) (v := w) ho (small_one h1 h2 h3 h4) ?_
  refine ⟨s1.heap.objs.size, [s1.heap.objs.size], _, _, H1, rfl, I1.kept (t' := s1.toks) fun b o e => Heap.get?_push_of_some _ e, turn_range _ lo (hi - lo).toNat, ?_, fun b hb => ?_, q⟩
  · have e1 : lo + ((0 : Nat) : Int) * 1 = lo := by simp
    have e2 : (((hi - lo).toNat : Nat) : Int) - ((0 : Nat) : Int) = Builtin.Range.rangeSize lo hi 1 := by rw [rangeSize_one]; split <;> omega
    show IsRangeIter _ _ (lo + ((0 : Nat) : Int) * 1) ((((hi - lo).toNat : Nat) : Int) - ((0 : Nat) : Int)) 1
    rw [e1, e2]
    exact Heap.get?_push_size _ rfl
  · have e : b = s1.heap.objs.size := by simpa using hb
    subst e
    exact I1.fpOk (Nat.le_refl _) (I1.hok.fresh (Nat.le_refl _))
def asRgI (R : List Vl → Prop) : Vl → Prop
  | .rg lo hi => (-(2 ^ 62) ≤ lo ∧ lo < 2 ^ 62 ∧ -(2 ^ 62) ≤ hi ∧ hi < 2 ^ 62) ∧ R (irange lo (hi - lo).toNat)
  | _ => False
theorem i_rg {tg : Expr} {f : FE} (h : Ee F e n f) : Ei F tg e n (fun ρ R => f ρ (asRgI R)) := by
  obtain ⟨t, pt, st⟩ := h
  refine ⟨_, fun i => pi_rg (pt i), fun C σ ρ H R Q hm G hf k => st C σ ρ H _ _ hm G hf fun v H1 x m l u t1 ox h1 => ?_⟩
  match x, ox, h1 with
  | .rg lo hi, ⟨p, e1, e2⟩, h1 => exact ⟨p, lo, hi, e1, mask_le _ _ e2, h1.1, k _ H1 _ m l u t1 WOk.rng h1.2⟩
/-! ### a, b = e1, e2 where one is a new list of the def's own -/
theorem s_par3 {px py pz pt pt2 : Pos} {kt k2 : Nat} (i j r : Nat) (hi : F.N[i]? = some x) (hj : F.N[j]? = some y) (hr : F.N[r]? = some z) (ha : Ea F [e1, e2, e3] n ff)
    (q : ∀ {k : F.I} {ta : TA}, PA (F.X k) [e1, e2, e3] ta → PS (F.X k) (.Assign [.Tuple [.Name x px, .Name y py, .Name z pz] kt pt] (.Tuple [e1, e2, e3] k2 pt2) pos) (tPar3 i j r ta)) :
    E1 F (.Assign [.Tuple [.Name x px, .Name y py, .Name z pz] kt pt] (.Tuple [e1, e2, e3] k2 pt2) pos) n (fun ρ N => ff ρ fun xs => match xs with | [u, v, w] => (i < ρ.length ∧ j < ρ.length ∧ r < ρ.length) ∧ N.nx (((ρ.set i (.v u)).set j (.v v)).set r (.v w)) | _ => False) := by
  obtain ⟨t, pt, s⟩ := ha
  refine ⟨_, fun k => q (pt k), fun C σ ρ H N D hm G hf l => s C σ ρ H _ _ hm G hf fun vs H1 xs m l1 u1 t1 oxs h1 => ?_⟩
  match xs, oxs, h1 with
  | [a, b, c], oxs, h1 =>
    cases oxs with
    | cons o1 oxs =>
      obtain ⟨v2, v3, rfl, o2, o3⟩ := oxs.two
      obtain ⟨G1, x1⟩ := (G.tr t1).set h1.1.1 o1
      obtain ⟨G2, x2⟩ := G1.set (i := j) (by simpa using h1.1.2.1) (o2.mono x1)
      obtain ⟨G3, x3⟩ := G2.set (i := r) (by simpa using h1.1.2.2) (o3.mono (x1.trans x2))
      exact ⟨_, v2, v3, rfl, l.nx _ _ _ m l1 u1 G3 ((((G.ex t1).trans x1).trans x2).trans x3) h1.2⟩
/-- x, y = e1, [..]: y begins an own list -/
theorem s_parVO {px py pt pt2 : Pos} {kt k2 : Nat} {fl : FL} (i j : Nat) (hi : F.N[i]? = some x) (hj : F.N[j]? = some y) (hij : i ≠ j) (ha : Ee F e1 n1 fe1) (hb : El F e2 n2 fl)
    (q : ∀ {k : F.I} {ta : TA}, PA (F.X k) [e1, e2] ta → PS (F.X k) (.Assign [.Tuple [.Name x px, .Name y py] kt pt] (.Tuple [e1, e2] k2 pt2) pos) (tPar i j ta))
    (h1s : ∀ i, starEach [e1, e2] (F.X i).env = (false, eval e1 (F.X i).env) :: starEach [e2] (F.X i).env := by intro _; rfl) (h2s : ∀ i, starEach [e2] (F.X i).env = (false, eval e2 (F.X i).env) :: starEach [] (F.X i).env := by intro _; rfl) :
    E1 F (.Assign [.Tuple [.Name x px, .Name y py] kt pt] (.Tuple [e1, e2] k2 pt2) pos) (n1 + n2) (fun ρ N => fe1 ρ fun u => fl ρ fun ds => (i < ρ.length ∧ j < ρ.length) ∧ N.nx ((ρ.set i (.v u)).set j (.own ds))) := by
  obtain ⟨t, pt, s⟩ := ha
  obtain ⟨t2, pt2, s2⟩ := hb
  refine ⟨_, fun k => q (pa_cons (pt k) (pa_cons (pt2 k) pa_nil (h2s k)) (h1s k)), fun C σ ρ H N D hm G hf l => s C σ ρ H _ _ (by omega) G hf fun v H1 x1 m1 l1 u1 t1 ox h1 => s2 (C.up m1) σ ρ H1 _ _ (by show m1 + n2 ≤ lim; omega) (G.tr t1) h1 fun p H2 vs ds m2 l2 u2 hp tt hv hr h2 => ?_⟩
  obtain ⟨⟨g1, g2⟩, h2⟩ := h2
  have l2' : m1 ≤ m2 := l2
  have u2' : m2 ≤ m1 + n2 := u2
  obtain ⟨G2, e2⟩ := (G.tr t1).own (i := j) g2 hp tt hv hr
  obtain ⟨G3, e3⟩ := G2.set (i := i) (by simpa using g1) (ox.mono e2)
  rw [List.set_comm _ _ (fun z => hij z.symm), List.set_comm _ _ (fun z => hij z.symm)] at G3 e3
  exact ⟨v, .ref p, rfl, l.nx _ _ _ m2 (by omega) (by omega) G3 (((G.ex t1).trans e2).trans e3) h2⟩
/-- what an own list's beginning leaves to what is told behind it -/
theorem own_then {C : Ct} {σ : Sg} {ρ : En} {H H1 : Hp} {m1 : Nat} {p : Addr} {vs : List V} {ds : List PyData} (G : Good K C σ ρ H) (t1 : Tr C.S (K.SI m1) H H1) (hp : H p = none) (hv : H1 p = some (.lst vs)) (hr : RdA K (mask (fun a => bar C.B σ ρ a ∨ a = p) H1) vs ds) :
    Good K (blkC C σ ρ p m1) (wipe σ []) (blkE ρ []) H1 := G.blk hp t1 (by rw [hv]; simp)
theorem s_parOV {px py pt pt2 : Pos} {kt k2 : Nat} {fl : FL} (i j : Nat) (hi : F.N[i]? = some x) (hj : F.N[j]? = some y) (hij : i ≠ j) (ha : El F e1 n1 fl) (hb : Ee F e2 n2 fe2)
    (q : ∀ {k : F.I} {ta : TA}, PA (F.X k) [e1, e2] ta → PS (F.X k) (.Assign [.Tuple [.Name x px, .Name y py] kt pt] (.Tuple [e1, e2] k2 pt2) pos) (tPar i j ta))
    (h1s : ∀ i, starEach [e1, e2] (F.X i).env = (false, eval e1 (F.X i).env) :: starEach [e2] (F.X i).env := by intro _; rfl) (h2s : ∀ i, starEach [e2] (F.X i).env = (false, eval e2 (F.X i).env) :: starEach [] (F.X i).env := by intro _; rfl) :
    E1 F (.Assign [.Tuple [.Name x px, .Name y py] kt pt] (.Tuple [e1, e2] k2 pt2) pos) (n1 + n2) (fun ρ N => fl ρ fun ds => fe2 (blkE ρ []) fun u => (i < ρ.length ∧ j < ρ.length) ∧ N.nx ((ρ.set i (.own ds)).set j (.v u))) := by
  obtain ⟨t, pt, s⟩ := ha
  obtain ⟨t2, pt2, s2⟩ := hb
  refine ⟨_, fun k => q (pa_cons (pt k) (pa_cons (pt2 k) pa_nil (h2s k)) (h1s k)), fun C σ ρ H N D hm G hf l => s C σ ρ H _ _ (by omega) G hf fun p H1 vs ds m1 l1 u1 hp t1 hv hr h1 => ?_⟩
  have GB := own_then G t1 hp hv hr
  refine s2 (blkC C σ ρ p m1) (wipe σ []) (blkE ρ []) H1 _ _ (by show m1 + n2 ≤ lim; omega) GB h1 fun v H2 u m2 l2 u2 tt ox h2 => ?_
  obtain ⟨⟨g1, g2⟩, h2⟩ := h2
  have l2' : m1 ≤ m2 := l2
  have u2' : m2 ≤ m1 + n2 := u2
  have tt' : Tr C.S (F.K.SI m2) H1 H2 := tt
  have nS : ¬ C.S p := fun s => G.ct.th _ _ G.si p s hp
  have hv2 : H2 p = some (.lst vs) := tt'.1 p _ nS hv
  have exM : Ex (mask (fun a => bar C.B σ ρ a ∨ a = p) H1) (mask (fun a => bar C.B σ ρ a ∨ a = p) H2) := tt'.ex fun a s => .inl (.inl (G.ct.sb a s))
  obtain ⟨G2, e2⟩ := G.own (i := i) g1 hp (t1.trans tt') hv2 (hr.mono exM)
  have ox2 : VlOk F.K (mq C (σ.set i (some (.ref p))) (ρ.set i (.own ds)) H2) v u := ox.mono (mask_sub fun a h => by
    refine Or.inl ?_
    rcases h with h | ⟨r, ys, q1, q2⟩
    · exact .inl (.inl h)
    · rcases set_at q1 with ⟨rfl, z, _⟩ | ⟨ne, q1⟩
      · rcases set_at q2 with ⟨_, z2, _⟩ | ⟨ne, _⟩
        · cases z2; exact .inr rfl
        · exact absurd rfl ne
      · rw [set_oth ne] at q2
        exact .inl (.inr ⟨r, ys, q1, q2⟩))
  obtain ⟨G3, e3⟩ := G2.set (i := j) (by simpa using g2) ox2
  exact ⟨.ref p, v, rfl, l.nx _ _ _ m2 (by omega) (by omega) G3 (e2.trans e3) h2⟩
theorem s_parOVV {px py pz pt pt2 : Pos} {kt k2 : Nat} {fl : FL} (i j r : Nat) (hi : F.N[i]? = some x) (hj : F.N[j]? = some y) (hr' : F.N[r]? = some z) (ha : El F e1 n1 fl) (hb : Ea F [e2, e3] n2 ff)
    (q : ∀ {k : F.I} {ta : TA}, PA (F.X k) [e1, e2, e3] ta → PS (F.X k) (.Assign [.Tuple [.Name x px, .Name y py, .Name z pz] kt pt] (.Tuple [e1, e2, e3] k2 pt2) pos) (tPar3 i j r ta))
    (h1s : ∀ i, starEach [e1, e2, e3] (F.X i).env = (false, eval e1 (F.X i).env) :: starEach [e2, e3] (F.X i).env := by intro _; rfl) :
    E1 F (.Assign [.Tuple [.Name x px, .Name y py, .Name z pz] kt pt] (.Tuple [e1, e2, e3] k2 pt2) pos) (n1 + n2) (fun ρ N => fl ρ fun ds => ff (blkE ρ []) fun xs => match xs with | [u, w] => (i < ρ.length ∧ j < ρ.length ∧ r < ρ.length) ∧ N.nx (((ρ.set i (.own ds)).set j (.v u)).set r (.v w)) | _ => False) := by
  obtain ⟨t, pt, s⟩ := ha
  obtain ⟨t2, pt2, s2⟩ := hb
  refine ⟨_, fun k => q (pa_cons (pt k) (pt2 k) (h1s k)), fun C σ ρ H N D hm G hf l => s C σ ρ H _ _ (by omega) G hf fun p H1 vs ds m1 l1 u1 hp t1 hv hr h1 => ?_⟩
  have GB := own_then G t1 hp hv hr
  refine s2 (blkC C σ ρ p m1) (wipe σ []) (blkE ρ []) H1 _ _ (by show m1 + n2 ≤ lim; omega) GB h1 fun us H2 xs m2 l2 u2 tt oxs h2 => ?_
  have l2' : m1 ≤ m2 := l2
  have u2' : m2 ≤ m1 + n2 := u2
  have tt' : Tr C.S (F.K.SI m2) H1 H2 := tt
  have nS : ¬ C.S p := fun s => G.ct.th _ _ G.si p s hp
  have hv2 : H2 p = some (.lst vs) := tt'.1 p _ nS hv
  have exM : Ex (mask (fun a => bar C.B σ ρ a ∨ a = p) H1) (mask (fun a => bar C.B σ ρ a ∨ a = p) H2) := tt'.ex fun a s => .inl (.inl (G.ct.sb a s))
  match xs, oxs, h2 with
  | [u, w], oxs, h2 =>
    obtain ⟨⟨g1, g2, g3⟩, h2⟩ := h2
    obtain ⟨v1, v2, rfl, o1, o2⟩ := oxs.two
    obtain ⟨G2, e2⟩ := G.own (i := i) g1 hp (t1.trans tt') hv2 (hr.mono exM)
    have sub : Ex (mq (blkC C σ ρ p m1) (wipe σ []) (blkE ρ []) H2) (mq C (σ.set i (some (.ref p))) (ρ.set i (.own ds)) H2) := mask_sub fun a h => by
      refine Or.inl ?_
      rcases h with h | ⟨r, ys, q1, q2⟩
      · exact .inl (.inl h)
      · rcases set_at q1 with ⟨rfl, z, _⟩ | ⟨ne, q1⟩
        · rcases set_at q2 with ⟨_, z2, _⟩ | ⟨ne, _⟩
          · cases z2; exact .inr rfl
          · exact absurd rfl ne
        · rw [set_oth ne] at q2
          exact .inl (.inr ⟨r, ys, q1, q2⟩)
    obtain ⟨G3, e3⟩ := G2.set (i := j) (by simpa using g2) (o1.mono sub)
    obtain ⟨G4, e4⟩ := G3.set (i := r) (by simpa using g3) ((o2.mono sub).mono e3)
    exact ⟨.ref p, v1, v2, rfl, l.nx _ _ _ m2 (by omega) (by omega) G4 ((e2.trans e3).trans e4) h2⟩
end
end Px

set_option Elab.async false
set_option linter.all false
set_option maxRecDepth 100000
set_option maxHeartbeats 2000000
/-! Px: comprehensions with two walks, one within the other. -/
namespace Px
open PySem PySem.Spec PyProof.Rows L2
section
variable {K : Kx} {C : Ct} {σ : Sg} {ρ : En} {H : Hp}
theorem mq_updB {D : Addr} {o : HO} (hB : C.B D) : mq C σ ρ (upd H D o) = mq C σ ρ H := by
  funext a
  unfold mq mask
  by_cases z : bar C.B σ ρ a
  · rw [if_pos z, if_pos z]
  · rw [if_neg z, if_neg z, upd_ne (fun q => z (.inl (by rw [q]; exact hB)))]
theorem Good.updB (G : Good K C σ ρ H) {D : Addr} {o : HO} (hB : C.B D) (nS : ¬ C.S D) (h0 : C.H0 D = none) {xs0 : List V} (hL : H D = some (.lst xs0)) : Good K C σ ρ (upd H D o) where
  eS := G.eS
  ct := G.ct
  si := G.ct.st _ H _ (fun a s => by rw [upd_ne (fun q => nS (by rw [← q]; exact s))]) (code_upd hL) G.si
  bd := fun a b e => by
    by_cases ea : a = D
    · subst ea; rw [upd_same] at e; cases e
    · rw [upd_ne ea] at e; exact G.bd a b e
  fr := fun a u ns e => by rw [upd_ne (ne_of_none e h0)]; exact G.fr a u ns e
  len := G.len
  sl := fun i x e => by rw [mq_updB hB]; exact G.sl i x e
  ow := fun i xs e => by
    obtain ⟨p, vs, h1, h2, h3, h4, h5⟩ := G.ow i xs e
    exact ⟨p, vs, h1, by rw [upd_ne (fun z => h5 (by rw [z]; exact hB))]; exact h2, by rw [mq_updB hB]; exact h3, h4, h5⟩
  inj := G.inj
theorem wipe_bar {L : List Nat} {a : Addr} (h : bar C.B (wipe σ L) (wipeE ρ L) a) : bar C.B σ ρ a := by
  rcases h with h | ⟨i, xs, h1, h2⟩
  · exact .inl h
  · rcases wipeE_get L h1 with e | ⟨m, e⟩
    · cases e
    · rw [wipe_get, if_neg (fun z => m z.1)] at h2
      exact .inr ⟨i, xs, e, h2⟩
theorem Good.wiped (G : Good K C σ ρ H) (L : List Nat) : Good K C (wipe σ L) (wipeE ρ L) H ∧ Ex (mq C σ ρ H) (mq C (wipe σ L) (wipeE ρ L) H) := by
  have ex : Ex (mq C σ ρ H) (mq C (wipe σ L) (wipeE ρ L) H) := mask_sub fun a h => wipe_bar h
  refine ⟨⟨G.eS, G.ct, G.si, G.bd, G.fr, by rw [wipeE_len, wipe_len, G.len], fun i x e => ?_, fun i xs e => ?_, fun i j xs ys p e1 e2 e3 e4 => ?_⟩, ex⟩
  · rcases wipeE_get L e with e | ⟨m, e⟩
    · cases e
    · obtain ⟨v, h1, h2⟩ := G.sl i x e
      exact ⟨v, by rw [wipe_get, if_neg (fun z => m z.1)]; exact h1, h2.mono ex⟩
  · rcases wipeE_get L e with e | ⟨m, e⟩
    · cases e
    · obtain ⟨p, vs, h1, h2, h3, h4, h5⟩ := G.ow i xs e
      exact ⟨p, vs, by rw [wipe_get, if_neg (fun z => m z.1)]; exact h1, h2, h3.mono ex, h4, h5⟩
  · rcases wipeE_get L e1 with e | ⟨m1, e1⟩
    · cases e
    · rcases wipeE_get L e2 with e | ⟨m2, e2⟩
      · cases e
      · rw [wipe_get, if_neg (fun z => m1 z.1)] at e3
        rw [wipe_get, if_neg (fun z => m2 z.1)] at e4
        exact G.inj i j xs ys p e1 e2 e3 e4
end
section
variable {J : It} {n : Nat} {G : Hp → Prop} {Y : Nat → Hp → V → Hp → Prop}
theorem lc_it1 (w : Walk J n G Y) {g : TG} {tt : TT} {te : TE} {vs : List Nat} {σ : Sg} {H0 : Hp} {D : Addr} {Qd : Hp → Prop} (Pv : Nat → Hp → Prop) (h0 : Pv 0 H0) (hG : ∀ i H, i ≤ n → Pv i H → G H)
    (hs : ∀ i x H H', i < n → Pv i H → Y i H x H' → g x (wipe σ vs) H' fun σ2 H2 => wipe σ2 vs = wipe σ vs ∧ tt σ2 H2 fun b H3 =>
      if b = true then te σ2 H3 fun y H4 => ∃ acc, H4 D = some (.lst acc) ∧ acc.length < sizeLine ∧ Pv (i + 1) (upd H4 D (.lst (acc ++ [y]))) else Pv (i + 1) H3) (hd : ∀ H, Pv n H → Qd H) :
    ∃ W : Nat → Nat → Hp → Prop, (∃ m, W 0 m H0) ∧ ∀ i m H, W i m H →
      (J.stop i H ∧ Qd H) ∨ (J.go i H ∧ ∃ Nx : Hp → Prop, (∀ H', Nx H' → ∃ m', m' < m ∧ W (i + 1) m' H') ∧ ∀ x H', J.yld i H x H' → g x (wipe σ vs) H' fun σ2 H2 => wipe σ2 vs = wipe σ vs ∧ tt σ2 H2 fun b H3 =>
        if b = true then te σ2 H3 fun y H4 => ∃ acc, H4 D = some (.lst acc) ∧ acc.length < sizeLine ∧ Nx (upd H4 D (.lst (acc ++ [y]))) else Nx H3) := by
  refine ⟨fun i m H => m = n - i ∧ i ≤ n ∧ Pv i H, ⟨n, by simp, Nat.zero_le _, h0⟩, ?_⟩
  rintro i m H ⟨rfl, hi, p⟩
  have q := hG i H hi p
  by_cases hlt : i < n
  · refine .inr ⟨w.goes i H hlt q, Pv (i + 1), fun H' p' => ⟨n - (i + 1), by omega, rfl, hlt, p'⟩, fun x H' y => hs i x H H' hlt p (w.yields i H x H' hlt q y)⟩
  · have e : i = n := by omega
    subst e
    exact .inl ⟨w.stops H q, hd H p⟩
/-- an outer walk whose step is anything that ends in «next» -/
theorem lc_itO (w : Walk J n G Y) {σw : Sg} {H0 : Hp} {Qd : Hp → Prop} {B : V → Hp → (Hp → Prop) → Prop} (Pv : Nat → Hp → Prop) (h0 : Pv 0 H0) (hG : ∀ i H, i ≤ n → Pv i H → G H)
    (hs : ∀ i x H H', i < n → Pv i H → Y i H x H' → B x H' (Pv (i + 1))) (hd : ∀ H, Pv n H → Qd H) :
    ∃ W : Nat → Nat → Hp → Prop, (∃ m, W 0 m H0) ∧ ∀ i m H, W i m H →
      (J.stop i H ∧ Qd H) ∨ (J.go i H ∧ ∃ Nx : Hp → Prop, (∀ H', Nx H' → ∃ m', m' < m ∧ W (i + 1) m' H') ∧ ∀ x H', J.yld i H x H' → B x H' Nx) := by
  refine ⟨fun i m H => m = n - i ∧ i ≤ n ∧ Pv i H, ⟨n, by simp, Nat.zero_le _, h0⟩, ?_⟩
  rintro i m H ⟨rfl, hi, p⟩
  have q := hG i H hi p
  by_cases hlt : i < n
  · refine .inr ⟨w.goes i H hlt q, Pv (i + 1), fun H' p' => ⟨n - (i + 1), by omega, rfl, hlt, p'⟩, fun x H' y => hs i x H H' hlt p (w.yields i H x H' hlt q y)⟩
  · have e : i = n := by omega
    subst e
    exact .inl ⟨w.stops H q, hd H p⟩
end
def lc2F (fg : FG) (ft : FT) (fi1 : FI) (fg1 : FG) (ft1 : FT) (fe : FE) (L1 : List Nat) (ρ : En) : List Vl → List PyData → (List PyData → Prop) → Prop
  | [], acc, R => R acc
  | x :: xs, acc, R => fg x ρ fun ρ2 => ft ρ2 fun b => if b = true then fi1 ρ2 fun items1 => items1.length ≤ 999 ∧ lcF fg1 ft1 fe (wipeE ρ2 L1) items1 acc fun acc' => lc2F fg ft fi1 fg1 ft1 fe L1 ρ xs acc' R else lc2F fg ft fi1 fg1 ft1 fe L1 ρ xs acc R
theorem turn_up2 {m1 i c m b : Nat} (h : m ≤ m1 + i * c) (h2 : b ≤ m + c) : b ≤ m1 + (i + 1) * c := by
  rw [Nat.add_mul, Nat.one_mul]
  omega
theorem sl_lc2 {K : Kx} {wi wi1 : TI} {g g1 : TG} {tt tt1 : TT} {te : TE} {L L1 : List Nat} {fi fi1 : FI} {fg fg1 : FG} {ft ft1 : FT} {fe : FE} {ni nt ni1 nt1 ne : Nat} (hi : SI K wi ni fi) (hg : SG K g L fg) (ht : ST K tt nt ft)
    (hi1 : SI K wi1 ni1 fi1) (hg1 : SG K g1 L1 fg1) (ht1 : ST K tt1 nt1 ft1) (he : SE K te ne fe) :
    SL K (tLc2 wi g tt wi1 g1 tt1 te L L1) (ni + 1000 * (nt + (ni1 + 1000 * (nt1 + ne)))) (fun ρ R => fi ρ fun items => items.length ≤ 1000 ∧ lc2F fg ft fi1 fg1 ft1 fe L1 (blkE ρ L) items [] R) := fun C σ ρ H R Q hm G hf k =>
  hi C σ ρ H _ _ (by omega) G hf fun J H1 items m1 l1 u1 t1 wok h1 => by
    obtain ⟨hlen, hlc⟩ := h1
    obtain ⟨Gd, Y, walk, hG, hY⟩ := wok
    have G1 := G.tr t1
    intro D hD
    have nSD : ¬ C.S D := fun s => G1.ct.th _ _ G1.si D s hD
    generalize hcO : nt + (ni1 + 1000 * (nt1 + ne)) = cO at hm
    have hm1 : m1 + 1000 * cO ≤ lim := by omega
    refine lc_itO (σw := σ) walk (B := fun x H' Nx => g x (wipe σ L) H' fun σ2 H2 => wipe σ2 L = wipe σ L ∧ tt σ2 H2 fun b H3 =>
      if b = true then wi1 σ2 H3 fun J1 H4 => ∃ W1 : Nat → Nat → Hp → Prop, (∃ m, W1 0 m H4) ∧ ∀ j k H, W1 j k H →
        (J1.stop j H ∧ Nx H) ∨ (J1.go j H ∧ ∃ Nx1 : Hp → Prop, (∀ H', Nx1 H' → ∃ k', k' < k ∧ W1 (j + 1) k' H') ∧ ∀ x H', J1.yld j H x H' → g1 x (wipe σ2 L1) H' fun σ3 H5 => wipe σ3 L1 = wipe σ2 L1 ∧ tt1 σ3 H5 fun b H6 =>
          if b = true then te σ3 H6 fun y H7 => ∃ acc, H7 D = some (.lst acc) ∧ acc.length < sizeLine ∧ Nx1 (upd H7 D (.lst (acc ++ [y]))) else Nx1 H6)
      else Nx H3)
      (fun i H => ∃ m, m1 ≤ m ∧ m ≤ m1 + i * cO ∧ Tr C.S (K.SI m) H1 H ∧ ∃ acc vs, H D = some (.lst vs) ∧ RdA K (mask (fun a => bar C.B σ ρ a ∨ a = D) H) vs acc ∧ vs.length ≤ i * 999 ∧ lc2F fg ft fi1 fg1 ft1 fe L1 (blkE ρ L) (items.drop i) acc R) ?_ ?_ ?_ ?_
    · exact ⟨m1, Nat.le_refl _, by omega, G1.new hD, [], [], upd_same, .nil, Nat.zero_le _, by simpa using hlc⟩
    · rintro i H' _ ⟨m, _, _, t, _⟩
      exact hG H' ((G1.ex t).trans mask_le)
    · rintro i x H' H'' hi' ⟨m, lm, um, t, acc, vs, hd, hr, hl, hf⟩ y
      have hx : items[i]? = some items[i] := List.getElem?_eq_getElem hi'
      have hml : m + cO ≤ lim := by
        have : i * cO + cO ≤ 1000 * cO := by
          rw [← Nat.succ_mul]
          exact Nat.mul_le_mul_right _ (by omega)
        omega
      obtain ⟨it, e1, e2⟩ := hY i H' x H'' hi' ((G1.ex t).trans mask_le) y
      rw [hx] at e1
      have e1 : items[i] = it := Option.some.inj e1
      rw [List.drop_eq_getElem_cons hi', e1] at hf
      have hDn : H' D ≠ none := by rw [hd]; simp
      have GB : Good K (blkC C σ ρ D m) (wipe σ L) (blkE ρ L) H' := G1.blk hD t hDn
      have m0 : Ex (mq C σ ρ H1) (mq (blkC C σ ρ D m) (wipe σ L) (blkE ρ L) H') := (blk_ex hD G1 t).trans (mask_sub fun a z => blk_bar z)
      have step : Tr C.S (K.SI m) H' H'' ∧ VlOk K (mq (blkC C σ ρ D m) (wipe σ L) (blkE ρ L) H'') x it ∧ H'' D = some (.lst vs) := by
        rcases e2 with ⟨rfl, o⟩ | ⟨T, o, n, rfl, ok⟩
        · exact ⟨Tr.refl t.2, o.mono m0, hd⟩
        · have tt := GB.new (o := o) n
          refine ⟨tt, ok.mono fun a u z => ?_, by rw [upd_ne (ne_of_none hd n)]; exact hd⟩
          by_cases ea : a = T
          · subst ea
            rw [upd_same] at z
            cases z
            exact GB.mq_new n
          · rw [upd_ne ea] at z
            exact (GB.ex tt) a u (m0 a u z)
      obtain ⟨t2, ox, hd2⟩ := step
      have exD : ∀ {A B : Hp} {m : Nat}, Tr C.S (K.SI m) A B → Ex (mask (fun a => bar C.B σ ρ a ∨ a = D) A) (mask (fun a => bar C.B σ ρ a ∨ a = D) B) := fun t => t.ex fun a s => .inl (.inl (G1.ct.sb a s))
      refine hg (blkC C σ ρ D m) (wipe σ L) (blkE ρ L) H'' x it _ _ (GB.tr t2) ox hf fun σ2 ρ2 G2 x2 w2 h2 => ⟨?_, ?_⟩
      · rw [w2]
        exact wipe_eq (wipe_len L) fun j m => by rw [wipe_get, if_neg (fun z => m z.1)]
      · refine ht (blkC C σ ρ D m) σ2 ρ2 H'' _ _ (by show m + nt ≤ lim; omega) G2 h2 fun b H3 m3 l3 u3 t3 h3 => ?_
        have l3' : m ≤ m3 := l3
        have u3' : m3 ≤ m + nt := u3
        cases b with
        | false => exact iteF ⟨m3, by omega, turn_up2 um (by omega), (t.trans t2).trans t3, acc, vs, t3.1 D _ nSD hd2, hr.mono (exD (t2.trans t3)), Nat.le_trans hl (Nat.mul_le_mul_right _ (by omega)), by simpa using h3⟩
        | true =>
          refine iteT (hi1 (blkC C σ ρ D m3) σ2 ρ2 H3 _ _ (by show m3 + ni1 ≤ lim; omega) (G2.tr t3) (by simpa using h3) fun J1 H4 items1 m4 l4 u4 t4 wok1 h4 => ?_)
          have l4' : m3 ≤ m4 := l4
          have u4' : m4 ≤ m3 + ni1 := u4
          obtain ⟨hlen1, hlc1⟩ := h4
          obtain ⟨Gd1, Y1, walk1, hG1, hY1⟩ := wok1
          have G4 : Good K (blkC C σ ρ D m4) σ2 ρ2 H4 := (G2.tr t3).tr t4
          have tH4 : Tr C.S (K.SI m4) H1 H4 := ((t.trans t2).trans t3).trans t4
          refine lc_it1 walk1 (vs := L1) (σ := σ2) (fun j H => ∃ m5, m4 ≤ m5 ∧ m5 ≤ m4 + j * (nt1 + ne) ∧ Tr C.S (K.SI m5) H1 H ∧ Good K (blkC C σ ρ D m5) σ2 ρ2 H ∧ Ex (mq (blkC C σ ρ D m4) σ2 ρ2 H4) (mq (blkC C σ ρ D m5) σ2 ρ2 H) ∧
            ∃ acc vs, H D = some (.lst vs) ∧ RdA K (mask (fun a => bar C.B σ ρ a ∨ a = D) H) vs acc ∧ vs.length ≤ i * 999 + j ∧ lcF fg1 ft1 fe (wipeE ρ2 L1) (items1.drop j) acc fun acc' => lc2F fg ft fi1 fg1 ft1 fe L1 (blkE ρ L) (items.drop (i + 1)) acc' R) ?_ ?_ ?_ ?_
          · exact ⟨m4, Nat.le_refl _, by omega, tH4, G4, Ex.refl _, acc, vs, t4.1 D _ nSD (t3.1 D _ nSD hd2), hr.mono (exD ((t2.trans t3).trans t4)), by omega, by simpa using hlc1⟩
          · rintro j H5 _ ⟨m5, _, _, _, _, ex5, _⟩
            exact hG1 H5 (ex5.trans mask_le)
          · rintro j x1 H5 H6 hj ⟨m5, lm5, um5, t5, G5, ex5, acc5, vs5, hd5, hr5, hl5, hf5⟩ y1
            have hx1 : items1[j]? = some items1[j] := List.getElem?_eq_getElem hj
            obtain ⟨it1, f1, f2⟩ := hY1 j H5 x1 H6 hj (ex5.trans mask_le) y1
            rw [hx1] at f1
            have f1 : items1[j] = it1 := Option.some.inj f1
            rw [List.drop_eq_getElem_cons hj, f1] at hf5
            have hjm : j * (nt1 + ne) + (nt1 + ne) ≤ 1000 * (nt1 + ne) := by
              rw [← Nat.succ_mul]
              exact Nat.mul_le_mul_right _ (by omega)
            have step1 : Tr C.S (K.SI m5) H5 H6 ∧ VlOk K (mq (blkC C σ ρ D m5) σ2 ρ2 H6) x1 it1 ∧ H6 D = some (.lst vs5) := by
              rcases f2 with ⟨rfl, o⟩ | ⟨T, o, n, rfl, ok⟩
              · exact ⟨Tr.refl t5.2, o.mono ex5, hd5⟩
              · have tt := G5.new (o := o) n
                refine ⟨tt, ok.mono fun a u z => ?_, by rw [upd_ne (ne_of_none hd5 n)]; exact hd5⟩
                by_cases ea : a = T
                · subst ea
                  rw [upd_same] at z
                  cases z
                  exact G5.mq_new n
                · rw [upd_ne ea] at z
                  exact (G5.ex tt) a u (ex5 a u z)
            obtain ⟨t6, ox6, hd6⟩ := step1
            have G6 : Good K (blkC C σ ρ D m5) σ2 ρ2 H6 := G5.tr t6
            have ex6 := ex5.trans (G5.ex t6)
            obtain ⟨Gw, xw⟩ := G6.wiped L1
            refine hg1 (blkC C σ ρ D m5) (wipe σ2 L1) (wipeE ρ2 L1) H6 x1 it1 _ _ Gw (ox6.mono xw) hf5 fun σ3 ρ3 G7 x7 w7 h7 => ⟨?_, ?_⟩
            · rw [w7]
              exact wipe_eq (wipe_len L1) fun j m => by rw [wipe_get, if_neg (fun z => m z.1)]
            · refine ht1 (blkC C σ ρ D m5) σ3 ρ3 H6 _ _ (by show m5 + nt1 ≤ lim; omega) G7 h7 fun b H7 m7 l7 u7 t7 h8 => ?_
              have l7' : m5 ≤ m7 := l7
              have u7' : m7 ≤ m5 + nt1 := u7
              cases b with
              | false => exact iteF ⟨m7, by omega, turn_up2 um5 (by omega), (t5.trans t6).trans t7, G6.tr t7, ex6.trans (G6.ex t7), acc5, vs5, t7.1 D _ nSD hd6, hr5.mono (exD (t6.trans t7)), by omega, by simpa using h8⟩
              | true =>
                refine iteT (he (blkC C σ ρ D m7) σ3 ρ3 H7 _ _ (by show m7 + ne ≤ lim; omega) (G7.tr t7) (by simpa using h8) fun v H8 z m8 l8 u8 t8 oz h9 => ?_)
                have l8' : m7 ≤ m8 := l8
                have u8' : m8 ≤ m7 + ne := u8
                match z, oz, h9 with
                | .d dd, oz, h9 =>
                  have oz' : Rd K (mask (fun a => bar C.B σ ρ a ∨ a = D) H8) v dd := Rd.mono (mask_sub fun a z => .inl z) oz
                  have t68 : Tr C.S (K.SI m8) H5 H8 := (t6.trans t7).trans t8
                  have hd8 : H8 D = some (.lst vs5) := t8.1 D _ nSD (t7.1 D _ nSD hd6)
                  have same : mask (fun a => bar C.B σ ρ a ∨ a = D) (upd H8 D (.lst (vs5 ++ [v]))) = mask (fun a => bar C.B σ ρ a ∨ a = D) H8 := by
                    funext a
                    unfold mask
                    by_cases z : bar C.B σ ρ a ∨ a = D
                    · rw [if_pos z, if_pos z]
                    · rw [if_neg z, if_neg z, upd_ne (fun q => z (.inr q))]
                  have G8 : Good K (blkC C σ ρ D m8) σ2 ρ2 H8 := (G6.tr t7).tr t8
                  refine ⟨vs5, hd8, small_lt (by have : i * 999 ≤ 999 * 999 := Nat.mul_le_mul_right _ (by omega); omega), m8, by omega, turn_up2 um5 (by omega), ⟨fun a o ns e => ?_, ?_⟩, G8.updB (.inr rfl) nSD rfl hd8, ?_, acc5 ++ [dd], vs5 ++ [v], upd_same, ?_, by simp; omega, h9⟩
                  · rw [upd_ne (ne_of_none e hD)]
                    exact (t5.trans t68).1 a o ns e
                  · exact G1.ct.st _ H8 _ (fun a s => by rw [upd_ne (fun q => nSD (by rw [← q]; exact s))]) (code_upd hd8) t68.2
                  · rw [mq_updB (C := blkC C σ ρ D m8) (D := D) (Or.inr rfl)]
                    exact ex6.trans (((G6.ex t7)).trans ((G6.tr t7).ex t8))
                  · rw [same]
                    exact (hr5.mono (exD t68)).append (.cons oz' .nil)
          · rintro H5 ⟨m5, lm5, um5, t5, G5, ex5, acc5, vs5, hd5, hr5, hl5, hf5⟩
            rw [List.drop_length] at hf5
            have hjm : items1.length * (nt1 + ne) ≤ 1000 * (nt1 + ne) := Nat.mul_le_mul_right _ (by omega)
            exact ⟨m5, by omega, turn_up2 um (by omega), t5, acc5, vs5, hd5, hr5, by omega, hf5⟩
    · rintro H' ⟨m, lm, um, t, acc, vs, hd, hr, _, hf⟩
      rw [List.drop_length] at hf
      have : items.length * cO ≤ 1000 * cO := Nat.mul_le_mul_right _ hlen
      exact k D H' vs acc m (by omega) (by omega) (G.back t1 hD) (t1.trans t) hd hr hf
section
variable {F : Fm} {e elt tg iter tg1 iter1 : Expr} {ifs ifs1 : List Expr} {scope : Scope} {pos p : Pos} {fi fi1 : FI} {fg fg1 : FG} {ft ft1 : FT} {fe : FE} {ni nt ni1 nt1 ne : Nat} {L1 : List Nat}
theorem Eg.wide {F : Fm} {e : Expr} {L L' : List Nat} {f : FG} (h : Eg F e L f) (s : ∀ i ∈ L, i ∈ L') : Eg F e L' f := by
  obtain ⟨t, pt, st⟩ := h
  refine ⟨t, pt, fun C σ ρ H v x Nx Q G ox hf k => st C σ ρ H v x Nx Q G ox hf fun σ' ρ' G' ex w h => k σ' ρ' G' ex ?_ h⟩
  obtain ⟨a, b⟩ := of_wipe w
  exact wipe_eq a fun i m => b i fun z => m (s i z)
theorem l_lc2 {L0 : List Nat} (own : List (Str × Nat)) (hi : Ei F tg iter ni fi) (ok : ∀ i, BlkOk F.N (F.X i).env.scope scope own) (hg0 : Eg (F.blk scope) tg L0 fg) (ht : Ets (F.blk scope) ifs nt ft)
    (hi1 : Ei (F.blk scope) tg1 iter1 ni1 fi1) (hg1 : Eg (F.blk scope) tg1 L1 fg1) (ht1 : Ets (F.blk scope) ifs1 nt1 ft1) (he : Ee (F.blk scope) elt ne fe) (hv : ∀ i ∈ L1, i ∈ own.map (·.2) := by decide) (hv0 : ∀ i ∈ L0, i ∈ own.map (·.2) := by decide)
    (hs : ∀ i x, foldedSetIterable iter (F.X i).env x = pure x := by intro _ _; rfl) (hs1 : ∀ env x, foldedSetIterable iter1 env x = pure x := by intro _ _; rfl) :
    El F (.ListComp elt [⟨tg, iter, ifs, 0⟩, ⟨tg1, iter1, ifs1, 0⟩] scope pos) (ni + 1000 * (nt + (ni1 + 1000 * (nt1 + ne)))) (fun ρ R => fi ρ fun items => items.length ≤ 1000 ∧ lc2F fg ft fi1 fg1 ft1 fe L1 (blkE ρ (own.map (·.2))) items [] R) := by
  obtain ⟨wi, pi, si⟩ := hi
  have hg := hg0.wide hv0
  obtain ⟨g, pg, sg⟩ := hg
  obtain ⟨tt, ptt, stt⟩ := ht
  obtain ⟨wi1, pi1, si1⟩ := hi1
  obtain ⟨g1, pg1, sg1⟩ := hg1
  obtain ⟨tt1, ptt1, stt1⟩ := ht1
  obtain ⟨te, pte, ste⟩ := he
  exact ⟨_, fun i => pe_lc2 (F.calm i) (by rw [F.eN]; exact F.nd) (pi i) (by rw [F.eN]; exact ok i) hv (fun s H c cl fp => pg (i, s, H, c, cl, fp)) (fun s H c cl fp => ptt (i, s, H, c, cl, fp)) (fun s H c cl fp => pi1 (i, s, H, c, cl, fp)) (fun s H c cl fp => pg1 (i, s, H, c, cl, fp)) (fun s H c cl fp => ptt1 (i, s, H, c, cl, fp)) (fun s H c cl fp => pte (i, s, H, c, cl, fp)) (hs i) hs1, sl_lc2 si sg stt si1 sg1 stt1 ste⟩
end
end Px

set_option Elab.async false
set_option linter.all false
set_option maxRecDepth 100000
set_option maxHeartbeats 2000000
/-! Px: zip of a list and a tuple. -/
namespace Px
open PySem PySem.Spec PyProof.Rows L2
def ItzM (K : PySem.W.Frag) (a b : Addr) : It where
  go := fun i H => ∃ xs ys x y, SqL K H a xs ∧ SqT K H b ys ∧ xs[i]? = some x ∧ ys[i]? = some y
  yld := fun i H v H' => ∃ T x y, v = V.ref T ∧ H T = none ∧ H' = upd H T (HO.tup [x, y]) ∧ (∀ xs : List V, SqL K H a xs → xs[i]? = some x) ∧ ∀ ys : List V, SqT K H b ys → ys[i]? = some y
  stop := fun i H => ∃ xs ys, SqL K H a xs ∧ SqT K H b ys ∧ min xs.length ys.length = i
structure ZApart (z TI TO i1 i2 a b : Addr) : Prop where
  S : ZipSep2 z TI TO i1 i2 [i1, a] [i2, b]
  a1 : a ≠ i1
  b2 : b ≠ i2
theorem turn_zipM {P : Program} {w : World} {K : PySem.W.Frag} {elts : List Expr} {kk : Nat} {tpos : Pos} {a b z TI TO i1 i2 : Addr} (D : ZApart z TI TO i1 i2 a b) :
    Turn P w K (.Tuple elts kk tpos) (ItzM K a b) [z, TI, TO, i1, i2] z (fun i h => IsZip h z TI TO .none ∧ IsTupOf2 h TI (.ref i1) (.ref i2) ∧ (∃ x y, IsTupOf2 h TO x y) ∧ h.IsListIter i1 a i ∧ h.IsTupleIter i2 b i) where
  mem := by simp
  obj := fun i h st c hc => by
    obtain ⟨hz, hTI, ⟨x, y, hTO⟩, ⟨o1, e1, _, d1⟩, ⟨o2, e2, _, d2⟩⟩ := st
    have e' : c = z ∨ c = TI ∨ c = TO ∨ c = i1 ∨ c = i2 := by simpa using hc
    rcases e' with q | q | q | q | q
    · rw [q]; exact ⟨_, hz, fun v q => nomatch q⟩
    · rw [q]; exact ⟨_, hTI, fun v q => nomatch q⟩
    · rw [q]; exact ⟨_, hTO, fun v q => nomatch q⟩
    · rw [q]; exact ⟨o1, e1, fun v q => by rw [d1] at q; cases q⟩
    · rw [q]; exact ⟨o2, e2, fun v q => by rw [d2] at q; cases q⟩
  keep := fun i h h' st k => by
    obtain ⟨hz, hTI, ⟨x, y, hTO⟩, h1, h2⟩ := st
    exact ⟨k z (by simp) _ hz, k TI (by simp) _ hTI, ⟨x, y, k TO (by simp) _ hTO⟩, h1.at fun o q => k i1 (by simp) o q, h2.at fun o q => k i2 (by simp) o q⟩
  item := by
    intro X hP hw hK hc i pins s σ H E I hf st hg
    subst hP hw
    obtain ⟨hz, hTI, ⟨x0, y0, hTO⟩, h1, h2⟩ := st
    obtain ⟨xs, ys, x, y, hqx, hqy, hx, hy⟩ := hg
    obtain ⟨its, rv, p, _⟩ := I.list (by rw [hK]; exact hqx)
    obtain ⟨its2, rv2, p2, _⟩ := I.tuple (by rw [hK]; exact hqy)
    obtain ⟨u, hu, ru⟩ := rv.get hx
    obtain ⟨u2, hu2, ru2⟩ := rv2.get hy
    have D1 := Draws.list (prog := X.prog) (w := X.w) (A := X.A.in1) (I.ok.hd hc) i1 a D.a1 its.toArray
    have D2 := Draws.tuple (prog := X.prog) (w := X.w) (A := X.A.in1) (I.ok.hd hc) i2 b D.b2 its2.toArray
    have G := GoesN.zip2 (A := X.A) (elts := elts) (x1 := kk) (pos := tpos) D.S D1 D2
    have q1 : i < its.toArray.size := by have := (List.getElem?_eq_some_iff.mp hu).1; simpa using this
    have q2 : i < its2.toArray.size := by have := (List.getElem?_eq_some_iff.mp hu2).1; simpa using this
    refine G.goes i s (fun u s2 => ∃ x H', L2.Inv X pins σ H' s2 ∧ L2.RelV x u ∧ (ItzM K a b).yld i H x H' ∧ (IsZip s2.heap z TI TO .none ∧ IsTupOf2 s2.heap TI (.ref i1) (.ref i2) ∧ (∃ x y, IsTupOf2 s2.heap TO x y) ∧ s2.heap.IsListIter i1 a (i + 1) ∧ s2.heap.IsTupleIter i2 b (i + 1)) ∧ ∀ b ∈ [z, TI, TO, i1, i2], H' b = none) E (by omega) ⟨hz, hTI, ⟨x0, y0, hTO⟩, ⟨h1, p.isList⟩, ⟨h2, p2⟩⟩ fun v h' tk hY hSt hold htk => ?_
    obtain ⟨T, x', y', rfl, hT, hx', hy', hTup⟩ := hY
    obtain ⟨g1, g2, g3, ⟨g4, _⟩, ⟨g5, _⟩⟩ := hSt
    have hTn : H T = none := I.hok.fresh hT
    have ex : x' = u := by rw [List.getElem?_toArray, hu] at hx'; exact (Option.some.inj hx').symm
    have ey : y' = u2 := by rw [List.getElem?_toArray, hu2] at hy'; exact (Option.some.inj hy').symm
    subst ex ey
    refine ⟨.ref T, upd H T (.tup [x, y]), I.turnedNew (ch := [z, TI, TO, i1, i2]) (fun c o hb q => hold c o (fun m => hb (by
      rcases List.mem_cons.mp m with h | m
      · simp [h]
      · simp only [List.mem_cons, List.not_mem_nil, or_false] at m ⊢
        rcases m with h | h | h <;> simp [h])) q) hf hT ?_, rfl, ⟨T, x, y, rfl, hTn, rfl, fun l hl => ?_, fun l hl => ?_⟩, ⟨g1, g2, g3, g4, g5⟩, fun c hcm => ?_⟩
    · exact ⟨(show 2 ≤ sizeLine by decide), [x', y'], .cons ru (.cons ru2 .nil), hTup⟩
    · have hl' : SqL X.K H a l := by rw [hK]; exact hl
      have hq' : SqL X.K H a xs := by rw [hK]; exact hqx
      rw [I.list_inj hl' hq']; exact hx
    · have hl' : SqT X.K H b l := by rw [hK]; exact hl
      have hq' : SqT X.K H b ys := by rw [hK]; exact hqy
      rw [I.tuple_inj hl' hq']; exact hy
    · have hlt : c < s.heap.objs.size := by
        have e' : c = z ∨ c = TI ∨ c = TO ∨ c = i1 ∨ c = i2 := by simpa using hcm
        rcases e' with q | q | q | q | q
        · rw [q]; exact Heap.lt_size hz
        · rw [q]; exact Heap.lt_size hTI
        · rw [q]; exact Heap.lt_size hTO
        · rw [q]; obtain ⟨_, e1, _⟩ := h1; exact Heap.lt_size e1
        · rw [q]; obtain ⟨_, e2, _⟩ := h2; exact Heap.lt_size e2
      rw [upd_ne (Nat.ne_of_lt (Nat.lt_of_lt_of_le hlt hT))]
      exact (hf c hcm).1
  done := by
    intro X hP hw hK hc i pins s σ H E I hf st hg
    subst hP hw
    obtain ⟨hz, hTI, ⟨x0, y0, hTO⟩, h1, h2⟩ := st
    obtain ⟨xs, ys, hqx, hqy, rfl⟩ := hg
    obtain ⟨its, rv, p, _⟩ := I.list (by rw [hK]; exact hqx)
    obtain ⟨its2, rv2, p2, _⟩ := I.tuple (by rw [hK]; exact hqy)
    have D1 := Draws.list (prog := X.prog) (w := X.w) (A := X.A.in1) (I.ok.hd hc) i1 a D.a1 its.toArray
    have D2 := Draws.tuple (prog := X.prog) (w := X.w) (A := X.A.in1) (I.ok.hd hc) i2 b D.b2 its2.toArray
    have G := GoesN.zip2 (A := X.A) (elts := elts) (x1 := kk) (pos := tpos) D.S D1 D2
    have en : min its.toArray.size its2.toArray.size = min xs.length ys.length := by rw [List.size_toArray, List.size_toArray, rv.length, rv2.length]
    refine G.stops s (fun s2 => L2.Inv X pins σ H s2) E ⟨hz, hTI, ⟨x0, y0, hTO⟩, ⟨by rw [en]; exact h1, p.isList⟩, ⟨by rw [en]; exact h2, p2⟩⟩ fun h' tk hold htk => ?_
    exact I.turnedL (ch := [z, TI, TO, i1, i2]) (fun c o hb q => hold c o (fun m => hb (by
      rcases List.mem_cons.mp m with h | m
      · simp [h]
      · simp only [List.mem_cons, List.not_mem_nil, or_false] at m ⊢
        rcases m with h | h | h <;> simp [h])) q) hf
  self := fun A i s Q E st h => wpAny_pyIter_zip st.1 h
theorem walk_zipM {K : PySem.W.Frag} {a b : Addr} {xs ys : List V} {n : Nat} (hn : n = min xs.length ys.length) : Walk (ItzM K a b) n (fun H => SqL K H a xs ∧ SqT K H b ys) (YPair (fun i => xs[i]?) (fun i => ys[i]?)) := by
  subst hn
  refine ⟨fun i _ hi q => ?_, fun _ q => ⟨xs, ys, q.1, q.2, rfl⟩, fun i H v H' _ q y => ?_⟩
  · have h1 : i < xs.length := by omega
    have h2 : i < ys.length := by omega
    exact ⟨xs, ys, xs[i], ys[i], q.1, q.2, by simp [h1], by simp [h2]⟩
  · obtain ⟨T, x, z, h1, h2, h3, h4, h5⟩ := y
    exact ⟨T, x, z, h1, h2, h3, h4 xs q.1, h5 ys q.2⟩
theorem apart_of {N a b : Addr} (ha : a < N) (hb : b < N) : ZApart (N + 4) (N + 2) (N + 3) N (N + 1) a b :=
  ⟨zip_sep2 (fp1 := [a]) (fp2 := [b]) (fun c hc => by rw [List.mem_singleton.mp hc]; exact ha) (fun c hc => by rw [List.mem_singleton.mp hc]; exact hb), fun e => by rw [e] at ha; exact absurd ha (Nat.lt_irrefl _), fun e => by rw [e] at hb; exact absurd hb (Nat.not_lt.mpr (Nat.le_succ N))⟩
def iZipM (K : PySem.W.Frag) (ta : TA) : TI := fun σ H R => ta σ H fun vs H1 => ∃ a b xs ys, vs = [.ref a, .ref b] ∧ ((SqL K H1 a xs ∧ SqL K H1 b ys ∧ R (Itz K a b) H1) ∨ (SqT K H1 a xs ∧ SqT K H1 b ys ∧ R (RZ.ItzT K a b) H1) ∨ (SqL K H1 a xs ∧ SqT K H1 b ys ∧ R (ItzM K a b) H1))
theorem pi_zipM {X : Cx} {e e2 : Expr} {ta : TA} {p pos tpos : Pos} {elts : List Expr} {kk : Nat} (hg : Gl X "zip") (hm : X.mg "zip" = none) (ha : PA X [e, e2] ta)
    (hs : starEach [e, e2] X.env = (false, eval e X.env) :: starEach [e2] X.env := by rfl) (hpl : (backTo pos (starEach [e2] X.env)).any (·.1) = false := by rfl) :
    PI X (.Tuple elts kk tpos) (.Call (.Name "zip" p) [e, e2] [] pos) (iZipM X.K ta) := by
  refine ⟨fun pins s σ H R I h => ?_⟩
  refine Call_ (ld_blt I hg hm PyProof.Rows.boot_zip (PyProof.Rows.callWith_type1 (thn (ha.run pos pins s σ H _ I h) fun us s1 ⟨vs, H1, I1, r1, q1⟩ => ?_) hs hpl))
  obtain ⟨a, b, xs, ys, ex, q1⟩ := q1
  subst ex
  cases r1 with
  | cons r rr =>
    cases rr with
    | cons r' rr =>
      cases rr
      cases r
      cases r'
      have fresh5 : ∀ c, c ∈ [s1.heap.objs.size + 4, s1.heap.objs.size + 2, s1.heap.objs.size + 3, s1.heap.objs.size, s1.heap.objs.size + 1] → FpOk X pins H1 c := fun c hcm => by
        have e' : c = s1.heap.objs.size + 4 ∨ c = s1.heap.objs.size + 2 ∨ c = s1.heap.objs.size + 3 ∨ c = s1.heap.objs.size ∨ c = s1.heap.objs.size + 1 := by simpa using hcm
        have hle : s1.heap.objs.size ≤ c := by
          rcases e' with z | z | z | z | z
          · rw [z]; exact Nat.le_add_right _ _
          · rw [z]; exact Nat.le_add_right _ _
          · rw [z]; exact Nat.le_add_right _ _
          · rw [z]; exact Nat.le_refl _
          · rw [z]; exact Nat.le_add_right _ _
        exact I1.fpOk hle (I1.hok.fresh hle)
      rcases q1 with ⟨hqx, hqy, q⟩ | ⟨hqx, hqy, q⟩ | ⟨hqx, hqy, q⟩
      · obtain ⟨its, rv, p1, _⟩ := I1.list hqx
        obtain ⟨its2, rv2, p2, _⟩ := I1.list hqy
        refine call_zip_2 p1.isList p2.isList fun h' hz hTI hTO h1 h2 hsz hk => wpAny_pyIter_zip hz ?_
        have I2 : Inv X pins σ H1 { s1 with heap := h' } := I1.kept (t' := s1.toks) hk
        exact ⟨s1.heap.objs.size + 4, [s1.heap.objs.size + 4, s1.heap.objs.size + 2, s1.heap.objs.size + 3, s1.heap.objs.size, s1.heap.objs.size + 1], _, _, H1, rfl, I2, turn_zip (PySem.W.ktu_apart s1.heap.objs.size a b p1.lt p2.lt), ⟨hz, hTI, ⟨_, _, hTO⟩, h1, h2⟩, fresh5, q⟩
      · obtain ⟨its, rv, p1, _⟩ := I1.tuple hqx
        obtain ⟨its2, rv2, p2, _⟩ := I1.tuple hqy
        obtain ⟨o1, ho1, _⟩ := id p1
        obtain ⟨o2, ho2, _⟩ := id p2
        refine RZ.call_zipT (show s1.heap.IsTuple a its.toArray from p1) (show s1.heap.IsTuple b its2.toArray from p2) fun h' hz hTI hTO h1 h2 hsz hk => wpAny_pyIter_zip hz ?_
        have I2 : Inv X pins σ H1 { s1 with heap := h' } := I1.kept (t' := s1.toks) hk
        exact ⟨s1.heap.objs.size + 4, [s1.heap.objs.size + 4, s1.heap.objs.size + 2, s1.heap.objs.size + 3, s1.heap.objs.size, s1.heap.objs.size + 1], _, _, H1, rfl, I2, RZ.turn_zipT (PySem.W.ktu_apart s1.heap.objs.size a b (Heap.lt_size ho1) (Heap.lt_size ho2)), ⟨hz, hTI, ⟨_, _, hTO⟩, h1, h2⟩, fresh5, q⟩
      · obtain ⟨its, rv, p1, _⟩ := I1.list hqx
        obtain ⟨its2, rv2, p2, _⟩ := I1.tuple hqy
        obtain ⟨o2, ho2, _⟩ := id p2
        refine zip_begins2 (begins_list a its.toArray) (begins_tuple b its2.toArray) p1.isList p2 fun h' hz hTI hTO h1 h2 hsz hk => wpAny_pyIter_zip hz ?_
        have I2 : Inv X pins σ H1 { s1 with heap := h' } := I1.kept (t' := s1.toks) hk
        exact ⟨s1.heap.objs.size + 4, [s1.heap.objs.size + 4, s1.heap.objs.size + 2, s1.heap.objs.size + 3, s1.heap.objs.size, s1.heap.objs.size + 1], _, _, H1, rfl, I2, turn_zipM (apart_of p1.lt (Heap.lt_size ho2)), ⟨hz, hTI, ⟨_, _, hTO⟩, ⟨_, h1, rfl, rfl⟩, ⟨_, h2, rfl, rfl⟩⟩, fresh5, q⟩
section
variable {F : Fm} {e e2 : Expr} {p pos : Pos} {n : Nat}
def asZM (R : List Vl → Prop) : List Vl → Prop
  | [.d (.list xs), .d (.list ys)] => R (pairs xs ys)
  | [.d (.tuple xs), .d (.tuple ys)] => R (pairs xs ys)
  | [.d (.list xs), .d (.tuple ys)] => R (pairs xs ys)
  | _ => False
theorem i_zipM {f : FA} {elts : List Expr} {kk : Nat} {tpos : Pos} (hm : F.mg "zip" = none) (ha : Ea F [e, e2] n f) (hg : ∀ i, Gl (F.X i) "zip" := by intro _; rfl)
    (hs : ∀ i, starEach [e, e2] (F.X i).env = (false, eval e (F.X i).env) :: starEach [e2] (F.X i).env := by intro _; rfl) (hpl : ∀ i, (backTo pos (starEach [e2] (F.X i).env)).any (·.1) = false := by intro _; rfl) :
    Ei F (.Tuple elts kk tpos) (.Call (.Name "zip" p) [e, e2] [] pos) n (fun ρ R => f ρ (asZM R)) := by
  obtain ⟨t, pt, st⟩ := ha
  refine ⟨iZipM F.K t, fun i => by have := pi_zipM (elts := elts) (kk := kk) (tpos := tpos) (p := p) (hg i) (by rw [F.eM]; exact hm) (pt i) (hs i) (hpl i); rw [F.eK i] at this; exact this, fun C σ ρ H R Q hm G hf k => st C σ ρ H _ _ hm G hf fun vs H1 xs m l u t1 oxs h1 => ?_⟩
  match xs, oxs, h1 with
  | [.d (.list xs), .d (.list ys)], oxs, h1 =>
    obtain ⟨v, w, rfl, o1, o2⟩ := oxs.two
    obtain ⟨a, us, rfl, ha, ra⟩ := Rd.inv_list o1
    obtain ⟨b, ws, rfl, hb, rb⟩ := Rd.inv_list o2
    exact ⟨a, b, us, ws, rfl, .inl ⟨SqL.of (mask_le _ _ ha), SqL.of (mask_le _ _ hb), k _ H1 _ m l u t1 (WOk.pairs (fun hn => walk_zip hn) (fun H e => ⟨e.sq ha, e.sq hb⟩) ra rb) h1⟩⟩
  | [.d (.tuple xs), .d (.tuple ys)], oxs, h1 =>
    obtain ⟨v, w, rfl, o1, o2⟩ := oxs.two
    obtain ⟨a, us, rfl, ha, ra⟩ := Rd.inv_tuple o1
    obtain ⟨b, ws, rfl, hb, rb⟩ := Rd.inv_tuple o2
    exact ⟨a, b, us, ws, rfl, .inr (.inl ⟨Ex.sqt mask_le ha, Ex.sqt mask_le hb, k _ H1 _ m l u t1 (WOk.pairs (fun hn => walk_zipT hn) (fun H e => ⟨e.sqt ha, e.sqt hb⟩) ra rb) h1⟩)⟩
  | [.d (.list xs), .d (.tuple ys)], oxs, h1 =>
    obtain ⟨v, w, rfl, o1, o2⟩ := oxs.two
    obtain ⟨a, us, rfl, ha, ra⟩ := Rd.inv_list o1
    obtain ⟨b, ws, rfl, hb, rb⟩ := Rd.inv_tuple o2
    exact ⟨a, b, us, ws, rfl, .inr (.inr ⟨SqL.of (mask_le _ _ ha), Ex.sqt mask_le hb, k _ H1 _ m l u t1 (WOk.pairs (fun hn => walk_zipM hn) (fun H e => ⟨e.sq ha, e.sqt hb⟩) ra rb) h1⟩)⟩
end
end Px

set_option Elab.async false
set_option linter.all false
set_option maxRecDepth 100000
set_option maxHeartbeats 4000000
set_option exponentiation.threshold 10000
/-! W0: promises of small defs (kinds, fractions, points, draws), and the mathematics of these; no law's text is named here. -/
namespace Px
open PySem PySem.Spec PyProof.Rows L2
/-- a def where the top has put it -/
structure LoD (K : Fg) (mg : Str → Option Value) (x : Str) (st : Stmt) : Prop where
  ex : ∃ fa fd, mg x = some (.ref fa) ∧ Fun K x x st fa fd
def isTy (T : String) (x : PyData) : Bool := decide (tyOf x = T)
def fKind (T : String) : FS := fun xs R => ∃ x, xs = [.d x] ∧ R (.d (.bool (isTy T x)))
def isRow : PyData → Int → Int → Bool
  | .tuple xs, l, m => decide (l ≤ xs.length) && decide ((xs.length : Int) ≤ m)
  | _, _, _ => false
def fRow : FS := fun xs R => ∃ x l m, xs = [.d x, .d (.int l), .d (.int m)] ∧ R (.d (.bool (isRow x l m)))
def fPair : FS := fun xs R => ∃ x, xs = [.d x] ∧ R (.d (.bool (isRow x 2 2)))
/-- a fraction in least terms -/
def isFr : PyData → Bool
  | .tuple [.int a, .int b] => decide (1 ≤ b) && decide (((Nat.gcd a.natAbs b.natAbs : Nat) : Int) = 1)
  | _ => false
def fIsFr : FS := fun xs R => ∃ x, xs = [.d x] ∧ R (.d (.bool (isFr x)))
theorem pair_row {x : PyData} (h : isRow x 2 2 = true) : ∃ a b, x = .tuple [a, b] := by
  cases x with
  | tuple xs =>
    simp only [isRow, Bool.and_eq_true, decide_eq_true_eq] at h
    match xs, h with
    | [a, b], _ => exact ⟨a, b, rfl⟩
    | [], h => simp at h
    | [_], h => simp at h
    | _ :: _ :: _ :: _, h => simp only [List.length_cons] at h; omega
  | _ => simp [isRow] at h
theorem isFr_pair {x : PyData} (h : isRow x 2 2 = false) : isFr x = false := by
  cases x with
  | tuple xs =>
    match xs, h with
    | [a, b], h => simp [isRow] at h
    | [], h => rfl
    | [a], h => cases a <;> rfl
    | a :: b :: _ :: _, h => cases a <;> cases b <;> rfl
  | _ => rfl
def fNeedFr : FS := fun xs R => ∃ x, xs = [.d x] ∧ isFr x = true ∧ R (.d x)
theorem isFr_fq (q : Rat) : isFr (fq q) = true := by
  have h := q.reduced
  have e : Nat.gcd q.num.natAbs ((q.den : Int)).natAbs = 1 := by rw [Int.natAbs_natCast]; exact h
  simp only [fq, isFr, e, Bool.and_eq_true, decide_eq_true_eq]
  exact ⟨den_pos q, rfl⟩
/-- two ints made a fraction -/
def fRed : FS := fun xs R => ∃ a b : Int, xs = [.d (.int a), .d (.int b)] ∧ b ≠ 0 ∧ Bd 8000 b ∧ R (.d (fq (Rat.divInt a b)))
theorem div_ok {a b : Int} (h : b ≠ 0) (hb : Bd 8000 b) (i : Int) : CDivA i (sg a b) := ⟨sg_ne h, Nat.lt_trans ((sg_bd h hb).log (by decide)) (by decide)⟩
/-! ### the program's own arithmetic -/
def f2 (g : Rat → Rat → PyData) (C : Rat → Rat → Prop) : FS := fun xs R => ∃ a b : Rat, xs = [.d (fq a), .d (fq b)] ∧ (∃ n m, Fb n a ∧ Fb m b ∧ n + m ≤ 8000) ∧ C a b ∧ R (.d (g a b))
theorem Fb.pos {n : Nat} {a : Rat} (h : Fb n a) : 0 < n := by
  rcases Nat.eq_zero_or_pos n with z | z
  · subst z
    have := h.2
    have := a.den_nz
    omega
  · exact z
theorem mul_ok2 {n m : Nat} {a b : Rat} (ha : Fb n a) (hb : Fb m b) (h : n + m ≤ 8000) : CMulW a.num b.den ∧ CMulW b.num a.den ∧ CMulW a.den b.den ∧ CMulW a.num b.num ∧ CMulW a.den b.num :=
  ⟨ha.1.ok hb.den ha.pos hb.pos (by omega), hb.1.ok ha.den hb.pos ha.pos (by omega), ha.den.ok hb.den ha.pos hb.pos (by omega), ha.1.ok hb.1 ha.pos hb.pos (by omega), ha.den.ok hb.1 ha.pos hb.pos (by omega)⟩
def fPlus : FS := f2 (fun a b => fq (a + b)) fun _ _ => True
def fMinus : FS := f2 (fun a b => fq (a - b)) fun _ _ => True
def fTimes : FS := f2 (fun a b => fq (a * b)) fun _ _ => True
def fOver : FS := f2 (fun a b => fq (a / b)) fun _ b => b ≠ 0
def fLess : FS := f2 (fun a b => .bool (decide (a < b))) fun _ _ => True

/-! ### the numbers that the law draws -/
def fMixed : FS := fun xs R => ∃ a k : Int, xs = [.d (.int a), .d (.int k)] ∧ Bd 4100 k ∧ ∀ r : Int, 0 ≤ r → r < 2147483629 → R (.d (.int r))
theorem div_lit {i j : Int} (h : j ≠ 0 ∧ j.natAbs.log2 < 100 := by decide) : CDivA i j := ⟨h.1, Nat.lt_trans h.2 (by decide)⟩
def fDraw : FS := fun xs R => ∃ n : Int, xs = [.st, .d (.int n)] ∧ 1 ≤ n ∧ Bd 8000 n ∧ ∀ k : Int, 0 ≤ k → k < n → R (.d (.int k))
/-- something of a list -/
def fOf : FS := fun xs R => ∃ ds : List PyData, xs = [.st, .d (.list ds)] ∧ 0 < ds.length ∧ ds.length < 1000 ∧ ∀ x ∈ ds, R (.d x)
/-! ### the law's own fractions -/
theorem loop_down {fg : FG} {fb : FSt} {N : SEn} (I : Nat → En → Prop) (st : ∀ (k : Nat) (x : Vl) (ρ : En) (L : En → Prop), (∀ ρ', I k ρ' → L ρ') → I (k + 1) ρ → fg x ρ fun ρ' => fb ρ' { nx := L, rt := N.rt, bk := N.nx, ct := L }) (z : ∀ ρ, ¬ I 0 ρ) :
    ∀ (items : List Vl) (ρ : En) (k : Nat), k ≤ items.length → I k ρ → loopF fg fb N items ρ
  | [], ρ, k, hk, h => absurd h (by have : k = 0 := by simpa using hk
                                    rw [this]; exact z ρ)
  | x :: xs, ρ, 0, _, h => absurd h (z ρ)
  | x :: xs, ρ, k + 1, hk, h => st k x ρ _ (fun ρ' h' => loop_down I st z xs ρ' k (by simpa using hk) h') h
/-- Euclid's steps end within k turns -/
def eu : Nat → Nat → Nat → Prop
  | 0, _, _ => False
  | k + 1, A, B => B = 0 ∨ eu k B (A % B)
theorem eu_up : ∀ {k j A B : Nat}, eu k A B → k ≤ j → eu j A B
  | 0, _, _, _, h, _ => h.elim
  | k + 1, 0, _, _, _, h => by omega
  | k + 1, j + 1, _, _, h, l => h.imp id fun q => eu_up q (by omega)
theorem eu_bits : ∀ (n A B : Nat), B < 2 ^ n → eu (2 * n + 1) A B
  | 0, A, B, h => .inl (by simpa using h)
  | n + 1, A, B, h => by
    by_cases z : B = 0
    · exact .inl z
    · refine .inr ?_
      have r := Nat.mod_lt A (Nat.pos_of_ne_zero z)
      by_cases z2 : A % B = 0
      · exact .inl z2
      · refine .inr (eu_bits n _ _ ?_)
        have r2 := Nat.mod_lt B (Nat.pos_of_ne_zero z2)
        have e := Nat.div_add_mod B (A % B)
        have d1 : 1 ≤ B / (A % B) := (Nat.one_le_div_iff (Nat.pos_of_ne_zero z2)).mpr (Nat.le_of_lt r)
        have m1 : A % B ≤ A % B * (B / (A % B)) := Nat.le_mul_of_pos_right _ d1
        rw [Nat.pow_succ] at h
        omega
theorem ir_len {k n : Nat} (h : k ≤ n) : k ≤ (irange 0 n).length := by rw [irange_def, List.length_map, List.length_range]; exact h
theorem eu_go {A k0 n : Nat} {b : Int} (hb : Bd n b) (h : 2 * n + 1 ≤ k0) : eu k0 A b.natAbs := eu_up (eu_bits n A b.natAbs hb) h
theorem forty {p : Prop} (h : ∀ k : Nat, 40001 ≤ k → k ≤ 100000 → p) : p := h 40001 (by decide) (by decide)
theorem abs_nat (a : Int) : (if a < 0 then -a else a) = (a.natAbs : Int) := by split <;> omega
theorem fmod_nat (a b : Nat) : (a : Int).fmod (b : Int) = ((a % b : Nat) : Int) := by
  rw [Int.fmod_eq_emod_of_nonneg _ (by omega)]
  rfl
def fGcd : FS := fun xs R => ∃ a b : Int, xs = [.d (.int a), .d (.int b)] ∧ Bd 9000 b ∧ R (.d (.int (Nat.gcd a.natAbs b.natAbs)))
def fLike : FS := fun xs R => ∃ x, xs = [.d x, .d x] ∧ shw x ∧ R (.d (.bool true))

theorem f2_eq {g : Rat → Rat → PyData} {C : Rat → Rat → Prop} {n m : Nat} {a b : Rat} {R : Vl → Prop} (ha : Fb n a) (hb : Fb m b) (h : n + m ≤ 8000) (hc : C a b) : f2 g C [.d (fq a), .d (fq b)] R = R (.d (g a b)) := by
  apply propext
  constructor
  · rintro ⟨a', b', e, _, _, h⟩
    injection e with e1 e
    injection e with e2 _
    injection e1 with e1
    injection e2 with e2
    rw [fq_inj.mp e1, fq_inj.mp e2]
    exact h
  · exact fun q => ⟨a, b, rfl, ⟨n, m, ha, hb, h⟩, hc, q⟩
section
variable {n m : Nat} {a b : Rat} {R : Vl → Prop}
theorem fPlus_eq (ha : Fb n a) (hb : Fb m b) (h : n + m ≤ 8000 := by omega) : fPlus [.d (fq a), .d (fq b)] R = R (.d (fq (a + b))) := f2_eq ha hb h trivial
theorem fMinus_eq (ha : Fb n a) (hb : Fb m b) (h : n + m ≤ 8000 := by omega) : fMinus [.d (fq a), .d (fq b)] R = R (.d (fq (a - b))) := f2_eq ha hb h trivial
theorem fTimes_eq (ha : Fb n a) (hb : Fb m b) (h : n + m ≤ 8000 := by omega) : fTimes [.d (fq a), .d (fq b)] R = R (.d (fq (a * b))) := f2_eq ha hb h trivial
theorem fOver_eq (ha : Fb n a) (hb : Fb m b) (h0 : b ≠ 0) (h : n + m ≤ 8000 := by omega) : fOver [.d (fq a), .d (fq b)] R = R (.d (fq (a / b))) := f2_eq ha hb h h0
theorem fLess_eq (ha : Fb n a) (hb : Fb m b) (h : n + m ≤ 8000 := by omega) : fLess [.d (fq a), .d (fq b)] R = R (.d (.bool (decide (a < b)))) := f2_eq ha hb h trivial
end
theorem fRed_eq {a b : Int} {R : Vl → Prop} (h0 : b ≠ 0) (h : Bd 8000 b) : fRed [.d (.int a), .d (.int b)] R = R (.d (fq (Rat.divInt a b))) := by
  apply propext
  constructor
  · rintro ⟨a', b', e, _, _, q⟩
    injection e with e1 e
    injection e with e2 _
    injection e1 with e1
    injection e2 with e2
    injection e1 with e1
    injection e2 with e2
    subst e1; subst e2
    exact q
  · exact fun q => ⟨a, b, rfl, h0, h, q⟩
theorem fNeedFr_eq {a : Rat} {R : Vl → Prop} : fNeedFr [.d (fq a)] R = R (.d (fq a)) := by
  apply propext
  constructor
  · rintro ⟨a', e, _, q⟩
    injection e with e1 e
    injection e1 with e1
    subst e1
    exact q
  · exact fun q => ⟨_, rfl, isFr_fq a, q⟩
/-! ### points -/
def pt (p : Rat × Rat) : PyData := .tuple [fq p.1, fq p.2]
def Pb (n : Nat) (p : Rat × Rat) : Prop := Fb n p.1 ∧ Fb n p.2
theorem Pb.mono {n m : Nat} {p : Rat × Rat} (h : Pb n p) (l : n ≤ m) : Pb m p := ⟨h.1.mono l, h.2.mono l⟩
theorem pt_inj {p q : Rat × Rat} (h : pt p = pt q) : p = q := by
  unfold pt at h
  injection h with h
  injection h with h1 h
  injection h with h2 _
  exact Prod.ext (fq_inj.mp h1) (fq_inj.mp h2)
theorem px0 {p : Rat × Rat} {R : Vl → Prop} : fIx (.d (pt p)) (.d (.int 0)) R = R (.d (fq p.1)) := by
  show (∃ x, atI _ 0 = some x ∧ _) = _
  rw [at_0, ex_some]
theorem px1 {p : Rat × Rat} {R : Vl → Prop} : fIx (.d (pt p)) (.d (.int 1)) R = R (.d (fq p.2)) := by
  show (∃ x, atI _ 1 = some x ∧ _) = _
  rw [at_1, ex_some]
def fIsPt : FS := fun xs R => ∃ p, xs = [.d (pt p)] ∧ R (.d (.bool true))
def fNeedPt : FS := fun xs R => ∃ p, xs = [.d (pt p)] ∧ R (.d (pt p))
def pAdd (p q : Rat × Rat) : Rat × Rat := (p.1 + q.1, p.2 + q.2)
def pMul (p : Rat × Rat) (r : Rat) : Rat × Rat := (p.1 * r, p.2 * r)
def pSq (p q : Rat × Rat) : Rat := (p.1 - q.1) * (p.1 - q.1) + (p.2 - q.2) * (p.2 - q.2)
theorem add2 {n m : Nat} {a b : Rat} (h : Fb n a) (h2 : Fb m b) : Fb (n + m + 1) (a + b) := by
  rw [← add_q]
  exact Fb.red (Int.mul_ne_zero (den_ne a) (den_ne b)) ((h.1.mul h2.den).add ((h2.1.mul h.den).mono (by omega))) ((h.den.mul h2.den).mono (by omega))
theorem sub2 {n m : Nat} {a b : Rat} (h : Fb n a) (h2 : Fb m b) : Fb (n + m + 1) (a - b) := by
  rw [← sub_q]
  exact Fb.red (Int.mul_ne_zero (den_ne a) (den_ne b)) ((h.1.mul h2.den).sub ((h2.1.mul h.den).mono (by omega))) ((h.den.mul h2.den).mono (by omega))
def fPtPlus : FS := fun xs R => ∃ p q, xs = [.d (pt p), .d (pt q)] ∧ (∃ n m, Pb n p ∧ Pb m q ∧ n + m ≤ 8000) ∧ R (.d (pt (pAdd p q)))
def fPtTimes : FS := fun xs R => ∃ p r, xs = [.d (pt p), .d (fq r)] ∧ (∃ n m, Pb n p ∧ Fb m r ∧ n + m ≤ 8000) ∧ R (.d (pt (pMul p r)))
def fSq : FS := fun xs R => ∃ p q, xs = [.d (pt p), .d (pt q)] ∧ (∃ n m, Pb n p ∧ Pb m q ∧ n + m ≤ 1999) ∧ R (.d (fq (pSq p q)))
theorem pp_inj {p q p' q' : Rat × Rat} (e : [Vl.d (pt p), Vl.d (pt q)] = [Vl.d (pt p'), Vl.d (pt q')]) : p = p' ∧ q = q' := by
  injection e with e1 e
  injection e with e2 _
  injection e1 with e1
  injection e2 with e2
  exact ⟨pt_inj e1, pt_inj e2⟩
theorem pf_inj {p p' : Rat × Rat} {q q' : Rat} (e : [Vl.d (pt p), Vl.d (fq q)] = [Vl.d (pt p'), Vl.d (fq q')]) : p = p' ∧ q = q' := by
  injection e with e1 e
  injection e with e2 _
  injection e1 with e1
  injection e2 with e2
  exact ⟨pt_inj e1, fq_inj.mp e2⟩
theorem fPtPlus_eq {n m : Nat} {p q : Rat × Rat} {R : Vl → Prop} (ha : Pb n p) (hb : Pb m q) (h : n + m ≤ 8000 := by omega) : fPtPlus [.d (pt p), .d (pt q)] R = R (.d (pt (pAdd p q))) := by
  apply propext
  constructor
  · rintro ⟨p', q', e, _, z⟩
    obtain ⟨rfl, rfl⟩ := pp_inj e
    exact z
  · exact fun z => ⟨p, q, rfl, ⟨n, m, ha, hb, h⟩, z⟩
theorem fSq_eq {n m : Nat} {p q : Rat × Rat} {R : Vl → Prop} (ha : Pb n p) (hb : Pb m q) (h : n + m ≤ 1999 := by omega) : fSq [.d (pt p), .d (pt q)] R = R (.d (fq (pSq p q))) := by
  apply propext
  constructor
  · rintro ⟨p', q', e, _, z⟩
    obtain ⟨rfl, rfl⟩ := pp_inj e
    exact z
  · exact fun z => ⟨p, q, rfl, ⟨n, m, ha, hb, h⟩, z⟩
theorem fPtTimes_eq {n m : Nat} {p : Rat × Rat} {r : Rat} {R : Vl → Prop} (ha : Pb n p) (hb : Fb m r) (h : n + m ≤ 8000 := by omega) : fPtTimes [.d (pt p), .d (fq r)] R = R (.d (pt (pMul p r))) := by
  apply propext
  constructor
  · rintro ⟨p', q', e, _, z⟩
    obtain ⟨rfl, rfl⟩ := pf_inj e
    exact z
  · exact fun z => ⟨p, r, rfl, ⟨n, m, ha, hb, h⟩, z⟩
theorem fNeedPt_eq {p : Rat × Rat} {R : Vl → Prop} : fNeedPt [.d (pt p)] R = R (.d (pt p)) := by
  apply propext
  constructor
  · rintro ⟨p', e, h⟩
    injection e with e1 e
    injection e1 with e1
    rw [pt_inj e1]
    exact h
  · exact fun h => ⟨p, rfl, h⟩
/-! ### the law's own points -/
theorem Pb.add2 {n m : Nat} {a b : Rat × Rat} (h : Pb n a) (h2 : Pb m b) : Pb (n + m + 1) (pAdd a b) := ⟨Px.add2 h.1 h2.1, Px.add2 h.2 h2.2⟩
def tot (ps : List (Rat × Rat)) : Rat × Rat := ps.foldl pAdd (0, 0)
theorem fz (n : Nat) (h : 0 < n) : Fb n 0 := ⟨Nat.two_pow_pos n, Nat.one_lt_two_pow (by omega)⟩
theorem unit_q {n : Nat} (h : 0 < n) : PyData.tuple [.int 1, .int (n : Nat)] = fq (Rat.divInt 1 n) := by
  have h0 : ((n : Nat) : Int) ≠ 0 := by omega
  have e1 : (Rat.divInt 1 n).num = 1 := by
    rw [Rat.num_divInt, Int.gcd_one_right, Int.sign_eq_one_of_pos (by omega)]
    decide
  have e2 : ((Rat.divInt 1 n).den : Int) = n := by
    rw [Rat.den_divInt, if_neg h0, Int.gcd_one_right, Nat.div_one, Int.natAbs_natCast]
  rw [fq, e1, e2]
theorem whole_q {n : Nat} : PyData.tuple [.int (n : Nat), .int 1] = fq (Rat.divInt n 1) := by
  have e1 : (Rat.divInt n 1).num = n := by
    rw [Rat.num_divInt, Int.gcd_one_left]
    simp
  have e2 : ((Rat.divInt n 1).den : Int) = 1 := by
    rw [Rat.den_divInt, if_neg (by decide), Int.gcd_one_left]
    rfl
  rw [fq, e1, e2]
theorem loop_over {α : Type} {fg : FG} {fb : FSt} {N : SEn} (f : α → Vl) (I : List α → En → Prop) (st : ∀ (a : α) (rest : List α) (ρ : En) (L : En → Prop), (∀ ρ', I rest ρ' → L ρ') → I (a :: rest) ρ → fg (f a) ρ fun ρ' => fb ρ' { nx := L, rt := N.rt, bk := N.nx, ct := L }) (z : ∀ ρ, I [] ρ → N.nx ρ) :
    ∀ (l : List α) (ρ : En), I l ρ → loopF fg fb N (l.map f) ρ
  | [], ρ, h => z ρ h
  | a :: l, ρ, h => st a l ρ _ (fun ρ' h' => loop_over f I st z l ρ' h') h
theorem map_pt (ps : List (Rat × Rat)) : (ps.map pt).map Vl.d = ps.map fun p => Vl.d (pt p) := by rw [List.map_map]; rfl
def fMean : FS := fun xs R => ∃ ps : List (Rat × Rat), xs = [.d (.tuple (ps.map pt))] ∧ 0 < ps.length ∧ ps.length < 1000 ∧ (∃ n, (∀ p ∈ ps, Pb n p) ∧ (n + 1) * ps.length ≤ 7000) ∧ R (.d (pt (pMul (tot ps) (Rat.divInt 1 ps.length))))
theorem two_items : irange 0 (Int.toNat 2) = [.d (.int 0), .d (.int 1)] := by rw [irange_def]; rfl
theorem dens {x : PyData} (h : x ∈ [PyData.int 1, .int 1, .int 2, .int 3, .int 7, .int 12]) : ∃ b : Int, x = .int b ∧ 1 ≤ b ∧ b ≤ 12 := by
  simp only [List.mem_cons, List.not_mem_nil, or_false] at h
  rcases h with rfl | rfl | rfl | rfl | rfl | rfl
  · exact ⟨_, rfl, by decide, by decide⟩
  · exact ⟨_, rfl, by decide, by decide⟩
  · exact ⟨_, rfl, by decide, by decide⟩
  · exact ⟨_, rfl, by decide, by decide⟩
  · exact ⟨_, rfl, by decide, by decide⟩
  · exact ⟨_, rfl, by decide, by decide⟩

theorem lc_all {fg : FG} {ft : FT} {fe : FE} {ρ : En} (good : PyData → Prop) : ∀ (items : List Vl) (acc : List PyData) (R : List PyData → Prop),
    (∀ x ∈ items, ∀ (T : Vl → Prop) (T' : Prop), (∀ d, good d → T (.d d)) → fg x ρ fun ρ2 => ft ρ2 fun b => if b = true then fe ρ2 T else T') →
    (∀ ds : List PyData, ds.length = items.length → (∀ d ∈ ds, good d) → R (acc ++ ds)) → lcF fg ft fe ρ items acc R
  | [], acc, R, _, h => by
    show R acc
    simpa using h [] rfl (by simp)
  | x :: xs, acc, R, st, h => by
    refine st x (by simp) (fun y => match y with | .d d => lcF fg ft fe ρ xs (acc ++ [d]) R | _ => False) _ fun d hd => ?_
    refine lc_all good xs (acc ++ [d]) R (fun y hy => st y (List.mem_cons_of_mem _ hy)) fun ds hl hg => ?_
    have := h (d :: ds) (by simp [hl]) (fun e he => by rcases List.mem_cons.mp he with rfl | he; exact hd; exact hg e he)
    simpa using this
theorem fLike_eq {x y : PyData} {R : Vl → Prop} : fLike [.d x, .d y] R = (x = y ∧ shw x ∧ R (.d (.bool true))) := by
  apply propext
  constructor
  · rintro ⟨z, e, h1, h2⟩
    injection e with e1 e
    injection e with e2 _
    injection e1 with e1
    injection e2 with e2
    subst e1
    exact ⟨e2.symm, h1, h2⟩
  · rintro ⟨rfl, h1, h2⟩
    exact ⟨x, rfl, h1, h2⟩
theorem okI_fq {q : Rat} (h : Fb 1600 q) : okI (fq q) = true := by
  have p : 2 ^ 1600 ≤ 10 ^ 500 := Nat.le_of_ble_eq_true rfl
  have e1 : q.num.natAbs < 10 ^ 500 := Nat.lt_of_lt_of_le h.1 p
  have e2 : (q.den : Int).natAbs < 10 ^ 500 := Nat.lt_of_lt_of_le h.2 p
  simp only [fq, okI, okIs, e1, e2, decide_true, Bool.and_true]
theorem okI_pt {p : Rat × Rat} (h : Pb 1600 p) : okI (pt p) = true := by
  simp only [pt, okI, okIs, okI_fq h.1, okI_fq h.2, Bool.and_true]
theorem shw_of {ds : List PyData} (h : okIs ds = true) (h2 : nods (.list ds) ≤ 30000) (h3 : (PyData.list ds).depth ≤ 60) : shw (.list ds) := ⟨h, h2, h3⟩
theorem Pb.mul {n m : Nat} {p : Rat × Rat} {r : Rat} (h : Pb n p) (h2 : Fb m r) : Pb (n + m) (pMul p r) := ⟨h.1.mul h2, h.2.mul h2⟩
theorem pSq_b {p q : Rat × Rat} (h : Pb 10 p) (h2 : Pb 10 q) : Fb 100 (pSq p q) := by
  have a1 := h.1.sub h2.1
  have a2 := h.2.sub h2.2
  exact (add2 (a1.mul a1) (a2.mul a2)).mono (by decide)
theorem sq_nonneg (a : Rat) : 0 ≤ a * a := by
  rcases Rat.le_total (a := 0) (b := a) with h | h
  · exact Rat.mul_nonneg h h
  · have h' : 0 ≤ -a := by grind
    have := Rat.mul_nonneg h' h'
    grind
theorem pSq_self (p : Rat × Rat) : pSq p p = 0 := by unfold pSq; grind
theorem pSq_zero {p q : Rat × Rat} (h : pSq p q = 0) : p = q := by
  unfold pSq at h
  have h1 := sq_nonneg (p.1 - q.1)
  have h2 := sq_nonneg (p.2 - q.2)
  have z1 : (p.1 - q.1) * (p.1 - q.1) = 0 := by grind
  have z2 : (p.2 - q.2) * (p.2 - q.2) = 0 := by grind
  have w1 := Rat.mul_eq_zero.mp z1
  have w2 := Rat.mul_eq_zero.mp z2
  exact Prod.ext (by grind) (by grind)
theorem eqv_pt (a b : Rat × Rat) : PyData.eqv (pt a) (pt b) = decide (a = b) := by
  have e : PyData.eqv (pt a) (pt b) = (PyData.eqv (fq a.1) (fq b.1) && (PyData.eqv (fq a.2) (fq b.2) && true)) := rfl
  rw [e, eqv_fq, eqv_fq, Bool.and_true, ← Bool.decide_and]
  exact decide_eq_decide.mpr ⟨fun h => Prod.ext h.1 h.2, fun h => by rw [h]; exact ⟨rfl, rfl⟩⟩
theorem fEq_pt {neg : Bool} {a b : Rat × Rat} {R : Vl → Prop} : fEq neg (.d (pt a)) (.d (pt b)) R = R (.d (.bool (neg ^^ decide (a = b)))) := by
  have s : ∀ a : Rat × Rat, SeqAt.shaped (pt a) = true := fun a => rfl
  have u : fEq neg (.d (pt a)) (.d (pt b)) R = (SeqAt.shaped (pt a) = true ∧ SeqAt.shaped (pt b) = true ∧ R (.d (.bool (neg ^^ PyData.eqv (pt a) (pt b))))) := rfl
  rw [u, eqv_pt, s, s]
  simp
theorem unit_whole {n : Nat} (h : 0 < n) : Rat.divInt 1 n * Rat.divInt n 1 = 1 := by
  rw [Rat.divInt_mul_divInt]
  have e : Rat.divInt (1 * (n : Int)) ((n : Int) * 1) = Rat.divInt 1 1 := (Rat.divInt_eq_divInt_iff (by omega) (by decide)).mpr (by omega)
  rw [e]
  rfl
theorem first_of {ps : List (Rat × Rat)} (h : 1 ≤ ps.length) : ∃ y ∈ ps, atI (ps.map pt) 0 = some (pt y) := by
  cases ps with
  | nil => simp at h
  | cons y ps => exact ⟨y, by simp, at_0⟩
theorem last_of {ps : List (Rat × Rat)} (h : 1 ≤ ps.length) : ∃ y ∈ ps, atI (ps.map pt) (-1) = some (pt y) := by
  have hl : ps.length - 1 < ps.length := by omega
  refine ⟨ps[ps.length - 1], List.getElem_mem hl, ?_⟩
  unfold atI ixN
  rw [List.length_map, if_neg (by decide), if_pos (by omega)]
  show (ps.map pt)[((-1 : Int) + (ps.length : Nat)).toNat]? = _
  rw [show ((-1 : Int) + (ps.length : Nat)).toNat = ps.length - 1 by omega]
  simp [hl]
end Px

set_option Elab.async false
set_option linter.all false
set_option maxRecDepth 100000
set_option maxHeartbeats 4000000
/-! PxTop: what the program's top leaves: defs, constants. -/
namespace Px
open PySem PySem.Spec PyProof.Rows L2
theorem lo_mkD {K : Fg} {h : Heap} {mg : Str → Option Value} {x : Str} {st : Stmt} {f : Addr} {oc kV dc pm cd ct : Value} {od an : Option Addr} {sl : Array (Option Value)} (X : K.In h) (G : h.Ns mainGlobals mg) (a : PySem.W.nsIn K mainGlobals x = some (some (.ref f)))
    (l : K.lookup f = some ⟨oc, od, .func (PySem.W.fnOf x x (defArgs st) (defBody st) (defScope st) .none kV dc pm an cd ct), sl⟩) (c : PySem.W.codeIn K cd x = true) (k : PySem.W.keepIn K (.ref f) = true) : LoD K mg x st := ⟨f, _, PySem.W.mg_of X G a, fun_mk l c k⟩
theorem int_mk {K : Fg} {h : Heap} {mg : Str → Option Value} {x : Str} {n : Int} {t : Tok} (X : K.In h) (G : h.Ns mainGlobals mg) (a : PySem.W.nsIn K mainGlobals x = some (some (.int n t))) : Cn K mg x (.int n) := ⟨.int n, _, PySem.W.mg_of X G a, ⟨t, rfl⟩, fun M => .int n⟩
/-- a tuple of ints, as the top has written it -/
def IsInts (o : Obj) (ns : List Int) : Prop := o.cls = .type "tuple" ∧ ∃ its n, o.data = .seq its n ∧ its.size ≤ sizeLine ∧ Vals (ns.map V.int) its.toList
theorem rda_ints {K : Fg} {M : Hp} : ∀ ns : List Int, RdA K M (ns.map V.int) (ns.map PyData.int)
  | [] => .nil
  | n :: ns => .cons (.int n) (rda_ints ns)
theorem ints_mk {K : Fg} {h : Heap} {mg : Str → Option Value} {x : Str} {f : Addr} {o : Obj} {ns : List Int} (X : K.In h) (G : h.Ns mainGlobals mg) (a : PySem.W.nsIn K mainGlobals x = some (some (.ref f))) (l : K.lookup f = some o) (z : IsInts o ns) : Cn K mg x (.tuple (ns.map .int)) := by
  obtain ⟨h1, its, n, h2, h3, h4⟩ := z
  exact ⟨.ref f, _, PySem.W.mg_of X G a, rfl, fun M => .tup (.inr ⟨o, its, n, l, h1, h2, h3, h4⟩) (rda_ints ns)⟩
def ObjI (K : Fg) (a : Addr) (ns : List Int) : Prop := ∃ o its n, K.lookup a = some o ∧ o.cls = .type "tuple" ∧ o.data = .seq its n ∧ its.size ≤ sizeLine ∧ Vals (ns.map V.int) its.toList
theorem obj_mk {K : Fg} {a : Addr} {o : Obj} {ns : List Int} (l : K.lookup a = some o) (z : IsInts o ns) : ObjI K a ns := by
  obtain ⟨h1, its, n, h2, h3, h4⟩ := z
  exact ⟨o, its, n, l, h1, h2, h3, h4⟩
theorem obj_rd {K : Fg} {a : Addr} {M : Hp} {ns : List Int} (h : ObjI K a ns) : Rd K M (.ref a) (.tuple (ns.map .int)) := by
  obtain ⟨o, its, n, l, h1, h2, h3, h4⟩ := h
  exact .tup (.inr ⟨o, its, n, l, h1, h2, h3, h4⟩) (rda_ints ns)
/-- a tuple of two tuples of ints -/
def IsTwo (K : Fg) (o : Obj) (ns ms : List Int) : Prop := o.cls = .type "tuple" ∧ ∃ its n, ∃ a b : Addr, o.data = .seq its n ∧ its.size ≤ sizeLine ∧ Vals [.ref a, .ref b] its.toList ∧ ObjI K a ns ∧ ObjI K b ms
theorem two_mk {K : Fg} {h : Heap} {mg : Str → Option Value} {x : Str} {f : Addr} {o : Obj} {ns ms : List Int} (X : K.In h) (G : h.Ns mainGlobals mg) (a : PySem.W.nsIn K mainGlobals x = some (some (.ref f))) (l : K.lookup f = some o) (z : IsTwo K o ns ms) : Cn K mg x (.tuple [.tuple (ns.map .int), .tuple (ms.map .int)]) := by
  obtain ⟨h1, its, n, p, q, h2, h3, h4, h5, h6⟩ := z
  exact ⟨.ref f, _, PySem.W.mg_of X G a, rfl, fun M => .tup (.inr ⟨o, its, n, l, h1, h2, h3, h4⟩) (.cons (obj_rd h5) (.cons (obj_rd h6) .nil))⟩
/-! ### the state is made -/
theorem ints_of : ∀ ds : List PyData, (∀ d ∈ ds, ∃ i : Int, d = .int i) → ∃ ls : List Int, ds = ls.map .int
  | [], _ => ⟨[], rfl⟩
  | d :: ds, h => by
    obtain ⟨i, rfl⟩ := h d (by simp)
    obtain ⟨ls, rfl⟩ := ints_of ds fun e he => h e (List.mem_cons_of_mem _ he)
    exact ⟨i :: ls, rfl⟩
end Px

set_option Elab.async false
set_option linter.all false
set_option maxRecDepth 100000
set_option maxHeartbeats 2000000
/-! PyX: defs that may raise: an exception of a class of the program's own with one field. -/
namespace Px
open PySem PySem.Spec PyProof.Rows L2
/-- an exception: its class's name, its field's name, the field's value -/
structure Bad where
  cls : Str
  fld : Str
  val : Vl
/-- it has the one field, or no dict at all (its class has no field: named «») -/
def BadOk (K : Kx) (mg : Str → Option Value) (M : Hp) (b : Bad) (cls : Value) (d : Option Addr) (H : Hp) : Prop :=
  (∃ C dd fs v, mg b.cls = some (.ref C) ∧ cls = .ref C ∧ d = some dd ∧ H dd = some (.xd fs) ∧ fs.lookup b.fld = some v ∧ VlOk K M v b.val) ∨ ∃ C, mg b.cls = some (.ref C) ∧ cls = .ref C ∧ d = none ∧ b.fld = ("" : Str)
theorem BadOk.mono {K : Kx} {mg : Str → Option Value} {M M' H : Hp} {b : Bad} {cls : Value} {d : Option Addr} (e : Ex M M') (h : BadOk K mg M b cls d H) : BadOk K mg M' b cls d H := by
  rcases h with ⟨C, dd, fs, v, h1, h2, h3, h4, h5, h6⟩ | h
  · exact .inl ⟨C, dd, fs, v, h1, h2, h3, h4, h5, h6.mono e⟩
  · exact .inr h
theorem BadOk.own {K : Kx} {mg : Str → Option Value} {M H : Hp} {b : Bad} {cls : Value} {d : Option Addr} (h : BadOk K mg M b cls d H) : ∃ C, mg b.cls = some (.ref C) ∧ cls = .ref C := by
  rcases h with ⟨C, dd, fs, v, h1, h2, _⟩ | ⟨C, h1, h2, _⟩
  · exact ⟨C, h1, h2⟩
  · exact ⟨C, h1, h2⟩
theorem BadOk.field {K : Kx} {mg : Str → Option Value} {M H : Hp} {b : Bad} {cls : Value} {d : Option Addr} {f : Str} (h : BadOk K mg M b cls d H) (e : b.fld = f) (n : f ≠ ("" : Str)) : ∃ C dd fs v, mg b.cls = some (.ref C) ∧ cls = .ref C ∧ d = some dd ∧ H dd = some (.xd fs) ∧ fs.lookup b.fld = some v ∧ VlOk K M v b.val := by
  rcases h with h | ⟨C, _, _, _, z⟩
  · exact h
  · exact absurd (e.symm.trans z) n
/-- what is wanted of exceptions, from where one stands -/
structure LkX (K : Kx) (mg : Str → Option Value) (C : Ct) (c : Nat) (M : Hp) (W : WX) (EX : En → Bad → Prop) : Prop where
  ex : ∀ cls d σ' ρ' H' b m, C.m ≤ m → m ≤ C.m + c → Good K (C.up m) σ' ρ' H' → Ex M (mq C σ' ρ' H') → BadOk K mg (mq C σ' ρ' H') b cls d H' → EX ρ' b → W cls d σ' H'
theorem LkX.go {K : Kx} {mg : Str → Option Value} {C : Ct} {c c' m1 : Nat} {M M' : Hp} {W : WX} {EX : En → Bad → Prop} (l : LkX K mg C c M W EX) (h1 : C.m ≤ m1) (h2 : m1 + c' ≤ C.m + c) (e : Ex M M') : LkX K mg (C.up m1) c' M' W EX :=
  ⟨fun cls d σ' ρ' H' b m a1 a2 G x => l.ex cls d σ' ρ' H' b m (Nat.le_trans h1 a1) (Nat.le_trans a2 h2) G (e.trans x)⟩
abbrev FX := En → (Vl → Prop) → (En → Bad → Prop) → Prop
abbrev FStX := En → SEn → (En → Bad → Prop) → Prop
def SEX (K : Kx) (mg : Str → Option Value) (E : WX) (t : TE) (c : Nat) (f : FX) : Prop := ∀ (C : Ct) (σ : Sg) (ρ : En) (H : Hp) (R : Vl → Prop) (EX : En → Bad → Prop) (Q : VK), C.m + c ≤ lim → Good K C σ ρ H → f ρ R EX →
  (∀ v H' x m, C.m ≤ m → m ≤ C.m + c → Tr C.S (K.SI m) H H' → VlOk K (mq C σ ρ H') v x → R x → Q v H') → LkX K mg C c (mq C σ ρ H) E EX → t σ H Q
def SSX (K : Kx) (mg : Str → Option Value) (E : WX) (t : TS) (c : Nat) (f : FStX) : Prop := ∀ (C : Ct) (σ : Sg) (ρ : En) (H : Hp) (N : SEn) (EX : En → Bad → Prop) (D : Ends), C.m + c ≤ lim → Good K C σ ρ H → f ρ N EX → Lk K C c (mq C σ ρ H) N D → LkX K mg C c (mq C σ ρ H) E EX → t D σ H
/-- a frame from which exceptions go out -/
structure Fx where
  F : Fm
  E : WX
  tk : ∀ i, L2.Takes (F.X i) E
structure Xe (G : Fx) (e : Expr) (c : Nat) (f : FX) : Prop where
  ex : ∃ t, (∀ i, PE (G.F.X i) e t) ∧ SEX G.F.K G.F.mg G.E t c f
structure X1 (G : Fx) (st : Stmt) (c : Nat) (f : FStX) : Prop where
  ex : ∃ t, (∀ i, PS (G.F.X i) st t) ∧ SSX G.F.K G.F.mg G.E t c f
structure Xs (G : Fx) (sts : List Stmt) (c : Nat) (f : FStX) : Prop where
  ex : ∃ t, (∀ i, PSs (G.F.X i) sts t) ∧ SSX G.F.K G.F.mg G.E t c f
section
variable {G : Fx} {st : Stmt} {sts a b : List Stmt} {e : Expr} {pos p p' : Pos} {f g : FStX} {fx : FX} {fs : FSt} {ft : FT} {fe : FE} {x : Str} {n na nb c : Nat}
/-- what raises nothing -/
theorem x_of (h : E1 G.F st n fs) : X1 G st n (fun ρ N _ => fs ρ N) := by
  obtain ⟨t, pt, s⟩ := h
  exact ⟨t, pt, fun C σ ρ H N EX D hm G' hf l _ => s C σ ρ H N D hm G' hf l⟩
theorem xe_of (h : Ee G.F e n fe) : Xe G e n (fun ρ R _ => fe ρ R) := by
  obtain ⟨t, pt, s⟩ := h
  exact ⟨t, pt, fun C σ ρ H R EX Q hm G' hf k _ => s C σ ρ H R Q hm G' hf k⟩
theorem xs_nil : Xs G [] 0 (fun ρ N _ => N.nx ρ) := ⟨_, fun _ => pss_nil, fun C σ ρ H N _ D _ G' h l _ => l.nx σ ρ H C.m (Nat.le_refl _) le0 G' (Ex.refl _) h⟩
theorem xs_cons (h : X1 G st na f) (hs : Xs G sts nb g) : Xs G (st :: sts) (na + nb) (fun ρ N EX => f ρ { N with nx := fun ρ' => g ρ' N EX } EX) := by
  obtain ⟨t, pt, s1⟩ := h
  obtain ⟨u, pu, s2⟩ := hs
  exact ⟨_, fun i => pss_cons (pt i) (pu i), fun C σ ρ H N EX D hm G' hf l lx => s1 C σ ρ H { N with nx := fun ρ' => g ρ' N EX } EX { D with nx := u D } (by omega) G' hf
    ⟨fun σ' ρ' H' m a b G'' x h => s2 (C.up m) σ' ρ' H' N EX D (by show m + nb ≤ lim; omega) G'' h (l.go a (by omega) x) (lx.go a (by omega) x), fun σ' ρ' H' m a b => l.bk σ' ρ' H' m a (by omega), fun σ' ρ' H' m a b => l.ct σ' ρ' H' m a (by omega), fun v H' x m a b => l.rt v H' x m a (by omega)⟩ (lx.go (Nat.le_refl _) (by omega) (Ex.refl _))⟩
theorem x_expr (he : Xe G e n fx) (hs : ∀ j, swapsWith e none pos.line (G.F.X j).env = pure false := by intro _; rfl) : X1 G (.Expr e pos) n (fun ρ N EX => fx ρ (fun _ => N.nx ρ) EX) := by
  obtain ⟨t, pt, s⟩ := he
  exact ⟨_, fun j => ps_expr (pt j) (hs j), fun C σ ρ H N EX D hm G' hf l lx => s C σ ρ H _ EX _ hm G' hf (fun v H1 y m l1 u1 t1 oy h1 => l.nx σ ρ H1 m l1 u1 (G'.tr t1) (G'.ex t1) h1) lx⟩
theorem x_set (i : Nat) (hi : G.F.N[i]? = some x) (he : Xe G e n fx) (hx : ∀ j, Loc (G.F.X j).env.scope x := by intro _; first | exact .inl rfl | exact .inr rfl)
    (hf : ∀ j, (G.F.X j).fn x = true ∨ (G.F.X j).env.scope.names.lookup x = some .local := by intro _; exact .inl rfl) (hs : ∀ j, swapsWith e (some (.Name x p')) pos.line (G.F.X j).env = pure false := by intro _; rfl) :
    X1 G (.Assign [.Name x p'] e pos) n (fun ρ N EX => fx ρ (fun y => i < ρ.length ∧ N.nx (ρ.set i (.v y))) EX) := by
  obtain ⟨t, pt, s⟩ := he
  refine ⟨_, fun j => ps_set (by rw [G.F.eN]; exact G.F.nd) (by rw [G.F.eN]; exact hi) (hx j) (pt j) (hs j) (hf j), fun C σ ρ H N EX D hm G' hf' l lx => s C σ ρ H _ EX _ hm G' hf' (fun v H1 y m l1 u1 t1 oy h1 => ?_) lx⟩
  obtain ⟨G2, ex⟩ := (G'.tr t1).set h1.1 oy
  exact l.nx _ _ _ m l1 u1 G2 ((G'.ex t1).trans ex) h1.2
theorem x_ret (he : Xe G e n fx) : X1 G (.Return (some e) pos) n (fun ρ N EX => fx ρ N.rt EX) := by
  obtain ⟨t, pt, s⟩ := he
  exact ⟨_, fun j => ps_ret (pt j), fun C σ ρ H N EX D hm G' hf l lx => s C σ ρ H _ EX _ hm G' hf (fun v H1 y m l1 u1 t1 oy h1 => l.rt v H1 y m l1 u1 t1.2 (G'.tr t1).fr (oy.mono (mask_sub fun a h => .inl h)) h1) lx⟩
theorem x_if (hc : Et G.F e n ft) (ha : Xs G a na f) (hb : Xs G b nb g) : X1 G (.If e a b pos) (n + (na + nb)) (fun ρ N EX => ft ρ fun k => if k = true then f ρ N EX else g ρ N EX) := by
  obtain ⟨t, pt, s⟩ := hc
  obtain ⟨u, pu, su⟩ := ha
  obtain ⟨w, pw, sw⟩ := hb
  refine ⟨_, fun i => ps_if (pt i) (pu i) (pw i), fun C σ ρ H N EX D hm G' hf l lx => s C σ ρ H _ _ (by omega) G' hf fun k H1 m l1 u1 t1 h1 => ?_⟩
  cases k with
  | true => exact su (C.up m) σ ρ H1 N EX D (by show m + na ≤ lim; omega) (G'.tr t1) h1 (l.go l1 (by omega) (G'.ex t1)) (lx.go l1 (by omega) (G'.ex t1))
  | false => exact sw (C.up m) σ ρ H1 N EX D (by show m + nb ≤ lim; omega) (G'.tr t1) h1 (l.go l1 (by omega) (G'.ex t1)) (lx.go l1 (by omega) (G'.ex t1))
end
/-! ### calls of defs that may raise -/
abbrev FSX := List Vl → (Vl → Prop) → (Bad → Prop) → Prop
def spFX (K : Kx) (mg : Str → Option Value) (n c : Nat) (f : FSX) : Sp := fun vs H Q E => ∃ (B : Addr → Prop) (m : Nat) (xs : List Vl) (R : Vl → Prop) (EX : Bad → Prop), CtOk B K.S K.SI ∧ K.SI m H ∧ m + c ≤ lim ∧ (∀ a, B a → H a ≠ none) ∧ xs.length = n ∧ VlA K (mask B H) vs xs ∧ f xs R EX ∧
  (∀ v H' x m', m ≤ m' → m' ≤ m + c → Tr K.S (K.SI m') H H' → VlOk K (mask B H') v x → R x → Q v H') ∧
  ∀ cls d H' b m', m ≤ m' → m' ≤ m + c → Tr K.S (K.SI m') H H' → BadOk K mg (mask B H') b cls d H' → EX b → E cls d H'
structure DfX (P : Program) (w : World) (K : Kx) (mg : Str → Option Value) (base : Heap) (x : Str) (st : Stmt) (ps : List Str) (k cf : Nat) (fx : FSX) : Prop where
  ex : ∃ fa fd, FnG P w K mg base (L2.CX P w) k fa fd ps (spFX K mg ps.length cf fx) ∧ mg x = some (.ref fa) ∧ Fun K x x st fa fd
section
variable {X : Cx} {k : Nat} {f : Addr} {fd : FuncData} {ps : List Str} {sp : Sp} {E : L2.St → XK} {x : Str} {p pos : Pos} {e : Expr} {es : List Expr} {t : TA} {CX : CXT}
theorem goGS {pins : List (Addr × Obj)} {σ : L2.St} {H : Hp} {s : Shared} {Q : VK} {us : List Value} {vs : List V} (F : FnG X.prog X.w X.K X.mg X.base CX k f fd ps sp)
    (hg : X.A.guards = some []) (hr : Room k X.A) (hx : PassesAt CX X σ (E σ)) (I : L2.Inv X pins σ H s) (hb : us.length = ps.length → BindsTo s fd ⟨us, []⟩ (ps.zip us)) (r : Vals vs us) (q : sp vs H Q (E σ)) :
    wpAny (model X.prog X.w) X.A (call (.ref f) us []) (EP X pins σ Q) X.xe s := by
  have hl : us.length = ps.length := by rw [← r.length]; exact F.arity _ _ _ _ q
  refine wpAny_call (codeAny_mono (F.runs X.A X.stack s H ⟨us, []⟩ us vs Q (E σ) hg hr I.env0 (hb hl) r q) fun r s' hq => ?_)
  cases r with
  | error e => exact hx pins H s e s' I hq
  | ok fl =>
    cases fl with
    | ret u => exact I.after hq
    | next => exact False.elim hq
    | brk => exact False.elim hq
    | cont => exact False.elim hq
theorem peG_callS (F : FnG X.prog X.w X.K X.mg X.base CX k f fd ps sp) (hg : X.A.guards = some []) (hr : Room k X.A) (hx : ∀ σ, PassesAt CX X σ (E σ)) (gl : Gl X x) (hm : X.mg x = some (.ref f)) (hk : PySem.W.keepIn X.K (.ref f) = true)
    (hb : Binds X.K fd ps []) (ha : PA X (e :: es) t) (hdb : (x == ("__debug__" : Str)) = false := by decide) (he : starEach (e :: es) X.env = (false, eval e X.env) :: starEach es X.env := by rfl)
    (hpl : (backTo pos (starEach es X.env)).any (·.1) = false := by rfl) : PE X (.Call (.Name x p) (e :: es) [] pos) (tCallS sp E t) := by
  refine ⟨fun pins s σ H Q I h => wpAny_Call_Name_kw (ld_glob I gl hm ?_ hdb)⟩
  refine PySem.W.callWith_K (h₀ := X.base) I.ok.mod.kin hk (thn (ha.run pos pins s σ H _ I h) fun us s1 ⟨vs, H1, I1, r, q⟩ => ⟨I1.kIn, ?_⟩) he hpl
  exact goGS F hg hr (hx σ) I1 (fun hl => by have := hb s1 us I1.kIn (by simpa using hl); simpa using this) r q
end
section
variable {G : Fx} {e : Expr} {es : List Expr} {pos p : Pos} {x : Str} {st : Stmt} {ps : List Str} {k cf nf : Nat} {ff : FA} {fx : FSX}
theorem e_defX (D : DfX G.F.P G.F.w G.F.K G.F.mg G.F.base x st ps k cf fx) (hb : BindP x st ps) (ha : Ea G.F (e :: es) nf ff) (hk : k ≤ G.F.k := by exact Nat.le_of_ble_eq_true rfl) (hg : ∀ i, Gl (G.F.X i) x := by intro _; rfl) (hdb : (x == ("__debug__" : Str)) = false := by decide)
    (he : ∀ i, starEach (e :: es) (G.F.X i).env = (false, eval e (G.F.X i).env) :: starEach es (G.F.X i).env := by intro _; rfl) (hpl : ∀ i, (backTo pos (starEach es (G.F.X i).env)).any (·.1) = false := by intro _; rfl) :
    Xe G (.Call (.Name x p) (e :: es) [] pos) (nf + cf) (fun ρ R EX => ff ρ fun xs => xs.length = ps.length ∧ fx xs R (EX ρ)) := by
  obtain ⟨fa, fd, Fn, hm, Fu⟩ := D
  obtain ⟨t, pt, st'⟩ := ha
  refine ⟨tCallS (spFX G.F.K G.F.mg ps.length cf fx) (WE G.E) t, fun j => ?_, fun C σ ρ H R EX Q hm' G' hf kk lx => ?_⟩
  · have q1 := G.F.eK j
    have q2 := G.F.eM j
    have q3 := G.F.eP j
    have q4 := G.F.eW j
    have q5 := G.F.eB j
    exact peG_callS (CX := L2.CX G.F.P G.F.w) (by rw [q1, q2, q3, q4, q5]; exact Fn) (G.F.gu j) ((G.F.room j).mono hk) (by rw [← q3, ← q4]; exact fun σ => passAt (G.tk j) σ) (hg j) (by rw [q2]; exact hm) (by rw [q1]; exact Fu.kp) (by rw [q1]; exact Fu.binds hb) (pt j) hdb (he j) (hpl j)
  · refine st' C σ ρ H _ _ (by omega) G' hf fun vs H1 xs m1 l1 u1 t1 oxs h1 => ?_
    have G1 := G'.tr t1
    show spFX G.F.K G.F.mg ps.length cf fx vs H1 Q (WE G.E σ)
    refine ⟨bar C.B σ ρ, m1, xs, R, EX ρ, G1.ctAll, G1.si, by omega, G1.bdAll, h1.1, oxs, h1.2, fun v H' z m l u t2 oz hz => ?_, fun cls d H' b m l u t2 ob hb' => ?_⟩
    · have t2' : Tr C.S (G.F.K.SI m) H1 H' := by rw [G'.eS]; exact t2
      exact kk v H' z m (Nat.le_trans l1 l) (by omega) (t1.trans t2') oz hz
    · have t2' : Tr C.S (G.F.K.SI m) H1 H' := by rw [G'.eS]; exact t2
      exact lx.ex cls d σ ρ H' b m (Nat.le_trans l1 l) (by omega) (G1.tr t2') ((G'.ex t1).trans (G1.ex t2')) ob hb'
end
def fmX (P : Program) (w : World) (K : Kx) (mg : Str → Option Value) (base : Heap) (N : List Str) (qual : Str) (st : Stmt) (fa : Addr) (cd : Value) (A : Around) (outer : List PySem.Env) (s : Shared) (H : Hp) (E : XK) (k : Nat) (nd : N.Nodup)
    (hr : Room k (A.deeper (envOfC qual (defScope st) s.heap.objs.size fa cd))) (hg : A.guards = some []) : Fx where
  F := Fm.one (cxOf (L2.CX P w) P w K mg base N qual (defScope st) fa cd A outer s H E) K rfl k nd rfl hr hg (passes_of rfl)
  E := fun cls d _ H => E cls d H
  tk := fun _ => takes_of rfl rfl rfl rfl
theorem fnX_make {P : Program} {w : World} {K : Kx} {mg : Str → Option Value} {base : Heap} {k cf : Nat} {fa : Addr} {x qual : Str} {st : Stmt} {fd : FuncData} {N ps : List Str} {f : FSX} (Fu : Fun K x qual st fa fd) (S : FnScope N ps (defScope st)) (hN : ps.length ≤ N.length)
    (body : ∀ (cd : Value) (A : Around) (outer : List PySem.Env) (s : Shared) (H : Hp) (E : XK) (hr : Room k (A.deeper (envOfC qual (defScope st) s.heap.objs.size fa cd))) (hg : A.guards = some []),
      ∃ c g, c ≤ cf ∧ Xs (fmX P w K mg base N qual st fa cd A outer s H E k S.nd hr hg) (defBody st) c g ∧
        ∀ (xs : List Vl) (R : Vl → Prop) (EX : Bad → Prop), xs.length = ps.length → f xs R EX → g (xs.map Sl.v ++ List.replicate (N.length - ps.length) Sl.non) { nx := fun _ => R (.d .none), rt := R } fun _ => EX) :
    FnG P w K mg base (L2.CX P w) (k + 1) fa fd ps (spFX K mg ps.length cf f) := by
  refine FnG.make Fu S (fun vs H Q E h => ?_) fun cd A outer s H vs Q E hg hr h => ?_
  · obtain ⟨B, m, xs, R, EX, _, _, _, _, hl, r, _⟩ := h
    rw [r.length, hl]
  · obtain ⟨B, m, xs, R, EX, ct, si, hm, bd, hl, r, hf, kk, kx⟩ := h
    obtain ⟨c, g, hc, ⟨t, pt, s1⟩, hgg⟩ := body cd A outer s H E hr hg
    refine ⟨t, pt (), ?_⟩
    have hvl : vs.length = ps.length := by rw [r.length, hl]
    have est : L2.start N vs = vs.map some ++ List.replicate (N.length - ps.length) none := by unfold L2.start; rw [hvl]
    rw [est]
    have m0 : ∀ a, bar B (vs.map some ++ List.replicate (N.length - ps.length) none) (xs.map Sl.v ++ List.replicate (N.length - ps.length) Sl.non) a → B a := fun a z => by
      rcases z with z | ⟨i, ys, z, _⟩
      · exact z
      · exact (no_own z).elim
    refine s1 ⟨B, K.S, H, m⟩ _ (xs.map Sl.v ++ List.replicate (N.length - ps.length) Sl.non) H _ (fun _ => EX) _ (by show m + c ≤ lim; omega) ⟨rfl, ct, si, bd, fun a o _ e => e, by simp [r.length], fun i y e => ?_, fun i ys e => (no_own e).elim, fun i j ys zs p e => (no_own e).elim⟩ (hgg xs R EX hl hf) ⟨?_, ?_, ?_, ?_⟩ ⟨?_⟩
    · obtain ⟨v, a, b⟩ := VlA.of_start _ r i y e
      exact ⟨v, a, b.mono (mask_sub m0)⟩
    · exact fun σ' ρ' H' m' a b G' _ h' => kk .non H' (.d .none) m' a (by have : m' ≤ m + c := b; omega) ⟨fun a o n e => G'.fr a o n e, G'.si⟩ Rd.non h'
    · exact fun _ _ _ _ _ _ _ _ z => z.elim
    · exact fun _ _ _ _ _ _ _ _ z => z.elim
    · exact fun v H' y m' a b si' fr' o h' => kk v H' y m' a (by have : m' ≤ m + c := b; omega) ⟨fr', si'⟩ o h'
    · exact fun cls d σ' ρ' H' b m' a b' G' _ ob hb => kx cls d H' b m' a (by have : m' ≤ m + c := b'; omega) ⟨fun a o n e => G'.fr a o n e, G'.si⟩ (ob.mono (mask_sub fun a h => .inl h)) hb
/-! ### raise C(e), C a class of the program's own whose __init__ keeps its one argument -/
/-- self.f = v in the new exception -/
def spI (K : PySem.W.Frag) (C : Addr) (f : Str) : Sp := fun vs H Q _ => ∃ a v, vs = [V.ref a, v] ∧ OexC K C ∧ PySem.W.findIn K (.ref C) f = some none ∧ H a = some (exo a C none) ∧
  ∀ dx, H dx = none → dx ≠ a → Q .non (upd (upd H dx (exd dx [(f, v)])) a (exo a C (some dx)))
/-- the class C of the name x, its field f -/
structure Cl (P : Program) (w : World) (K : Kx) (mg : Str → Option Value) (base : Heap) (x f : Str) : Prop where
  ex : ∃ (C fI : Addr) (fd : FuncData) (ps : List Str), mg x = some (.ref C) ∧ OexC K.fg C ∧ PySem.W.findIn K.fg (.ref C) "__init__" = some (some (.ref fI)) ∧ PySem.W.typeIn K.fg (.ref fI) = some (.type "function") ∧
    FnOk P w K.fg mg base (L2.CX P w) 1 fI fd ps (spI K.fg C f) ∧ Binds K.fg fd ps [] ∧ PySem.W.findIn K.fg (.ref C) f = some none
section
variable {G : Fx} {e : Expr} {pos p pos' : Pos} {x f : Str} {nf : Nat} {ff : FA}
theorem x_raise (D : Cl G.F.P G.F.w G.F.K G.F.mg G.F.base x f) (ha : Ea G.F [e] nf ff) (hk : 2 ≤ G.F.k := by exact Nat.le_of_ble_eq_true rfl) (hg : ∀ i, Gl (G.F.X i) x := by intro _; rfl) (hdb : (x == ("__debug__" : Str)) = false := by decide)
    (he : ∀ i, starEach [e] (G.F.X i).env = (false, eval e (G.F.X i).env) :: starEach [] (G.F.X i).env := by intro _; rfl) (hpl : ∀ i, (backTo pos (starEach [] (G.F.X i).env)).any (·.1) = false := by intro _; rfl) :
    X1 G (.Raise (some (.Call (.Name x p) [e] [] pos)) none pos') nf (fun ρ N EX => ff ρ fun xs => ∃ v, xs = [v] ∧ EX ρ ⟨x, f, v⟩) := by
  obtain ⟨C, fI, fd, ps, hm, T, iC, tI, Fn, hb, hno⟩ := D
  obtain ⟨t, pt, st'⟩ := ha
  refine ⟨fun _ σ H => tMkO C (spI G.F.K.fg C f) [] t σ H fun cls d H' => G.E cls d σ H', fun j => ?_, fun C' σ ρ H N EX D hm' G' hf l lx => ?_⟩
  · have q1 := G.F.eK j
    have q2 := G.F.eM j
    have q3 := G.F.eP j
    have q4 := G.F.eW j
    have q5 := G.F.eB j
    exact ps_raise (W := G.E) (G.F.calm j) (G.tk j) (pmk_oex (CX := L2.CX G.F.P G.F.w) (by rw [q1]; exact T) (by rw [q1]; exact iC) (by rw [q1]; exact tI) (by rw [q1, q2, q3, q4, q5]; exact Fn) ((G.F.room j).mono hk) (by rw [q1]; exact hb) .nil
      (by rw [← q3, ← q4]; exact passes_call (G.tk j) fun _ _ _ _ h => h.elim) (hg j) (by rw [q2]; exact hm) (pt j) hdb (he j) (hpl j))
  · show t σ H fun vs H1 => _
    refine st' C' σ ρ H _ _ hm' G' hf fun vs H1 xs m1 l1 u1 t1 oxs h1 => ?_
    obtain ⟨y, rfl, hy⟩ := h1
    obtain ⟨v, rfl, oy⟩ := oxs.one
    refine ⟨by simp, fun a ha => ?_⟩
    refine ⟨a, v, rfl, T, hno, upd_same, fun dx hdx hne => ⟨rfl, dx, [(f, v)], upd_same, ?_, ?_, ?_⟩⟩
    · rw [upd_ne hne]; exact upd_same
    · have := hdx
      rw [upd_ne hne] at this
      exact this
    · have hd1 : H1 dx = none := by
        have := hdx
        rw [upd_ne hne] at this
        exact this
      have eH : upd (del (upd (upd (upd H1 a (exo a C none)) dx (exd dx [(f, v)])) a (exo a C (some dx))) a) dx (.xd [(f, v)]) = upd H1 dx (.xd [(f, v)]) := by
        funext b
        by_cases e1 : b = dx
        · subst e1; rw [upd_same, upd_same]
        · rw [upd_ne e1, upd_ne e1]
          by_cases e2 : b = a
          · subst e2; rw [del_same]; exact ha.symm
          · rw [del_ne e2, upd_ne e2, upd_ne e1, upd_ne e2]
      rw [eH]
      have G1 := G'.tr t1
      have tn := G1.new (o := .xd [(f, v)]) hd1
      exact lx.ex (.ref C) (some dx) σ ρ _ ⟨x, f, y⟩ m1 l1 u1 (G1.tr tn) ((G'.ex t1).trans (G1.ex tn)) (.inl ⟨C, dx, [(f, v)], v, hm, rfl, rfl, upd_same, by simp, oy.mono (G1.ex tn)⟩) hy
end
/-! ### raise C(), C a class of the program's own without a field -/
section
variable {X : Cx} {C : Addr} {bmB : List Value} {B newId initId : String}
theorem pmk_own0 {x : Str} {p pos : Pos} (F : ExcBaseFacts B newId initId bmB) (q : PySem.W.excIn X.K C bmB newId = true) (gC : X.mg x = some (.ref C)) (kC : PySem.W.keepIn X.K (.ref C) = true) (r : Raises X (.ref C)) (hg : Gl X x)
    (hdb : (x == ("__debug__" : Str)) = false := by decide) : PMk X (.Call (.Name x p) [] [] pos) (fun _ H Q => Q (.ref C) none H) := by
  intro pins s σ H Q I h
  refine wpAny_Call_Name_kw (ld_glob I hg gC ?_ hdb)
  refine PySem.W.callWith_K0 I.kIn kC ?_
  show wpAny _ _ (call (.ref C) []) _ _ _
  obtain ⟨bm, N, nm, qn, bs, hdct, sn, sub, ab, col, dd, k0, k1, k2, k3, k5, mN, hC, hN, hni, T⟩ := exc_obj I.kIn q
  exact wpAny_call_exc_subT F T hC hN hni (fun h' e hm => mk_of I hm r h (I.hok.gone hm.new)) (by show 0 ≤ sizeLine; exact Nat.zero_le _)
end
/-- what the class x of the text says that has no field: raised by x_raise0, an S by he_isN -/
structure ClN (K : PySem.W.Frag) (mg : Str → Option Value) (x S : Str) : Prop where
  ex : ∃ (C s : Addr), mg x = some (.ref C) ∧ mg S = some (.ref s) ∧ PySem.W.excIn K C [.type "ValueError", .type "Exception", .type "BaseException", .type "object"] "ValueError.__new__" = true ∧ PySem.W.keepIn K (.ref C) = true ∧
    PySem.W.subIn K (.ref C) (.type "BaseException") = some true ∧ PySem.W.typeIn K (.ref C) = some (.type "type") ∧ ExcC K C ∧ PySem.W.subIn K (.ref C) (.ref C) = some true ∧ PySem.W.kitOne K (.ref C) (.ref s) = some true
section
variable {G : Fx} {pos p pos' : Pos} {x S : Str}
theorem x_raise0 (D : ClN G.F.K.fg G.F.mg x S) (hg : ∀ i, Gl (G.F.X i) x := by intro _; rfl) (hdb : (x == ("__debug__" : Str)) = false := by decide) :
    X1 G (.Raise (some (.Call (.Name x p) [] [] pos)) none pos') 0 (fun ρ N EX => EX ρ ⟨x, "", .d .none⟩) := by
  obtain ⟨C, s, hm, _, xC, kC, bC, tC, _, _, _⟩ := D
  refine ⟨fun _ σ H => G.E (.ref C) none σ H, fun j => ?_, fun C' σ ρ H N EX D hm' G' hf l lx => ?_⟩
  · have q1 := G.F.eK j
    have q2 := G.F.eM j
    exact ps_raise (W := G.E) (G.F.calm j) (G.tk j) (pmk_own0 PySem.F.excBase_ValueError (by rw [q1]; exact xC) (by rw [q2]; exact hm) (by rw [q1]; exact kC) (raises_own (by rw [q1]; exact bC) (by rw [q1]; exact tC)) (hg j) hdb)
  · exact lx.ex (.ref C) none σ ρ H ⟨x, "", .d .none⟩ C'.m (Nat.le_refl _) (Nat.le_add_right _ _) G' (Ex.refl _) (.inr ⟨C, hm, rfl, rfl, rfl⟩) hf
end
end Px

set_option Elab.async false
set_option linter.all false
set_option maxRecDepth 100000
set_option maxHeartbeats 2000000
/-! PyTry: try: .. except C as n: .. -/
namespace Px
open PySem PySem.Spec PyProof.Rows L2
def Fm.tr (F : Fm) (W : WX) : Fm where
  I := {q : F.I × List (Addr × Obj) × (Value → Shared → Prop) // L2.Takes ((F.X q.1).tr q.2.1 q.2.2) W ∧ PassesOwn (model (F.X q.1).prog (F.X q.1).w) (F.X q.1).A (F.X q.1).env q.2.2}
  X := fun q => (F.X q.1.1).tr q.1.2.1 q.1.2.2
  K := F.K
  mg := F.mg
  N := F.N
  P := F.P
  w := F.w
  base := F.base
  k := F.k
  eK := fun q => F.eK q.1.1
  eM := fun q => F.eM q.1.1
  eN := fun q => F.eN q.1.1
  eP := fun q => F.eP q.1.1
  eW := fun q => F.eW q.1.1
  eB := fun q => F.eB q.1.1
  nd := F.nd
  calm := fun q => F.calm q.1.1
  room := fun q => F.room q.1.1
  gu := fun q => F.gu q.1.1
  own := fun q => q.2.2
/-- within a try -/
def Fx.tr (G : Fx) (W : WX) : Fx := ⟨G.F.tr W, W, fun q => q.2.1⟩
/-- what a clause's suite does, the exception b in hand, its name's slot i -/
structure HdOk (K : Kx) (mg : Str → Option Value) (ts : Addr → Value → Option Addr → TS) (i : Nat) (c : Nat) (h : En → Bad → SEn → Prop) : Prop where
  ok : ∀ (C : Ct) (σ : Sg) (ρ : En) (H : Hp) (b : Bad) (cls : Value) (d : Option Addr) (a : Addr) (N : SEn) (D : Ends), C.m + c ≤ lim → Good K C σ ρ H → BadOk K mg (mq C σ ρ H) b cls d H → H a = none → h ρ b N → Lk K C c (mq C σ ρ H) N D →
    ts a cls d { nx := fun σ' H' => D.nx (σ'.set i none) H', rt := D.rt, bk := fun σ' H' => D.bk (σ'.set i none) H', ct := fun σ' H' => D.ct (σ'.set i none) H' } (σ.set i (some (.ref a))) H
structure Hd (G : Fx) (i : Nat) (sts : List Stmt) (c : Nat) (h : En → Bad → SEn → Prop) : Prop where
  ex : ∃ ts, (∀ j a oe cls d pn, Zc cls d oe → (∃ vs, oe.data = .fields vs) → PSs ((G.F.X j).suite a ((a, oe) :: pn)) sts (ts a cls d)) ∧ HdOk G.F.K G.F.mg ts i c h
/-- a class that a clause names -/
structure ClH (K : Kx) (mg : Str → Option Value) (x : Str) : Prop where
  ex : ∃ C, mg x = some (.ref C) ∧ PySem.W.exmOne K.fg (.ref C) (.ref C) = some true
theorem x_try {G : Fx} {body suite : List Stmt} {b₀ : Stmt} {x n : Str} {np pos pos' : Pos} {c1 c2 : Nat} {f : FStX} {h : En → Bad → SEn → Prop} (Cl : ClH G.F.K G.F.mg x) (i : Nat) (hi : G.F.N[i]? = some n) (hb : ∀ W, Xs (G.tr W) body c1 f) (hd : Hd G i (b₀ :: suite) c2 h)
    (hln : ∀ j, (G.F.X j).env.kindOf n = some .local := by intro _; rfl) (hg : ∀ j, Gl (G.F.X j) x := by intro _; rfl) (hdb : (x == ("__debug__" : Str)) = false := by decide)
    (hs : ∀ j, (G.F.X j).stack = (G.F.X j).env :: (G.F.X j).outer := by intro _; rfl) (hf : ∀ j, (G.F.X j).env.frame = some (G.F.X j).env.locals := by intro _; rfl) :
    X1 G (.Try body [.ExceptHandler (some (.Name x np)) (some n) (b₀ :: suite) pos'] [] [] pos) (c1 + c2) (fun ρ N EX => f ρ N fun ρ' b => b.cls = x ∧ h ρ' b N) := by
  obtain ⟨C, hm, exm⟩ := Cl
  obtain ⟨ts, pts, sts⟩ := hd
  have tb : ∀ W : WX, ∃ t, (∀ i, PSs ((G.tr W).F.X i) body t) ∧ SSX (G.tr W).F.K (G.tr W).F.mg (G.tr W).E t c1 f := fun W => (hb W).ex
  refine ⟨fun D σ H => (tb (wAs G.F.K.fg (.ref C) i ts G.E D)).choose D σ H, fun j => ?_, fun C' σ ρ H N EX D hm' G' hf' l lx => ?_⟩
  · have q := ps_try_as (X := G.F.X j) (tb := fun W => (tb W).choose) (ts := ts) (Wout := G.E) (c := .ref C) (pos := pos) (pos' := pos') (np := np) (hs j) (hf j) (by rw [G.F.eN]; exact G.F.nd) (by rw [G.F.eN]; exact hi) (hln j) ⟨hg j, hdb, .inl (by rw [G.F.eM]; exact hm)⟩ (G.tk j)
      (fun W pn xe t1 t2 => (tb W).choose_spec.1 ⟨(j, pn, xe), t1, t2⟩) (fun a oe cls d pn z v => pts j a oe cls d pn z v)
    rw [G.F.eK] at q
    exact q
  · refine (tb (wAs G.F.K.fg (.ref C) i ts G.E D)).choose_spec.2 C' σ ρ H N _ D (by omega) G' hf' (l.go (Nat.le_refl _) (by omega) (Ex.refl _)) ⟨fun cls d σ' ρ' H' b m a1 a2 G2 x2 ob hb' => ?_⟩
    obtain ⟨ec, hh⟩ := hb'
    obtain ⟨C2, e1, e2⟩ := ob.own
    rw [ec] at e1
    have e1' : some (Value.ref C) = some (Value.ref C2) := hm.symm.trans e1
    cases e1'
    subst e2
    exact ⟨true, exm, fun _ a ha => sts.ok (C'.up m) σ' ρ' H' b _ d a N D (by show m + c2 ≤ lim; omega) G2 ob ha hh (l.go a1 (by omega) x2), fun z => by cases z⟩
/-! ### what a suite may say of the exception -/
/-- isinstance(e, c), e the exception in hand, with a dict of its own -/
def rIsED (K : PySem.W.Frag) (D a : Addr) (cls : Value) (d : Option Addr) : List V → Hp → VK → Prop := fun xs H Q => ∃ (c : V) (cv : Value) (b : Bool) (dd : Addr) (fs : List (Str × V)), xs = [.ref a, c] ∧ cls = .ref D ∧ d = some dd ∧ H dd = some (.xd fs) ∧ (∀ u, RelV c u → u = cv) ∧ PySem.W.kitOne K (.ref D) cv = some b ∧ Q (.bl b) H
theorem call_isED {X : Cx} {a D : Addr} {oe : Obj} {cls : Value} {d : Option Addr} {pn : List (Addr × Obj)} (C : ExcC X.K D) (hz : Zc cls d oe) (hf : ∃ vs, oe.data = .fields vs) : CallR (X.suite a ((a, oe) :: pn)) (.builtin "isinstance") (rIsED X.K D a cls d) := by
  intro pins s σ H xs us Q I r h
  obtain ⟨c, cv, b, dd, fs, rfl, rfl, rfl, ea, hcv, e, q⟩ := h
  cases r with
  | cons rx rr =>
    cases rr with
    | cons rt rr =>
      cases rr
      cases rx
      have ec := hcv _ rt
      subst ec
      obtain ⟨hget, _⟩ := I.pin (a, oe) (List.mem_append.mpr (.inl List.mem_cons_self))
      obtain ⟨vs, hv⟩ := hf
      have hx : ObjOk X.prog X.w H s.heap dd (.xd fs) := I.hok dd _ ea
      obtain ⟨mA, hns, hr⟩ := hx
      obtain ⟨od, ho, hl⟩ := lookIn_ns hns
      have J : PySem.W.InstAt s.heap a oe D (some od) := ⟨hget, hz.1, by unfold PySem.W.notCls; rw [hv] <;> rfl, by rw [hz.2]; exact ho⟩
      have hcl : (PySem.W.clsIn X.K D).isSome = true := by
        obtain ⟨cd, hc, _⟩ := PySem.W.any_some C.hd
        rw [hc]; rfl
      exact PySem.W.kia_one (PySem.W.kitx_exc hcl C.hg C.hk C.hs C.ha C.hn C.ht C.hm) I.kIn J e (fun z => nomatch z) fun tk => ⟨.bl b, H, I.kept (t' := tk) fun _ _ z => z, rfl, q⟩
/-- a frame that lets nothing out -/
def Fx.of (F : Fm) : Fx := ⟨F, fun _ _ _ _ => False, fun _ _ _ ⟨_, _, _, _, _, _, _, _, _, _, _, _, _, _, _, _, w⟩ => w.elim⟩
theorem e1_of {F : Fm} {st : Stmt} {c : Nat} {f : FStX} (h : X1 (Fx.of F) st c f) : E1 F st c (fun ρ N => f ρ N fun _ _ => False) := by
  obtain ⟨t, pt, s⟩ := h
  exact ⟨t, pt, fun C σ ρ H N D hm G hf l => s C σ ρ H N _ D hm G hf l ⟨fun _ _ _ _ _ _ _ _ _ _ _ _ h => h.elim⟩⟩
/-- what the class x says of itself: its field f, its being an S -/
structure ClF (K : Kx) (mg : Str → Option Value) (x f S : Str) : Prop where
  ex : ∃ C s, mg x = some (.ref C) ∧ mg S = some (.ref s) ∧ XfC K.fg C ∧ PySem.W.findIn K.fg (.ref C) f = some none ∧ ExcC K.fg C ∧ PySem.W.kitOne K.fg (.ref C) (.ref s) = some true
theorem Good.non {K : Kx} {C : Ct} {σ : Sg} {ρ : En} {H : Hp} (G : Good K C σ ρ H) (i : Nat) : Good K C (σ.set i none) (ρ.set i .non) H ∧ Ex (mq C σ ρ H) (mq C (σ.set i none) (ρ.set i .non) H) := by
  have ex : Ex (mq C σ ρ H) (mq C (σ.set i none) (ρ.set i .non) H) := mask_sub fun a h => by
    rcases h with h | ⟨j, xs, h1, h2⟩
    · exact .inl h
    · rcases set_at h1 with ⟨_, e, _⟩ | ⟨ne, e1⟩
      · cases e
      · rw [set_oth ne] at h2
        exact .inr ⟨j, xs, e1, h2⟩
  refine ⟨⟨G.eS, G.ct, G.si, G.bd, G.fr, by simp [G.len], fun j y e => ?_, fun j xs e => ?_, fun j k xs ys p e1 e2 e3 e4 => ?_⟩, ex⟩
  · rcases set_at e with ⟨_, e, _⟩ | ⟨ne, e⟩
    · cases e
    · obtain ⟨w, h1, h2⟩ := G.sl j y e
      exact ⟨w, by rw [set_oth ne]; exact h1, h2.mono ex⟩
  · rcases set_at e with ⟨_, e, _⟩ | ⟨ne, e⟩
    · cases e
    · obtain ⟨p, vs, h1, h2, h3, h4, h5⟩ := G.ow j xs e
      exact ⟨p, vs, by rw [set_oth ne]; exact h1, h2, h3.mono ex, h4, h5⟩
  · rcases set_at e1 with ⟨_, e, _⟩ | ⟨n1, e1⟩
    · cases e
    · rcases set_at e2 with ⟨_, e, _⟩ | ⟨n2, e2⟩
      · cases e
      · rw [set_oth n1] at e3
        rw [set_oth n2] at e4
        exact G.inj j k xs ys p e1 e2 e3 e4
/-- y = (word, e.f, isinstance(e, S)) -/
theorem hd_told {G : Fx} {x f S n y wd : Str} {kt kc : Nat} {py p1 p2 p3 p4 p5 p6 p7 p8 pos : Pos} (T : ClF G.F.K G.F.mg x f S) (i j : Nat) (hi : G.F.N[i]? = some n) (hj : G.F.N[j]? = some y) (hij : i ≠ j) (hm : G.F.mg "isinstance" = none)
    (hv : ∀ q, Vis (G.F.X q).env.scope n := by intro _; first | exact .inl rfl | exact .inr (.inl rfl)) (hx : ∀ q, Loc (G.F.X q).env.scope y := by intro _; first | exact .inl rfl | exact .inr rfl)
    (hf : ∀ q, (G.F.X q).fn y = true ∨ (G.F.X q).env.scope.names.lookup y = some .local := by intro _; exact .inl rfl) (hg : ∀ q, Gl (G.F.X q) "isinstance" := by intro _; rfl) (hgS : ∀ q, Gl (G.F.X q) S := by intro _; rfl)
    (hd1 : (n == ("__debug__" : Str)) = false := by decide) (hd2 : (n == ("__classdict__" : Str)) = false := by decide) (hd3 : (S == ("__debug__" : Str)) = false := by decide) (hf0 : f ≠ ("" : Str) := by decide)
    (hb : ∀ q, attributeBase (.Name n p2) f (G.F.X q).env (eval (.Name n p2) (G.F.X q).env) = eval (.Name n p2) (G.F.X q).env := by intro _; rfl)
    (hs : ∀ q, swapsWith (.Tuple [.Constant (.str wd) kc p1, .Attribute (.Name n p2) f p3, .Call (.Name "isinstance" p4) [.Name n p5, .Name S p6] [] p7] kt p8) (some (.Name y py)) pos.line (G.F.X q).env = pure false := by intro _; rfl) :
    Hd G i [.Assign [.Name y py] (.Tuple [.Constant (.str wd) kc p1, .Attribute (.Name n p2) f p3, .Call (.Name "isinstance" p4) [.Name n p5, .Name S p6] [] p7] kt p8) pos] 0
      (fun ρ b N => b.cls = x ∧ b.fld = f ∧ ∃ dv, b.val = .d dv ∧ i < ρ.length ∧ j < ρ.length ∧ N.nx ((ρ.set i .non).set j (.v (.d (.tuple [.str wd, dv, .bool true]))))) := by
  obtain ⟨C, s, m1, m2, TX, hno, TC, hk⟩ := T
  refine ⟨fun a cls d => tAsg (tTup (tCons (tC (.str wd)) (tCons (tXf a cls d C f (tVar i)) (tCons (tCB (rIsED G.F.K.fg C a cls d) (tCons (tVar i) (tCons (tC (.ref s)) tNil))) tNil)))) (gName j), fun q a oe cls d pn hz hvs => ?_, ⟨?_⟩⟩
  · have q1 := G.F.eK q
    have z : CallR ((G.F.X q).suite a ((a, oe) :: pn)) (.builtin "isinstance") (rIsED G.F.K.fg C a cls d) := by
      have z := call_isED (X := G.F.X q) (D := C) (a := a) (oe := oe) (cls := cls) (d := d) (pn := pn) (by rw [q1]; exact TC) hz hvs
      rw [q1] at z
      exact z
    have pv : ∀ pp : Pos, PE ((G.F.X q).suite a ((a, oe) :: pn)) (.Name n pp) (tVar i) := fun pp => pe_var (by show (G.F.X q).N[i]? = some n; rw [G.F.eN]; exact hi) (hv q) hd1 hd2
    exact pss_one (ps_set (by show (G.F.X q).N.Nodup; rw [G.F.eN]; exact G.F.nd) (by show (G.F.X q).N[j]? = some y; rw [G.F.eN]; exact hj) (hx q)
      (pe_tup (pa_cons pe_str (pa_cons (pe_xf (by rw [q1]; exact TX) (by rw [q1]; exact hno) hz hvs (pv _) (hb q))
        (pa_cons (pe_callB z (hg q) (by show (G.F.X q).mg _ = _; rw [G.F.eM]; exact hm) rfl (pa_cons (pv _) (pa_cons (pe_glob (v := .ref s) (hgS q) (by show (G.F.X q).mg _ = _; rw [G.F.eM]; exact m2) rfl hd3) pa_nil)) (by decide) (by decide)) pa_nil))))
      (hs q) (hf q))
  · intro C' σ ρ H b cls d a N D hm' G' ob ha hh l
    obtain ⟨ec, ef, dv, ev, hil, hjl, hN⟩ := hh
    obtain ⟨C2, dd, fs, v, e1, e2, e3, e4, e5, e6⟩ := ob.field ef hf0
    rw [ec, m1] at e1
    cases e1
    rw [ef] at e5
    have hiσ : i < σ.length := by rw [← G'.len]; exact hil
    have hget : (σ.set i (some (V.ref a)))[i]? = some (some (V.ref a)) := set_self hiσ
    refine ⟨.ref a, hget, rfl, e2, dd, fs, v, e3, e4, e5, .ref a, hget, .ref s, .ref s, true, dd, fs, rfl, e2, e3, e4, fun u hu => hu, hk, (show 3 ≤ sizeLine by decide), fun p hp => ?_⟩
    show D.nx (((σ.set i (some (.ref a))).set j (some (.ref p))).set i none) (upd H p (.tup [.str wd, v, .bl true]))
    have eσ : ((σ.set i (some (V.ref a))).set j (some (V.ref p))).set i none = (σ.set i none).set j (some (V.ref p)) := by
      rw [List.set_comm _ _ (Ne.symm hij)]
      rw [List.set_set]
    rw [eσ]
    obtain ⟨G1, x1⟩ := G'.non i
    have tn := G1.new (o := .tup [.str wd, v, .bl true]) hp
    have G2 := G1.tr tn
    have ov : VlOk G.F.K (mq C' (σ.set i none) (ρ.set i .non) (upd H p (.tup [.str wd, v, .bl true]))) (.ref p) (.d (.tuple [.str wd, dv, .bool true])) := by
      have o1 : Rd G.F.K.fg (mq C' (σ.set i none) (ρ.set i .non) (upd H p (.tup [.str wd, v, .bl true]))) v dv := by
        rw [ev] at e6
        exact (VlOk.mono x1 e6 : VlOk _ _ v (.d dv)).mono (G1.ex tn)
      exact Rd.tup (.inl (.inl (G1.mq_new hp))) (.cons (.str _) (.cons o1 (.cons (.bl _) .nil)))
    obtain ⟨G3, x3⟩ := G2.set (i := j) (by simpa using hjl) ov
    exact l.nx _ _ _ C'.m (Nat.le_refl _) (Nat.le_add_right _ _) G3 ((x1.trans (G1.ex tn)).trans x3) hN
/-! ### suites: y = e, y = (e, ..), e a text, the exception's field, isinstance of it -/
/-- an expression of a suite that lays nothing down; the exception's name has slot i -/
structure He (G : Fx) (i : Nat) (x : Str) (e : Expr) (g : Bad → (Vl → Prop) → Prop) : Prop where
  ex : ∃ te : Addr → Value → Option Addr → TE, (∀ q a oe cls d pn, Zc cls d oe → (∃ vs, oe.data = .fields vs) → PE ((G.F.X q).suite a ((a, oe) :: pn)) e (te a cls d)) ∧
    ∀ (M : Hp) (σ : Sg) (H : Hp) (b : Bad) (cls : Value) (d : Option Addr) (a : Addr) (R : Vl → Prop) (Q : VK), σ[i]? = some (some (.ref a)) → BadOk G.F.K G.F.mg M b cls d H → b.cls = x → g b R → (∀ v y, VlOk G.F.K M v y → R y → Q v H) → te a cls d σ H Q
structure Ha (G : Fx) (i : Nat) (x : Str) (es : List Expr) (g : Bad → (List Vl → Prop) → Prop) : Prop where
  ex : ∃ te : Addr → Value → Option Addr → TA, (∀ q a oe cls d pn, Zc cls d oe → (∃ vs, oe.data = .fields vs) → PA ((G.F.X q).suite a ((a, oe) :: pn)) es (te a cls d)) ∧
    ∀ (M : Hp) (σ : Sg) (H : Hp) (b : Bad) (cls : Value) (d : Option Addr) (a : Addr) (R : List Vl → Prop) (Q : List V → Hp → Prop), σ[i]? = some (some (.ref a)) → BadOk G.F.K G.F.mg M b cls d H → b.cls = x → g b R → (∀ vs ys, VlA G.F.K M vs ys → R ys → Q vs H) → te a cls d σ H Q
section
variable {G : Fx} {i j : Nat} {x f S n y : Str} {e : Expr} {es : List Expr} {p p1 p2 p3 pos : Pos} {g : Bad → (Vl → Prop) → Prop} {ga : Bad → (List Vl → Prop) → Prop}
theorem he_str {wd : Str} {k : Nat} : He G i x (.Constant (.str wd) k p) (fun _ R => R (.d (.str wd))) :=
  ⟨fun _ _ _ => tC (.str wd), fun _ _ _ _ _ _ _ _ => pe_str, fun M σ H b cls d a R Q _ _ _ hg hq => hq (.str wd) (.d (.str wd)) (Rd.str _) hg⟩
theorem he_fld (T : ClF G.F.K G.F.mg x f S) (hi : G.F.N[i]? = some n) (hv : ∀ q, Vis (G.F.X q).env.scope n := by intro _; first | exact .inl rfl | exact .inr (.inl rfl)) (hd1 : (n == ("__debug__" : Str)) = false := by decide) (hd2 : (n == ("__classdict__" : Str)) = false := by decide) (hf0 : f ≠ ("" : Str) := by decide)
    (hb : ∀ q, attributeBase (.Name n p2) f (G.F.X q).env (eval (.Name n p2) (G.F.X q).env) = eval (.Name n p2) (G.F.X q).env := by intro _; rfl) : He G i x (.Attribute (.Name n p2) f p3) (fun b R => b.fld = f ∧ R b.val) := by
  obtain ⟨C, s, m1, m2, TX, hno, TC, hk⟩ := T
  refine ⟨fun a cls d => tXf a cls d C f (tVar i), fun q a oe cls d pn hz hvs => ?_, fun M σ H b cls d a R Q hs ob ec hg hq => ?_⟩
  · have q1 := G.F.eK q
    exact pe_xf (by rw [q1]; exact TX) (by rw [q1]; exact hno) hz hvs (pe_var (by show (G.F.X q).N[i]? = some n; rw [G.F.eN]; exact hi) (hv q) hd1 hd2) (hb q)
  · obtain ⟨ef, hR⟩ := hg
    obtain ⟨C2, dd, fs, v, e1, e2, e3, e4, e5, e6⟩ := ob.field ef hf0
    rw [ec, m1] at e1
    cases e1
    rw [ef] at e5
    exact ⟨.ref a, hs, rfl, e2, dd, fs, v, e3, e4, e5, hq v b.val e6 hR⟩
/-- isinstance(e, c), e without a dict -/
def rIsEN (K : PySem.W.Frag) (D a : Addr) (cls : Value) (d : Option Addr) : List V → Hp → VK → Prop := fun xs H Q => cls = .ref D ∧ d = none ∧ rIsE K D a xs H Q
theorem call_isEN {X : Cx} {a D : Addr} {oe : Obj} {cls : Value} {d : Option Addr} {pn : List (Addr × Obj)} (C : ExcC X.K D) (hz : Zc cls d oe) (hf : ∃ vs, oe.data = .fields vs) : CallR (X.suite a ((a, oe) :: pn)) (.builtin "isinstance") (rIsEN X.K D a cls d) := by
  intro pins s σ H xs us Q I r h
  obtain ⟨rfl, rfl, h⟩ := h
  exact call_isE C hz hf pins s σ H xs us Q I r h
/-- what the class x says of its instances: they are S's -/
structure ClI (K : Kx) (mg : Str → Option Value) (x S : Str) : Prop where
  ex : ∃ C s, mg x = some (.ref C) ∧ mg S = some (.ref s) ∧ ExcC K.fg C ∧ PySem.W.kitOne K.fg (.ref C) (.ref s) = some true
theorem ClF.is {K : Kx} {mg : Str → Option Value} {x f S : Str} (T : ClF K mg x f S) : ClI K mg x S := by
  obtain ⟨C, s, m1, m2, TX, hno, TC, hk⟩ := T
  exact ⟨C, s, m1, m2, TC, hk⟩
theorem ClN.is {K : Kx} {mg : Str → Option Value} {x S : Str} (T : ClN K.fg mg x S) : ClI K mg x S := by
  obtain ⟨C, s, m1, m2, _, _, _, _, TC, _, hk⟩ := T
  exact ⟨C, s, m1, m2, TC, hk⟩
theorem ClN.h {K : Kx} {mg : Str → Option Value} {x S : Str} (T : ClN K.fg mg x S) : ClH K mg x := by
  obtain ⟨C, s, m1, m2, _, _, bC, tC, TC, sC, hk⟩ := T
  exact ⟨C, m1, PySem.W.exm_ref bC TC.hd tC sC⟩
theorem he_isI (T : ClI G.F.K G.F.mg x S) (hi : G.F.N[i]? = some n) (hm : G.F.mg "isinstance" = none) (hv : ∀ q, Vis (G.F.X q).env.scope n := by intro _; first | exact .inl rfl | exact .inr (.inl rfl)) (hg : ∀ q, Gl (G.F.X q) "isinstance" := by intro _; rfl) (hgS : ∀ q, Gl (G.F.X q) S := by intro _; rfl)
    (hd1 : (n == ("__debug__" : Str)) = false := by decide) (hd2 : (n == ("__classdict__" : Str)) = false := by decide) (hd3 : (S == ("__debug__" : Str)) = false := by decide) : He G i x (.Call (.Name "isinstance" p) [.Name n p1, .Name S p2] [] pos) (fun _ R => R (.d (.bool true))) := by
  obtain ⟨C, s, m1, m2, TC, hk⟩ := T
  refine ⟨fun a cls d => match d with
    | some d => tCB (rIsED G.F.K.fg C a cls (some d)) (tCons (tVar i) (tCons (tC (.ref s)) tNil))
    | none => tCB (rIsEN G.F.K.fg C a cls none) (tCons (tVar i) (tCons (tC (.ref s)) tNil)), fun q a oe cls d pn hz hvs => ?_, fun M σ H b cls d a R Q hs ob ec hR hq => ?_⟩
  · have q1 := G.F.eK q
    cases d with
    | some d =>
      have z : CallR ((G.F.X q).suite a ((a, oe) :: pn)) (.builtin "isinstance") (rIsED G.F.K.fg C a cls (some d)) := by
        have z := call_isED (X := G.F.X q) (D := C) (a := a) (oe := oe) (cls := cls) (d := some d) (pn := pn) (by rw [q1]; exact TC) hz hvs
        rw [q1] at z
        exact z
      exact pe_callB z (hg q) (by show (G.F.X q).mg _ = _; rw [G.F.eM]; exact hm) rfl (pa_cons (pe_var (by show (G.F.X q).N[i]? = some n; rw [G.F.eN]; exact hi) (hv q) hd1 hd2) (pa_cons (pe_glob (v := .ref s) (hgS q) (by show (G.F.X q).mg _ = _; rw [G.F.eM]; exact m2) rfl hd3) pa_nil)) (by decide) (by decide)
    | none =>
      have z : CallR ((G.F.X q).suite a ((a, oe) :: pn)) (.builtin "isinstance") (rIsEN G.F.K.fg C a cls none) := by
        have z := call_isEN (X := G.F.X q) (D := C) (a := a) (oe := oe) (cls := cls) (d := none) (pn := pn) (by rw [q1]; exact TC) hz hvs
        rw [q1] at z
        exact z
      exact pe_callB z (hg q) (by show (G.F.X q).mg _ = _; rw [G.F.eM]; exact hm) rfl (pa_cons (pe_var (by show (G.F.X q).N[i]? = some n; rw [G.F.eN]; exact hi) (hv q) hd1 hd2) (pa_cons (pe_glob (v := .ref s) (hgS q) (by show (G.F.X q).mg _ = _; rw [G.F.eM]; exact m2) rfl hd3) pa_nil)) (by decide) (by decide)
  · rcases ob with ⟨C2, dd, fs, v, e1, e2, e3, e4, e5, e6⟩ | ⟨C2, e1, e2, e3, e4⟩
    · rw [ec, m1] at e1
      cases e1
      subst e3
      exact ⟨.ref a, hs, .ref s, .ref s, true, dd, fs, rfl, e2, rfl, e4, fun u hu => hu, hk, hq (.bl true) (.d (.bool true)) (Rd.bl _) hR⟩
    · rw [ec, m1] at e1
      cases e1
      subst e3
      exact ⟨.ref a, hs, e2, rfl, .ref s, .ref s, true, rfl, fun u hu => hu, hk, hq (.bl true) (.d (.bool true)) (Rd.bl _) hR⟩
theorem he_is (T : ClF G.F.K G.F.mg x f S) (hi : G.F.N[i]? = some n) (hm : G.F.mg "isinstance" = none) (hv : ∀ q, Vis (G.F.X q).env.scope n := by intro _; first | exact .inl rfl | exact .inr (.inl rfl)) (hg : ∀ q, Gl (G.F.X q) "isinstance" := by intro _; rfl) (hgS : ∀ q, Gl (G.F.X q) S := by intro _; rfl)
    (hd1 : (n == ("__debug__" : Str)) = false := by decide) (hd2 : (n == ("__classdict__" : Str)) = false := by decide) (hd3 : (S == ("__debug__" : Str)) = false := by decide) : He G i x (.Call (.Name "isinstance" p) [.Name n p1, .Name S p2] [] pos) (fun _ R => R (.d (.bool true))) :=
  he_isI T.is hi hm hv hg hgS hd1 hd2 hd3
theorem he_none {k : Nat} : He G i x (.Constant .none k p) (fun _ R => R (.d .none)) :=
  ⟨fun _ _ _ => tC .non, fun _ _ _ _ _ _ _ _ => pe_non, fun M σ H b cls d a R Q _ _ _ hg hq => hq .non (.d .none) Rd.non hg⟩
/-- a if c else b, c a truth value -/
theorem he_if {c a b : Expr} {gc ga gb : Bad → (Vl → Prop) → Prop} (hc : He G i x c gc) (ha : He G i x a ga) (hb : He G i x b gb)
    (ht : ∀ q (s : Addr) oe pn whole, isTrue c ((G.F.X q).suite s ((s, oe) :: pn)).env whole = (do let v ← whole; standAt c.pos; holding [v] (truthy v)) := by intro _ _ _ _ _; rfl) :
    He G i x (.IfExp c a b pos) (fun bd R => gc bd fun v => ∃ k, v = .d (.bool k) ∧ if k = true then ga bd R else gb bd R) := by
  obtain ⟨tc, pc, sc⟩ := hc
  obtain ⟨ta, pa, sa⟩ := ha
  obtain ⟨tb, pb, sb⟩ := hb
  refine ⟨fun s cls d => tIf (tB (tc s cls d)) (ta s cls d) (tb s cls d), fun q s oe cls d pn hz hvs => pe_ifExp (pt_val (pc q s oe cls d pn hz hvs) (ht q s oe pn)) (pa q s oe cls d pn hz hvs) (pb q s oe cls d pn hz hvs), fun M σ H bd cls d s R Q h1 ob ec hg hq => ?_⟩
  refine sc M σ H bd cls d s _ _ h1 ob ec hg fun v y oy hy => ?_
  obtain ⟨k, rfl, hy⟩ := hy
  have e : v = .bl k := Rd.inv_bool oy
  refine ⟨k, e, ?_⟩
  cases k with
  | true => exact iteT (sa M σ H bd cls d s R Q h1 ob ec (by simpa using hy) hq)
  | false => exact iteF (sb M σ H bd cls d s R Q h1 ob ec (by simpa using hy) hq)
theorem ha_nil : Ha G i x [] (fun _ R => R []) := ⟨fun _ _ _ => tNil, fun _ _ _ _ _ _ _ _ => pa_nil, fun M σ H b cls d a R Q _ _ _ hg hq => hq [] [] .nil hg⟩
theorem ha_cons (h : He G i x e g) (hr : Ha G i x es ga) (hs : ∀ q a oe pn, starEach (e :: es) ((G.F.X q).suite a ((a, oe) :: pn)).env = (false, eval e (G.F.X q).env) :: starEach es (G.F.X q).env := by intro _ _ _ _; rfl) : Ha G i x (e :: es) (fun b R => g b fun y => ga b fun ys => R (y :: ys)) := by
  obtain ⟨t, pt, st⟩ := h
  obtain ⟨u, pu, su⟩ := hr
  exact ⟨fun a cls d => tCons (t a cls d) (u a cls d), fun q a oe cls d pn hz hv => pa_cons (pt q a oe cls d pn hz hv) (pu q a oe cls d pn hz hv) (hs q a oe pn), fun M σ H b cls d a R Q h1 ob ec hg hq =>
    st M σ H b cls d a _ _ h1 ob ec hg fun v y o1 h2 => su M σ H b cls d a _ _ h1 ob ec h2 fun vs ys o2 h3 => hq _ _ (.cons o1 o2) h3⟩
/-- y = e -/
theorem hd_set {py : Pos} (j : Nat) (hj : G.F.N[j]? = some y) (hij : i ≠ j) (h : He G i x e g) (hx : ∀ q, Loc (G.F.X q).env.scope y := by intro _; first | exact .inl rfl | exact .inr rfl)
    (hf : ∀ q, (G.F.X q).fn y = true ∨ (G.F.X q).env.scope.names.lookup y = some .local := by intro _; exact .inl rfl) (hs : ∀ q, swapsWith e (some (.Name y py)) pos.line (G.F.X q).env = pure false := by intro _; rfl) :
    Hd G i [.Assign [.Name y py] e pos] 0 (fun ρ b N => b.cls = x ∧ (i < ρ.length ∧ j < ρ.length) ∧ g b fun z => N.nx ((ρ.set i .non).set j (.v z))) := by
  obtain ⟨t, pt, st⟩ := h
  refine ⟨fun a cls d => tAsg (t a cls d) (gName j), fun q a oe cls d pn hz hvs => pss_one (ps_set (by show (G.F.X q).N.Nodup; rw [G.F.eN]; exact G.F.nd) (by show (G.F.X q).N[j]? = some y; rw [G.F.eN]; exact hj) (hx q) (pt q a oe cls d pn hz hvs) (hs q) (hf q)), ⟨?_⟩⟩
  intro C' σ ρ H b cls d a N D hm' G' ob ha hh l
  obtain ⟨ec, ⟨hil, hjl⟩, hN⟩ := hh
  have hiσ : i < σ.length := by rw [← G'.len]; exact hil
  obtain ⟨G1, x1⟩ := G'.non i
  refine st (mq C' (σ.set i none) (ρ.set i .non) H) _ H b cls d a _ _ (set_self hiσ) (ob.mono x1) ec hN fun v z oz hz => ?_
  show D.nx (((σ.set i (some (.ref a))).set j (some v)).set i none) H
  rw [show ((σ.set i (some (V.ref a))).set j (some v)).set i none = (σ.set i none).set j (some v) by rw [List.set_comm _ _ (Ne.symm hij), List.set_set]]
  obtain ⟨G3, x3⟩ := G1.set (i := j) (by simpa using hjl) oz
  exact l.nx _ _ _ C'.m (Nat.le_refl _) (Nat.le_add_right _ _) G3 (x1.trans x3) hz
/-- y = (e, ..) -/
theorem hd_setT {py : Pos} {kt : Nat} (j : Nat) (hj : G.F.N[j]? = some y) (hij : i ≠ j) (h : Ha G i x es ga) (hx : ∀ q, Loc (G.F.X q).env.scope y := by intro _; first | exact .inl rfl | exact .inr rfl)
    (hf : ∀ q, (G.F.X q).fn y = true ∨ (G.F.X q).env.scope.names.lookup y = some .local := by intro _; exact .inl rfl) (hs : ∀ q, swapsWith (.Tuple es kt p) (some (.Name y py)) pos.line (G.F.X q).env = pure false := by intro _; rfl) :
    Hd G i [.Assign [.Name y py] (.Tuple es kt p) pos] 0 (fun ρ b N => b.cls = x ∧ (i < ρ.length ∧ j < ρ.length) ∧ ga b fun zs => zs.length ≤ 1000000 ∧ allD zs fun ds => N.nx ((ρ.set i .non).set j (.v (.d (.tuple ds))))) := by
  obtain ⟨t, pt, st⟩ := h
  refine ⟨fun a cls d => tAsg (tTup (t a cls d)) (gName j), fun q a oe cls d pn hz hvs => pss_one (ps_set (by show (G.F.X q).N.Nodup; rw [G.F.eN]; exact G.F.nd) (by show (G.F.X q).N[j]? = some y; rw [G.F.eN]; exact hj) (hx q) (pe_tup (pt q a oe cls d pn hz hvs)) (hs q) (hf q)), ⟨?_⟩⟩
  intro C' σ ρ H b cls d a N D hm' G' ob ha hh l
  obtain ⟨ec, ⟨hil, hjl⟩, hN⟩ := hh
  have hiσ : i < σ.length := by rw [← G'.len]; exact hil
  obtain ⟨G1, x1⟩ := G'.non i
  refine st (mq C' (σ.set i none) (ρ.set i .non) H) _ H b cls d a _ _ (set_self hiσ) (ob.mono x1) ec hN fun vs zs oz hz => ?_
  obtain ⟨hl, hz⟩ := hz
  obtain ⟨ds, rfl, hz2⟩ := allD_of hz
  refine ⟨small_le (by rw [oz.length]; exact hl), fun p hp => ?_⟩
  show D.nx (((σ.set i (some (.ref a))).set j (some (.ref p))).set i none) (upd H p (.tup vs))
  rw [show ((σ.set i (some (V.ref a))).set j (some (V.ref p))).set i none = (σ.set i none).set j (some (V.ref p)) by rw [List.set_comm _ _ (Ne.symm hij), List.set_set]]
  have tn := G1.new (o := .tup vs) hp
  have G2 := G1.tr tn
  have ov : VlOk G.F.K (mq C' (σ.set i none) (ρ.set i .non) (upd H p (.tup vs))) (.ref p) (.d (.tuple ds)) := Rd.tup (.inl (.inl (G1.mq_new hp))) (oz.data.mono (G1.ex tn))
  obtain ⟨G3, x3⟩ := G2.set (i := j) (by simpa using hjl) ov
  exact l.nx _ _ _ C'.m (Nat.le_refl _) (Nat.le_add_right _ _) G3 ((x1.trans (G1.ex tn)).trans x3) hz2
end
end Px

set_option Elab.async false
set_option linter.all false
set_option maxRecDepth 100000
set_option maxHeartbeats 4000000
/-! PyMany: try with several clauses «except C as n». -/
namespace Px
open PySem PySem.Spec PyProof.Rows L2
/-- a clause read: the class, the name's slot, the suite -/
abbrev ClA := Value × Nat × (Addr → Value → Option Addr → TS)
def endA (i : Nat) (D : Ends) : Ends := { nx := fun σ' H' => D.nx (σ'.set i none) H', rt := D.rt, bk := fun σ' H' => D.bk (σ'.set i none) H', ct := fun σ' H' => D.ct (σ'.set i none) H' }
def wMA (K : PySem.W.Frag) (Wo : WX) (D : Ends) : List ClA → WX
  | [] => Wo
  | (c, i, ts) :: r => fun cls d σ H => ∃ b, PySem.W.exmOne K cls c = some b ∧ (b = true → ∀ a, H a = none → ts a cls d (endA i D) (σ.set i (some (.ref a))) H) ∧ (b = false → wMA K Wo D r cls d σ H)
inductive HdA (X : Cx) : List ExceptHandler → List ClA → Prop
  | nil : HdA X [] []
  | cons {x n : Str} {c : Value} {i : Nat} {ts : Addr → Value → Option Addr → TS} {b₀ : Stmt} {su : List Stmt} {np pp : Pos} {hds : List ExceptHandler} {l : List ClA} (hc : Names X x c) (hi : X.N[i]? = some n) (hln : X.env.kindOf n = some .local)
      (hsu : ∀ (a : Addr) (oe : Obj) (cls : Value) (d : Option Addr) (pn : List (Addr × Obj)), Zc cls d oe → (∃ vs, oe.data = .fields vs) → PSs (X.suite a ((a, oe) :: pn)) (b₀ :: su) (ts a cls d)) (r : HdA X hds l) :
      HdA X (.ExceptHandler (some (.Name x np)) (some n) (b₀ :: su) pp :: hds) ((c, i, ts) :: l)
section
variable {X : Cx} {body : List Stmt} {h₀ : ExceptHandler} {hds : List ExceptHandler} {l : List ClA} {pos : Pos} {tb : WX → TS} {Wo : WX}
theorem ps_try_manyA (hst : X.stack = X.env :: X.outer) (hfm : X.env.frame = some X.env.locals) (nd : X.N.Nodup) (tk : Takes X Wo)
    (hb : ∀ (W : WX) (pn : List (Addr × Obj)) (xe : Value → Shared → Prop), Takes (X.tr pn xe) W → PassesOwn (model X.prog X.w) X.A X.env xe → PSs (X.tr pn xe) body (tb W))
    (hh : HdA X (h₀ :: hds) l) : PS X (.Try body (h₀ :: hds) [] [] pos) (fun D σ H => tb (wMA X.K Wo D l) D σ H) := by
  refine ⟨fun pins s σ H D I0 h0 => ?_⟩
  have okX := I0.ok
  have frX : X.A.frames = some (X.env :: X.outer) := by rw [okX.frames, hst]
  refine wpAny_Try_except ?_
  refine wpAny_mono ((hb (wMA X.K Wo D l) (X.pn ++ pins) (fun ex q1 => wpAny (model X.prog X.w) X.A (noteFrame ex X.env) (fun _ q2 => wpAny (model X.prog X.w) X.A (setFlight ex none) (fun _ q3 =>
    wpAny (model X.prog X.w) X.A (handleBy ex X.env (h₀ :: hds)) (SP X pins D) X.xe q3) X.xe q2) X.xe q1) (fun u q0 xx => ?_) PassesOwn.looking).run [] s σ H D (I0.toTry _) h0) (fun fl q0 hq => ?_) (fun _ _ he => he)
  · obtain ⟨a, B, sI, pins', σ', H', cls, d, rfl, J', nb, up, sky, na, os, ag, wish⟩ := xx
    have Jv : Inv X pins σ' H' sI := J'.ofTry okX
    have skyX : Sky B (X.env :: X.outer) a (Zc cls d) X.env.locals q0.heap := by rw [← hst]; exact sky
    show wpAny (model X.prog X.w) X.A (noteFrame (.ref a) X.env) _ _ _
    refine Sky.land Zc.steady frX hfm skyX fun h3 fl3 up3 => ?_
    have Jv3 : Inv X pins σ' H' { q0 with heap := h3 } := Jv.landed nb fl3.1 (up.trans up3) os ag
    obtain ⟨oe, vs, aoe, zoe, doe⟩ := fl3.there
    have noFr : a ∉ frs (X.env :: X.outer) := fun hm => by
      obtain ⟨_, ob, eb, hnf⟩ := fl3.2.2.1.mem hm
      rw [aoe] at eb; cases eb
      exact hnf _ doe
    have aL : a ≠ X.env.locals := fun z => noFr (List.mem_filterMap.mpr ⟨X.env, List.mem_cons_self, by rw [hfm, z]⟩)
    have aF : a ∉ X.fs := fun hm => by
      obtain ⟨e, he, q⟩ := List.mem_filterMap.mp hm
      exact noFr (List.mem_filterMap.mpr ⟨e, List.mem_cons_of_mem _ he, q⟩)
    have Su := Jv3.suite aoe doe na aL aF
    have every : ∀ {hs' : List ExceptHandler} {l' : List ClA}, HdA X hs' l' → wMA X.K Wo D l' cls d σ' H' →
        wpAny (model X.prog X.w) X.A (handleBy (.ref a) X.env hs') (SP X pins D) X.xe { q0 with heap := h3 } := by
      intro hs' l' hk
      induction hk with
      | nil =>
        intro wi
        refine wpAny_handleBy_nil ?_
        obtain ⟨k1, k2, k3, o2, v2, T, oT, t2, a2, z2, d2, r1, r2⟩ := id fl3
        unfold PySem.passOn
        refine wpAny_bind (wpAny_field a2 d2 r1 ?_)
        rw [if_neg (show ¬ ((Value.ref T == Value.none) = true) from by simp)]
        have outw : wpAny (model X.prog X.w) X.A (setFlight (.ref a) X.env.frame) (fun _ q4 => wpAny (model X.prog X.w) X.A (throw (.ref a) : Sem Flow) (SP X pins D) X.xe q4) X.xe { q0 with heap := h3 } := by
          rw [hfm]
          refine HandSPX.setFlight_upZ fl3 fun h4 hh4 up4 => wpAny_throw (tk _ _ ?_)
          exact ⟨a, B, sI, pins, σ', H', cls, d, rfl, Jv, nb, (up.trans up3).trans up4, .inr (.inr (by rw [hst]; exact hh4)), na, os, ag, wi⟩
        first
          | exact wpAny_bind (wpAny_pure (wpAny_bind outw))
          | exact wpAny_bind outw
      | @cons x n c i ts b₀ su np pp hs2 l2 hc hi hln hsu r ih =>
        intro wi
        obtain ⟨b, eb, yes, no⟩ := wi
        refine wpAny_handleBy_cons (codeAny_handlers_test ?_) (by intro q; cases q)
        have LT : PySem.W.Looks (model X.prog X.w) h3 (typeOf (.ref a)) cls := fun _ _ _ _ k q => wpAny_typeOf_ref (k _ _ aoe) (by rw [zoe.1]; exact q)
        have LM := PySem.W.exm_one (M := model X.prog X.w) (Jv3.kIn) LT eb
        have tst : ∀ {Q : Value → Shared → Prop} {E : Value → Shared → Prop}, Q c { q0 with heap := h3 } → wpAny (model X.prog X.w) (X.A.mark (some (.ref a))) (eval (.Name x np) X.env) Q E { q0 with heap := h3 } := fun {Q E} q => by
          obtain ⟨hg, hdbg, hm | ⟨hm, hv, hnn⟩⟩ := hc
          · exact ld_glob (X := X.suite a ((a, oe) :: (X.pn ++ pins))) Su hg hm q hdbg
          · exact ld_blt (X := X.suite a ((a, oe) :: (X.pn ++ pins))) Su hg hm hv q hnn hdbg
        refine tst (LM.here ?_)
        cases b with
        | false => exact (show wpAny _ X.A (handleBy (.ref a) X.env hs2) _ _ _ from ih (no rfl))
        | true =>
          refine codeAny_handlers_suite_as ?_
          refine HandSPX.lands_againZ fl3 fun h4 fl4 up4 => ?_
          have Jv4 : Inv X pins σ' H' { q0 with heap := h4 } := Jv.landed nb fl4.1 ((up.trans up3).trans up4) os ag
          obtain ⟨o4, v4, a4, z4, d4⟩ := fl4.there
          refine store_ok (X := X.suite a ((a, o4) :: (X.pn ++ pins))) (v := .ref a) (Jv4.suite a4 d4 na aL aF) nd hi (.inl hln) rfl (fun s5 S5 => ?_) (.inr hln)
          refine wpAny_mono ((hsu a o4 cls d (X.pn ++ pins) z4 ⟨_, d4⟩).run [] s5 _ H' _ S5 (yes rfl a na)) (fun fl s6 hq => ?_) (fun _ _ z => z.elim)
          have close : ∀ {σ6 : L2.St} {H6 : Hp} {Q : Shared → Prop}, Inv (X.suite a ((a, o4) :: (X.pn ++ pins))) [] σ6 H6 s6 → (∀ s7, Inv X pins (σ6.set i none) H6 s7 → Q s7) →
              wpAny (model X.prog X.w) X.A (do bindName X.env n .none; unbindBehindTheSuite X.env n pp) (fun _ s7 => Q s7) X.xe s6 := fun S6 hq' => gone_ok (S6.unsuite okX) nd hi hln hq'
          cases fl with
          | next =>
            obtain ⟨_, _, S6, q6⟩ := hq
            exact close S6 fun s7 J7 => ⟨_, _, J7, q6⟩
          | brk =>
            obtain ⟨_, _, S6, q6⟩ := hq
            exact close S6 fun s7 J7 => ⟨_, _, J7, q6⟩
          | cont =>
            obtain ⟨_, _, S6, q6⟩ := hq
            exact close S6 fun s7 J7 => ⟨_, _, J7, q6⟩
          | ret u =>
            obtain ⟨_, _, _, S6, r6, q6⟩ := hq
            exact close S6 fun s7 J7 => ⟨_, _, _, J7, r6, q6⟩
    exact every hh wish
  · cases fl with
    | next =>
      obtain ⟨σ', H', Jq, qq⟩ := hq
      exact wpAny_execs_nil ⟨σ', H', Jq.ofTry okX, qq⟩
    | brk =>
      obtain ⟨σ', H', Jq, qq⟩ := hq
      exact ⟨σ', H', Jq.ofTry okX, qq⟩
    | cont =>
      obtain ⟨σ', H', Jq, qq⟩ := hq
      exact ⟨σ', H', Jq.ofTry okX, qq⟩
    | ret u =>
      obtain ⟨v, σ', H', Jq, rv, qq⟩ := hq
      exact ⟨v, σ', H', Jq.ofTry okX, rv, qq⟩
end
/-- an exception of the class y is none of the class x -/
structure NoM (K : PySem.W.Frag) (mg : Str → Option Value) (y x : Str) : Prop where
  ex : ∃ Cy Cx, mg y = some (.ref Cy) ∧ mg x = some (.ref Cx) ∧ PySem.W.exmOne K (.ref Cy) (.ref Cx) = some false
structure HdX (G : Fx) (hds : List ExceptHandler) (c : Nat) (h : En → Bad → SEn → Prop) : Prop where
  ex : ∃ l : List ClA, (∀ j, HdA (G.F.X j) hds l) ∧ ∀ (C : Ct) (σ : Sg) (ρ : En) (H : Hp) (b : Bad) (cls : Value) (d : Option Addr) (N : SEn) (D : Ends) (Wo : WX), C.m + c ≤ lim → Good G.F.K C σ ρ H → BadOk G.F.K G.F.mg (mq C σ ρ H) b cls d H → h ρ b N → Lk G.F.K C c (mq C σ ρ H) N D →
    wMA G.F.K.fg Wo D l cls d σ H
section
variable {G : Fx} {hds : List ExceptHandler} {h1 h2 : En → Bad → SEn → Prop} {c1 c2 : Nat} {b₀ : Stmt} {su body : List Stmt} {x n : Str} {np pp pos : Pos} {f : FStX} {h₀ : ExceptHandler}
theorem hx_nil : HdX G [] 0 (fun _ _ _ => False) := ⟨[], fun _ => .nil, fun _ _ _ _ _ _ _ _ _ _ _ _ _ z _ => z.elim⟩
theorem hx_cons (ys : List Str) (Cl : ClH G.F.K G.F.mg x) (i : Nat) (hi : G.F.N[i]? = some n) (hd : Hd G i (b₀ :: su) c1 h1) (hr : HdX G hds c2 h2) (ne : ∀ y ∈ ys, NoM G.F.K.fg G.F.mg y x)
    (hln : ∀ j, (G.F.X j).env.kindOf n = some .local := by intro _; rfl) (hg : ∀ j, Gl (G.F.X j) x := by intro _; rfl) (hdb : (x == ("__debug__" : Str)) = false := by decide) :
    HdX G (.ExceptHandler (some (.Name x np)) (some n) (b₀ :: su) pp :: hds) (c1 + c2) (fun ρ b N => b.cls = x ∧ h1 ρ b N ∨ b.cls ∈ ys ∧ h2 ρ b N) := by
  obtain ⟨C, hm, exm⟩ := Cl
  obtain ⟨ts, pts, sts⟩ := hd
  obtain ⟨l, pl, sl⟩ := hr
  refine ⟨(.ref C, i, ts) :: l, fun j => .cons ⟨hg j, hdb, .inl (by rw [G.F.eM]; exact hm)⟩ (by rw [G.F.eN]; exact hi) (hln j) (fun a oe cls d pn z v => pts j a oe cls d pn z v) (pl j), fun C' σ ρ H b cls d N D Wo hlim G' ob hh lk => ?_⟩
  obtain ⟨C2, e1, e2⟩ := ob.own
  subst e2
  rcases hh with ⟨ec, hh⟩ | ⟨ec, hh⟩
  · rw [ec] at e1
    cases hm.symm.trans e1
    exact ⟨true, exm, fun _ a ha => sts.ok C' σ ρ H b _ d a N D (by omega) G' ob ha hh (lk.go (Nat.le_refl _) (by omega) (Ex.refl _)), fun z => by cases z⟩
  · obtain ⟨Cy, Cx, m1, m2, e3⟩ := ne _ ec
    cases m1.symm.trans e1
    cases m2.symm.trans hm
    exact ⟨false, e3, fun z => (by cases z), fun _ => sl C' σ ρ H b _ d N D Wo (by omega) G' ob hh (lk.go (Nat.le_refl _) (by omega) (Ex.refl _))⟩
theorem x_tryN (hb : ∀ W, Xs (G.tr W) body c1 f) (hd : HdX G (h₀ :: hds) c2 h2) (hs : ∀ j, (G.F.X j).stack = (G.F.X j).env :: (G.F.X j).outer := by intro _; rfl) (hf : ∀ j, (G.F.X j).env.frame = some (G.F.X j).env.locals := by intro _; rfl) :
    X1 G (.Try body (h₀ :: hds) [] [] pos) (c1 + c2) (fun ρ N EX => f ρ N fun ρ' b => h2 ρ' b N) := by
  obtain ⟨l, pl, sl⟩ := hd
  have tb : ∀ W : WX, ∃ t, (∀ i, PSs ((G.tr W).F.X i) body t) ∧ SSX (G.tr W).F.K (G.tr W).F.mg (G.tr W).E t c1 f := fun W => (hb W).ex
  refine ⟨fun D σ H => (tb (wMA G.F.K.fg G.E D l)).choose D σ H, fun j => ?_, fun C' σ ρ H N EX D hm' G' hf' lk lx => ?_⟩
  · have q := ps_try_manyA (X := G.F.X j) (tb := fun W => (tb W).choose) (Wo := G.E) (pos := pos) (hs j) (hf j) (by rw [G.F.eN]; exact G.F.nd) (G.tk j) (fun W pn xe t1 t2 => (tb W).choose_spec.1 ⟨(j, pn, xe), t1, t2⟩) (pl j)
    rw [G.F.eK] at q
    exact q
  · refine (tb (wMA G.F.K.fg G.E D l)).choose_spec.2 C' σ ρ H N _ D (by omega) G' hf' (lk.go (Nat.le_refl _) (by omega) (Ex.refl _)) ⟨fun cls d σ' ρ' H' b m a1 a2 G2 x2 ob hb' => ?_⟩
    exact sl (C'.up m) σ' ρ' H' b cls d N D G.E (by show m + c2 ≤ lim; omega) G2 ob hb' (lk.go a1 (by omega) x2)
end
end Px

set_option Elab.async false
set_option linter.all false
set_option maxRecDepth 100000
set_option maxHeartbeats 4000000
/-! PxWalk: the law's call from its promise, where defs make lambdas: their tables of code objects are known to be empty. -/
namespace Px
open PySem PySem.Spec PyProof.Rows L2
theorem walkT {l : PySem.W.OpenLaw} {n k : Nat} {q : Program} {loose : List Str} {XP : (Str → Option Value) → Heap → Prop} {YP : World → Heap → Prop} {d : DefRec} {K : Params → Fg} {sp : Fg → List Addr → Sp} {x : Str}
    (hn : l.most = some n) (hn2 : n ≤ sizeLine) (hdf : d.params.defaults = []) (hr : Room k callerA) (hY : ∀ (w : World) (h : Heap), YP w h → (K w.params).In h)
    (F : ∀ (w : World) (mg mb : Str → Option Value) (mean : ExcName → Option Value) (fa : Addr) (h : Heap), (K w.params).In h → Top q (PySem.W.looseW q loose) mean mg mb h → mg d.name = some (.ref fa) →
      ∃ (fd : FuncData) (cs : List (Addr × Addr)), (∀ p ∈ cs, PySem.W.CodeHd h p.1 p.2 ∧ h.get? p.2 = some (PySem.W.tabObj #[])) ∧ (∀ p ∈ cs, (K w.params).lookup p.2 = none) ∧ (∀ (s : Shared) (u : Value), BindsTo s fd ⟨[u], []⟩ [(x, u)]) ∧
        ∀ base : Heap, (K w.params).In base → base.Ns mainGlobals mg → (∀ p ∈ cs, LamX.TabB base mg p.1 p.2) → FnG l.prog w (K w.params) mg base CX0 k fa fd [x] (sp (K w.params) (cs.map (·.2))))
    (hsp : ∀ (K : Fg) (Ps : List Addr) (H : Hp) (a : Addr) (ns : List Int), ns.length ≤ n → (∀ P ∈ Ps, H P = some (.tbl #[])) → SqL K H a (ns.map V.int) → sp K Ps [.ref a] H (fun v _ => v = .bl true) fun _ _ _ => False) :
    PySem.W.WalkO q loose XP YP l.row.toRowW d [] (fun f vs => PySem.call f vs) := by
  refine Att.attach_call hn hdf fun w s₀ s₁ mg mb fa o pm cd doc a vs ns G Y ho hd hcd hmg hobj hints hlen hgens => ?_
  have KX := hY w _ Y
  obtain ⟨fd, cs, tabs, nT, hb, hF⟩ := F w mg mb _ fa _ KX G.T hmg
  have rv := vals_ints hints
  have lenV := hints.length
  let Ps := cs.map (·.2)
  have empty : ∀ P ∈ Ps, s₁.heap.get? P = some { cls := .none, data := .fields #[] } := fun P hP => by
    obtain ⟨p, hp, rfl⟩ := List.mem_map.mp hP
    exact (tabs p hp).2
  have aPs : a ∉ Ps := fun z => by
    have e := empty a z
    rw [hobj] at e
    cases congrArg Obj.data (Option.some.inj e)
  have noK : ∀ P ∈ Ps, (K w.params).lookup P = none := fun P hP => by
    obtain ⟨p, hp, rfl⟩ := List.mem_map.mp hP
    exact nT p hp
  have lift : ∀ H : Hp, (∀ P ∈ Ps, H P = some (.tbl #[])) → (∀ b, H b = none ∨ b ∈ Ps ∨ ∃ o xs, H b = some (.frz o (.lst xs))) → SqL (K w.params) H a (ns.map V.int) → HOk l.prog w H s₁.heap → (∀ b, H b ≠ none → b = a ∨ b ∈ Ps) → (H a ≠ none → (K w.params).lookup a = none) →
      codeAny (model l.prog w) callerA (.call (.ref fa) ⟨[.ref a], []⟩) (fun r s' => r = .ok (.ret (.bool true)) ∧ OldK s₁.heap s'.heap ∧ s'.os = s₁.os ∧ AllBare s'.gens) s₁ := by
    intro H hT hO hS hok hA hKa
    have free : ∀ {b : Addr} {ob : Obj}, s₁.heap.get? b = some ob → (∀ vs n, ob.data ≠ .seq vs n) → ob.data ≠ .fields #[] → H b = none := by
      intro b ob e d1 d2
      cases qq : H b with
      | none => rfl
      | some u =>
        rcases hA b (by rw [qq]; simp) with z | z
        · rw [z, hobj] at e
          cases e
          exact absurd rfl (d1 _ _)
        · rw [empty b z] at e
          cases e
          exact absurd rfl d2
    have dictF : ∀ {b : Addr} {ob : Obj} {es : Array DictEntry} {ep : Nat}, s₁.heap.get? b = some ob → ob.data = .dict es ep → H b = none := fun e dd => free e (fun _ _ z => by rw [dd] at z; cases z) fun z => by rw [dd] at z; cases z
    have nsK : ∀ {b : Addr} {m : Str → Option Value}, s₁.heap.Ns b m → (hidT s₁.heap H).Ns b m := fun ⟨ob, es, ep, e, dd, r⟩ => ⟨ob, es, ep, hidT_get e (dictF e dd), dd, r⟩
    have hKb : (K w.params).In (hidT s₁.heap H) := by
      intro b ob e
      refine hidT_get (KX b ob e) ?_
      cases qq : H b with
      | none => rfl
      | some u =>
        rcases hA b (by rw [qq]; simp) with z | z
        · subst z
          rw [hKa (by rw [qq]; simp)] at e
          cases e
        · rw [noK b z] at e
          cases e
    have hM : Mod (K w.params) mg (hidT s₁.heap H) := ⟨hKb, nsK G.T.g, ⟨mb, nsK G.T.b, G.T.builtins⟩, let ⟨mc, h1, h2⟩ := G.T.nolimit; ⟨mc, nsK h1, h2⟩⟩
    have TBs : ∀ p ∈ cs, LamX.TabB (hidT s₁.heap H) mg p.1 p.2 := by
      intro p hp
      have eP : s₁.heap.get? p.2 = some { cls := .none, data := .fields #[] } := (tabs p hp).2
      refine ⟨?_, ?_, ?_⟩
      · obtain ⟨ob, us, file, tf, flags, tg, inF, text, tt, e1, r1, r2, r3, rr⟩ := (tabs p hp).1
        exact ⟨ob, us, file, tf, flags, tg, inF, text, tt, hidT_get e1 (free e1 (fun _ _ z => by rw [r2] at z; cases z) fun z => by rw [r2] at z; cases z; simp at r3), r1, r2, r3, rr⟩
      · obtain ⟨bm, ob, b1, b2, b3, b4, b5, b6⟩ := G.T.bmain
        refine ⟨bm, ob, b1, b2, fun z => ?_, fun z => ?_, hidT_get b3 (free b3 (fun _ _ z => by rw [b6] at z; cases z) fun z => by rw [b6] at z; cases z), b4, b5, b6⟩
        · obtain ⟨o2, es, ep, e, dd, _⟩ := G.T.g
          rw [z, e] at b3
          cases b3
          rw [dd] at b6
          cases b6
        · rw [z, eP] at b3
          cases b3
          cases b6
      · intro z
        obtain ⟨o2, es, ep, e, dd, _⟩ := G.T.g
        rw [z, eP] at e
        cases e
        cases dd
    have e0 : Env0 l.prog w (K w.params) mg (hidT s₁.heap H) callerA [] s₁ H :=
      ⟨rfl, hM, fun b ob e => of_hidT e, Nat.le_of_eq (hidT_size _ _), trivial, fun b hb => absurd (show b ∈ ([] : List Addr) from hb) (by simp), hok, .of_eq hgens⟩
    refine codeAny_mono ((hF _ hKb (nsK G.T.g) TBs).runs callerA [] s₁ H ⟨[.ref a], []⟩ [.ref a] [.ref a] _ _ rfl hr e0 (hb s₁ (.ref a)) (.cons rfl .nil) (hsp _ Ps H a ns hlen hT hS)) fun r s' h => ?_
    cases r with
    | error e => exact h.elim
    | ok fl =>
      cases fl with
      | next => exact h.elim
      | brk => exact h.elim
      | cont => exact h.elim
      | ret u =>
        obtain ⟨v, H', os, bare, un, hok', r', vq⟩ := h
        obtain rfl : v = .bl true := vq
        obtain rfl : u = Value.bool true := r'
        have more : ∀ p ∈ cs, ∃ ms : Array Value, s'.heap.get? p.2 = some { cls := .none, data := .fields ms } := fun p hp => by
          obtain ⟨ms, z⟩ := un.tbls p.2 #[] (hT _ (List.mem_map_of_mem (f := fun p : Addr × Addr => p.2) hp))
          exact ⟨_, hok' p.2 _ z⟩
        have same : ∀ b ob, b ∉ Ps → s₁.heap.get? b = some ob → s'.heap.get? b = some ob := fun b ob nb e => by
          cases qq : H b with
          | none => exact un.keep b ob e qq (fun z => absurd (show b ∈ ([] : List Addr) from z) (by simp)) (by simp)
          | some u =>
            rcases hO b with z | z | ⟨ob2, xs, z⟩
            · rw [qq] at z; cases z
            · exact absurd z nb
            · obtain ⟨e1, _⟩ := hok b _ z
              obtain ⟨e2, _⟩ := hok' b _ (un.frzs b ob2 _ z)
              rw [e] at e1
              cases e1
              exact e2
        refine ⟨rfl, ⟨fun b ob e => ?_, fun b ob e => ?_⟩, os, bare⟩
        · by_cases z : b ∈ Ps
          · obtain ⟨p, hp, rfl⟩ := List.mem_map.mp z
            obtain ⟨ms, hm⟩ := more p hp
            have eP := (tabs p hp).2
            have eo : ob = PySem.W.tabObj #[] := Option.some.inj (e.symm.trans eP)
            subst eo
            exact .inr (.inl ⟨((tabs p hp).1.tab eP).isCodeTable, rfl, #[], ms, rfl, by rw [Array.empty_append]; exact hm⟩)
          · exact .inl (same b ob z e)
        · by_cases z : b ∈ Ps
          · obtain ⟨p, hp, rfl⟩ := List.mem_map.mp z
            obtain ⟨ms, hm⟩ := more p hp
            exact ⟨_, hm⟩
          · exact ⟨ob, same b ob z e⟩
  cases hk : (K w.params).lookup a with
  | some ob =>
    have e := KX a ob hk
    rw [hobj] at e
    cases e
    have at2 : ∀ b, (if b ∈ Ps then some (HO.tbl #[]) else none) ≠ none → b ∈ Ps := fun b z => by
      by_cases hb : b ∈ Ps
      · exact hb
      · exact absurd (if_neg hb) z
    refine lift (fun b => if b ∈ Ps then some (.tbl #[]) else none) (fun P hP => if_pos hP) (fun b => ?_) (.inr ⟨_, vs.toArray, _, hk, rfl, rfl, rfl, by rw [List.size_toArray, lenV]; exact Nat.le_trans hlen hn2, by simpa using rv⟩)
      (fun b u z => ?_) (fun b z => .inr (at2 b z)) fun z => absurd (at2 a z) aPs
    · by_cases hb : b ∈ Ps
      · exact .inr (.inl hb)
      · exact .inl (if_neg hb)
    · have hb := at2 b (fun y => by cases y.symm.trans z)
      have z' := (if_pos hb).symm.trans z
      cases z'
      exact empty b hb
  | none =>
    have at3 : ∀ b, (if b = a then some (HO.frz { cls := .type "list", data := .seq vs.toArray } (.lst (ns.map V.int))) else if b ∈ Ps then some (HO.tbl #[]) else none) ≠ none → b = a ∨ b ∈ Ps := fun b z => by
      by_cases hb : b = a
      · exact .inl hb
      · by_cases h2 : b ∈ Ps
        · exact .inr h2
        · exact absurd ((if_neg hb).trans (if_neg h2)) z
    refine lift (fun b => if b = a then some (.frz { cls := .type "list", data := .seq vs.toArray } (.lst (ns.map V.int))) else if b ∈ Ps then some (.tbl #[]) else none) (fun P hP => (if_neg (fun z => aPs (by rw [← z]; exact hP))).trans (if_pos hP)) (fun b => ?_)
      (.inl (.inr ⟨{ cls := .type "list", data := .seq vs.toArray }, if_pos rfl⟩)) (fun b u z => ?_) at3 fun _ => hk
    · by_cases hb : b = a
      · exact .inr (.inr ⟨_, _, if_pos hb⟩)
      · by_cases h2 : b ∈ Ps
        · exact .inr (.inl h2)
        · exact .inl ((if_neg hb).trans (if_neg h2))
    · rcases at3 b (fun y => by cases y.symm.trans z) with hb | hb
      · subst hb
        have z' := (if_pos rfl).symm.trans z
        cases z'
        exact ⟨hobj, by rw [List.length_map]; exact Nat.le_trans hlen hn2, vs, _, rv, hobj⟩
      · have z' := ((if_neg (fun y => aPs (by rw [← y]; exact hb))).trans (if_pos hb)).symm.trans z
        cases z'
        exact empty b hb
/-- a def with a code object c and a table P of its own, both known at the law's call -/
structure LamT (K : Fg) (mg : Str → Option Value) (base : Heap) (T : List (Addr × Str)) (x : Str) (st : Stmt) (q : Str) : Prop where
  ex : ∃ fa c P, mg x = some (.ref fa) ∧ (∀ fd, Fun K x x st fa fd → fd.code = .ref c) ∧ LamX.TabB base mg c P ∧ (P, q ++ "<lambda>") ∈ T ∧ ∀ p ∈ T, p.1 = P → p.2 = q ++ "<lambda>"
/-- .. whatever the heap is: cs, all code objects and their tables -/
structure LamC (K : Fg) (mg : Str → Option Value) (cs : List (Addr × Addr)) (T : List (Addr × Str)) (x : Str) (st : Stmt) (q : Str) : Prop where
  ex : ∃ fa c P, mg x = some (.ref fa) ∧ (∀ fd, Fun K x x st fa fd → fd.code = .ref c) ∧ (c, P) ∈ cs ∧ (P, q ++ "<lambda>") ∈ T ∧ ∀ p ∈ T, p.1 = P → p.2 = q ++ "<lambda>"
theorem LamC.t {K : Fg} {mg : Str → Option Value} {cs : List (Addr × Addr)} {T : List (Addr × Str)} {x q : Str} {st : Stmt} {base : Heap} (L : LamC K mg cs T x st q) (TB : ∀ p ∈ cs, LamX.TabB base mg p.1 p.2) : LamT K mg base T x st q := by
  obtain ⟨fa, c, P, h1, h2, h3, h4, h5⟩ := L
  exact ⟨fa, c, P, h1, h2, TB _ h3, h4, h5⟩
theorem lamC_mk {K : Fg} {h : Heap} {mg : Str → Option Value} {cs : List (Addr × Addr)} {T : List (Addr × Str)} {x q : Str} {st : Stmt} {f c P : Addr} (X : K.In h) (G : h.Ns mainGlobals mg) (a : PySem.W.nsIn K mainGlobals x = some (some (.ref f))) (t : PySem.W.tabIn K x = some (c, P)) (h3 : (c, P) ∈ cs)
    (h4 : (P, q ++ "<lambda>") ∈ T) (h5 : ∀ p ∈ T, p.1 = P → p.2 = q ++ "<lambda>") : LamC K mg cs T x st q := by
  refine ⟨f, c, P, PySem.W.mg_of X G a, fun fd Fu => ?_, h3, h4, h5⟩
  obtain ⟨oc, od, kV, doc, pm, an, cd, ct, osl, rfl, lk, hcd⟩ := Fu.ex
  exact PySem.W.law_code X G t (PySem.W.mg_of X G a) (X _ _ lk) rfl
theorem tabs_nil {Ps : List Addr} {T : List (Addr × Str)} {H H' : Hp} (e : T.map (·.1) = Ps) (h : ∀ P ∈ Ps, H P = some (.tbl #[])) (k : ∀ b o, H b = some o → H' b = some o) : LamX.Tabs T H' := fun p hp =>
  LamX.TabS.nil (k _ _ (h p.1 (by rw [← e]; exact List.mem_map_of_mem (f := fun p : Addr × Str => p.1) hp)))
theorem noM_mk {K : Fg} {h : Heap} {mg : Str → Option Value} {y x : Str} {Cy Cx : Addr} (X : K.In h) (G : h.Ns mainGlobals mg) (ay : PySem.W.nsIn K mainGlobals y = some (some (.ref Cy))) (ax : PySem.W.nsIn K mainGlobals x = some (some (.ref Cx))) (h1 : PySem.W.subIn K (.ref Cx) (.type "BaseException") = some true)
    (h2 : PySem.W.hasDictIn K Cx = true) (h3 : PySem.W.typeIn K (.ref Cx) = some (.type "type")) (h4 : PySem.W.subIn K (.ref Cy) (.ref Cx) = some false) : NoM K mg y x := ⟨Cy, Cx, PySem.W.mg_of X G ay, PySem.W.mg_of X G ax, PySem.W.exm_ref h1 h2 h3 h4⟩
end Px

set_option Elab.async false
set_option linter.all false
set_option maxRecDepth 100000
set_option maxHeartbeats 2000000
/-! PyX2: tests that may raise, loops whose body may raise. -/
namespace Px
open PySem PySem.Spec PyProof.Rows L2
abbrev FTX := En → (Bool → Prop) → (En → Bad → Prop) → Prop
def STX (K : Kx) (mg : Str → Option Value) (E : WX) (t : TT) (c : Nat) (f : FTX) : Prop := ∀ (C : Ct) (σ : Sg) (ρ : En) (H : Hp) (R : Bool → Prop) (EX : En → Bad → Prop) (Q : Bool → Hp → Prop), C.m + c ≤ lim → Good K C σ ρ H → f ρ R EX →
  (∀ b H' m, C.m ≤ m → m ≤ C.m + c → Tr C.S (K.SI m) H H' → R b → Q b H') → LkX K mg C c (mq C σ ρ H) E EX → t σ H Q
structure Xt (G : Fx) (e : Expr) (c : Nat) (f : FTX) : Prop where
  ex : ∃ t, (∀ i, PT (G.F.X i) e t) ∧ STX G.F.K G.F.mg G.E t c f
section
variable {G : Fx} {st : Stmt} {sts a b : List Stmt} {e tg iter : Expr} {pos p : Pos} {f g : FStX} {fx : FX} {ft : FT} {fxt : FTX} {fg : FG} {fi : FI} {n na nb ni c : Nat}
theorem xt_of (h : Et G.F e n ft) : Xt G e n (fun ρ R _ => ft ρ R) := by
  obtain ⟨t, pt, s⟩ := h
  exact ⟨t, pt, fun C σ ρ H R EX Q hm G' hf k _ => s C σ ρ H R Q hm G' hf k⟩
theorem xt_val (h : Xe G e n fx) (he : ∀ i whole, isTrue e (G.F.X i).env whole = (do let v ← whole; standAt e.pos; holding [v] (truthy v)) := by intro _ _; rfl) : Xt G e n (fun ρ R EX => fx ρ (asTru R) EX) := by
  obtain ⟨t, pt, st⟩ := h
  refine ⟨_, fun i => by have := pt_truth (pt i) (he i); rw [G.F.eK i] at this; exact this, fun C σ ρ H R EX Q hm G' hf k lx => st C σ ρ H _ EX _ hm G' hf (fun v H1 x m l u t1 ox h1 => ?_) lx⟩
  match x, h1, ox with
  | .d .none, h1, ox => cases Rd.inv_none ox; exact ⟨false, rfl, k _ _ m l u t1 h1⟩
  | .d (.bool b), h1, ox => cases Rd.inv_bool ox; exact ⟨b, rfl, k _ _ m l u t1 h1⟩
  | .d (.int n), h1, ox => cases Rd.inv_int ox; exact ⟨n != 0, rfl, k _ _ m l u t1 h1⟩
  | .d (.list xs), h1, ox =>
    obtain ⟨p, vs, rfl, hp, hr⟩ := Rd.inv_list ox
    exact ⟨!xs.isEmpty, .inl ⟨vs, SqL.of (mask_le _ _ hp), isEmptyRd hr⟩, k _ _ m l u t1 h1⟩
  | .d (.tuple xs), h1, ox =>
    obtain ⟨p, vs, rfl, hp, hr⟩ := Rd.inv_tuple ox
    exact ⟨!xs.isEmpty, .inr (.inl ⟨vs, Ex.sqt mask_le hp, isEmptyRd hr⟩), k _ _ m l u t1 h1⟩
theorem xt_not (h : Xt G e n fxt) : Xt G (.UnaryOp .Not e pos) n (fun ρ R EX => fxt ρ (fun b => R (!b)) EX) := by
  obtain ⟨t, pt, st⟩ := h
  exact ⟨_, fun i => pt_not (pt i), fun C σ ρ H R EX Q hm G' hf k lx => st C σ ρ H _ EX _ hm G' hf (fun b H1 m l u t1 h1 => k _ H1 m l u t1 h1) lx⟩
theorem x_ift (hc : Xt G e n fxt) (ha : Xs G a na f) (hb : Xs G b nb g) : X1 G (.If e a b pos) (n + (na + nb)) (fun ρ N EX => fxt ρ (fun k => if k = true then f ρ N EX else g ρ N EX) EX) := by
  obtain ⟨t, pt, s⟩ := hc
  obtain ⟨u, pu, su⟩ := ha
  obtain ⟨w, pw, sw⟩ := hb
  refine ⟨_, fun i => ps_if (pt i) (pu i) (pw i), fun C σ ρ H N EX D hm G' hf l lx => s C σ ρ H _ EX _ (by omega) G' hf (fun k H1 m l1 u1 t1 h1 => ?_) (lx.go (Nat.le_refl _) (by omega) (Ex.refl _))⟩
  cases k with
  | true => exact su (C.up m) σ ρ H1 N EX D (by show m + na ≤ lim; omega) (G'.tr t1) h1 (l.go l1 (by omega) (G'.ex t1)) (lx.go l1 (by omega) (G'.ex t1))
  | false => exact sw (C.up m) σ ρ H1 N EX D (by show m + nb ≤ lim; omega) (G'.tr t1) h1 (l.go l1 (by omega) (G'.ex t1)) (lx.go l1 (by omega) (G'.ex t1))
def loopX (fg : FG) (fb : FStX) (N : SEn) (EX : En → Bad → Prop) : List Vl → En → Prop
  | [], ρ => N.nx ρ
  | x :: xs, ρ => fg x ρ fun ρ1 => fb ρ1 { nx := loopX fg fb N EX xs, rt := N.rt, bk := N.nx, ct := loopX fg fb N EX xs } EX
theorem x_for {L : List Nat} (hi : Ei G.F tg iter ni fi) (hg : Eg G.F tg L fg) (hb : Xs G sts n f) (hs : ∀ j x, foldedSetIterable iter (G.F.X j).env x = pure x := by intro _ _; rfl) :
    X1 G (.For tg iter sts [] pos) (ni + big * n) (fun ρ N EX => fi ρ fun items => (n = 0 ∨ items.length ≤ big) ∧ loopX fg f N EX items ρ) := by
  obtain ⟨wi, pi, si⟩ := hi
  obtain ⟨g, pg, sg⟩ := hg
  obtain ⟨t, pt, s⟩ := hb
  refine ⟨_, fun i => ps_for (G.F.own i) (G.F.calm i) (pi i) (pg i) (pt i) (hs := hs i), fun C σ ρ H N EX D hm G0 hf l lx => si C σ ρ H _ _ (by omega) G0 hf fun J H1 items m1 l1 u1 t1 wok h1 => ?_⟩
  obtain ⟨hbig, h1⟩ := h1
  obtain ⟨Gd, Y, walk, hG, hY⟩ := wok
  have G1 := G0.tr t1
  have tot : items.length * n ≤ big * n := by
    rcases hbig with z | z
    · subst z; simp
    · exact Nat.mul_le_mul_right n z
  refine for_it walk (fun i σ' H' => ∃ ρ' m, m1 ≤ m ∧ m ≤ m1 + i * n ∧ Good G.F.K (C.up m) σ' ρ' H' ∧ Ex (mq C σ ρ H1) (mq C σ' ρ' H') ∧ loopX fg f N EX (items.drop i) ρ') ⟨ρ, m1, Nat.le_refl _, by omega, G1, Ex.refl _, by simpa using h1⟩ ?_ ?_ ?_
  · rintro i σ' H' _ ⟨ρ', _, _, _, _, ex, _⟩
    exact hG H' (ex.trans mask_le)
  · rintro i x σ' H' H'' hi' ⟨ρ', m, lm, um, G', ex, hl⟩ y
    have hx : items[i]? = some items[i] := List.getElem?_eq_getElem hi'
    obtain ⟨it, e1, e2⟩ := hY i H' x H'' hi' (ex.trans mask_le) y
    rw [hx] at e1
    have e1 : items[i] = it := Option.some.inj e1
    rw [List.drop_eq_getElem_cons hi', e1] at hl
    have hstep : (i + 1) * n ≤ items.length * n := Nat.mul_le_mul_right n hi'
    rw [Nat.add_mul, Nat.one_mul] at hstep
    have step : Tr C.S (G.F.K.SI m) H' H'' ∧ VlOk G.F.K (mq C σ' ρ' H'') x it := by
      rcases e2 with ⟨rfl, o⟩ | ⟨T, o, n, rfl, ok⟩
      · exact ⟨Tr.refl G'.si, o.mono ex⟩
      · have tt := G'.new (o := o) n
        refine ⟨tt, ok.mono fun a u z => ?_⟩
        by_cases ea : a = T
        · subst ea
          rw [upd_same] at z
          cases z
          exact G'.mq_new n
        · rw [upd_ne ea] at z
          exact (G'.ex tt) a u (ex a u z)
    obtain ⟨t2, ox⟩ := step
    have G2 := G'.tr t2
    refine sg (C.up m) σ' ρ' H'' x it _ _ G2 ox hl fun σ2 ρ2 G3 x3 _ h3 => ?_
    have exA : Ex (mq C σ ρ H1) (mq C σ2 ρ2 H'') := (ex.trans (G'.ex t2)).trans x3
    have up : ∀ {m4 : Nat}, m ≤ m4 → m4 ≤ m + n → m1 ≤ m4 ∧ m4 ≤ m1 + (i + 1) * n := fun a b => ⟨by omega, turn_up um b⟩
    refine s (C.up m) σ2 ρ2 H'' _ EX _ (by show m + n ≤ lim; omega) G3 h3 ⟨fun σ4 ρ4 H4 m4 a b G4 x4 h4 => ⟨ρ4, m4, (up a b).1, (up a b).2, G4, exA.trans x4, h4⟩, fun σ4 ρ4 H4 m4 a b G4 x4 h4 => l.nx σ4 ρ4 H4 m4 (Nat.le_trans (Nat.le_trans l1 lm) a) (by have : m4 ≤ m + n := b; omega) G4 (((G0.ex t1).trans exA).trans x4) h4,
      fun σ4 ρ4 H4 m4 a b G4 x4 h4 => ⟨ρ4, m4, (up a b).1, (up a b).2, G4, exA.trans x4, h4⟩, fun v H4 y m4 a b => l.rt v H4 y m4 (Nat.le_trans (Nat.le_trans l1 lm) a) (by have : m4 ≤ m + n := b; omega)⟩ (lx.go (Nat.le_trans l1 lm) (by omega) ((G0.ex t1).trans exA))
  · rintro σ' H' ⟨ρ', m, lm, um, G', ex, hl⟩
    rw [List.drop_length] at hl
    exact l.nx σ' ρ' H' m (Nat.le_trans l1 lm) (by omega) G' ((G0.ex t1).trans ex) hl
end
/-! ### displays with calls that may raise -/
abbrev FAX := En → (List Vl → Prop) → (En → Bad → Prop) → Prop
def SAX (K : Kx) (mg : Str → Option Value) (E : WX) (t : TA) (c : Nat) (f : FAX) : Prop := ∀ (C : Ct) (σ : Sg) (ρ : En) (H : Hp) (R : List Vl → Prop) (EX : En → Bad → Prop) (Q : List V → Hp → Prop), C.m + c ≤ lim → Good K C σ ρ H → f ρ R EX →
  (∀ vs H' xs m, C.m ≤ m → m ≤ C.m + c → Tr C.S (K.SI m) H H' → VlA K (mq C σ ρ H') vs xs → R xs → Q vs H') → LkX K mg C c (mq C σ ρ H) E EX → t σ H Q
structure Xa (G : Fx) (es : List Expr) (c : Nat) (f : FAX) : Prop where
  ex : ∃ t, (∀ i, PA (G.F.X i) es t) ∧ SAX G.F.K G.F.mg G.E t c f
section
variable {G : Fx} {e : Expr} {es : List Expr} {pos : Pos} {fx : FX} {fa : FAX} {ff : FA} {n na nb : Nat}
theorem xa_of (h : Ea G.F es n ff) : Xa G es n (fun ρ R _ => ff ρ R) := by
  obtain ⟨t, pt, s⟩ := h
  exact ⟨t, pt, fun C σ ρ H R EX Q hm G' hf k _ => s C σ ρ H R Q hm G' hf k⟩
theorem xa_cons (h : Xe G e na fx) (hr : Xa G es nb fa) (hs : ∀ i, starEach (e :: es) (G.F.X i).env = (false, eval e (G.F.X i).env) :: starEach es (G.F.X i).env := by intro _; rfl) :
    Xa G (e :: es) (na + nb) (fun ρ R EX => fx ρ (fun x => fa ρ (fun xs => R (x :: xs)) EX) EX) := by
  obtain ⟨t, pt, st⟩ := h
  obtain ⟨u, pu, su⟩ := hr
  refine ⟨_, fun i => pa_cons (pt i) (pu i) (hs i), fun C σ ρ H R EX Q hm G' hf k lx => st C σ ρ H _ EX _ (by omega) G' hf (fun v H1 x m1 l1 u1 t1 ox h1 => ?_) (lx.go (Nat.le_refl _) (by omega) (Ex.refl _))⟩
  refine su (C.up m1) σ ρ H1 _ EX _ (by show m1 + nb ≤ lim; omega) (G'.tr t1) h1 (fun vs H2 xs m2 l2 u2 t2 oxs h2 => ?_) (lx.go l1 (by omega) (G'.ex t1))
  exact k _ H2 _ m2 (Nat.le_trans l1 l2) (by have : m2 ≤ m1 + nb := u2; omega) (t1.trans t2) (.cons (ox.mono ((G'.tr t1).ex t2)) oxs) h2
theorem xe_tup {x1 : Nat} (h : Xa G es n fa) : Xe G (.Tuple es x1 pos) n (fun ρ R EX => fa ρ (fun xs => xs.length ≤ 1000000 ∧ allD xs fun ds => R (.d (.tuple ds))) EX) := by
  obtain ⟨t, pt, st⟩ := h
  refine ⟨_, fun i => pe_tup (pt i), fun C σ ρ H R EX Q hm G' hf k lx => st C σ ρ H _ EX _ hm G' hf (fun vs H1 xs m l u t1 oxs h1 => ?_) lx⟩
  obtain ⟨hl, h1⟩ := h1
  obtain ⟨ds, rfl, h2⟩ := allD_of h1
  have G1 := G'.tr t1
  refine ⟨small_le (by rw [oxs.length]; exact hl), fun p hp => k _ _ (.d (.tuple ds)) m l u (t1.trans (G1.new hp)) ?_ h2⟩
  exact .tup (.inl (.inl (G1.mq_new hp))) (oxs.data.mono (G1.ex (G1.new hp)))
theorem xe_lst (h : Xa G es n fa) : Xe G (.List es pos) n (fun ρ R EX => fa ρ (fun xs => xs.length ≤ 1000000 ∧ allD xs fun ds => R (.d (.list ds))) EX) := by
  obtain ⟨t, pt, st⟩ := h
  refine ⟨_, fun i => pe_lst (pt i), fun C σ ρ H R EX Q hm G' hf k lx => st C σ ρ H _ EX _ hm G' hf (fun vs H1 xs m l u t1 oxs h1 => ?_) lx⟩
  obtain ⟨hl, h1⟩ := h1
  obtain ⟨ds, rfl, h2⟩ := allD_of h1
  have G1 := G'.tr t1
  refine ⟨small_le (by rw [oxs.length]; exact hl), fun p hp => k _ _ (.d (.list ds)) m l u (t1.trans (G1.new hp)) ?_ h2⟩
  exact .lst (G1.mq_new hp) (oxs.data.mono (G1.ex (G1.new hp)))
end
end Px

set_option Elab.async false
set_option linter.all false
set_option maxRecDepth 100000
set_option maxHeartbeats 2000000
/-! PyCls: the classes' premises out of the text's facts. -/
namespace Px
open PySem PySem.Spec PyProof.Rows L2
/-- the __init__ of a class of the text -/
def clsInit : Stmt → Stmt
  | .ClassDef _ _ _ body _ _ _ _ _ _ _ => body.getD 0 (.Pass ⟨0, 0, 0, 0⟩)
  | s => s
section
variable {P : Program} {w : World} {K : PySem.W.Frag} {mg : Str → Option Value} {base : Heap} {CX : CXT} {fI C : Addr} {x f y qual : Str} {si : Stmt} {p1 p2 p3 pos : Pos} {dV kV doc pm cd ct oc : Value} {an od : Option Addr} {osl : Array (Option Value)}
theorem init_ok (lk : K.lookup fI = some ⟨oc, od, .func (PySem.W.fnOf "__init__" qual (defArgs si) (defBody si) (defScope si) dV kV doc pm an cd ct), osl⟩) (hcd : PySem.W.codeIn K cd qual = true) (S : FnScope ["self", y] ["self", y] (defScope si))
    (hb : defBody si = [.Assign [.Attribute (.Name "self" p1) f p2] (.Name y p3) pos]) (hy : (y == ("__debug__" : Str)) = false := by decide) (hy2 : (y == ("__classdict__" : Str)) = false := by decide) :
    FnOk P w K mg base CX 1 fI (PySem.W.fnOf "__init__" qual (defArgs si) (defBody si) (defScope si) dV kV doc pm an cd ct) ["self", y] (spI K C f) := by
  have vis : ∀ z ∈ (["self", y] : List Str), Vis (defScope si) z := fun z hz => by
    rcases S.par z hz with q | q
    · exact .inl q
    · exact .inr (.inl q)
  refine fn_of (k := 0) lk hcd S (fun vs H Q E h => by obtain ⟨a, v, rfl, _⟩ := h; rfl) fun A outer s H vs Q E hr h => ⟨tOst K f (tVar 0) (tVar 1), ?_, ?_⟩
  · rw [hb]
    exact pss_one (ps_ost (pe_var rfl (vis "self" (by simp)) (by decide) (by decide)) (pe_var rfl (vis y (by simp)) hy hy2))
  · obtain ⟨a, v, rfl, T, hno, ha, q⟩ := h
    exact ⟨v, rfl, .ref a, rfl, a, C, rfl, T, hno, .inl ⟨ha, q⟩⟩
end
/-- what is read off a class's object: the premises that a head shows by k_is -/
structure ClsFacts (K : PySem.W.Frag) (C fI : Addr) (f : Str) : Prop where
  cls : ∃ nm q N bs bm sn sub ab col dd k0 k1 k2 k3 k5, K.lookup C = some (excClassObj nm q C N bs bm true sn sub ab col dd k0 k1 k2 k3 k5 "ValueError.__new__") ∧ PySem.HandSPX.refsVE bm = true
  sa : PySem.W.findIn K (.ref C) "__setattr__" = some (some (.builtin "object.__setattr__"))
  ga : PySem.W.findIn K (.ref C) "__getattribute__" = some (some (.builtin "BaseException.__getattribute__"))
  gg : PySem.W.findIn K (.ref C) "__getattr__" = some none
  nf : PySem.W.findIn K (.ref C) f = some none
  ini : PySem.W.findIn K (.ref C) "__init__" = some (some (.ref fI))
  tI : PySem.W.typeIn K (.ref fI) = some (.type "function")
  kC : PySem.W.keepIn K (.ref C) = true
  eC : PySem.W.subIn K (.ref C) (.type "BaseException") = some true
  tC : PySem.W.typeIn K (.ref C) = some (.type "type")
  hC : PySem.W.hasDictIn K C = true
  sC : PySem.W.subIn K (.ref C) (.ref C) = some true
  dc : PySem.W.findIn K (.ref C) "__class__" = some (some (.builtin "object.__class__"))
  dg : PySem.W.specialIn K (.builtin "object.__class__") "__get__" = some (some (.builtin "getset_descriptor.__get__"))
  dt : PySem.W.takesIn K (.builtin "object.__class__") = some true
  mo : PySem.W.mroIn K C (.type "object") = some true
theorem ClsFacts.oex {K : PySem.W.Frag} {C fI : Addr} {f : Str} (F : ClsFacts K C fI f) : OexC K C := ⟨F.cls, F.sa, F.eC, F.tC, F.kC⟩
theorem ClsFacts.xf {K : PySem.W.Frag} {C fI : Addr} {f : Str} (F : ClsFacts K C fI f) : XfC K C := ⟨F.ga, F.gg, F.eC, F.hC⟩
theorem ClsFacts.exc {K : PySem.W.Frag} {C fI : Addr} {f : Str} (F : ClsFacts K C fI f) : ExcC K C := ⟨F.ga, F.gg, F.eC, F.hC, F.dc, F.dg, F.dt, F.mo⟩
theorem cl_mk {P : Program} {w : World} {K : Kx} {mg : Str → Option Value} {base : Heap} {C fI : Addr} {x f : Str} {fd : FuncData} {ps : List Str} (F : ClsFacts K.fg C fI f) (hm : mg x = some (.ref C)) (Fn : FnOk P w K.fg mg base (L2.CX P w) 1 fI fd ps (spI K.fg C f)) (hb : Binds K.fg fd ps []) : Cl P w K mg base x f :=
  ⟨C, fI, fd, ps, hm, F.oex, F.ini, F.tI, Fn, hb, F.nf⟩
theorem clh_mk {K : Kx} {mg : Str → Option Value} {C fI : Addr} {x f : Str} (F : ClsFacts K.fg C fI f) (hm : mg x = some (.ref C)) : ClH K mg x := ⟨C, hm, PySem.W.exm_ref F.eC F.hC F.tC F.sC⟩
theorem clf_mk {K : Kx} {mg : Str → Option Value} {C s fI : Addr} {x f S : Str} (F : ClsFacts K.fg C fI f) (hm : mg x = some (.ref C)) (hS : mg S = some (.ref s)) (hk : PySem.W.kitOne K.fg (.ref C) (.ref s) = some true) : ClF K mg x f S := ⟨C, s, hm, hS, F.xf, F.nf, F.exc, hk⟩
/-- all that is asked of a class, read off the text -/
structure ClT (K : PySem.W.Frag) (mg : Str → Option Value) (x f S : Str) : Prop where
  ex : ∃ (C fI s : Addr) (fd : FuncData) (ps : List Str), mg x = some (.ref C) ∧ ClsFacts K C fI f ∧ (∀ (P : Program) (w : World) (base : Heap), FnOk P w K mg base (L2.CX P w) 1 fI fd ps (spI K C f)) ∧ Binds K fd ps [] ∧ mg S = some (.ref s) ∧ PySem.W.kitOne K (.ref C) (.ref s) = some true
theorem ClT.cl {K : Kx} {mg : Str → Option Value} {x f S : Str} (T : ClT K.fg mg x f S) {P : Program} {w : World} {base : Heap} : Cl P w K mg base x f := by
  obtain ⟨C, fI, s, fd, ps, h1, h2, h3, h4, h5, h6⟩ := T
  exact cl_mk h2 h1 (h3 P w base) h4
theorem ClT.clh {K : Kx} {mg : Str → Option Value} {x f S : Str} (T : ClT K.fg mg x f S) : ClH K mg x := by
  obtain ⟨C, fI, s, fd, ps, h1, h2, h3, h4, h5, h6⟩ := T
  exact clh_mk h2 h1
theorem ClT.clf {K : Kx} {mg : Str → Option Value} {x f S : Str} (T : ClT K.fg mg x f S) : ClF K mg x f S := by
  obtain ⟨C, fI, s, fd, ps, h1, h2, h3, h4, h5, h6⟩ := T
  exact clf_mk h2 h1 h5 h6
end Px

set_option Elab.async false
set_option linter.all false
set_option maxRecDepth 100000
set_option maxHeartbeats 4000000
/-! PxTab: x(lambda: body): a lambda without parameters handed to a def that calls it. -/
namespace Px
open PySem PySem.Spec PyProof.Rows L2
open LamX (CodeO TabS Tabs TabB LamS lamEnv lamCx)
section
variable {X : Cx} {pins : List (Addr × Obj)} {σ : L2.St} {H : Hp} {s : Shared}
/-- the lambda is made: besides its table nothing that is known changes -/
theorem lam_mk {T : List (Addr × Str)} {c P : Addr} {params : Arguments} {body : Expr} {scope : Scope} {pos : Pos} {E Q : Value → Shared → Prop} (I : Inv X pins σ H s) (TB : TabB X.base X.mg c P) (hcode : X.env.code = .ref c) (hm : (P, X.env.qual ++ "<lambda>") ∈ T)
    (hu : ∀ p ∈ T, p.1 = P → p.2 = X.env.qual ++ "<lambda>") (hT : Tabs T H) (hdef : defaultsOf params X.env = ([], [])) (hfree : ∀ y ∈ scope.names, y.2 = .free → ∃ c, X.env.cells.lookup y.1 = some c)
    (h : ∀ (f c' : Addr) (pm ctv : Value) (H1 : Hp) (s' : Shared), Inv X pins σ H1 s' → (∀ b o, b ≠ P → H b = some o → H1 b = some o) → Tabs T H1 →
      s'.heap.get? f = some (PySem.W.kla_obj "<lambda>" (X.env.qual ++ "<lambda>") params body scope (cloFrom X.env.cells scope.names []) pm c' ctv) → H1 f = none → f ∉ frs X.stack → H1 c' = some (CodeO c' (X.env.qual ++ "<lambda>")) → Q (.ref f) s') :
    wpAny (model X.prog X.w) X.A (eval (.Lambda params body scope pos) X.env) Q E s := by
  obtain ⟨ps, hP, tok, told⟩ := hT _ hm
  refine PySem.W.kla_eval hdef ?_
  have bAt := TB.bm.keeps I.bk
  have tabAt : s.heap.get? P = some { cls := .none, data := .fields ps } := I.hok P _ hP
  have noFrame : ∀ f, s.heap.objs.size ≤ f → f ∉ frs X.stack := fun f hf hz => by
    rcases List.mem_cons.mp (I.stkSub _ hz) with e | e
    · exact Nat.lt_irrefl _ (Nat.lt_of_lt_of_le (show f < _ by rw [e]; exact I.lt) hf)
    · exact I.nofs hf e
  cases found : codeAmong pos ps.toList with
  | some cv =>
    obtain ⟨c', e, hco⟩ := told pos cv found
    subst e
    refine PySem.W.kla_makeFunctionHit (mg := X.mg) (c := c) (P := P) (ps := ps) (closure_ok hfree) I.ok.glob (I.mod.glob.keeps I.bk) hcode (TB.code.keeps I.bk) tabAt tok found bAt fun ctv h' tk hx hsz => ?_
    have Iz : Inv X pins σ H { s with heap := h'.push (PySem.W.kla_obj "<lambda>" (X.env.qual ++ "<lambda>") params body scope (cloFrom X.env.cells scope.names []) ((X.mg "__name__").getD .none) c' ctv), toks := tk } := I.kept fun b o e => Heap.get?_push_of_some _ (hx b o e)
    exact h h'.objs.size c' _ ctv H _ Iz (fun b o _ e => e) hT (Heap.get?_push_size _ rfl) (I.hok.fresh hsz) (noFrame _ hsz) hco
  | none =>
    refine PySem.W.kla_makeFunction (mg := X.mg) (c := c) (P := P) (ps := ps) (closure_ok hfree) I.ok.glob (I.mod.glob.keeps I.bk) hcode (TB.code.keeps I.bk) tabAt tok found TB.gP bAt fun c' ctv h' tk hx hge hlt hrec htb => ?_
    obtain ⟨c2, oc, vs, t, e2, hoc, hd, hv⟩ := hrec
    cases e2
    have grow : s.heap.objs.size ≤ h'.objs.size := Nat.le_trans hge (Nat.le_of_lt hlt)
    have newC : H c' = none := I.hok.fresh hge
    have Iz := LamX.inv_table (t' := tk) (more := #[rawInt pos.line, rawInt pos.col, .ref c']) (h' := h'.push (PySem.W.kla_obj "<lambda>" (X.env.qual ++ "<lambda>") params body scope (cloFrom X.env.cells scope.names []) ((X.mg "__name__").getD .none) c' ctv)) I hP
      (fun b o hb e => Heap.get?_push_of_some _ (hx b o hb e)) (Heap.get?_push_of_some _ htb) hge ⟨oc, vs, t, Heap.get?_push_of_some _ hoc, hd, hv⟩
    have keepB : ∀ b o, b ≠ P → H b = some o → (upd (upd H P (.tbl (ps ++ #[rawInt pos.line, rawInt pos.col, .ref c']))) c' (CodeO c' (X.env.qual ++ "<lambda>"))) b = some o := fun b o n e => by
      rw [upd_ne (ne_of_none e newC), upd_ne n]; exact e
    have listE : (ps ++ #[rawInt pos.line, rawInt pos.col, .ref c']).toList = ps.toList ++ [rawInt pos.line, rawInt pos.col, .ref c'] := by simp
    have codeP : ∀ b q, H b = some (CodeO b q) → b ≠ P := fun b q e z => by
      rw [z, hP] at e
      exact LamX.codeO_ne ps (Option.some.inj e).symm
    refine h h'.objs.size c' _ ctv _ _ Iz keepB (fun p hp => ?_) (Heap.get?_push_size _ rfl) ?_ (noFrame _ grow) upd_same
    · by_cases hb : p.1 = P
      · rw [hu p hp hb, hb]
        refine ⟨_, by rw [upd_ne (ne_of_none hP newC), upd_same], by rw [listE]; exact PySem.TriplesOk_snoc _ _ _ _ tok, fun p' cv hcv => ?_⟩
        rw [listE] at hcv
        rcases LamX.among_app _ tok hcv with z | z
        · obtain ⟨c0, e1, e2⟩ := told p' cv z
          exact ⟨c0, e1, keepB _ _ (codeP _ _ e2) e2⟩
        · exact ⟨c', z, upd_same⟩
      · obtain ⟨ps', a1, a2, a3⟩ := hT p hp
        refine ⟨ps', keepB _ _ hb a1, a2, fun p' cv hcv => ?_⟩
        obtain ⟨c0, e1, e2⟩ := a3 p' cv hcv
        exact ⟨c0, e1, keepB _ _ (codeP _ _ e2) e2⟩
    · have n1 : h'.objs.size ≠ c' := Nat.ne_of_gt hlt
      have n2 : h'.objs.size ≠ P := Nat.ne_of_gt (Nat.lt_of_lt_of_le (Heap.lt_size tabAt) grow)
      rw [upd_ne n1, upd_ne n2]
      exact I.hok.fresh grow
end
section
variable {X : Cx} {pins : List (Addr × Obj)} {σ : L2.St} {H HZ : Hp} {s s1 : Shared}
/-- a(), in the def that got the lambda as a; exceptions go where that def's own wish is, with its own names -/
theorem act_run {Eg : XK} {CXg : CXT} {Ng : List Str} {qg : Str} {sg : Scope} {g f c' : Addr} {cdg pm ctv : Value} {params : Arguments} {body : Expr} {scope : Scope} {k i : Nat} {a : Str} {pn : List (Addr × Obj)} {xe : Value → Shared → Prop} {W : WX} {tb : XK → TE} {p1 p2 : Pos}
    (I : Inv X pins σ H s) (L : LamS X.env.scope scope) (hf : s.heap.get? f = some (PySem.W.kla_obj "<lambda>" (X.env.qual ++ "<lambda>") params body scope (cloFrom X.env.cells scope.names []) pm c' ctv)) (hfn : H f = none) (hfr : f ∉ frs X.stack)
    (hbind : bindArgs (PySem.W.kla_fn "<lambda>" (X.env.qual ++ "<lambda>") params body scope (cloFrom X.env.cells scope.names []) pm (.ref c') ctv) ⟨[], []⟩ = pure [])
    (tk : Takes ((cxOf CXg X.prog X.w X.K X.mg X.base Ng qg sg g cdg X.A X.stack s H Eg).tr pn xe) W) (hr : Room (k + 1) (X.A.deeper (envOfC qg sg s.heap.objs.size g cdg))) (hgu : X.A.guards = some [])
    (hbody : ∀ (E : XK) (A : Around) (outer : List PySem.Env) (s : Shared) (H : Hp), Room k (A.deeper (lamEnv X scope s.heap.objs.size f c')) → A.guards = some [] → PE (lamCx X A outer s H E scope f c') body (tb E))
    (hN : Ng[i]? = some a) (hv : Vis sg a) (hd : (a == ("__debug__" : Str)) = false := by decide) (hcd : (a == ("__classdict__" : Str)) = false := by decide) :
    PE ((cxOf CXg X.prog X.w X.K X.mg X.base Ng qg sg g cdg X.A X.stack s H Eg).tr pn xe) (.Call (.Name a p1) [] [] p2)
      (fun σZ HZ Q => σZ[i]? = some (some (.ref f)) ∧ HZ c' = some (CodeO c' (X.env.qual ++ "<lambda>")) ∧ tb (WE W σZ) σ HZ Q) := by
  refine ⟨fun pinsZ sZ σZ HZ Q IZ hz => ?_⟩
  obtain ⟨at_i, hco, ht⟩ := hz
  refine wpAny_Call_Name_kw (thn ((pe_var (pos := p1) (i := i) hN hv hd hcd).run pinsZ sZ σZ HZ (fun v H1 => v = .ref f ∧ H1 = HZ) IZ ⟨.ref f, at_i, rfl, rfl⟩) fun u s1 ⟨v, H1, I1, r1, q1⟩ => ?_)
  obtain ⟨rfl, rfl⟩ := q1
  obtain rfl : u = Value.ref f := r1
  have isF := I1.base.keep f _ hf hfn hfr (fun z => nomatch (show f ∈ ([] : List Addr) from z))
  refine PySem.W.callWith_F0 ⟨_, _, _, _, isF⟩ ?_
  have un : Un (frs X.stack) [] H H1 s.heap s1.heap := I1.base
  obtain ⟨⟨oc, vs, t, hoc, hdc, hvc⟩, _, _⟩ := I1.hok c' _ hco
  have run : codeAny (model X.prog X.w) (X.A.deeper (envOfC qg sg s.heap.objs.size g cdg)) (.call (.ref f) ⟨[], []⟩) (CR (L2.CX X.prog X.w) (envOfC qg sg s.heap.objs.size g cdg :: X.stack) X.prog X.w H1 s1 Q (WE W σZ)) s1 := by
    refine PySem.W.kla_callFunE hr.depth isF rfl L.co L.gen rfl ⟨c', oc, vs, t, rfl, hoc, hdc, hvc⟩ ?_
    rw [hbind]
    refine wpAny_pure (wpAny_newFunctionEnv (fun y hy => (L.own y hy).2) (fun y hy => absurd hy (by simp)) (fun h₁ hns hsb => ⟨I1.nolimit.fresh _ hsb, ?_⟩) L.kind)
    show codeAny _ _ (.expr body (lamEnv X scope s1.heap.objs.size f c')) _ _
    have kp : ∀ b o, s1.heap.get? b = some o → h₁.get? b = some o := fun b o e => hsb.extBut b o (Nat.ne_of_lt (Heap.lt_size e)) (Heap.get?_push_of_some _ e)
    have J := LamX.lam_start2 (f := f) (c' := c') (A := X.A.deeper (envOfC qg sg s.heap.objs.size g cdg)) (outer := envOfC qg sg s.heap.objs.size g cdg :: X.stack) (E := WE W σZ) (tk := s1.toks + ([] : List (Str × Value)).length) I L I1.env0 hr.hd un hns kp
    refine PySem.W.kla_codeExpr (wpAny_mono ((hbody (WE W σZ) _ _ s1 H1 (hr.deeper _) hgu).run [] _ _ H1 Q J ht) (fun v s' hq => ?_) fun e s' hq => hq)
    obtain ⟨w', H', J', rv, q⟩ := hq
    exact ⟨w', H', J'.os, J'.bare, J'.base, J'.hok, rv, q⟩
  refine wpAny_call (codeAny_mono run fun r s' hq => ?_)
  cases r with
  | error e => exact passAt tk σZ pinsZ H1 s1 e s' I1 hq
  | ok fl =>
    cases fl with
    | ret u => exact I1.after hq
    | next => exact False.elim hq
    | brk => exact False.elim hq
    | cont => exact False.elim hq
end
/-! ### the call x(lambda: body) -/
abbrev TLam := (XK → Hp → VK → Prop) → Hp → VK → Prop
/-- the def g at the context X: given the reading tl of a lambda, its body is read as TT -/
def GivesT (X : Cx) (Ng : List Str) (x : Str) (sg : Scope) (g : Addr) (cdg : Value) (bg : List Stmt) (a q : Str) (TT : TLam) : Prop :=
  ∀ (f c' : Addr) (s : Shared) (H : Hp) (Q : VK) (tl : XK → Hp → VK → Prop), Room 1 (X.A.deeper (envOfC x sg s.heap.objs.size g cdg)) →
    (∀ (W : WX) (pn : List (Addr × Obj)) (xe : Value → Shared → Prop) (p1 p2 : Pos), Takes ((cxOf CX0 X.prog X.w X.K X.mg X.base Ng x sg g cdg X.A X.stack s H E0).tr pn xe) W →
      PE ((cxOf CX0 X.prog X.w X.K X.mg X.base Ng x sg g cdg X.A X.stack s H E0).tr pn xe) (.Call (.Name a p1) [] [] p2) (fun σZ HZ Q => σZ[0]? = some (some (.ref f)) ∧ HZ c' = some (CodeO c' q) ∧ tl (WE W σZ) HZ Q)) →
    H c' = some (CodeO c' q) → TT tl H Q →
    ∃ t, PSs (cxOf CX0 X.prog X.w X.K X.mg X.base Ng x sg g cdg X.A X.stack s H E0).nox bg t ∧ t { nx := fun _ H' => Q .non H', rt := Q } (L2.start Ng [.ref f]) H
def tLamT (P : Addr) (T : List (Addr × Str)) (TT : TLam) (t : XK → TE) : TE := fun σ H Q => Tabs T H ∧ ∀ H1, (∀ b o, b ≠ P → H b = some o → H1 b = some o) → Tabs T H1 → TT (fun E H' Q' => t E σ H' Q') H1 Q
section
variable {X : Cx}
theorem lam_call {T : List (Addr × Str)} {TT : TLam} {x a : Str} {c P fa : Addr} {k : Nat} {st : Stmt} {fd : FuncData} {Ng : List Str} {params : Arguments} {body : Expr} {scope : Scope} {t : XK → TE} {p lpos pos : Pos} (hg : Gl X x) (hm : X.mg x = some (.ref fa))
    (Fu : Fun X.K x x st fa fd) (hb : BindP x st [a]) (Sg : FnScope Ng [a] (defScope st)) (hNg : Ng[0]? = some a) (hva : Vis (defScope st) a) (hG : ∀ cdg, GivesT X Ng x (defScope st) fa cdg (defBody st) a (X.env.qual ++ "<lambda>") TT)
    (TB : TabB X.base X.mg c P) (hcode : X.env.code = .ref c) (hmT : (P, X.env.qual ++ "<lambda>") ∈ T) (hu : ∀ p ∈ T, p.1 = P → p.2 = X.env.qual ++ "<lambda>") (hr : Room (k + 3) X.A) (hgu : X.A.guards = some []) (L : LamS X.env.scope scope) (hdef : defaultsOf params X.env = ([], []))
    (hbind : ∀ (q : Str) (cl : List (Str × Addr)) (pm cv ctv : Value), bindArgs (PySem.W.kla_fn "<lambda>" q params body scope cl pm cv ctv) ⟨[], []⟩ = pure [])
    (hbody : ∀ (E : XK) (A : Around) (outer : List PySem.Env) (s : Shared) (H : Hp) (f c' : Addr), Room k (A.deeper (lamEnv X scope s.heap.objs.size f c')) → A.guards = some [] → PE (lamCx X A outer s H E scope f c') body (t E))
    (hdb : (x == ("__debug__" : Str)) = false := by decide) (hd : (a == ("__debug__" : Str)) = false := by decide) (hcd : (a == ("__classdict__" : Str)) = false := by decide) :
    PE X (.Call (.Name x p) [.Lambda params body scope lpos] [] pos) (tLamT P T TT t) := by
  refine ⟨fun pins s σ H Q I h => ?_⟩
  obtain ⟨hT, h⟩ := h
  have hbi := Fu.binds hb
  have hkp := Fu.kp
  obtain ⟨oc, od, kV, doc, pm, an, cd, ct, osl, rfl, lk, hcd'⟩ := Fu.ex
  refine wpAny_Call_Name_kw (ld_glob I hg hm ?_ hdb)
  refine PySem.W.callWith_K (h₀ := X.base) I.ok.mod.kin hkp ?_ (by rfl) (by rfl)
  show wpAny _ _ (spliced ((false, eval (.Lambda params body scope lpos) X.env) :: backTo pos (starEach [] X.env))) _ _ s
  refine Calls.spliced_cons (lam_mk I TB hcode hmT hu hT hdef (L.has I.ok) fun f c' pm' ctv H1 s' I1 eN T1 hf hfn hfr hco => ?_)
  refine Calls.spliced_nil ⟨I1.kIn, ?_⟩
  have run : codeAny (model X.prog X.w) X.A (.call (.ref fa) ⟨[.ref f], []⟩) (CR CX0 X.stack X.prog X.w H1 s' Q E0) s' := by
    refine LamX.run_ofS (k := k + 2) (N := Ng) (ps := [a]) (us := [.ref f]) (vs := [.ref f]) lk hcd' Sg hr I1.env0 (hbi s' [.ref f] I1.kIn rfl) (.cons rfl .nil) rfl fun hr' => ?_
    obtain ⟨t', ht', hq'⟩ := hG cd f c' s' H1 Q (fun E H' Q' => t E σ H' Q') (hr'.mono (by omega)) (fun W pn xe p1 p2 tk => act_run (i := 0) I1 L hf hfn hfr (hbind _ _ _ _ _) tk (hr'.mono (by omega)) hgu (fun E A outer s H hr2 hg2 => hbody E A outer s H f c' hr2 hg2) hNg hva hd hcd) hco (h H1 eN T1)
    exact ⟨t', ht'.nox, hq'⟩
  refine wpAny_call (codeAny_mono run fun r s2 hq => ?_)
  cases r with
  | error e => exact (show False from hq).elim
  | ok fl =>
    cases fl with
    | ret u => exact I1.after hq
    | next => exact False.elim hq
    | brk => exact False.elim hq
    | cont => exact False.elim hq
end
/-! ### a def that calls what it got within a try and tells what came -/
abbrev FLm := (Vl → Prop) → (Bad → Prop) → Prop
def TTh (K : Kx) (mg : Str → Option Value) (c2 : Nat) (fgs : FLm → (Vl → Prop) → Prop) : TLam := fun tl H Q => ∃ (B : Addr → Prop) (m cl : Nat) (L : FLm) (R : Vl → Prop), CtOk B K.S K.SI ∧ K.SI m H ∧ m + (cl + c2) ≤ lim ∧ (∀ a, B a → H a ≠ none) ∧
  (∀ (R' : Vl → Prop) (EX' : Bad → Prop) (E' : XK) (Q' : VK), L R' EX' → (∀ v H' x m2, m ≤ m2 → m2 ≤ m + cl → Tr K.S (K.SI m2) H H' → VlOk K (mask B H') v x → R' x → Q' v H') →
    (∀ cls d H' b m2, m ≤ m2 → m2 ≤ m + cl → Tr K.S (K.SI m2) H H' → BadOk K mg (mask B H') b cls d H' → EX' b → E' cls d H') → tl E' H Q') ∧
  fgs L R ∧ ∀ v H' x m', m ≤ m' → m' ≤ m + (cl + c2) → Tr K.S (K.SI m') H H' → VlOk K (mask B H') v x → R x → Q v H'
structure DfL (P : Program) (w : World) (K : Kx) (mg : Str → Option Value) (base : Heap) (x : Str) (st : Stmt) (a : Str) (c2 : Nat) (fgs : FLm → (Vl → Prop) → Prop) : Prop where
  ex : ∃ fa fd N, mg x = some (.ref fa) ∧ Fun K x x st fa fd ∧ FnScope N [a] (defScope st) ∧ N[0]? = some a ∧ ∀ (X : Cx) (cdg : Value) (q : Str), X.prog = P → X.w = w → X.K = K.fg → X.mg = mg → X.base = base → X.A.guards = some [] → GivesT X N x (defScope st) fa cdg (defBody st) a q (TTh K mg c2 fgs)
/-- how an answer is laid down -/
structure Wrap (e : Expr) (call : Expr) (wp : (Vl → Prop) → Vl → Prop) : Prop where
  ex : ∃ tw : TE → TE, (∀ (Z : Cx) (t : TE), PE Z call t → PE Z e (tw t)) ∧ ∀ (K : Kx) (B : Addr → Prop) (m cl : Nat) (H : Hp) (R : Vl → Prop) (tc : TE) (σ : Sg) (Q : VK), CtOk B K.S K.SI → (∀ a, B a → H a ≠ none) →
    (∀ Q' : VK, (∀ v H' x m2, m ≤ m2 → m2 ≤ m + cl → Tr K.S (K.SI m2) H H' → VlOk K (mask B H') v x → wp R x → Q' v H') → tc σ H Q') →
    (∀ v H' x m2, m ≤ m2 → m2 ≤ m + cl → Tr K.S (K.SI m2) H H' → VlOk K (mask B H') v x → R x → Q v H') → tw tc σ H Q
section
variable {a : Str} {wd : Str} {k1 k2 : Nat} {p1 p2 pa pb : Pos}
theorem wrap_id : Wrap (.Call (.Name a pa) [] [] pb) (.Call (.Name a pa) [] [] pb) (fun R x => R x) := ⟨id, fun _ _ h => h, fun K B m cl H R tc σ Q _ _ h k => h Q k⟩
theorem ct_bd {K : Kx} {B : Addr → Prop} {m : Nat} {H H' : Hp} (ct : CtOk B K.S K.SI) (bd : ∀ a, B a → H a ≠ none) (t : Tr K.S (K.SI m) H H') : ∀ a, B a → H' a ≠ none := fun a b e => by
  by_cases hs : K.S a
  · exact ct.th _ _ t.2 a hs e
  · cases q : H a with
    | none => exact bd a b q
    | some o => rw [t.1 a o hs q] at e; cases e
/-- a new object behind a call -/
theorem ct_new {K : Kx} {B : Addr → Prop} {m : Nat} {H : Hp} {p : Addr} {o : HO} (ct : CtOk B K.S K.SI) (si : K.SI m H) (n : H p = none) : Tr K.S (K.SI m) H (upd H p o) :=
  ⟨fun a u _ e => by rw [upd_ne (ne_of_none e n)]; exact e, ct.st _ H _ (fun a s => by
    have : a ≠ p := fun z => ct.th _ H si a s (by rw [z]; exact n)
    rw [upd_ne this]) (fun a q e => by rw [upd_ne (ne_of_none e n)]; exact e) si⟩
theorem wrap_tup : Wrap (.Tuple [.Constant (.str wd) k1 p1, .Call (.Name a pa) [] [] pb] k2 p2) (.Call (.Name a pa) [] [] pb) (fun R x => ∃ d, x = .d d ∧ R (.d (.tuple [.str wd, d]))) := by
  refine ⟨fun tc => tTup (tCons (tC (.str wd)) (tCons tc tNil)), fun Z t h => pe_tup (pa_cons pe_str (pa_cons h pa_nil)), fun K B m cl H R tc σ Q ct bd h k => ?_⟩
  refine h _ fun v H' x m2 a b t o hx => ?_
  obtain ⟨d, rfl, hR⟩ := hx
  refine ⟨show 2 ≤ sizeLine by decide, fun p hp => ?_⟩
  have tn := ct_new (o := .tup [.str wd, v]) ct t.2 hp
  have nb : ¬ B p := fun z => ct_bd ct bd t p z hp
  exact k _ _ (.d (.tuple [.str wd, d])) m2 a b (t.trans tn) (.tup (.inl (.inl (mask_at nb upd_same))) (.cons (.str _) (.cons (Rd.mono (tn.ex ct.sb) o) .nil))) hR
theorem wrap_lst : Wrap (.List [.Call (.Name a pa) [] [] pb] p2) (.Call (.Name a pa) [] [] pb) (fun R x => ∃ d, x = .d d ∧ R (.d (.list [d]))) := by
  refine ⟨fun tc => tLst (tCons tc tNil), fun Z t h => pe_lst (pa_cons h pa_nil), fun K B m cl H R tc σ Q ct bd h k => ?_⟩
  refine h _ fun v H' x m2 a b t o hx => ?_
  obtain ⟨d, rfl, hR⟩ := hx
  refine ⟨show 1 ≤ sizeLine by decide, fun p hp => ?_⟩
  have tn := ct_new (o := .lst [v]) ct t.2 hp
  have nb : ¬ B p := fun z => ct_bd ct bd t p z hp
  exact k _ _ (.d (.list [d])) m2 a b (t.trans tn) (.lst (mask_at nb upd_same) (.cons (Rd.mono (tn.ex ct.sb) o) .nil)) hR
end
def rho1 (n j : Nat) (f : Addr) : En := (Sl.v (.o (.ref f)) :: List.replicate n .non).set j (.v (.d .none))
theorem heard {P : Program} {w : World} {K : Kx} {mg : Str → Option Value} {base : Heap} {x a y : Str} {st : Stmt} {fa : Addr} {fd : FuncData} {n j c2 kc : Nat} {N : List Str} {py pc p1 py2 p2 p3 py3 p4 pa pb : Pos} {e : Expr} {h₀ : ExceptHandler} {hds : List ExceptHandler}
    {wp : (Vl → Prop) → Vl → Prop} {h2 : En → Bad → SEn → Prop} {fgs : FLm → (Vl → Prop) → Prop} (Fu : Fun K x x st fa fd) (hm : mg x = some (.ref fa)) (S : FnScope N [a] (defScope st)) (hN0 : N[0]? = some a) (hj : N[j]? = some y) (hj0 : j ≠ 0) (hn : N.length = n + 1)
    (hb : defBody st = [.Assign [.Name y py] (.Constant .none kc pc) p1, .Try [.Assign [.Name y py2] e p2] (h₀ :: hds) [] [] p3, .Return (some (.Name y py3)) p4]) (Wr : Wrap e (.Call (.Name a pa) [] [] pb) wp)
    (hh : ∀ (cd : Value) (A : Around) (outer : List PySem.Env) (s : Shared) (H : Hp) (hr : Room 1 (A.deeper (envOfC x (defScope st) s.heap.objs.size fa cd))) (hg : A.guards = some []), HdX (Fx.of (fmOf P w K mg base N x st fa cd A outer s H E0 1 S.nd hr hg)) (h₀ :: hds) c2 h2)
    (hx : Loc (defScope st) y) (hfy : (defScope st).names.lookup y = some .local)
    (hs1 : ∀ env : Env, env.scope = defScope st → swapsWith (.Constant .none kc pc) (some (.Name y py)) p1.line env = pure false) (hs2 : ∀ env : Env, env.scope = defScope st → swapsWith e (some (.Name y py2)) p2.line env = pure false)
    (hd : (y == ("__debug__" : Str)) = false := by decide) (hcd : (y == ("__classdict__" : Str)) = false := by decide)
    (hf : ∀ (f : Addr) (R : Vl → Prop), ∃ (A0 : Vl → Prop) (B0 : Bad → Prop), (∀ L, fgs L R → L A0 B0) ∧ (∀ x, A0 x → wp R x) ∧ ∀ b, B0 b → h2 (rho1 n j f) b { nx := fun ρ' => rd ρ' j R, rt := R }) : DfL P w K mg base x st a c2 fgs := by
  refine ⟨fa, fd, N, hm, Fu, S, hN0, fun X cdg q e1 e2 e3 e4 e5 hgu => ?_⟩
  unfold GivesT
  rw [e1, e2, e3, e4, e5]
  intro f c' s H Q tl hr act hc tt
  obtain ⟨B, m, cl, L, R, ct, si, hlim, bd, run, hL, kk⟩ := tt
  obtain ⟨tw, pw, sw⟩ := Wr
  have HX := hh cdg X.A X.stack s H hr hgu
  obtain ⟨l, pl, sl⟩ := HX
  let F0 := fmOf P w K mg base N x st fa cdg X.A X.stack s H E0 1 S.nd hr hgu
  have PT := ps_try_manyA (X := F0.X ()) (body := [.Assign [.Name y py2] e p2]) (h₀ := h₀) (hds := hds) (l := l) (pos := p3) (Wo := fun _ _ _ _ => False) (tb := fun W => tAsg (tw (fun σZ HZ Q => σZ[0]? = some (some (V.ref f)) ∧ HZ c' = some (CodeO c' q) ∧ tl (WE W σZ) HZ Q)) (gName j)) rfl rfl S.nd ((Fx.of F0).tk ())
    (fun W pn xe tk _ => pss_one (ps_set S.nd hj hx (pw _ _ (act W pn xe pa pb tk)) (hs2 _ rfl) (.inr hfy))) (pl ())
  rw [hb]
  refine ⟨_, pss_cons (ps_set S.nd hj hx pe_non (hs1 _ rfl) (.inr hfy)) (pss_cons PT (pss_one (ps_ret (pe_var hj (.inl hfy) hd hcd)))), ?_⟩
  have est : L2.start N [V.ref f] = some (.ref f) :: List.replicate n none := by unfold L2.start; rw [hn]; rfl
  rw [est]
  obtain ⟨j', rfl⟩ : ∃ j', j = j' + 1 := ⟨j - 1, by omega⟩
  have jn : j' < n := by
    have := (List.getElem?_eq_some_iff.mp hj).1
    omega
  let σ1 : Sg := (some (V.ref f) :: List.replicate n none).set (j' + 1) (some .non)
  let D : Ends := { nx := fun _ H' => Q .non H', rt := Q }
  let D2 : Ends := { D with nx := tRet (tVar (j' + 1)) D }
  show tAsg (tw _) (gName (j' + 1)) D2 σ1 H
  have G1 : Good K ⟨B, K.S, H, m⟩ σ1 (rho1 n (j' + 1) f) H := by
    refine ⟨rfl, ct, si, bd, fun a o _ e => e, by simp [σ1, rho1], fun i y e => ?_, fun i ys e => ?_, fun i k ys zs p e => ?_⟩
    · rcases set_at e with ⟨e1, e2, h⟩ | ⟨ne, e⟩
      · cases e2
        subst e1
        exact ⟨.non, set_self (by simpa using jn), Rd.non⟩
      · cases i with
        | zero =>
          cases e
          exact ⟨.ref f, (set_oth ne).trans rfl, rfl⟩
        | succ i =>
          rw [List.getElem?_cons_succ, List.getElem?_replicate] at e
          split at e <;> cases e
    · rcases set_at e with ⟨e1, e2, h⟩ | ⟨ne, e⟩
      · cases e2
      · cases i with
        | zero => cases e
        | succ i =>
          rw [List.getElem?_cons_succ, List.getElem?_replicate] at e
          split at e <;> cases e
    · rcases set_at e with ⟨e1, e2, h⟩ | ⟨ne, e⟩
      · cases e2
      · cases i with
        | zero => cases e
        | succ i =>
          rw [List.getElem?_cons_succ, List.getElem?_replicate] at e
          split at e <;> cases e
  have nob : ∀ a, bar B σ1 (rho1 n (j' + 1) f) a → B a := fun a z => by
    rcases z with z | ⟨i, ys, z, _⟩
    · exact z
    · exact absurd (G1.ow i ys z) (by
        rcases set_at z with ⟨e1, e2, h⟩ | ⟨ne, e⟩
        · cases e2
        · cases i with
          | zero => cases e
          | succ i =>
            rw [List.getElem?_cons_succ, List.getElem?_replicate] at e
            split at e <;> cases e)
  have emk : ∀ H', mq ⟨B, K.S, H, m⟩ σ1 (rho1 n (j' + 1) f) H' = mask B H' := fun H' => by
    show mask _ H' = _
    congr 1
    funext a
    exact propext ⟨nob a, fun z => .inl z⟩
  obtain ⟨A0, B0, hf0, hA, hB⟩ := hf f R
  have hf' := hf0 L hL
  refine sw K B m cl H R _ σ1 _ ct bd (fun Q' hQ' => ?_) fun v H' z m2 l1 u1 t1 oz hz => ?_
  · refine ⟨(set_oth (by omega)).trans rfl, hc, run _ _ _ _ hf' (fun v H' z m2 l1 u1 t1 oz hz => hQ' v H' z m2 l1 u1 t1 oz (hA z hz)) fun cls d H' b m2 l1 u1 t1 ob hb' => ?_⟩
    have G2 := G1.tr (m := m2) t1
    refine sl (Ct.up ⟨B, K.S, H, m⟩ m2) σ1 _ H' b cls d _ D2 _ (by show m2 + c2 ≤ lim; omega) G2 (by
      have := emk H'
      unfold mq at this ⊢
      rw [this]; exact ob) (hB b hb') ⟨fun σ' ρ' H3 m3 a3 b3 G3 x3 h3 => ?_, fun _ _ _ _ _ _ _ _ z => z.elim, fun _ _ _ _ _ _ _ _ z => z.elim, fun v H3 z m3 a3 b3 s3 f3 o3 h3 => kk v H3 z m3 (Nat.le_trans l1 a3) (by have : m3 ≤ m2 + c2 := b3; omega) ⟨f3, s3⟩ o3 h3⟩
    obtain ⟨y', hy, hR⟩ : ∃ y', ρ'[j' + 1]? = some (.v y') ∧ R y' := by
      have h3 : rd ρ' (j' + 1) R := h3
      unfold rd at h3
      split at h3
      · exact ⟨_, by assumption, h3⟩
      · exact h3.elim
    obtain ⟨v, h4, h5⟩ := G3.sl _ _ hy
    have bB : ∀ a, B a → bar B σ' ρ' a := fun a z => .inl z
    exact ⟨v, h4, kk v H3 y' m3 (Nat.le_trans l1 a3) (by have : m3 ≤ m2 + c2 := b3; omega) ⟨fun a o ns e => G3.fr a o ns e, G3.si⟩ (h5.mono (mask_sub bB)) hR⟩
  · show tRet (tVar (j' + 1)) D (σ1.set (j' + 1) (some v)) H'
    exact ⟨v, set_self (by simpa [σ1] using jn), kk v H' z m2 l1 (by omega) t1 oz hz⟩
/-- .. where what the call gives is dropped -/
theorem heardE {P : Program} {w : World} {K : Kx} {mg : Str → Option Value} {base : Heap} {x a y : Str} {st : Stmt} {fa : Addr} {fd : FuncData} {n j c2 kc : Nat} {N : List Str} {py pc p1 p2 p3 py3 p4 pa pb : Pos} {h₀ : ExceptHandler} {hds : List ExceptHandler}
    {h2 : En → Bad → SEn → Prop} {fgs : FLm → (Vl → Prop) → Prop} (Fu : Fun K x x st fa fd) (hm : mg x = some (.ref fa)) (S : FnScope N [a] (defScope st)) (hN0 : N[0]? = some a) (hj : N[j]? = some y) (hj0 : j ≠ 0) (hn : N.length = n + 1)
    (hb : defBody st = [.Assign [.Name y py] (.Constant .none kc pc) p1, .Try [.Expr (.Call (.Name a pa) [] [] pb) p2] (h₀ :: hds) [] [] p3, .Return (some (.Name y py3)) p4])
    (hh : ∀ (cd : Value) (A : Around) (outer : List PySem.Env) (s : Shared) (H : Hp) (hr : Room 1 (A.deeper (envOfC x (defScope st) s.heap.objs.size fa cd))) (hg : A.guards = some []), HdX (Fx.of (fmOf P w K mg base N x st fa cd A outer s H E0 1 S.nd hr hg)) (h₀ :: hds) c2 h2)
    (hx : Loc (defScope st) y) (hfy : (defScope st).names.lookup y = some .local)
    (hs1 : ∀ env : Env, env.scope = defScope st → swapsWith (.Constant .none kc pc) (some (.Name y py)) p1.line env = pure false)
    (hd : (y == ("__debug__" : Str)) = false := by decide) (hcd : (y == ("__classdict__" : Str)) = false := by decide)
    (hf : ∀ (f : Addr) (R : Vl → Prop), ∃ (A0 : Vl → Prop) (B0 : Bad → Prop), (∀ L, fgs L R → L A0 B0) ∧ (∀ x, A0 x → R (.d .none)) ∧ ∀ b, B0 b → h2 (rho1 n j f) b { nx := fun ρ' => rd ρ' j R, rt := R }) : DfL P w K mg base x st a c2 fgs := by
  refine ⟨fa, fd, N, hm, Fu, S, hN0, fun X cdg q e1 e2 e3 e4 e5 hgu => ?_⟩
  unfold GivesT
  rw [e1, e2, e3, e4, e5]
  intro f c' s H Q tl hr act hc tt
  obtain ⟨B, m, cl, L, R, ct, si, hlim, bd, run, hL, kk⟩ := tt
  have HX := hh cdg X.A X.stack s H hr hgu
  obtain ⟨l, pl, sl⟩ := HX
  let F0 := fmOf P w K mg base N x st fa cdg X.A X.stack s H E0 1 S.nd hr hgu
  have PT := ps_try_manyA (X := F0.X ()) (body := [.Expr (.Call (.Name a pa) [] [] pb) p2]) (h₀ := h₀) (hds := hds) (l := l) (pos := p3) (Wo := fun _ _ _ _ => False) (tb := fun W => tDrop (fun σZ HZ Q => σZ[0]? = some (some (V.ref f)) ∧ HZ c' = some (CodeO c' q) ∧ tl (WE W σZ) HZ Q)) rfl rfl S.nd ((Fx.of F0).tk ())
    (fun W pn xe tk _ => pss_one (ps_expr (act W pn xe pa pb tk) rfl)) (pl ())
  rw [hb]
  refine ⟨_, pss_cons (ps_set S.nd hj hx pe_non (hs1 _ rfl) (.inr hfy)) (pss_cons PT (pss_one (ps_ret (pe_var hj (.inl hfy) hd hcd)))), ?_⟩
  have est : L2.start N [V.ref f] = some (.ref f) :: List.replicate n none := by unfold L2.start; rw [hn]; rfl
  rw [est]
  obtain ⟨j', rfl⟩ : ∃ j', j = j' + 1 := ⟨j - 1, by omega⟩
  have jn : j' < n := by
    have := (List.getElem?_eq_some_iff.mp hj).1
    omega
  let σ1 : Sg := (some (V.ref f) :: List.replicate n none).set (j' + 1) (some .non)
  let D : Ends := { nx := fun _ H' => Q .non H', rt := Q }
  let D2 : Ends := { D with nx := tRet (tVar (j' + 1)) D }
  show tDrop (fun σZ HZ Q => σZ[0]? = some (some (V.ref f)) ∧ HZ c' = some (CodeO c' q) ∧ tl (WE (wMA (F0.X ()).K (fun _ _ _ _ => False) D2 l) σZ) HZ Q) D2 σ1 H
  have G1 : Good K ⟨B, K.S, H, m⟩ σ1 (rho1 n (j' + 1) f) H := by
    refine ⟨rfl, ct, si, bd, fun a o _ e => e, by simp [σ1, rho1], fun i y e => ?_, fun i ys e => ?_, fun i k ys zs p e => ?_⟩
    · rcases set_at e with ⟨e1, e2, h⟩ | ⟨ne, e⟩
      · cases e2
        subst e1
        exact ⟨.non, set_self (by simpa using jn), Rd.non⟩
      · cases i with
        | zero =>
          cases e
          exact ⟨.ref f, (set_oth ne).trans rfl, rfl⟩
        | succ i =>
          rw [List.getElem?_cons_succ, List.getElem?_replicate] at e
          split at e <;> cases e
    · rcases set_at e with ⟨e1, e2, h⟩ | ⟨ne, e⟩
      · cases e2
      · cases i with
        | zero => cases e
        | succ i =>
          rw [List.getElem?_cons_succ, List.getElem?_replicate] at e
          split at e <;> cases e
    · rcases set_at e with ⟨e1, e2, h⟩ | ⟨ne, e⟩
      · cases e2
      · cases i with
        | zero => cases e
        | succ i =>
          rw [List.getElem?_cons_succ, List.getElem?_replicate] at e
          split at e <;> cases e
  have nob : ∀ a, bar B σ1 (rho1 n (j' + 1) f) a → B a := fun a z => by
    rcases z with z | ⟨i, ys, z, _⟩
    · exact z
    · exact absurd (G1.ow i ys z) (by
        rcases set_at z with ⟨e1, e2, h⟩ | ⟨ne, e⟩
        · cases e2
        · cases i with
          | zero => cases e
          | succ i =>
            rw [List.getElem?_cons_succ, List.getElem?_replicate] at e
            split at e <;> cases e)
  have emk : ∀ H', mq ⟨B, K.S, H, m⟩ σ1 (rho1 n (j' + 1) f) H' = mask B H' := fun H' => by
    show mask _ H' = _
    congr 1
    funext a
    exact propext ⟨nob a, fun z => .inl z⟩
  obtain ⟨A0, B0, hf0, hA, hB⟩ := hf f R
  have hf' := hf0 L hL
  refine ⟨(set_oth (by omega)).trans rfl, hc, run _ _ _ _ hf' (fun v H' z m2 l1 u1 t1 oz hz => ?_) fun cls d H' b m2 l1 u1 t1 ob hb' => ?_⟩
  · show tRet (tVar (j' + 1)) D σ1 H'
    exact ⟨.non, set_self (by simpa [σ1] using jn), kk .non H' (.d .none) m2 l1 (by omega) t1 Rd.non (hA z hz)⟩
  · have G2 := G1.tr (m := m2) t1
    refine sl (Ct.up ⟨B, K.S, H, m⟩ m2) σ1 _ H' b cls d _ D2 _ (by show m2 + c2 ≤ lim; omega) G2 (by
      have := emk H'
      unfold mq at this ⊢
      rw [this]; exact ob) (hB b hb') ⟨fun σ' ρ' H3 m3 a3 b3 G3 x3 h3 => ?_, fun _ _ _ _ _ _ _ _ z => z.elim, fun _ _ _ _ _ _ _ _ z => z.elim, fun v H3 z m3 a3 b3 s3 f3 o3 h3 => kk v H3 z m3 (Nat.le_trans l1 a3) (by have : m3 ≤ m2 + c2 := b3; omega) ⟨f3, s3⟩ o3 h3⟩
    obtain ⟨y', hy, hR⟩ : ∃ y', ρ'[j' + 1]? = some (.v y') ∧ R y' := by
      have h3 : rd ρ' (j' + 1) R := h3
      unfold rd at h3
      split at h3
      · exact ⟨_, by assumption, h3⟩
      · exact h3.elim
    obtain ⟨v, h4, h5⟩ := G3.sl _ _ hy
    have bB : ∀ a, B a → bar B σ' ρ' a := fun a z => .inl z
    exact ⟨v, h4, kk v H3 y' m3 (Nat.le_trans l1 a3) (by have : m3 ≤ m2 + c2 := b3; omega) ⟨fun a o ns e => G3.fr a o ns e, G3.si⟩ (h5.mono (mask_sub bB)) hR⟩
/-! ### the pure layer's rule -/
/-- an expression whose exceptions leave with the names as they were -/
def SEY (K : Kx) (mg : Str → Option Value) (E : WX) (t : TE) (c : Nat) (f : FX) : Prop := ∀ (C : Ct) (σ : Sg) (ρ : En) (H : Hp) (R : Vl → Prop) (EX : En → Bad → Prop) (Q : VK), C.m + c ≤ lim → Good K C σ ρ H → f ρ R EX →
  (∀ v H' x m, C.m ≤ m → m ≤ C.m + c → Tr C.S (K.SI m) H H' → VlOk K (mq C σ ρ H') v x → R x → Q v H') → (∀ cls d H' b m, C.m ≤ m → m ≤ C.m + c → Tr C.S (K.SI m) H H' → BadOk K mg (mq C σ ρ H') b cls d H' → EX ρ b → E cls d σ H') → t σ H Q
structure Xy (G : Fx) (e : Expr) (c : Nat) (f : FX) : Prop where
  ex : ∃ t, (∀ i, PE (G.F.X i) e t) ∧ SEY G.F.K G.F.mg G.E t c f
section
variable {G : Fx} {e : Expr} {es : List Expr} {kws : List Keyword} {pos p : Pos} {x : Str} {st : Stmt} {ps ks : List Str} {k cf nf nk n : Nat} {ff fk : FA} {fe : FE} {fx : FSX}
theorem xy_of (h : Ee G.F e n fe) : Xy G e n (fun ρ R _ => fe ρ R) := by
  obtain ⟨t, pt, s⟩ := h
  exact ⟨t, pt, fun C σ ρ H R EX Q hm G' hf k _ => s C σ ρ H R Q hm G' hf k⟩
theorem xy_xe {f : FX} (h : Xy G e n f) : Xe G e n f := by
  obtain ⟨t, pt, s⟩ := h
  exact ⟨t, pt, fun C σ ρ H R EX Q hm G' hf k lx => s C σ ρ H R EX Q hm G' hf k fun cls d H' b m l u t1 ob hb => lx.ex cls d σ ρ H' b m l u (G'.tr t1) (G'.ex t1) ob hb⟩
/-- a promise's use -/
theorem spx_ok {K : Kx} {mg : Str → Option Value} {C : Ct} {σ : Sg} {ρ : En} {H1 : Hp} {m1 c : Nat} {vs : List V} {xs : List Vl} {R : Vl → Prop} {EX : Bad → Prop} {Q : VK} {E : XK} (G1 : Good K (C.up m1) σ ρ H1) (hl : xs.length = n) (hm : m1 + c ≤ lim) (ox : VlA K (mq C σ ρ H1) vs xs) (hf : fx xs R EX)
    (k : ∀ v H' x m, m1 ≤ m → m ≤ m1 + c → Tr C.S (K.SI m) H1 H' → VlOk K (mq C σ ρ H') v x → R x → Q v H') (kx : ∀ cls d H' b m, m1 ≤ m → m ≤ m1 + c → Tr C.S (K.SI m) H1 H' → BadOk K mg (mq C σ ρ H') b cls d H' → EX b → E cls d H') : spFX K mg n c fx vs H1 Q E :=
  ⟨bar C.B σ ρ, m1, xs, R, EX, G1.ctAll, G1.si, hm, G1.bdAll, hl, ox, hf, fun v H' z m l u t2 oz hz => k v H' z m l u (by rw [show C.S = K.S from G1.eS]; exact t2) oz hz, fun cls d H' b m l u t2 ob hb => kx cls d H' b m l u (by rw [show C.S = K.S from G1.eS]; exact t2) ob hb⟩
theorem xy_def (D : DfX G.F.P G.F.w G.F.K G.F.mg G.F.base x st ps k cf fx) (hb : BindP x st ps) (ha : Ea G.F (e :: es) nf ff) (hk : k ≤ G.F.k := by exact Nat.le_of_ble_eq_true rfl) (hg : ∀ i, Gl (G.F.X i) x := by intro _; rfl) (hdb : (x == ("__debug__" : Str)) = false := by decide)
    (he : ∀ i, starEach (e :: es) (G.F.X i).env = (false, eval e (G.F.X i).env) :: starEach es (G.F.X i).env := by intro _; rfl) (hpl : ∀ i, (backTo pos (starEach es (G.F.X i).env)).any (·.1) = false := by intro _; rfl) :
    Xy G (.Call (.Name x p) (e :: es) [] pos) (nf + cf) (fun ρ R EX => ff ρ fun xs => xs.length = ps.length ∧ fx xs R (EX ρ)) := by
  obtain ⟨fa, fd, Fn, hm, Fu⟩ := D
  obtain ⟨t, pt, st'⟩ := ha
  refine ⟨tCallS (spFX G.F.K G.F.mg ps.length cf fx) (WE G.E) t, fun j => ?_, fun C σ ρ H R EX Q hlim G' hf kk kx => ?_⟩
  · have q1 := G.F.eK j
    have q2 := G.F.eM j
    have q3 := G.F.eP j
    have q4 := G.F.eW j
    have q5 := G.F.eB j
    exact peG_callS (CX := L2.CX G.F.P G.F.w) (by rw [q1, q2, q3, q4, q5]; exact Fn) (G.F.gu j) ((G.F.room j).mono hk) (by rw [← q3, ← q4]; exact fun σ => passAt (G.tk j) σ) (hg j) (by rw [q2]; exact hm) (by rw [q1]; exact Fu.kp) (by rw [q1]; exact Fu.binds hb) (pt j) hdb (he j) (hpl j)
  · refine st' C σ ρ H _ _ (by omega) G' hf fun vs H1 xs m1 l1 u1 t1 oxs h1 => ?_
    exact spx_ok (C := C) (σ := σ) (ρ := ρ) (G'.tr t1) h1.1 (by omega) oxs h1.2 (fun v H' z m l u t2 oz hz => kk v H' z m (Nat.le_trans l1 l) (by omega) (t1.trans t2) oz hz) fun cls d H' b m l u t2 ob hb' => kx cls d H' b m (Nat.le_trans l1 l) (by omega) (t1.trans t2) ob hb'
end
/-- the frames of a lambda's body, made in F's frames; E: where its exceptions go -/
def lamFx (F : Fm) (scope : Scope) (E : XK) (k : Nat) : Fx where
  F := { I := {q : F.I × Around × List PySem.Env × Shared × Hp × Addr × Addr // Room k (q.2.1.deeper (lamEnv (F.X q.1) scope q.2.2.2.1.heap.objs.size q.2.2.2.2.2.1 q.2.2.2.2.2.2)) ∧ q.2.1.guards = some []}
         X := fun q => lamCx (F.X q.1.1) q.1.2.1 q.1.2.2.1 q.1.2.2.2.1 q.1.2.2.2.2.1 E scope q.1.2.2.2.2.2.1 q.1.2.2.2.2.2.2
         K := F.K, mg := F.mg, N := F.N, P := F.P, w := F.w, base := F.base, k := k
         eK := fun q => F.eK q.1.1, eM := fun q => F.eM q.1.1, eN := fun q => F.eN q.1.1, eP := fun q => F.eP q.1.1, eW := fun q => F.eW q.1.1, eB := fun q => F.eB q.1.1
         nd := F.nd, calm := fun _ => rfl, room := fun q => q.2.1, gu := fun q => q.2.2, own := fun _ => passes_of rfl }
  E := fun cls d _ H => E cls d H
  tk := fun _ => takes_of rfl rfl rfl rfl
/-- the def has a code object and a table of its own -/
structure LamIn (F : Fm) (T : List (Addr × Str)) : Prop where
  ex : ∃ (c P : Addr) (q : Str), (P, q ++ "<lambda>") ∈ T ∧ (∀ p ∈ T, p.1 = P → p.2 = q ++ "<lambda>") ∧ ∀ i, TabB F.base F.mg c P ∧ (F.X i).env.code = .ref c ∧ (F.X i).env.qual = q
structure LamK (K : Kx) (T : List (Addr × Str)) : Prop where
  tabs : ∀ m H, K.SI m H → Tabs T H
  ext : ∀ m H H1 P q, K.SI m H → (P, q) ∈ T → (∀ b o, b ≠ P → H b = some o → H1 b = some o) → Tabs T H1 → K.SI m H1
  inS : ∀ p ∈ T, K.S p.1
theorem lamK_st {fg : Fg} {d c l : Addr} {nC : Nat} {T : List (Addr × Str)} : LamK (stK fg d c l nC T) T where
  tabs := fun _ _ h => h.2
  ext := fun m H H1 P q h hp kp t => by
    obtain ⟨⟨cs, ls, k, h1, h2, h3, h4⟩, t0⟩ := h
    obtain ⟨ps, e, _⟩ := t0 _ hp
    have e : H P = some (.tbl ps) := e
    have ne : ∀ a o, H a = some o → (∀ ps, o ≠ .tbl ps) → a ≠ P := fun a o ha n z => by
      rw [z, e] at ha
      exact n ps (Option.some.inj ha).symm
    exact ⟨⟨cs, ls, k, kp _ _ (ne _ _ h1 fun _ z => by cases z) h1, kp _ _ (ne _ _ h2 fun _ z => by cases z) h2, kp _ _ (ne _ _ h3 fun _ z => by cases z) h3, h4⟩, t⟩
  inS := fun p hp => .inr ⟨p, hp, rfl⟩
section
variable {F : Fm}
/-- x(lambda: body) -/
theorem e_lam {sc : Scope} {T : List (Addr × Str)} {x a : Str} {st : Stmt} {c2 cl k : Nat} {fgs : FLm → (Vl → Prop) → Prop} {params : Arguments} {body : Expr} {scope : Scope} {fb : FX} {p lpos pos : Pos} (D : DfL F.P F.w F.K F.mg F.base x st a c2 fgs) (hb : BindP x st [a]) (LI : LamIn F T) (LK : LamK F.K T)
    (hx : ∀ E, Xy (lamFx F scope E k) body cl fb) (hr : k + 3 ≤ F.k := by exact Nat.le_of_ble_eq_true rfl) (hva : Vis (defScope st) a := by first | exact .inl rfl | exact .inr (.inl rfl)) (hg : ∀ i, Gl (F.X i) x := by intro _; rfl)
    (L : LamX.lamSB sc scope = true := by decide +kernel) (hsc : ∀ i, (F.X i).env.scope = sc := by intro _; rfl) (hdef : ∀ i, defaultsOf params (F.X i).env = ([], []) := by intro _; rfl)
    (hbind : ∀ (q : Str) (cl : List (Str × Addr)) (pm cv ctv : Value), bindArgs (PySem.W.kla_fn "<lambda>" q params body scope cl pm cv ctv) ⟨[], []⟩ = pure [] := by intro _ _ _ _ _; rfl)
    (hdb : (x == ("__debug__" : Str)) = false := by decide) (hd : (a == ("__debug__" : Str)) = false := by decide) (hcd : (a == ("__classdict__" : Str)) = false := by decide) :
    Ee F (.Call (.Name x p) [.Lambda params body scope lpos] [] pos) (cl + c2) (fun ρ R => fgs (fun R' EX' => fb ρ R' fun _ => EX') R) := by
  obtain ⟨fa, fd, N, hm, Fu, S, hN0, gives⟩ := D
  obtain ⟨c, P, q, hmT, hu, at_⟩ := LI
  have tb : ∀ E : XK, ∃ t, (∀ i, PE ((lamFx F scope E k).F.X i) body t) ∧ SEY F.K F.mg (lamFx F scope E k).E t cl fb := fun E => (hx E).ex
  refine ⟨tLamT P T (TTh F.K F.mg c2 fgs) (fun E => (tb E).choose), fun i => ?_, fun C σ ρ H R Q hlim G hf kk => ?_⟩
  · obtain ⟨TB, hcode, hq⟩ := at_ i
    have q1 := F.eK i
    have q2 := F.eM i
    have q3 := F.eP i
    have q4 := F.eW i
    have q5 := F.eB i
    refine lam_call (k := k) (hg i) (by rw [q2]; exact hm) (by rw [q1]; exact Fu) hb S hN0 hva (fun cdg => ?_) (by rw [q5, q2]; exact TB) hcode (by rw [hq]; exact hmT) (by rw [hq]; exact hu) ((F.room i).mono hr) (F.gu i) (LamX.lamS_by (by rw [hsc i]; exact L)) (hdef i) hbind
      (fun E A outer s H f c' h1 h2 => (tb E).choose_spec.1 ⟨(i, A, outer, s, H, f, c'), h1, h2⟩) hdb hd hcd
    exact gives (F.X i) cdg _ q3 q4 q1 q2 q5 (F.gu i)
  · refine ⟨LK.tabs _ _ G.si, fun H1 kp T1 => ?_⟩
    have t1 : Tr C.S (F.K.SI C.m) H H1 := ⟨fun a o ns e => kp a o (fun z => ns (by rw [G.eS, z]; exact LK.inS _ hmT)) e, LK.ext _ _ _ P _ G.si hmT kp T1⟩
    have G1 := G.tr t1
    refine ⟨bar C.B σ ρ, C.m, cl, _, R, G1.ctAll, G1.si, by omega, G1.bdAll, fun R' EX' E' Q' hL k1 k2 => ?_, hf, fun v H' x m' l u t2 o hR => ?_⟩
    · exact (tb E').choose_spec.2 C σ ρ H1 R' (fun _ => EX') Q' (by omega) G1 hL (fun v H' x m2 l u t2 o hR => k1 v H' x m2 l u (by rw [← G.eS]; exact t2) o hR) fun cls d H' b m2 l u t2 ob hb2 => k2 cls d H' b m2 l u (by rw [← G.eS]; exact t2) ob hb2
    · exact kk v H' x m' l u (t1.trans (by rw [G.eS]; exact t2)) o hR
end
/-! ### defs that make lambdas -/
theorem FnG.makeC {P : Program} {w : World} {K : Fg} {mg : Str → Option Value} {base : Heap} {CX : CXT} {k : Nat} {f : Addr} {x qual : Str} {st : Stmt} {fd : FuncData} {N ps : List Str} {sp : Sp} (F : Fun K x qual st f fd) (S : FnScope N ps (defScope st))
    (len : ∀ vs H Q E, sp vs H Q E → vs.length = ps.length)
    (body : ∀ (cd : Value) (A : Around) (outer : List PySem.Env) (s : Shared) (H : Hp) (vs : List V) (Q : VK) (E : XK), fd.code = cd → A.guards = some [] → Room k (A.deeper (envOfC qual (defScope st) s.heap.objs.size f cd)) → sp vs H Q E →
      ∃ t, PSs (cxOf CX P w K mg base N qual (defScope st) f cd A outer s H E) (defBody st) t ∧ t { nx := fun _ H' => Q .non H', rt := Q } (start N vs) H) : FnG P w K mg base CX (k + 1) f fd ps sp := by
  obtain ⟨oc, od, kV, doc, pm, an, cd, ct, osl, rfl, lk, hcd⟩ := F.ex
  refine ⟨len, fun A outer s H args us vs Q E hg hr e0 hb r q => ?_⟩
  have hl := len _ _ _ _ q
  have KX := e0.mod.kin.keeps fun b o e => (e0.bs b o e).1
  have nolim := e0.mod.nolimit.keeps fun b o e => (e0.bs b o e).1
  refine codeAny_call_function hr.depth (KX _ _ lk) rfl S.co S.gen rfl (PySem.W.codeRec_of KX hcd) (hb _ _ _ _ ?_)
  refine wpAny_newFunctionEnv_cells S.kind (fun ⟨n, v⟩ hy => ?_) fun env he s1 hx => ?_
  · rcases S.par n (List.of_mem_zip hy).1 with z | z
    · exact .inl z
    · exact .inr ⟨z, PySem.W.cellsFrom_some _ _ _ (.inl z)⟩
  subst he
  refine ⟨nolim.keeps hx.toInCall.keep, codeAny_func ?_⟩
  obtain ⟨t, ht, hq⟩ := body cd A outer s H vs Q E rfl hg (hr.deeper _) q
  have I := inv_start (CX := CX) (E := E) S hr.hd e0 hl r hx
  refine wpAny_mono (ht.run [] s1 (start N vs) H _ I hq) (fun fl s' hs => ?_) fun e s' hs => hs
  cases fl with
  | ret u => exact let ⟨v, σ', H', J, rv, q⟩ := hs; ⟨v, H', J.os, J.bare, J.base, J.hok, rv, q⟩
  | next => exact let ⟨σ', H', J, q⟩ := hs; ⟨.non, H', J.os, J.bare, J.base, J.hok, rfl, q⟩
  | brk => exact let ⟨_, _, _, q⟩ := hs; False.elim q
  | cont => exact let ⟨_, _, _, q⟩ := hs; False.elim q
theorem fn_makeC {P : Program} {w : World} {K : Kx} {mg : Str → Option Value} {base : Heap} {k cf : Nat} {fa : Addr} {x qual : Str} {st : Stmt} {fd : FuncData} {N ps : List Str} {f : FS} (Fu : Fun K x qual st fa fd) (S : FnScope N ps (defScope st)) (hN : ps.length ≤ N.length)
    (body : ∀ (cd : Value) (A : Around) (outer : List PySem.Env) (s : Shared) (H : Hp) (E : XK) (hr : Room k (A.deeper (envOfC qual (defScope st) s.heap.objs.size fa cd))) (hg : A.guards = some []), fd.code = cd →
      ∃ c g, c ≤ cf ∧ Es (fmOf P w K mg base N qual st fa cd A outer s H E k S.nd hr hg) (defBody st) c g ∧
        ∀ (xs : List Vl) (R : Vl → Prop), xs.length = ps.length → f xs R → g (xs.map Sl.v ++ List.replicate (N.length - ps.length) Sl.non) { nx := fun _ => R (.d .none), rt := R }) :
    FnG P w K mg base CX0 (k + 1) fa fd ps (spF K ps.length cf f) := by
  refine FnG.makeC Fu S (fun vs H Q E h => ?_) fun cd A outer s H vs Q E hcd hg hr h => ?_
  · obtain ⟨B, m, xs, R, _, _, _, _, hl, r, _⟩ := h
    rw [r.length, hl]
  · obtain ⟨B, m, xs, R, ct, si, hm, bd, hl, r, hf, kk⟩ := h
    obtain ⟨c, g, hc, ⟨t, pt, s1⟩, hgg⟩ := body cd A outer s H E hr hg hcd
    refine ⟨t, PSs.nox (pt ()), ?_⟩
    have hvl : vs.length = ps.length := by rw [r.length, hl]
    have est : L2.start N vs = vs.map some ++ List.replicate (N.length - ps.length) none := by unfold L2.start; rw [hvl]
    rw [est]
    have m0 : ∀ a, bar B (vs.map some ++ List.replicate (N.length - ps.length) none) (xs.map Sl.v ++ List.replicate (N.length - ps.length) Sl.non) a → B a := fun a z => by
      rcases z with z | ⟨i, ys, z, _⟩
      · exact z
      · exact (no_own z).elim
    refine s1 ⟨B, K.S, H, m⟩ _ (xs.map Sl.v ++ List.replicate (N.length - ps.length) Sl.non) H _ _ (by show m + c ≤ lim; omega) ⟨rfl, ct, si, bd, fun a o _ e => e, by simp [r.length], fun i y e => ?_, fun i ys e => (no_own e).elim, fun i j ys zs p e => (no_own e).elim⟩ (hgg xs R hl hf) ⟨?_, ?_, ?_, ?_⟩
    · obtain ⟨v, a, b⟩ := VlA.of_start _ r i y e
      exact ⟨v, a, b.mono (mask_sub m0)⟩
    · exact fun σ' ρ' H' m' a b G' _ h' => kk .non H' (.d .none) m' a (by have : m' ≤ m + c := b; omega) ⟨fun a o n e => G'.fr a o n e, G'.si⟩ Rd.non h'
    · exact fun _ _ _ _ _ _ _ _ z => z.elim
    · exact fun _ _ _ _ _ _ _ _ z => z.elim
    · exact fun v H' y m' a b si' fr' o h' => kk v H' y m' a (by have : m' ≤ m + c := b; omega) ⟨fr', si'⟩ o h'
theorem lamIn_of {P : Program} {w : World} {K : Kx} {mg : Str → Option Value} {base : Heap} {T : List (Addr × Str)} {x : Str} {st : Stmt} {N : List Str} {fa : Addr} {fd : FuncData} {cd : Value} {A : Around} {outer : List PySem.Env} {s : Shared} {H : Hp} {E : XK} {k : Nat} {nd : N.Nodup}
    {hr : Room k (A.deeper (envOfC x (defScope st) s.heap.objs.size fa cd))} {hg : A.guards = some []} (LT : LamT K mg base T x st (x ++ ".<locals>.")) (hm : mg x = some (.ref fa)) (Fu : Fun K x x st fa fd) (hc : fd.code = cd) : LamIn (fmOf P w K mg base N x st fa cd A outer s H E k nd hr hg) T := by
  obtain ⟨fa', c, P', m1, h1, h2, h3, h4⟩ := LT
  cases hm.symm.trans m1
  exact ⟨c, P', _, h3, h4, fun _ => ⟨h2, hc.symm.trans (h1 fd Fu), rfl⟩⟩
end Px

set_option Elab.async false
set_option linter.all false
set_option maxRecDepth 100000
set_option maxHeartbeats 4000000
/-! PxSetN: sets of numbers' tuples, nested as one likes: what is asked of a member, the search, adding. -/
namespace Px
open PySem PySem.Spec PyProof.Rows L2
mutual
/-- numbers alone -/
def numK : NestedKey → Bool
  | .num _ => true
  | .tup ks => numKs ks
  | .none => false
  | .text _ => false
def numKs : List NestedKey → Bool
  | [] => true
  | k :: ks => numK k && numKs ks
end
section
variable {P : Program} {w : World} {A : Around} {E : Value → Shared → Prop} {s : Shared}
mutual
theorem hashBy_key : ∀ (k : NestedKey) (v : Value) (n : Nat) (Q : Bool → Shared → Prop), NestedIs s.heap k v → k.depth ≤ n → numK k = true → Q true s → wpAny (model P w) A (hashByValue n v) Q E s
  | .none, _, _, _, _, _, c, _ => by cases c
  | .text _, _, _, _, _, _, c, _ => by cases c
  | .num i, _, n, Q, x, _, _, q => by
    cases x with
    | bool e => cases n <;> exact wpAny_pure q
    | int _ t => cases n <;> exact wpAny_pure q
  | .tup ks, _, 0, _, _, hn, _, _ => by simp only [NestedKey.depth] at hn; omega
  | .tup ks, _, n + 1, Q, x, hn, c, q => by
    cases x with
    | @tup b o vs m _ hg hc hd hk =>
      have each := hashBy_keys ks vs.toList n hk (by simp only [NestedKey.depth] at hn; omega) c
      unfold hashByValue
      refine wpAny_bind (wpAny_specialOf (show s.TypeIs (.ref b) "tuple" from ⟨o, hg, hc⟩) F.slot_tuple_hash.lookup ?_)
      show wpAny _ _ (seqItems? (.ref b) >>= _) _ _ s
      refine wpAny_bind (wpAny_seqItems hg hd (wpAny_bind ?_))
      show wpAny _ _ (forIn vs _ _) _ _ s
      rw [← Array.forIn_toList]
      refine wpAny_forIn_list _ (fun more r z => (r.1 = none ∧ z = s) ∧ ∀ v ∈ more, v ∈ vs.toList) _ ?_ ?_ _ _ ⟨⟨rfl, rfl⟩, fun v hv => hv⟩
      · rintro v more r z ⟨⟨hr, rfl⟩, all⟩
        refine wpAny_bind (each v (all v (List.mem_cons_self ..)) _ ?_)
        simp only [Bool.not_true, Bool.false_eq_true, if_false]
        exact wpAny_pure ⟨⟨rfl, rfl⟩, fun u hu => all u (List.mem_cons_of_mem _ hu)⟩
      · rintro ⟨r1, r2⟩ z ⟨⟨hr, rfl⟩, _⟩
        cases (show r1 = none from hr)
        exact wpAny_pure q
theorem hashBy_keys : ∀ (ks : List NestedKey) (vs : List Value) (n : Nat), NestedAll s.heap ks vs → NestedKey.depthAll ks ≤ n → numKs ks = true → ∀ v ∈ vs, ∀ Q : Bool → Shared → Prop, Q true s → wpAny (model P w) A (hashByValue n v) Q E s
  | [], _, _, x, _, _, v, hv, _, _ => by cases x; cases hv
  | k :: ks, _, n, x, hn, c, v, hv, Q, q => by
    cases x with
    | cons x1 x2 =>
      simp only [NestedKey.depthAll] at hn
      simp only [numKs, Bool.and_eq_true] at c
      rcases List.mem_cons.mp hv with e | hv
      · rw [e]; exact hashBy_key k _ n Q x1 (by omega) c.1 q
      · exact hashBy_keys ks _ n x2 (by omega) c.2 v hv Q q
end
mutual
theorem plainly_key : ∀ (k : NestedKey) (v : Value) (n : Nat) (Q : Bool → Shared → Prop), NestedIs s.heap k v → k.depth ≤ n → numK k = true → Q false s → wpAny (model P w) A (ofAClassStatement n v) Q E s
  | .none, _, _, _, _, _, c, _ => by cases c
  | .text _, _, _, _, _, _, c, _ => by cases c
  | .num i, _, n, Q, x, _, _, q => by
    cases x with
    | bool e => cases n <;> exact wpAny_pure q
    | int _ t => cases n <;> exact wpAny_pure q
  | .tup ks, _, 0, _, _, hn, _, _ => by simp only [NestedKey.depth] at hn; omega
  | .tup ks, _, n + 1, Q, x, hn, c, q => by
    cases x with
    | @tup b o vs m _ hg hc hd hk =>
      have each := plainly_keys ks vs.toList n hk (by simp only [NestedKey.depth] at hn; omega) c
      unfold ofAClassStatement
      refine wpAny_bind (wpAny_typeOf (show s.TypeIs (.ref b) "tuple" from ⟨o, hg, hc⟩) ?_)
      dsimp only
      have e : (("tuple" : String) == "tuple") = true := by decide
      simp only [e, if_true]
      refine wpAny_bind (wpAny_pure ?_)
      simp only [Bool.not_true, Bool.false_eq_true, if_false]
      show wpAny _ _ (seqItems? (.ref b) >>= _) _ _ s
      refine wpAny_bind (wpAny_seqItems hg hd ?_)
      dsimp only
      refine wpAny_bind ?_
      show wpAny _ _ (forIn vs _ _) _ _ s
      rw [← Array.forIn_toList]
      refine wpAny_forIn_list _ (fun more r z => (r.1 = none ∧ z = s) ∧ ∀ v ∈ more, v ∈ vs.toList) _ ?_ ?_ _ _ ⟨⟨rfl, rfl⟩, fun v hv => hv⟩
      · rintro v more r z ⟨⟨hr, rfl⟩, all⟩
        refine wpAny_bind (each v (all v (List.mem_cons_self ..)) _ ?_)
        simp only [Bool.false_eq_true, if_false]
        exact wpAny_pure ⟨⟨rfl, rfl⟩, fun u hu => all u (List.mem_cons_of_mem _ hu)⟩
      · rintro ⟨r1, r2⟩ z ⟨⟨hr, rfl⟩, _⟩
        cases (show r1 = none from hr)
        exact wpAny_pure q
theorem plainly_keys : ∀ (ks : List NestedKey) (vs : List Value) (n : Nat), NestedAll s.heap ks vs → NestedKey.depthAll ks ≤ n → numKs ks = true → ∀ v ∈ vs, ∀ Q : Bool → Shared → Prop, Q false s → wpAny (model P w) A (ofAClassStatement n v) Q E s
  | [], _, _, x, _, _, v, hv, _, _ => by cases x; cases hv
  | k :: ks, _, n, x, hn, c, v, hv, Q, q => by
    cases x with
    | cons x1 x2 =>
      simp only [NestedKey.depthAll] at hn
      simp only [numKs, Bool.and_eq_true] at c
      rcases List.mem_cons.mp hv with e | hv
      · rw [e]; exact plainly_key k _ n Q x1 (by omega) c.1 q
      · exact plainly_keys ks _ n x2 (by omega) c.2 v hv Q q
end
end
/-- the tuple at b is the key k, of numbers alone -/
def IsN (P : Program) (w : World) (h : Heap) (k : NestedKey) (b : Addr) : Prop := (nestedKind P w).is h k b ∧ numK k = true
abbrev nh (w : World) (k : NestedKey) : Int := k.hash w
section
variable {P : Program} {w : World} {A : Around} {E : Value → Shared → Prop} {s : Shared}
theorem IsN.inj {h : Heap} {k k' : NestedKey} {b : Addr} (x : IsN P w h k b) (y : IsN P w h k' b) : k = k' := (nestedKind P w).inj x.1 y.1
theorem IsN.at {h h' : Heap} {k : NestedKey} {b : Addr} (x : IsN P w h k b) (hk : ∀ c o, h.get? c = some o → h'.get? c = some o) : IsN P w h' k b := ⟨nestedKind_stays.stays (fun c o _ _ e _ => hk c o e) x.1, x.2⟩
/-- the set's own object may change -/
theorem IsN.by_set {h h' : Heap} {k : NestedKey} {a b : Addr} {o : Obj} {es : Array (Int × Value)} {ep : Nat} {t : SetTable} (x : IsN P w h k b) (ho : h.get? a = some o) (hd : o.data = .set es ep t) (hs : Heap.SameBut a h h') : IsN P w h' k b :=
  ⟨nestedKind_stays.stays (fun c u vs n e hv => (hs.2 c fun z => by
    rw [z, ho] at e
    cases e
    rw [hd] at hv
    cases hv).trans e) x.1, x.2⟩
theorem shows_none {k : NestedKey} {b : Addr} {Q : Bool → Shared → Prop} (x : IsN P w s.heap k b) {ys : List Value} (hy : ∀ y ∈ ys, ∃ k' c, y = Value.ref c ∧ IsN P w s.heap k' c) (q : Q false s) : wpAny (model P w) A (searchCouldBeSeen (.ref b) ys) Q E s := by
  unfold searchCouldBeSeen
  refine wpAny_bind (wpAny_forIn_list _ (fun more r z => (r.1 = none ∧ z = s) ∧ ∀ y ∈ more, y ∈ ys) _ ?_ ?_ _ _ ⟨⟨rfl, rfl⟩, fun y h => h⟩)
  · rintro v more r z ⟨⟨hr, rfl⟩, all⟩
    obtain ⟨k', c, rfl, y⟩ := hy v (all v (List.mem_cons_self ..))
    have nx : ∀ u ∈ more, u ∈ ys := fun u hu => all u (List.mem_cons_of_mem _ hu)
    dsimp only
    by_cases hv : (b == c || (carriedByValue (.ref b) && carriedByValue (.ref c))) = true
    · exact wp_if_pos hv (wpAny_pure ⟨⟨rfl, rfl⟩, nx⟩)
    · refine wp_if_neg hv (wpAny_bind ((nestedKind P w).quiet x.1 ?_))
      simp only [Bool.not_true, Bool.false_eq_true, if_false]
      refine wpAny_bind ((nestedKind P w).quiet y.1 ?_)
      simp only [Bool.not_true, Bool.false_eq_true, if_false]
      refine wpAny_bind (plainly_key k _ 8 _ x.1.1 x.1.2 x.2 ?_)
      simp only [Bool.false_eq_true, if_false]
      refine wpAny_bind (plainly_key k' _ 8 _ y.1.1 y.1.2 y.2 ?_)
      simp only [Bool.false_eq_true, if_false]
      exact wpAny_pure ⟨⟨rfl, rfl⟩, nx⟩
  · rintro ⟨r1, r2⟩ z ⟨⟨hr, rfl⟩, _⟩
    cases (show r1 = none from hr)
    exact wpAny_pure q
end
end Px

set_option Elab.async false
set_option linter.all false
set_option maxRecDepth 100000
set_option maxHeartbeats 4000000
/-! PxSetM: a set of such members by its table: the search, laying anew, adding. -/
namespace Px
open PySem PySem.Spec PyProof.Rows L2
def setRows (w : World) (L : List (Addr × NestedKey)) : List (Int × Value) := L.map fun m => (nh w m.2, Value.ref m.1)
structure SetN (P : Program) (w : World) (h : Heap) (a : Addr) (L : List (Addr × NestedKey)) (es : Array (Int × Value)) (ep : Nat) (t : SetTable) : Prop where
  obj : ∃ o, h.get? a = some o ∧ o.ExactSet ∧ o.data = .set es ep t
  rows : es.toList = setRows w L
  tab : L2.TabOk t (L.map fun m => nh w m.2)
  nodup : (L.map (·.2)).Nodup
  keys : ∀ m ∈ L, IsN P w h m.2 m.1
  plain : t.plain = true
  led : w.params.followText "set-order" = true ∨ t.led = true
  wide : L.length * 5 < t.mask * 3
  few : L.length < 64
section
variable {P : Program} {w : World} {A : Around} {E : Value → Shared → Prop} {s : Shared} {a : Addr} {L : List (Addr × NestedKey)} {es : Array (Int × Value)} {ep : Nat} {t : SetTable}
theorem setRows_len {es : Array (Int × Value)} {L : List (Addr × NestedKey)} (h : es.toList = setRows w L) : es.size = L.length := by
  have q := congrArg List.length h
  rw [Array.length_toList] at q
  rw [q]; exact List.length_map _
theorem fits_of {t : SetTable} {n m : Nat} (h1 : t.place.size = n) (h2 : t.dummies = #[]) (h3 : n ≤ t.mask) (e : m = n) : t.fits m = true := by
  subst e
  unfold SetTable.fits SetTable.fill
  rw [h2, Bool.and_eq_true, beq_iff_eq, decide_eq_true_eq]
  refine ⟨h1, ?_⟩
  show t.place.size + 0 ≤ t.mask
  omega
theorem SetN.fits (R : SetN P w s.heap a L es ep t) : t.fits es.size = true := by
  have q := R.tab.sz
  rw [List.length_map] at q
  have u := R.wide
  exact fits_of q R.tab.dm (by omega) (setRows_len R.rows)
theorem SetN.at_ (R : SetN P w s.heap a L es ep t) {i : Nat} {m : Addr × NestedKey} (h : L[i]? = some m) : es[i]? = some (nh w m.2, Value.ref m.1) := by
  rw [← Array.getElem?_toList, R.rows, setRows, List.getElem?_map, h] <;> rfl
theorem SetN.not_gw (R : SetN P w s.heap a L es ep t) : ¬ t.gaveWay = true := by
  unfold SetTable.gaveWay
  rw [mask_odd R.tab.mok]
  decide
/-- the first state of a search for a hash -/
abbrev prb (t : SetTable) (h : Int) : SetTable.Probe := runAt t.mask (SetTable.bits h % (t.mask + 1)) (SetTable.bits h)
theorem no_dummy {m : Nat} : ∀ (n : Nat) (p : SetTable.Probe), p.dummy = none → (L2.nth m p n).dummy = none
  | 0, _, h => h
  | n + 1, p, h => no_dummy n (adv m p) (by unfold adv; split <;> exact h)
/-- the search, the first c places of the way behind it -/
theorem seek (R : SetN P w s.heap a L es ep t) {x : Addr} {k : NestedKey} (hx : IsN P w s.heap k x) (hu : A.units + 8 < cLine) {Z : Nat} (hZ : Z < 10 * SetTable.turns t.mask)
    (free : way t.mask (nh w k) Z ∉ t.place.toList) (taken : ∀ c < Z, way t.mask (nh w k) c ∈ t.place.toList) {Q : SetFound → Shared → Prop} (qin : k ∈ L.map (·.2) → Q (.there none) s) (qout : k ∉ L.map (·.2) → Q (.free (way t.mask (nh w k) Z) false) s) :
    ∀ (f c : Nat) (st : Option SetTable.Probe), st.getD (t.probeStart (nh w k)) = L2.nth t.mask (prb t (nh w k)) c → c ≤ Z → Z - c < f →
      (∀ (i : Nat) m, L[i]? = some m → m.2 = k → ∃ c', c ≤ c' ∧ c' < Z ∧ t.place.toList[i]? = some (way t.mask (nh w k) c')) → wpAny (model P w) A (setSearchFrom a (.ref x) (nh w k) true f st) Q E s
  | 0, c, st, _, _, hf, _ => absurd hf (Nat.not_lt_zero _)
  | f + 1, c, st, hst, hc, hf, ahead => by
    obtain ⟨o, ho, hex, hd⟩ := R.obj
    rw [setSearchFrom_succ]
    refine wpAny_bind (wpAny_setState_of ho hd R.fits ?_)
    dsimp only
    refine wp_if_neg R.not_gw ?_
    try refine wpAny_bind (wpAny_pure ?_)
    have shift : ∀ q, L2.nth t.mask (L2.nth t.mask (prb t (nh w k)) c) q = L2.nth t.mask (prb t (nh w k)) (c + q) := fun q => (nth_add t.mask c _ q).symm
    have shiftJ : ∀ q, (L2.nth t.mask (L2.nth t.mask (prb t (nh w k)) c) q).j = way t.mask (nh w k) (c + q) := fun q => congrArg SetTable.Probe.j (shift q)
    have hcz : c + (Z - c) = Z := by omega
    have hashes : ∀ (i : Nat) m, L[i]? = some m → (fun i => (es[i]?.map (·.1)).getD 0) i = nh w m.2 := fun i m hm => by
      show (es[i]?.map (·.1)).getD 0 = _
      rw [R.at_ hm] <;> rfl
    rcases go_spec t R.tab.ris R.tab.dm (fun i => (es[i]?.map (·.1)).getD 0) (nh w k) (10 * SetTable.turns t.mask) (Z - c) _ (no_dummy c (prb t (nh w k)) rfl) (by omega) (fun q hq => by rw [shiftJ]; exact taken (c + q) (by omega)) (by rw [shiftJ, hcz]; exact free) with ⟨q, i, hq, hi, hh, hno, hpr⟩ | ⟨hno, hpr⟩
    · have hpr' : t.probe (fun i => (es[i]?.map (·.1)).getD 0) (nh w k) (st.getD (t.probeStart (nh w k))) = some (.candidate (way t.mask (nh w k) (c + q)) i (L2.nth t.mask (prb t (nh w k)) (c + (q + 1)))) := by
        rw [hst, ← shiftJ, ← shift]; exact hpr
      rw [hpr']
      dsimp only
      rw [shiftJ] at hi
      have hil : i < L.length := by
        have b1 := (List.getElem?_eq_some_iff.mp hi).1
        have b2 := R.tab.sz
        rw [List.length_map] at b2
        rw [Array.length_toList] at b1
        omega
      obtain ⟨m, hm⟩ : ∃ m, L[i]? = some m := ⟨_, List.getElem?_eq_getElem hil⟩
      have mem : m ∈ L := List.mem_of_getElem? hm
      have here : t.slot (way t.mask (nh w k) (c + q)) = .live i := slot_live R.tab.ris hi
      have behind : wpAny (model P w) A (searchRest a (.ref x) (nh w k) true f es t (way t.mask (nh w k) (c + q)) i (L2.nth t.mask (prb t (nh w k)) (c + (q + 1)))) Q E s := by
        unfold searchRest
        rw [R.at_ hm]
        dsimp only
        refine wpAny_bind (wpAny_holding ((nestedKind P w).eqBool hu (R.keys m mem).1 hx.1 (wpAny_bind (wpAny_setState_of ho hd R.fits ?_))))
        dsimp only
        by_cases same : m.2 = k
        · exact wp_if_pos (by simp [same]) (wpAny_pure (qin (List.mem_map.mpr ⟨m, mem, same⟩)))
        · refine wp_if_neg (by simp [same]) ?_
          try refine wpAny_bind (wpAny_pure ?_)
          rw [sameMem]
          dsimp only
          simp only [if_true, here, R.at_ hm]
          refine wpAny_bind (wpAny_isSame_ref_self (wpAny_bind (wpAny_pure ?_)))
          simp only [if_true]
          refine wp_if_neg (by simp [same]) (seek R hx hu hZ free taken qin qout f (c + (q + 1)) _ rfl (by omega) (by omega) fun i' m' hm' hk' => ?_)
          obtain ⟨c', l1, l2, l3⟩ := ahead i' m' hm' hk'
          rcases Nat.lt_trichotomy c' (c + q) with z | z | z
          · have at' : c + (c' - c) = c' := by omega
            exact absurd ((hashes i' m' hm').trans (congrArg (nh w) hk')) (hno (c' - c) i' (by omega) (by rw [shiftJ, at']; exact l3))
          · rw [z] at l3
            have two := slot_live R.tab.ris l3
            rw [here] at two
            injection two with two
            rw [← two, hm] at hm'
            exact absurd ((congrArg Prod.snd (Option.some.inj hm')).trans hk') same
          · exact ⟨c', by omega, l2, l3⟩
      by_cases hl : t.led = true
      · refine wp_if_neg (by simp [hl]) ?_
        try refine wpAny_bind (wpAny_pure ?_)
        exact behind
      · refine wp_if_pos (by simp [hl]) (wpAny_bind (shows_none hx (fun y hy => ?_) (wp_if_neg (by decide) ?_)))
        · obtain ⟨e, he, ee⟩ := List.mem_map.mp hy
          have he' : e ∈ es ∧ e.1 = nh w k := by simpa using he
          have he2 : e ∈ es.toList := by simpa using he'.1
          rw [R.rows] at he2
          obtain ⟨m2, hm2, e2⟩ := List.mem_map.mp he2
          exact ⟨m2.2, m2.1, by rw [← ee, ← e2], R.keys m2 hm2⟩
        · try refine wpAny_bind (wpAny_pure ?_)
          exact behind
    · have hpr' : t.probe (fun i => (es[i]?.map (·.1)).getD 0) (nh w k) (st.getD (t.probeStart (nh w k))) = some (.empty (way t.mask (nh w k) Z) none) := by
        have e2 : way t.mask (nh w k) Z = (L2.nth t.mask (L2.nth t.mask (prb t (nh w k)) c) (Z - c)).j := by rw [shiftJ, hcz]
        rw [hst, e2]; exact hpr
      rw [hpr']
      dsimp only
      refine wpAny_pure (qout fun hm => ?_)
      obtain ⟨m0, h0, hk0⟩ := List.mem_map.mp hm
      obtain ⟨i0, hi0, e0⟩ := List.getElem_of_mem h0
      have h00 : L[i0]? = some m0 := by rw [List.getElem?_eq_getElem hi0, e0]
      obtain ⟨c', l1, l2, l3⟩ := ahead i0 m0 h00 hk0
      have at' : c + (c' - c) = c' := by omega
      exact hno (c' - c) i0 (by omega) (by rw [shiftJ, at']; exact l3) ((hashes i0 m0 h00).trans (congrArg (nh w) hk0))
theorem seek_all (R : SetN P w s.heap a L es ep t) {x : Addr} {k : NestedKey} (hx : IsN P w s.heap k x) (hu : A.units + 8 < cLine) {Q : SetFound → Shared → Prop} (qin : k ∈ L.map (·.2) → Q (.there none) s)
    (qout : ∀ Z, k ∉ L.map (·.2) → way t.mask (nh w k) Z ∉ t.place.toList → (∀ c < Z, way t.mask (nh w k) c ∈ t.place.toList) → Q (.free (way t.mask (nh w k) Z) false) s) : wpAny (model P w) A (setSearch a (.ref x) (nh w k) true) Q E s := by
  have wd := R.wide
  obtain ⟨Z, hZ, free, taken⟩ := R.tab.first (by rw [List.length_map]; omega) (nh w k)
  have big : 10 * SetTable.turns t.mask ≤ 1420 := by
    unfold SetTable.turns
    rcases R.tab.mok with e | e | e <;> omega
  unfold setSearch
  refine seek R hx hu hZ free taken qin (fun hn => qout Z hn free taken) 100000 0 none rfl (Nat.zero_le _) (by omega) fun i m hm hk => ?_
  have hi : (L.map fun m => nh w m.2)[i]? = some (nh w k) := by rw [List.getElem?_map, hm, ← hk] <;> rfl
  have hil : i < t.place.toList.length := by
    have b1 := (List.getElem?_eq_some_iff.mp hm).1
    have b2 := R.tab.sz
    rw [List.length_map] at b2
    rw [Array.length_toList]; omega
  obtain ⟨c, hc, e⟩ := R.tab.before free hi (List.getElem?_eq_getElem hil)
  exact ⟨c, Nat.zero_le _, hc, by rw [List.getElem?_eq_getElem hil, e]⟩
end
end Px

set_option Elab.async false
set_option linter.all false
set_option maxRecDepth 100000
set_option maxHeartbeats 4000000
/-! PxSetA: adding to such a set. -/
namespace Px
open PySem PySem.Spec PyProof.Rows L2
section
variable {P : Program} {w : World} {A : Around} {E : Value → Shared → Prop} {s : Shared} {a : Addr} {L : List (Addr × NestedKey)} {es : Array (Int × Value)} {ep : Nat} {t : SetTable}
/-- rows taken in another order -/
theorem rows_order (ord : Array Nat) (hr : es.toList = setRows w L) (hp : ord.toList.Perm (List.range L.length)) :
    ∃ M, (ord.filterMap (es[·]?)).toList = setRows w M ∧ M.Perm L ∧ (M.map fun m => nh w m.2) = ord.toList.map fun i => (es.map (·.1)).getD i 0 := by
  have hsz := setRows_len hr
  have at' : ∀ i (h : i < L.length), es[i]? = some (nh w (L[i]).2, Value.ref (L[i]).1) := fun i h => by
    rw [← Array.getElem?_toList, hr, setRows, List.getElem?_map, List.getElem?_eq_getElem h] <;> rfl
  have walk : ∀ l : List Nat, (∀ i ∈ l, i < L.length) → l.filterMap (fun i => es[i]?) = setRows w (l.filterMap fun i => L[i]?) ∧ ((l.filterMap fun i => L[i]?).map fun m => nh w m.2) = l.map fun i => (es.map (·.1)).getD i 0 := fun l => by
    induction l with
    | nil => intro _; exact ⟨rfl, rfl⟩
    | cons i l ih =>
      intro hl
      have hi := hl i (List.mem_cons_self ..)
      obtain ⟨e1, e2⟩ := ih fun j hj => hl j (List.mem_cons_of_mem _ hj)
      rw [List.filterMap_cons_some (at' i hi), List.filterMap_cons_some (List.getElem?_eq_getElem hi), e1]
      refine ⟨rfl, ?_⟩
      rw [List.map_cons, List.map_cons, e2]
      congr 1
      rw [Array.getD_eq_getD_getElem?, Array.getElem?_map, at' i hi] <;> rfl
  obtain ⟨e1, e2⟩ := walk ord.toList fun i hi => List.mem_range.mp (hp.mem_iff.mp hi)
  refine ⟨_, by rw [Array.toList_filterMap]; exact e1, ?_, e2⟩
  have q := hp.filterMap fun i => L[i]?
  refine q.trans (List.Perm.of_eq ?_)
  have all : ∀ M : List (Addr × NestedKey), (List.range M.length).filterMap (fun i => M[i]?) = M := fun M => by
    have z := PySem.W.krv_all M.toArray
    simpa using z
  exact all L
/-- the table laid anew, larger -/
theorem relaid_set {o : Obj} (ho : s.heap.get? a = some o) (hex : o.ExactSet) (hd : o.data = .set es ep t) (hr : es.toList = setRows w L) (h1 : t.place.size = es.size) (h2 : t.dummies = #[]) (h3 : es.size ≤ t.mask) (nd : (L.map (·.2)).Nodup) (keys : ∀ m ∈ L, IsN P w s.heap m.2 m.1)
    (pl : t.plain = true) (ld : w.params.followText "set-order" = true ∨ t.led = true) (few : L.length < 64) {wanted M : Nat} (hw : SetTable.sizeAbove wanted - 1 = M) (hM : MaskOk M) (hw2 : SetTable.sizeAbove wanted ≤ 128) (hn : L.length * 5 < M * 3) {Q : Unit → Shared → Prop}
    (q : ∀ h' L' es' ep' t', Heap.SameBut a s.heap h' → SetN P w h' a L' es' ep' t' → L'.Perm L → Q () { s with heap := h' }) : wpAny (model P w) A (setRelay a wanted) Q E s := by
  have hsl := setRows_len hr
  obtain ⟨t', ord, e, hp, T, em, el, epl, ed⟩ := relaid_ok t (hs := es.map (·.1)) (wanted := wanted) hw hM (by rw [Array.size_map, hsl]; omega)
  rw [Array.size_map, hsl] at hp
  obtain ⟨L2, r1, r2, r3⟩ := rows_order ord hr hp
  rw [← r3] at T
  have hs2 := setRows_len r1
  rw [r2.length_eq] at hs2
  rw [setRelay_eq]
  refine wpAny_bind (wpAny_setState_of ho hd (fits_of h1 h2 h3 rfl) ?_)
  dsimp only
  refine wp_if_neg (by rw [sizeLine_eq]; omega) ?_
  try refine wpAny_bind (wpAny_pure ?_)
  rw [e]
  dsimp only
  refine wpAny_bind (wp_if_neg (by rw [hs2, hsl]; simp) ?_)
  try refine wpAny_bind (wpAny_pure ?_)
  refine wpAny_pure ?_
  dsimp only
  refine wpAny_storeSet_of ho hd ?_ (by rw [hs2, sizeLine_eq]; omega)
  have sb : Heap.SameBut a s.heap (s.heap.update a (Obj.putSet (ord.filterMap (es[·]?)) t')) := Heap.SameBut.update ..
  exact q _ L2 _ (ep + 1) t' sb ⟨⟨_, store_at ho hd, ⟨hex.1, hex.2.1, hex.2.2⟩, rfl⟩, r1, T, (r2.map (·.2)).nodup_iff.mpr nd, fun m hm => (keys m (r2.mem_iff.mp hm)).by_set ho hd sb, by rw [epl]; exact pl, by rw [el]; exact ld, by rw [r2.length_eq, em]; exact hn, by rw [r2.length_eq]; exact few⟩ r2
/-- one more -/
theorem add_one (R : SetN P w s.heap a L es ep t) {x : Addr} {k : NestedKey} (hx : IsN P w s.heap k x) (hu : A.units + 8 < cLine) (room : L.length + 1 < 64) {Q : Bool → Shared → Prop}
    (q : ∀ b h' L' es' ep' t', Heap.SameBut a s.heap h' → SetN P w h' a L' es' ep' t' → (k ∈ L.map (·.2) → L' = L) → (k ∉ L.map (·.2) → L'.Perm ((x, k) :: L)) → Q b { s with heap := h' }) : wpAny (model P w) A (setAddHashed a (.ref x) (nh w k)) Q E s := by
  obtain ⟨o, ho, hex, hd⟩ := R.obj
  have hsl := setRows_len R.rows
  have wd := R.wide
  unfold setAddHashed
  refine wpAny_holding ?_
  rw [show (100000 : Nat) = 99999 + 1 from rfl, setAddHashedIn_succ]
  refine wpAny_bind (wpAny_setState_of ho hd R.fits ?_)
  dsimp only
  refine wp_if_neg (by simp [byScan, Value.scannable]) ?_
  try refine wpAny_bind (wpAny_pure ?_)
  refine wpAny_bind (seek_all R hx hu (fun hm => ?_) fun Z hm free taken => ?_)
  · exact wpAny_pure (q false s.heap L es ep t (Heap.SameBut.refl a s.heap) R (fun _ => rfl) fun z => absurd hm z)
  dsimp only
  refine wpAny_bind (wpAny_setState_of ho hd R.fits ?_)
  dsimp only
  obtain ⟨q1, q2, q3, q4, q5, q6, q7, q8, q9⟩ := R.tab.put free taken
  have pl1 : (t.put (way t.mask (nh w k) Z)).1.plain = true := by rw [q6]; exact R.plain
  generalize hpt : t.put (way t.mask (nh w k) Z) = tp at q1 q3 q4 q5 q6 q7 q8 q9 pl1 ⊢
  obtain ⟨t1, p⟩ := tp
  dsimp only at q1 q3 q4 q5 q6 q7 q8 q9 pl1 ⊢
  subst q1
  have hby : ∀ {Q' : Bool → Shared → Prop}, Q' true s → wpAny (model P w) A (hashByValue 8 (.ref x)) Q' E s := fun q' => hashBy_key k _ 8 _ hx.1.1 hx.1.2 hx.2 q'
  first
    | (refine wpAny_bind ?_; refine wp_if_pos pl1 ?_; refine hby ?_)
    | refine wp_if_pos pl1 (wpAny_bind (hby ?_))
  simp only [if_true]
  have into : (SetTable.insertAt es (SetTable.below t.place (way t.mask (nh w k) Z)) (nh w k, Value.ref x)).toList = setRows w (L.take (SetTable.below t.place (way t.mask (nh w k) Z)) ++ (x, k) :: L.drop (SetTable.below t.place (way t.mask (nh w k) Z))) := by
    rw [SetTable.toList_insertAt, R.rows, setRows, setRows, List.map_append, List.map_cons, List.map_take, List.map_drop]
  generalize SetTable.below t.place (way t.mask (nh w k) Z) = p at q2 q3 into ⊢
  have pm := put_perm L p (x, k)
  have len1 : (L.take p ++ (x, k) :: L.drop p).length = L.length + 1 := pm.length_eq
  have hs1 : (L.take p ++ (x, k) :: L.drop p).map (fun m => nh w m.2) = (L.map fun m => nh w m.2).take p ++ nh w k :: (L.map fun m => nh w m.2).drop p := by
    rw [List.map_append, List.map_cons, List.map_take, List.map_drop]
  rw [← hs1] at q3
  have nd1 : ((L.take p ++ (x, k) :: L.drop p).map (·.2)).Nodup := (pm.map (·.2)).nodup_iff.mpr (by
    rw [List.map_cons]; exact List.nodup_cons.mpr ⟨hm, R.nodup⟩)
  have es1z := setRows_len into
  rw [len1] at es1z
  generalize SetTable.insertAt es p (nh w k, Value.ref x) = es1 at into es1z ⊢
  generalize L.take p ++ (x, k) :: L.drop p = L1 at pm len1 q3 nd1 into
  refine wpAny_bind (wpAny_storeSet_of ho hd ?_ (by rw [es1z, sizeLine_eq]; omega))
  have sb : Heap.SameBut a s.heap (s.heap.update a (Obj.putSet es1 t1)) := Heap.SameBut.update ..
  have ho1 := store_at (es' := es1) (t' := t1) ho hd
  generalize s.heap.update a (Obj.putSet es1 t1) = h1 at sb ho1 ⊢
  have keys1 : ∀ m ∈ L1, IsN P w h1 m.2 m.1 := fun m hm' => by
    rcases List.mem_cons.mp (pm.mem_iff.mp hm') with e | hm'
    · rw [e]; exact hx.by_set ho hd sb
    · exact (R.keys m hm').by_set ho hd sb
  have ld1 : w.params.followText "set-order" = true ∨ t1.led = true := by rw [q5]; exact R.led
  by_cases full : t1.tooFull = true
  · first
      | (refine wpAny_bind ?_; refine wp_if_pos (by simp [full]) ?_)
      | (refine wp_if_pos (by simp [full]) ?_; refine wpAny_bind ?_)
    have hfull : (L.length + 1) * 5 ≥ t1.mask * 3 := by
      have h := full
      unfold SetTable.tooFull at h
      rw [decide_eq_true_eq, q9, List.length_map] at h
      exact h
    rw [hsl]
    have h1z : t1.place.size = es1.size := by
      have h := q3.sz
      rw [List.length_map, len1] at h
      rw [h, es1z]
    have two : (t.mask = 7 ∧ L.length = 4) ∨ (t.mask = 31 ∧ L.length = 18) := by
      rw [q4] at hfull
      rcases R.tab.mok with e | e | e <;> rw [e] at hfull wd ⊢ <;> omega
    have anew : ∀ M, SetTable.sizeAbove (SetTable.grown (L.length + 1)) - 1 = M → MaskOk M → SetTable.sizeAbove (SetTable.grown (L.length + 1)) ≤ 128 → (L.length + 1) * 5 < M * 3 →
        wpAny (model P w) A (setRelay a (SetTable.grown (L.length + 1))) (fun _ z => wpAny (model P w) A (pure true) Q E z) E { s with heap := h1 } := fun M c1 c2 c3 c4 =>
      relaid_set (s := { s with heap := h1 }) ho1 ⟨hex.1, hex.2.1, hex.2.2⟩ rfl into h1z q3.dm (by rw [es1z, q4]; rcases two with ⟨e, e2⟩ | ⟨e, e2⟩ <;> omega) nd1 keys1 pl1 ld1 (by rw [len1]; exact room) c1 c2 c3 (by rw [len1]; exact c4)
        fun h2 L2 es2 ep2 t2 sb2 R2 pm2 => wpAny_pure (q true h2 L2 es2 ep2 t2 (sb.trans sb2) R2 (fun z => absurd z hm) fun _ => pm2.trans pm)
    rcases two with ⟨_, e2⟩ | ⟨_, e2⟩
    · exact anew 31 (by rw [e2, size_20]) (.inr (.inl rfl)) (by rw [e2, size_20]; decide) (by omega)
    · exact anew 127 (by rw [e2, size_76]) (.inr (.inr rfl)) (by rw [e2, size_76]; decide) (by omega)
  · first
      | refine wp_if_neg (by simp [full]) ?_
      | (refine wpAny_bind ?_; refine wp_if_neg (by simp [full]) ?_; refine wpAny_pure ?_)
    refine wpAny_pure (q true h1 L1 es1 (ep + 1) t1 sb ⟨⟨_, ho1, ⟨hex.1, hex.2.1, hex.2.2⟩, rfl⟩, into, q3, nd1, keys1, pl1, ld1, ?_, by rw [len1]; exact room⟩ (fun z => absurd z hm) fun _ => pm)
    have h := full
    unfold SetTable.tooFull at h
    rw [decide_eq_true_eq, q9, List.length_map] at h
    rw [len1]
    omega
end
end Px

set_option Elab.async false
set_option linter.all false
set_option maxRecDepth 100000
set_option maxHeartbeats 4000000
/-! PxSetO: sets of numbers' tuples as things that a def makes: add, the comprehension that makes one. -/
namespace Px
open PySem PySem.Spec PyProof.Rows L2
mutual
def toK : PyData → NestedKey
  | .int i => .num i
  | .tuple ds => .tup (toKs ds)
  | _ => .none
def toKs : List PyData → List NestedKey
  | [] => []
  | d :: ds => toK d :: toKs ds
end
mutual
/-- integers, and tuples of such -/
def numD : PyData → Bool
  | .int _ => true
  | .tuple ds => numDs ds
  | _ => false
def numDs : List PyData → Bool
  | [] => true
  | d :: ds => numD d && numDs ds
end
mutual
theorem toK_num : ∀ d : PyData, numD d = true → numK (toK d) = true ∧ (toK d).depth = d.depth
  | .int _, _ => by simp [toK, numK, NestedKey.depth, PyData.depth]
  | .tuple ds, h => by
    have := toKs_num ds (by simpa [numD] using h)
    simp [toK, numK, NestedKey.depth, PyData.depth, this]
  | .none, h => by simp [numD] at h
  | .bool _, h => by simp [numD] at h
  | .str _, h => by simp [numD] at h
  | .list _, h => by simp [numD] at h
  | .dict _, h => by simp [numD] at h
theorem toKs_num : ∀ ds : List PyData, numDs ds = true → numKs (toKs ds) = true ∧ NestedKey.depthAll (toKs ds) = PyData.depthAll ds
  | [], _ => by simp [toKs, numKs, NestedKey.depthAll, PyData.depthAll]
  | d :: ds, h => by
    simp only [numDs, Bool.and_eq_true] at h
    have h1 := toK_num d h.1
    have h2 := toKs_num ds h.2
    simp [toKs, numKs, NestedKey.depthAll, PyData.depthAll, h1, h2]
end
mutual
theorem toK_inj : ∀ d e : PyData, numD d = true → numD e = true → toK d = toK e → d = e
  | .int i, .int j, _, _, h => by simp only [toK, NestedKey.num.injEq] at h; rw [h]
  | .tuple ds, .tuple es, h1, h2, h => by
    simp only [toK, NestedKey.tup.injEq] at h
    rw [toKs_inj ds es (by simpa [numD] using h1) (by simpa [numD] using h2) h]
  | .int i, .tuple _, _, _, h => by simp [toK] at h
  | .tuple _, .int i, _, _, h => by simp [toK] at h
  | .none, _, h, _, _ => by simp [numD] at h
  | .bool _, _, h, _, _ => by simp [numD] at h
  | .str _, _, h, _, _ => by simp [numD] at h
  | .list _, _, h, _, _ => by simp [numD] at h
  | .dict _, _, h, _, _ => by simp [numD] at h
  | .int _, .none, _, h, _ => by simp [numD] at h
  | .int _, .bool _, _, h, _ => by simp [numD] at h
  | .int _, .str _, _, h, _ => by simp [numD] at h
  | .int _, .list _, _, h, _ => by simp [numD] at h
  | .int _, .dict _, _, h, _ => by simp [numD] at h
  | .tuple _, .none, _, h, _ => by simp [numD] at h
  | .tuple _, .bool _, _, h, _ => by simp [numD] at h
  | .tuple _, .str _, _, h, _ => by simp [numD] at h
  | .tuple _, .list _, _, h, _ => by simp [numD] at h
  | .tuple _, .dict _, _, h, _ => by simp [numD] at h
theorem toKs_inj : ∀ ds es : List PyData, numDs ds = true → numDs es = true → toKs ds = toKs es → ds = es
  | [], [], _, _, _ => rfl
  | [], _ :: _, _, _, h => by simp [toKs] at h
  | _ :: _, [], _, _, h => by simp [toKs] at h
  | d :: ds, e :: es, h1, h2, h => by
    simp only [numDs, Bool.and_eq_true] at h1 h2
    simp only [toKs, List.cons.injEq] at h
    rw [toK_inj d e h1.1 h2.1 h.1, toKs_inj ds es h1.2 h2.2 h.2]
end
mutual
theorem toK_is {h : Heap} : ∀ (d : PyData) (v : Value) (as : List Addr), numD d = true → Reads h v d as → NestedIs h (toK d) v
  | .int _, _, _, _, r => by cases r; exact .int _ _
  | .tuple ds, _, _, q, r => by
    cases r with
    | tuple h1 h2 h3 h4 => exact .tup h1 h2 h3 (toKs_are ds _ _ (by simpa [numD] using q) h4)
  | .none, _, _, q, _ => by simp [numD] at q
  | .bool _, _, _, q, _ => by simp [numD] at q
  | .str _, _, _, q, _ => by simp [numD] at q
  | .list _, _, _, q, _ => by simp [numD] at q
  | .dict _, _, _, q, _ => by simp [numD] at q
theorem toKs_are {h : Heap} : ∀ (ds : List PyData) (vs : List Value) (as : List Addr), numDs ds = true → ReadsAll h vs ds as → NestedAll h (toKs ds) vs
  | [], _, _, _, r => by cases r; exact .nil
  | d :: ds, _, _, q, r => by
    simp only [numDs, Bool.and_eq_true] at q
    cases r with
    | cons h1 h2 => exact .cons (toK_is d _ _ q.1 h1) (toKs_are ds _ _ q.2 h2)
end
/-- what may be a member here: a tuple of numbers or of such tuples, not too deep -/
def okK : PyData → Bool
  | .tuple ds => numDs ds && decide (PyData.depthAll ds < 8)
  | _ => false
theorem okK_num {d : PyData} (h : okK d = true) : numD d = true ∧ d.depth ≤ 8 := by
  cases d <;> simp only [okK, Bool.false_eq_true] at h
  simp only [Bool.and_eq_true, decide_eq_true_eq] at h
  exact ⟨by simpa [numD] using h.1, by simp only [PyData.depth]; omega⟩
section
variable {P : Program} {w : World} {A : Around} {E : Value → Shared → Prop} {s : Shared} {a : Addr} {L : List (Addr × NestedKey)} {es : Array (Int × Value)} {ep : Nat} {t : SetTable}
theorem add_call (R : SetN P w s.heap a L es ep t) {x : Addr} {k : NestedKey} (hx : IsN P w s.heap k x) (hu : A.units + 16 < cLine) (room : L.length + 1 < 64) {Q : Value → Shared → Prop}
    (q : ∀ h' L' es' ep' t' tk, Heap.SameBut a s.heap h' → SetN P w h' a L' es' ep' t' → (k ∈ L.map (·.2) → L' = L) → (k ∉ L.map (·.2) → L'.Perm ((x, k) :: L)) → Q .none { s with heap := h', toks := tk }) :
    wpAny (model P w) A (call (.builtin "set.add") [.ref a, .ref x]) Q E s := by
  have hT : s.TypeIs (.ref a) "set" := by
    obtain ⟨o, ho, hex, _⟩ := R.obj
    exact ⟨o, ho, hex.1⟩
  refine wpAny_call_entry F.slot_set_add hT F.entry_set_add ?_ (F.args_set_add_2 _ _)
  unfold Builtin.«set.add» Builtin.Frozenset.oneOther
  rw [show (List.isEmpty ([] : List (Str × Value))) = true from rfl]
  simp only [bind_assoc]
  unfold Builtin.Frozenset.addrOf setAdd
  refine wpAny_bind (wpAny_pure ?_)
  try dsimp only
  refine wpAny_bind (wpAny_pure ?_)
  try dsimp only
  refine wpAny_bind (wpAny_holding ?_)
  refine wpAny_bind ((nestedKind P w).pyHash (show A.in1.units + 8 < cLine by simp only [Around.in1_units]; omega) hx.1 ?_)
  refine add_one (s := { s with toks := s.toks + (nestedKind P w).draws k }) R hx (by simp only [Around.in1_units]; omega) room fun b h' L' es' ep' t' sb R' c1 c2 => ?_
  show wpAny _ _ (ret Value.none) _ _ _
  exact wpAny_pure ⟨_, rfl, q h' L' es' ep' t' _ sb R' c1 c2⟩
/-- the new one -/
theorem fresh_set {h : Heap} {w : World} (ho : h.get? a = some { cls := .type "set", dict := none, data := .set #[] 0 (.fresh 0 0 (!w.params.followText "set-order")) }) : SetN P w h a [] #[] 0 (.fresh 0 0 (!w.params.followText "set-order")) where
  obj := ⟨_, ho, ⟨rfl, rfl, rfl⟩, rfl⟩
  rows := rfl
  tab := ⟨.nil, rfl, rfl, Or.inl rfl, (fun x hx => by cases hx), (fun i h j hi => by simp at hi)⟩
  nodup := .nil
  keys := (fun m hm => by cases hm)
  plain := rfl
  led := by
    show _ ∨ (!w.params.followText "set-order") = true
    by_cases e : w.params.followText "set-order" = true
    · exact Or.inl e
    · exact Or.inr (by simpa using e)
  wide := show (0 * 5 < 7 * 3) by decide
  few := show (0 < 64) by decide
end
/-! ### as a thing of the def's -/
/-- the set without what its members read as -/
def SetN0 (P : Program) (w : World) (h : Heap) (a : Addr) (L : List (Addr × NestedKey)) : Prop :=
  ∃ (es : Array (Int × Value)) (ep : Nat) (t : SetTable), (∃ o, h.get? a = some o ∧ o.ExactSet ∧ o.data = .set es ep t) ∧ es.toList = setRows w L ∧ L2.TabOk t (L.map fun m => nh w m.2) ∧ (L.map (·.2)).Nodup ∧ t.plain = true ∧ (w.params.followText "set-order" = true ∨ t.led = true) ∧ L.length * 5 < t.mask * 3 ∧ L.length < 64
def SetH (P : Program) (w : World) (a : Addr) (L : List (Addr × NestedKey)) : HO := .ext fun h => SetN0 P w h a L
section
variable {P : Program} {w : World} {h : Heap} {a : Addr} {L : List (Addr × NestedKey)}
theorem SetN.bare {es : Array (Int × Value)} {ep : Nat} {t : SetTable} (R : SetN P w h a L es ep t) : SetN0 P w h a L := ⟨es, ep, t, R.obj, R.rows, R.tab, R.nodup, R.plain, R.led, R.wide, R.few⟩
theorem SetN0.whole (R : SetN0 P w h a L) (keys : ∀ m ∈ L, IsN P w h m.2 m.1) : ∃ es ep t, SetN P w h a L es ep t := by
  obtain ⟨es, ep, t, q1, q2, q3, q4, q5, q6, q7, q8⟩ := R
  exact ⟨es, ep, t, q1, q2, q3, q4, keys, q5, q6, q7, q8⟩
/-- a set is no code object -/
theorem setH_code {c : Addr} {q : Str} : SetH P w a L ≠ LamX.CodeO c q := fun z => by
  unfold SetH LamX.CodeO at z
  have e := HO.ext.inj z
  let oc : Obj := { cls := .none, data := .fields #[.none, .str q 0] }
  let hp : Heap := { objs := Array.replicate (a + c + 1) oc }
  have g : ∀ b, b < a + c + 1 → hp.get? b = some oc := fun b hb => by
    unfold Heap.get?
    rw [show hp.objs[b]? = some oc from by show (Array.replicate (a + c + 1) oc)[b]? = some oc; rw [Array.getElem?_replicate, if_pos hb]]
  have k : SetN0 P w hp a L := by
    rw [congrFun e hp]
    exact ⟨oc, #[.none, .str q 0], 0, g c (Nat.lt_succ_of_le (Nat.le_add_left c a)), rfl, rfl⟩
  obtain ⟨es, ep, t, ⟨o, ho, _, hd⟩, _⟩ := k
  rw [g a (Nat.lt_succ_of_le (Nat.le_add_right a c))] at ho
  cases ho
  cases hd
theorem setH_ok {H : Hp} (R : SetN0 P w h a L) : ObjOk P w H h a (SetH P w a L) := by
  obtain ⟨es, ep, t, ⟨o, ho, r⟩, q⟩ := id R
  refine ⟨R, ⟨o, ho⟩, fun h1 h2 p keep => ?_⟩
  obtain ⟨es1, ep1, t1, ⟨o1, ho1, r1⟩, q1⟩ := (show SetN0 P w h1 a L from p)
  exact ⟨es1, ep1, t1, ⟨o1, keep o1 ho1, r1⟩, q1⟩
end
section
variable {X : Cx} {pins : List (Addr × Obj)} {σ : L2.St} {H : Hp} {s : Shared}
theorem setH_get {a : Addr} {L : List (Addr × NestedKey)} (I : Inv X pins σ H s) (ha : H a = some (SetH X.prog X.w a L)) : SetN0 X.prog X.w s.heap a L := (I.hok a _ ha).1
theorem isN_of (I : Inv X pins σ H s) {b : Addr} {d : PyData} (h : Dp X.K H (.ref b) d) (ok : okK d = true) : IsN X.prog X.w s.heap (toK d) b := by
  obtain ⟨as, r⟩ := Dp.reads I d _ (.ref b) h rfl
  obtain ⟨n1, n2⟩ := okK_num ok
  have z := toK_num d n1
  exact ⟨⟨toK_is d _ as n1 r, by rw [z.2]; exact n2⟩, z.1⟩
/-- the members, by what the heap that one knows says of them -/
def Mem (K : Fg) (H : Hp) (L : List (Addr × NestedKey)) : Prop := ∀ m ∈ L, ∃ d, Dp K H (.ref m.1) d ∧ okK d = true ∧ toK d = m.2
theorem Mem.isN (I : Inv X pins σ H s) {L : List (Addr × NestedKey)} (h : Mem X.K H L) : ∀ m ∈ L, IsN X.prog X.w s.heap m.2 m.1 := fun m hm => by
  obtain ⟨d, h1, h2, h3⟩ := h m hm
  rw [← h3]; exact isN_of I h1 h2
/-- all that adding may give -/
def Added (L : List (Addr × NestedKey)) (b : Addr) (k : NestedKey) (L' : List (Addr × NestedKey)) : Prop := (k ∈ L.map (·.2) → L' = L) ∧ (k ∉ L.map (·.2) → L'.Perm ((b, k) :: L))
theorem add_ok {E : Value → Shared → Prop} {D b : Addr} {d : PyData} {L : List (Addr × NestedKey)} {Q : Value → Shared → Prop} (I : Inv X pins σ H s) (hu : X.A.units + 64 < cLine) (hD : H D = some (SetH X.prog X.w D L)) (mem : Mem X.K H L) (hb : Dp X.K H (.ref b) d) (ok : okK d = true) (room : L.length + 1 < 64)
    (q : ∀ s' L', Added L b (toK d) L' → Inv X pins σ (upd H D (SetH X.prog X.w D L')) s' → Q .none s') : wpAny (model X.prog X.w) X.A (call (.builtin "set.add") [.ref D, .ref b]) Q E s := by
  obtain ⟨es, ep, t, R⟩ := (setH_get I hD).whole (mem.isN I)
  refine add_call R (isN_of I hb ok) (by omega) room fun h' L' es' ep' t' tk sb R' c1 c2 => ?_
  have there : ∃ u, h'.get? D = some u := by
    obtain ⟨o, ho, _⟩ := R'.obj
    exact ⟨o, ho⟩
  exact q _ L' ⟨c1, c2⟩ (I.write (e := D) (t' := tk) (by rw [hD]; trivial) (Or.inl rfl) (fun b u nb e => (sb.2 b nb).trans e) there (setH_ok R'.bare))
end
/-! ### the comprehension -/
/-- {elt for target in iter if ..}, elt such a tuple -/
def tSn (K : Fg) (P : Program) (w : World) (wi : TI) (g : TG) (tt : TT) (te : TE) (own : List Nat) : TE := fun σ H Q => wi σ H fun J H1 => ∀ D, H1 D = none → ∃ W : Nat → Nat → Hp → Prop, (∃ m, W 0 m (upd H1 D (SetH P w D []))) ∧ ∀ i m H, W i m H →
  (J.stop i H ∧ Q (.ref D) H) ∨ (J.go i H ∧ ∃ Nx : Hp → Prop, (∀ H', Nx H' → ∃ m', m' < m ∧ W (i + 1) m' H') ∧ ∀ x H', J.yld i H x H' → g x (wipe σ own) H' fun σ2 H2 => wipe σ2 own = wipe σ own ∧ tt σ2 H2 fun c H3 =>
    if c = true then te σ2 H3 fun y H4 => ∃ b d L, y = .ref b ∧ Dp K H4 (.ref b) d ∧ okK d = true ∧ H4 D = some (SetH P w D L) ∧ Mem K H4 L ∧ L.length + 1 < 64 ∧ ∀ L', Added L b (toK d) L' → Nx (upd H4 D (SetH P w D L')) else Nx H3)
section
variable {X : Cx}
theorem sn_core {pins : List (Addr × Obj)} {s : Shared} {σ : L2.St} {H : Hp} {Q : VK} {elt tg iter : Expr} {ifs : List Expr} {scope : Scope} {own : List (PySem.Str × Nat)} {p1 p2 : Pos} {wi : TI} {g : TG} {tt : TT} {te : TE} {use : Option (Value → Sem Unit)} {Qf : Value → Shared → Prop}
    (calm : X.calm = true) (hu : X.A.units + 64 < cLine) (nd : X.N.Nodup) (I : Inv X pins σ H s) (pi : PI X tg iter wi) (ok : BlkOk X.N X.env.scope scope own)
    (pg : ∀ (s : Shared) (H : Hp) (C : Addr) (cl : List (PySem.Str × Addr)) (fp : List Addr), PG (X.blk s H scope (compEnvC scope cl C X.env) fp) tg g) (pt : ∀ (s : Shared) (H : Hp) (C : Addr) (cl : List (PySem.Str × Addr)) (fp : List Addr), PTs (X.blk s H scope (compEnvC scope cl C X.env) fp) ifs tt)
    (pe : ∀ (s : Shared) (H : Hp) (C : Addr) (cl : List (PySem.Str × Addr)) (fp : List Addr), PE (X.blk s H scope (compEnvC scope cl C X.env) fp) elt te) (hs : ∀ x, foldedSetIterable iter X.env x = pure x)
    (h : tSn X.K X.prog X.w wi g tt te (own.map (·.2)) σ H Q)
    (out : ∀ D C s' m H', Inv X pins σ H' s' → Q (.ref D) H' → s'.heap.Ns C m → FpOk X pins H' C → compPost (model X.prog X.w) X.A X.xe use Qf (.ref D) C (.ok .next) s') :
    wpAny (model X.prog X.w) X.A (comprehension (.SetComp elt [⟨tg, iter, ifs, 0⟩] scope p1) scope X.env p2 (newSet (.type "set")) false (eval iter X.env) use) Qf X.xe s := by
  have has : ∀ y ∈ scope.names, y.2 = .free → ∃ c, X.env.cells.lookup y.1 = some c := fun y hy e => by
    rcases ok.free y hy e with q | q
    · exact I.ok.has _ (Or.inl q)
    · exact I.ok.has _ (Or.inr q)
  refine wpAny_comprehension_free (use := use) rfl hs (closure_ok has) ok.kind (fun y hy e => by rw [ok.uniq y hy, e])
    (thn (pi.run pins s σ H _ I h) fun xv s1 hx => thn hx fun itv s2 after => ?_)
  obtain ⟨it, fp, tn, J, H2, e, I2, T, st2, f2, q⟩ := after
  subst e
  refine PpSet.newSet_ok (newEnv_comp ?_)
  generalize hD : s2.heap.objs.size = D
  have free2 : H2 D = none := I2.hok.fresh (Nat.le_of_eq hD)
  obtain ⟨W, ⟨m0, w0⟩, turn⟩ := q D free2
  generalize hs3 : ({ s2 with heap := s2.heap.push { cls := .type "set", dict := none, data := .set #[] 0 (.fresh 0 0 (!X.w.params.followText "set-order")) } } : Shared) = s3
  have heap3 : s3.heap = s2.heap.push { cls := .type "set", dict := none, data := .set #[] 0 (.fresh 0 0 (!X.w.params.followText "set-order")) } := by rw [← hs3]
  have I3 : Inv X pins σ (upd H2 D (SetH X.prog X.w D [])) s3 := by
    rw [← hs3]
    refine I2.laid (t' := s2.toks) (fun b o e => Heap.get?_push_of_some _ e) (Nat.le_of_eq hD) ?_
    rw [← hD]
    exact setH_ok (fresh_set (Heap.get?_push_size _ rfl)).bare
  have below : ∀ b ∈ fp, b < s2.heap.objs.size := fun b hb => by
    obtain ⟨o, e, _⟩ := T.obj _ _ st2 b hb
    exact Heap.lt_size e
  have f3 : ∀ b ∈ fp, FpOk X pins (upd H2 D (SetH X.prog X.w D [])) b ∧ b < s3.heap.objs.size := fun b hb => by
    have hlt := below b hb
    refine ⟨⟨?_, (f2 b hb).2⟩, by rw [heap3, Heap.size_push]; exact Nat.lt_succ_of_lt hlt⟩
    rw [upd_ne (by rw [← hD]; exact Nat.ne_of_lt hlt)]
    exact (f2 b hb).1
  have st3 : tn 0 s3.heap := T.keep _ _ _ st2 fun b _ o e => by rw [heap3]; exact Heap.get?_push_of_some _ e
  have I4 := block_start I3 ok nd f3
  have pg1 := pg s3 (upd H2 D (SetH X.prog X.w D [])) s3.heap.objs.size (cellsFrom (s3.heap.objs.size + 1) scope.names (cloFrom X.env.cells scope.names [])) fp
  have pt1 := pt s3 (upd H2 D (SetH X.prog X.w D [])) s3.heap.objs.size (cellsFrom (s3.heap.objs.size + 1) scope.names (cloFrom X.env.cells scope.names [])) fp
  have pe1 := pe s3 (upd H2 D (SetH X.prog X.w D [])) s3.heap.objs.size (cellsFrom (s3.heap.objs.size + 1) scope.names (cloFrom X.env.cells scope.names [])) fp
  show codeAny _ _ (.compStart (.SetComp elt [⟨tg, iter, ifs, 0⟩] scope p1) 0 (.ref it) (.ref D) (compEnvC scope (cellsFrom (s3.heap.objs.size + 1) scope.names (cloFrom X.env.cells scope.names [])) s3.heap.objs.size X.env)) (compPost (model X.prog X.w) X.A X.xe use Qf (.ref D) s3.heap.objs.size) { s3 with heap := pushCells (s3.heap.push { cls := .type "dict", data := .dict #[] }) scope.names }
  have clear3 : ∀ b ∈ fp, (upd H2 D (SetH X.prog X.w D [])) b = none := fun b hb => (f3 b hb).1.1
  generalize hce : compEnvC scope (cellsFrom (s3.heap.objs.size + 1) scope.names (cloFrom X.env.cells scope.names [])) s3.heap.objs.size X.env = ce at I4 pg1 pt1 pe1 ⊢
  have cL : ce.locals = s3.heap.objs.size := by rw [← hce] <;> rfl
  generalize hH3 : upd H2 D (SetH X.prog X.w D []) = H3 at I3 I4 pg1 pt1 pe1 w0 clear3 f3
  generalize hs4 : ({ s3 with heap := pushCells (s3.heap.push { cls := .type "dict", data := .dict #[] }) scope.names } : Shared) = s4 at I4 ⊢
  have st4 : tn 0 s4.heap := T.keep _ _ _ st3 fun b _ o e => by rw [← hs4]; exact pushCells_keeps _ _ _ _ (Heap.get?_push_of_some _ e)
  have stat : ∀ {σ' : L2.St} {H' : Hp} {s' : Shared}, Inv (X.blk s3 H3 scope ce fp) [] σ' H' s' → (∀ b ∈ fp, H' b = none) → ∀ b ∈ fp, FpOk (X.blk s3 H3 scope ce fp) [] H' b := fun {σ' H' s'} J' clear b hb =>
    ⟨clear b hb, (J'.ok.exf b hb).1, J'.ok.exfs b hb, Or.inl hb, (fun x c e => (J'.ok.exf b hb).2 x c e), fun p hp => absurd (show p ∈ ([] : List (Addr × Obj)) ++ [] from hp) (by simp)⟩
  have loop : codeAny (model X.prog X.w) X.A (.compLoop (.SetComp elt [⟨tg, iter, ifs, 0⟩] scope p1) 0 (.ref it) (.ref D) ce) (compPost (model X.prog X.w) X.A X.xe use Qf (.ref D) s3.heap.objs.size) s4 := by
    refine PpSet.compLoopS_any (fun n z => ∃ i H', Inv (X.blk s3 H3 scope ce fp) [] (wipe σ (own.map (·.2))) H' z ∧ tn i z.heap ∧ (∀ b ∈ fp, H' b = none) ∧ W i n H') ?_ m0 ⟨0, H3, I4, st4, clear3, w0⟩
    rintro n s5 ⟨i, H5, I5, st5, n5, w5⟩
    rcases turn i n H5 w5 with ⟨stop, last⟩ | ⟨go, Nx, next, step⟩
    · have td := T.done (X.blk s3 H3 scope ce fp) rfl rfl rfl calm i [] s5 _ H5 (fun _ _ => False) I5 (stat I5 n5) st5 stop
      refine thnF td fun r s6 ⟨hr, I6⟩ => ?_
      subst hr
      have I7 : Inv X pins σ H5 s6 := I3.call' (ch := fp) I6.os I6.base I6.hok I6.bare fun b hb => ⟨(f3 b hb).1.2.2.2.1, (f3 b hb).1.2.1, (f3 b hb).1.2.2.2.2.1, (f3 b hb).1.2.2.2.2.2⟩
      have clearC : H5 s3.heap.objs.size = none := by
        have z : H5 ce.locals = none := I6.free
        rwa [cL] at z
      obtain ⟨m, hn, _⟩ := I6.loc
      have hn : s6.heap.Ns ce.locals m := hn
      rw [cL] at hn
      exact out D s3.heap.objs.size s6 m H5 I7 last hn (I3.fpOk (Nat.le_refl _) clearC)
    · have ti := T.item (X.blk s3 H3 scope ce fp) rfl rfl rfl calm i [] s5 _ H5 (fun _ _ => False) I5 (stat I5 n5) st5 go
      refine thnF ti fun r s6 ⟨u, hr, h6⟩ => ?_
      subst hr
      refine thnF h6 fun _ s7 ⟨x, H7, I7, r7, y7, st7, n7⟩ => ?_
      have I7' := I7.pinned (stat I7 n7) (T.obj _ _ st7)
      refine thnF (pg1.run _ s7 _ H7 x u _ I7' r7 (step x H7 y7)) fun _ s8 ⟨σ8, H8, I8, hw8, q8⟩ => ?_
      refine thnF (pt1.run _ s8 σ8 H8 _ I8 q8) fun c s9 ⟨H9, I9, q9⟩ => ?_
      have fin : ∀ {z : Shared} {H' : Hp}, Inv (X.blk s3 H3 scope ce fp) ([] ++ pinsAt fp s7.heap) σ8 H' z → Nx H' → ∃ m, m < n ∧ ∃ i H', Inv (X.blk s3 H3 scope ce fp) [] (wipe σ (own.map (·.2))) H' z ∧ tn i z.heap ∧ (∀ b ∈ fp, H' b = none) ∧ W i m H' := fun {z H'} J' nx => by
        obtain ⟨m', hm, w'⟩ := next H' nx
        have pin' : ∀ b ∈ fp, ∀ o, s7.heap.get? b = some o → z.heap.get? b = some o ∧ H' b = none := fun b hb o e =>
          have zz := J'.pin (b, o) (List.mem_append_right _ (List.mem_append_right _ (mem_pinsAt hb e)))
          ⟨zz.1, zz.2.1⟩
        have same : (wipe σ (own.map (·.2))).length = σ8.length := by rw [← hw8, wipe_length]
        refine ⟨m', hm, i + 1, H', (J'.unpinned (pins := [])).weak same (fun j v e => ?_), T.keep _ _ _ st7 fun b hb o e => (pin' b hb o e).1, fun b hb => ?_, w'⟩
        · rw [← hw8] at e
          exact (wipe_some e).1
        · obtain ⟨o, e, _⟩ := T.obj _ _ st7 b hb
          exact (pin' b hb o e).2
      cases c with
      | false =>
        simp only [Bool.false_eq_true, if_false] at q9 ⊢
        exact fin I9 q9
      | true =>
        simp only [if_true] at q9 ⊢
        refine thnF (pe1.run _ s9 σ8 H9 _ I9 q9) fun z s10 ⟨yv, H10, I10, r10, b, d, L, ey, hb, okd, hD10, mem, room, nx⟩ => ?_
        subst ey
        cases (show z = Value.ref b from r10)
        exact add_ok (X := X.blk s3 H3 scope ce fp) I10 hu hD10 mem hb okd room fun s11 L' add I11 => fin I11 (nx L' add)
  exact PpSet.codeAny_compStart_set loop (T.self X.A 0 _ _ _ st4 loop)
/-- as a value -/
theorem pe_sn {elt tg iter : Expr} {ifs : List Expr} {scope : Scope} {own : List (PySem.Str × Nat)} {pos : Pos} {wi : TI} {g : TG} {tt : TT} {te : TE} (calm : X.calm = true) (hu : X.A.units + 64 < cLine) (nd : X.N.Nodup) (pi : PI X tg iter wi) (ok : BlkOk X.N X.env.scope scope own)
    (pg : ∀ (s : Shared) (H : Hp) (C : Addr) (cl : List (PySem.Str × Addr)) (fp : List Addr), PG (X.blk s H scope (compEnvC scope cl C X.env) fp) tg g) (pt : ∀ (s : Shared) (H : Hp) (C : Addr) (cl : List (PySem.Str × Addr)) (fp : List Addr), PTs (X.blk s H scope (compEnvC scope cl C X.env) fp) ifs tt)
    (pe : ∀ (s : Shared) (H : Hp) (C : Addr) (cl : List (PySem.Str × Addr)) (fp : List Addr), PE (X.blk s H scope (compEnvC scope cl C X.env) fp) elt te) (hs : ∀ x, foldedSetIterable iter X.env x = pure x := by intro _; rfl) :
    PE X (.SetComp elt [⟨tg, iter, ifs, 0⟩] scope pos) (tSn X.K X.prog X.w wi g tt te (own.map (·.2))) := by
  refine ⟨fun pins s σ H Q I h => ?_⟩
  rw [PpSet.eval_SetComp]
  refine sn_core calm hu nd I pi ok pg pt pe hs h fun D C s' m H' J q hn f => ⟨m, hn, fun h'' sb => ?_⟩
  obtain ⟨z0, z1, z2, z3, z4, z5⟩ := f
  exact ⟨.ref D, H', J.turned (t' := s'.toks) (fun b o hb e => (sb.2 b hb).trans e) z0 z1 z3 z4 z5, rfl, q⟩
end
end Px

set_option Elab.async false
set_option linter.all false
set_option maxRecDepth 100000
set_option maxHeartbeats 2000000
/-! Px: a, b, c, d, .. = e1, e2, e3, e4, .. where some begin new lists of the def's own (four and more: the tuple is made and taken apart). -/
namespace Px
open PySem PySem.Spec PyProof.Rows L2
abbrev FP := En → En → (En → Prop) → Prop
def setAll (σ : Sg) : List Nat → List V → Sg
  | i :: is, v :: vs => setAll (σ.set i (some v)) is vs
  | _, _ => σ
/-- values told one after another, put into slots as they come; what is told is told of the slots as they stood ahead -/
def SP (K : Kx) (ta : TA) (is : List Nat) (n : Nat) (f : FP) : Prop := ∀ (C Cb : Ct) (σ σs : Sg) (ρb ρs : En) (H : Hp) (R : En → Prop) (Q : List V → Hp → Prop),
  C.S = Cb.S → C.m = Cb.m → C.m + n ≤ lim → Good K C σs ρs H → Good K Cb σ ρb H → (∀ a, bar C.B σs ρs a → bar Cb.B σ ρb a) → f ρb ρs R →
  (∀ vs H' ρs' m, C.m ≤ m → m ≤ C.m + n → vs.length = is.length → Good K (C.up m) (setAll σs is vs) ρs' H' → Ex (mq C σs ρs H) (mq C (setAll σs is vs) ρs' H') → R ρs' → Q vs H') → ta σ H Q
structure Ep (F : Fm) (es : List Expr) (is : List Nat) (n : Nat) (f : FP) : Prop where
  ex : ∃ t, (∀ i, PA (F.X i) es t) ∧ SP F.K t is n f
def tgs : List Nat → TGs
  | [] => gNil
  | i :: is => gCons (gName i) (tgs is)
theorem tgs_of {Q : Sg → Hp → Prop} {H : Hp} : ∀ {is : List Nat} {vs : List V} {σ : Sg}, vs.length = is.length → Q (setAll σ is vs) H → tgs is vs σ H Q
  | [], [], _, _, h => ⟨rfl, h⟩
  | i :: is, v :: vs, σ, e, h => ⟨v, vs, rfl, tgs_of (by simpa using e) h⟩
section
variable {F : Fm} {e : Expr} {es : List Expr} {is : List Nat} {i n n1 n2 : Nat} {fp : FP} {fe : FE} {fl : FL}
theorem ep_nil : Ep F [] [] 0 (fun _ ρs R => R ρs) := ⟨_, fun _ => pa_nil, fun C Cb σ σs ρb ρs H R Q eS em hm G GB sub h k => k [] H ρs C.m (Nat.le_refl _) (Nat.le_refl _) rfl G (Ex.refl _) h⟩
theorem ep_v (he : Ee F e n1 fe) (hs : Ep F es is n2 fp) (h1s : ∀ i, starEach (e :: es) (F.X i).env = (false, eval e (F.X i).env) :: starEach es (F.X i).env := by intro _; rfl) :
    Ep F (e :: es) (i :: is) (n1 + n2) (fun ρb ρs R => fe ρb fun u => i < ρs.length ∧ fp ρb (ρs.set i (.v u)) R) := by
  obtain ⟨t, pt, s⟩ := he
  obtain ⟨t2, pt2, s2⟩ := hs
  refine ⟨_, fun k => pa_cons (pt k) (pt2 k) (h1s k), fun C Cb σ σs ρb ρs H R Q eS em hm G GB sub hf k => s Cb σ ρb H _ _ (by omega) GB hf fun v H1 x m1 l1 u1 t1 ox h1 => ?_⟩
  rw [← eS] at t1
  obtain ⟨hi, h1⟩ := h1
  obtain ⟨G2, e2⟩ := (G.tr t1).set hi (ox.mono (mask_sub sub))
  refine s2 (C.up m1) (Cb.up m1) σ (σs.set i (some v)) ρb (ρs.set i (.v x)) H1 R _ eS rfl (by show m1 + n2 ≤ lim; omega) G2 (GB.tr (by rw [← eS]; exact t1)) (fun a h => sub a (bar_set h)) h1 fun vs H2 ρs' m2 l2 u2 ln G3 e3 hR => ?_
  have l2' : m1 ≤ m2 := l2
  have u2' : m2 ≤ m1 + n2 := u2
  exact k (v :: vs) H2 ρs' m2 (by omega) (by omega) (by simp [ln]) G3 (((G.ex t1).trans e2).trans e3) hR
theorem ep_o (he : El F e n1 fl) (hs : Ep F es is n2 fp) (h1s : ∀ i, starEach (e :: es) (F.X i).env = (false, eval e (F.X i).env) :: starEach es (F.X i).env := by intro _; rfl) :
    Ep F (e :: es) (i :: is) (n1 + n2) (fun ρb ρs R => fl ρb fun ds => i < ρs.length ∧ fp (blkE ρb []) (ρs.set i (.own ds)) R) := by
  obtain ⟨t, pt, s⟩ := he
  obtain ⟨t2, pt2, s2⟩ := hs
  refine ⟨_, fun k => pa_cons (pt k) (pt2 k) (h1s k), fun C Cb σ σs ρb ρs H R Q eS em hm G GB sub hf k => s Cb σ ρb H _ _ (by omega) GB hf fun p H1 vs ds m1 l1 u1 hp t1 hv hr h1 => ?_⟩
  have GB1 := own_then GB t1 hp hv hr
  have t1' : Tr C.S (F.K.SI m1) H H1 := by rw [eS]; exact t1
  obtain ⟨hi, h1⟩ := h1
  obtain ⟨G2, e2⟩ := G.own (i := i) hi hp t1' hv (hr.mono (mask_sub fun a h => h.elim (fun h => .inl (sub a h)) .inr))
  refine s2 (C.up m1) (blkC Cb σ ρb p m1) (wipe σ []) (σs.set i (some (.ref p))) (blkE ρb []) (ρs.set i (.own ds)) H1 R _ eS rfl (by show m1 + n2 ≤ lim; omega) G2 GB1 (fun a h => ?_) h1 fun vs' H2 ρs' m2 l2 u2 ln G3 e3 hR => ?_
  · refine .inl ?_
    rcases h with h | ⟨j, ys, q1, q2⟩
    · exact .inl (sub a (.inl h))
    · rcases set_at q1 with ⟨rfl, z, _⟩ | ⟨ne, q1⟩
      · rcases set_at q2 with ⟨_, z2, _⟩ | ⟨ne, _⟩
        · cases z2; exact .inr rfl
        · exact absurd rfl ne
      · rw [set_oth ne] at q2
        exact .inl (sub a (.inr ⟨j, ys, q1, q2⟩))
  have l2' : m1 ≤ m2 := l2
  have u2' : m2 ≤ m1 + n2 := u2
  exact k (.ref p :: vs') H2 ρs' m2 (by omega) (by omega) (by simp [ln]) G3 (e2.trans e3) hR
theorem s_parN {ts : List Expr} {pt0 pt2 pos : Pos} {kt k2 : Nat} (ha : Ep F es is n fp) (hg : ∀ j, PGs (F.X j) ts (tgs is)) (hl : is.length ≤ 1000000)
    (hn : ∀ j, (assignEach ts (F.X j).env).length = is.length := by intro _; rfl) (hst : ∀ j, (assignEach ts (F.X j).env).findIdx? (·.1) = none := by intro _; rfl)
    (hs : ∀ j, swapsWithSole [.Tuple ts kt pt0] (.Tuple es k2 pt2) pos.line (F.X j).env = pure false := by intro _; rfl) (hw : ∀ j, swappedStores [.Tuple ts kt pt0] (.Tuple es k2 pt2) (F.X j).env = pure none := by intro _; rfl)
    (h1 : ∀ j, (assignEach [.Tuple ts kt pt0] (F.X j).env).map (·.2) = [assign (.Tuple ts kt pt0) (F.X j).env] := by intro _; rfl) :
    E1 F (.Assign [.Tuple ts kt pt0] (.Tuple es k2 pt2) pos) n (fun ρ N => fp ρ ρ N.nx) := by
  obtain ⟨t, pt, s⟩ := ha
  refine ⟨tAsg (tTup t) (gTup F.K is.length (tgs is)), fun j => ps_asg (pe_tup (pt j)) (by have := pg_tup (n := is.length) (k := kt) (pos := pt0) (F.calm j) (hg j) (hn j) (hst j); rw [F.eK j] at this; exact this) (hs j) (hw j) (h1 j), fun C σ ρ H N D hm G hf l => ?_⟩
  refine s C C σ σ ρ ρ H _ _ rfl rfl hm G G (fun a h => h) hf fun vs H1 ρs' m l1 u1 ln G1 e1 hR => ?_
  refine ⟨small_le (by omega), fun p hp => ⟨p, vs, rfl, .inl (.inl upd_same), ln, tgs_of ln ?_⟩⟩
  have tn := G1.new (o := .tup vs) hp
  exact l.nx _ _ _ m l1 u1 (G1.tr tn) (e1.trans (G1.ex tn)) hR
theorem pn {x : Str} {p : Pos} (j : F.I) (i : Nat) (hi : F.N[i]? = some x := by rfl) (hx : Loc (F.X j).env.scope x := by first | exact .inl rfl | exact .inr rfl)
    (hf : (F.X j).fn x = true ∨ (F.X j).env.scope.names.lookup x = some .local := by first | exact .inl rfl | exact .inr rfl) : PG (F.X j) (.Name x p) (gName i) := pg_name (by rw [F.eN]; exact F.nd) (by rw [F.eN]; exact hi) hx hf
theorem s_par2E {x y : Str} {e1 e2 : Expr} {px py pt0 pt2 pos : Pos} {kt k2 : Nat} (i j : Nat) (ha : Ep F [e1, e2] [i, j] n fp)
    (q : ∀ {k : F.I} {ta : TA}, PA (F.X k) [e1, e2] ta → PS (F.X k) (.Assign [.Tuple [.Name x px, .Name y py] kt pt0] (.Tuple [e1, e2] k2 pt2) pos) (tPar i j ta)) :
    E1 F (.Assign [.Tuple [.Name x px, .Name y py] kt pt0] (.Tuple [e1, e2] k2 pt2) pos) n (fun ρ N => fp ρ ρ N.nx) := by
  obtain ⟨t, pt, s⟩ := ha
  refine ⟨_, fun k => q (pt k), fun C σ ρ H N D hm G hf l => s C C σ σ ρ ρ H _ _ rfl rfl hm G G (fun a h => h) hf fun vs H1 ρs' m l1 u1 ln G1 e1 hR => ?_⟩
  match vs, ln with
  | [v, w], _ => exact ⟨v, w, rfl, l.nx _ _ _ m l1 u1 G1 e1 hR⟩
theorem s_par3E {x y z : Str} {e1 e2 e3 : Expr} {px py pz pt0 pt2 pos : Pos} {kt k2 : Nat} (i j r : Nat) (ha : Ep F [e1, e2, e3] [i, j, r] n fp)
    (q : ∀ {k : F.I} {ta : TA}, PA (F.X k) [e1, e2, e3] ta → PS (F.X k) (.Assign [.Tuple [.Name x px, .Name y py, .Name z pz] kt pt0] (.Tuple [e1, e2, e3] k2 pt2) pos) (tPar3 i j r ta)) :
    E1 F (.Assign [.Tuple [.Name x px, .Name y py, .Name z pz] kt pt0] (.Tuple [e1, e2, e3] k2 pt2) pos) n (fun ρ N => fp ρ ρ N.nx) := by
  obtain ⟨t, pt, s⟩ := ha
  refine ⟨_, fun k => q (pt k), fun C σ ρ H N D hm G hf l => s C C σ σ ρ ρ H _ _ rfl rfl hm G G (fun a h => h) hf fun vs H1 ρs' m l1 u1 ln G1 e1 hR => ?_⟩
  match vs, ln with
  | [u, v, w], _ => exact ⟨u, v, w, rfl, l.nx _ _ _ m l1 u1 G1 e1 hR⟩
end
end Px

set_option Elab.async false
set_option linter.all false
set_option maxRecDepth 100000
set_option maxHeartbeats 2000000
/-! Px: an own list lent to a call whose answer holds no list; min of a list of alike data. -/
namespace Px
open PySem PySem.Spec PyProof.Rows L2 PySem.W
mutual
def noL : PyData → Bool
  | .none => true
  | .bool _ => true
  | .int _ => true
  | .str _ => true
  | .tuple xs => noLs xs
  | _ => false
def noLs : List PyData → Bool
  | [] => true
  | x :: xs => noL x && noLs xs
end
mutual
theorem Rd.noL {K : Fg} {M M' : Hp} (e : ∀ a o, M' a = some o → (∀ vs, o ≠ .lst vs) → M a = some o) : ∀ {v : V} {d : PyData}, Rd K M' v d → Px.noL d = true → Rd K M v d
  | _, _, .non, _ => .non
  | _, _, .bl b, _ => .bl b
  | _, _, .int i, _ => .int i
  | _, _, .str x, _ => .str x
  | _, _, .lst h r, z => by simp [Px.noL] at z
  | _, _, .tup h r, z => .tup (by
      rcases h with (h | ⟨o, h⟩) | h
      · exact .inl (.inl (e _ _ h fun vs z => by cases z))
      · exact .inl (.inr ⟨o, e _ _ h fun vs z => by cases z⟩)
      · exact .inr h) (RdA.noL e r (by simpa [Px.noL] using z))
theorem RdA.noL {K : Fg} {M M' : Hp} (e : ∀ a o, M' a = some o → (∀ vs, o ≠ .lst vs) → M a = some o) : ∀ {vs : List V} {ds : List PyData}, RdA K M' vs ds → noLs ds = true → RdA K M vs ds
  | _, _, .nil, _ => .nil
  | _, _, .cons h r, z => by
    simp only [noLs, Bool.and_eq_true] at z
    exact .cons (Rd.noL e h z.1) (RdA.noL e r z.2)
end
def noLv : Vl → Bool
  | .d d => noL d
  | .o _ => true
  | .st => true
  | _ => false
section
variable {F : Fm} {e : Expr} {n : Nat} {fe : FE}
theorem e_lend (i : Nat) (he : Ee F e n fe) : Ee F e n (fun ρ R => fe (frz ρ i) fun x => noLv x = true ∧ R x) := by
  obtain ⟨t, pt, s⟩ := he
  refine ⟨t, pt, fun C σ ρ H R Q hm G hf k => ?_⟩
  obtain ⟨G', ex⟩ := G.frz i
  refine s C σ (frz ρ i) H _ _ hm G' hf fun v H1 x m l u t1 ox h1 => k v H1 x m l u t1 ?_ h1.2
  have key : ∀ a o, mq C σ (frz ρ i) H1 a = some o → (∀ vs, o ≠ .lst vs) → mq C σ ρ H1 a = some o := fun a o ea no => by
    obtain ⟨nb, e1⟩ := mask_of ea
    refine mask_at (fun hb => ?_) e1
    rcases hb with hb | ⟨j, xs, q1, q2⟩
    · exact nb (.inl hb)
    · obtain ⟨p, vs, a1, a2, _⟩ := (G.tr t1).ow j xs q1
      rw [q2] at a1
      cases a1
      rw [a2] at e1
      cases e1
      exact no vs rfl
  match x, ox, h1 with
  | .d d, ox, h1 => exact Rd.noL key ox h1.1
  | .o w, ox, h1 => exact ox
  | .st, ox, h1 => exact ox
  | .rg lo hi, ox, h1 => exact absurd h1.1 (by simp [noLv])
def rMinD (K : Fg) : List V → Hp → VK → Prop := fun vs H Q => ∃ (a : Addr) (ws : List V) (ds : List PyData), vs = [V.ref a] ∧ SqL K H a ws ∧ DpAll K H ws ds ∧ ds ≠ [] ∧ AlikeAll ds ∧ PyData.depthAll ds ≤ 60 ∧ ∀ (i : Nat) (w : V), ws[i]? = some w → Q w H
theorem vals_at : ∀ {ws : List V} {us : List Value} {i : Nat} {u : Value}, Vals ws us → us[i]? = some u → ∃ w, ws[i]? = some w ∧ RelV w u
  | _, _, _, _, .nil, e => by simp at e
  | _, _, 0, _, .cons h _, e => by simp at e; subst e; exact ⟨_, rfl, h⟩
  | _, _, i + 1, u, .cons _ r, e => by
    obtain ⟨w, h1, h2⟩ := vals_at (i := i) (u := u) r (by simpa using e)
    exact ⟨w, by simpa using h1, h2⟩
theorem call_minD {X : Cx} (hc : X.calm = true) (hu : X.A.units + 64 < cLine) : CallR X (.builtin "min") (rMinD X.K) := by
  intro pins s σ H vs us Q I r h
  obtain ⟨a, ws, ds, rfl, hs, hd, hne, ha, hdp, q⟩ := h
  obtain ⟨its, rv, hl, _⟩ := I.list hs
  rw [Vals.ref1 r]
  obtain ⟨as, rd⟩ := Dp.readsAll I ds ws its hd rv
  cases ds with
  | nil => exact absurd rfl hne
  | cons x xs =>
    refine min_list_data (I.ok.hd hc) hl.isList (by simpa using rd) ha (by omega) fun i v h' tk bs hv hr hk => ?_
    obtain ⟨w, e1, e2⟩ := vals_at rv (by simpa using hv)
    exact ⟨w, H, I.kept hk, e2, q i w e1⟩
theorem cMinD (i) : CallR (F.X i) (.builtin "min") (rMinD F.K) := by
  have h := call_minD (X := F.X i) (F.calm i) (F.room i).units
  rw [F.eK i] at h
  exact h
def gMinD : GC
  | [.d (.list xs)], R => xs ≠ [] ∧ AlikeAll xs ∧ PyData.depthAll xs ≤ 60 ∧ ∀ d ∈ xs, R (.d d)
  | _, _ => False
theorem sMinD {K : Kx} : SC K (rMinD K) gMinD := fun C σ ρ H vs xs R Q G o h k => by
  match xs, h, o with
  | [.d (.list ds)], h, o =>
    obtain ⟨v, rfl, o1⟩ := o.one
    obtain ⟨a, ws, rfl, ha, ra⟩ := Rd.inv_list o1
    refine ⟨a, ws, ds, rfl, SqL.of (mask_le _ _ ha), RdA.dp (ra.mono mask_le), h.1, h.2.1, h.2.2.1, fun i w hw => ?_⟩
    obtain ⟨d, e1, r1⟩ := ra.get' hw
    exact k w H (.d d) (Tr.refl G.si) r1 (h.2.2.2 d (List.mem_of_getElem? e1))
end
end Px

set_option Elab.async false
set_option linter.all false
set_option maxRecDepth 100000
set_option maxHeartbeats 2000000
/-! Px: things of own lists stored anew, names and things changed by op=, lists begun by list(..) and *, ranges from their end. -/
namespace Px
open PySem PySem.Spec PyProof.Rows L2
section
variable {F : Fm} {K : Kx} {x : Str} {e b a0 tg : Expr} {pos p' tpos p : Pos} {n nb na : Nat} {fe fb fa : FE} {op : Operator} {ti : TIp} {g : G2}
/-! ### name op= e -/
theorem ip_mul {X : Cx} : PIp X .Mult (rI CMulW fun i j => .int (i * j)) := by
  intro pins s σ H x y v u Q I r1 r2 h
  obtain ⟨i, j, e1, e2, hc, q⟩ := h
  subst e1; subst e2
  obtain ⟨t, rfl⟩ := r1
  obtain ⟨t', rfl⟩ := r2
  exact PySem.P.imul_int ⟨.int _, H, I.tok _, ⟨_, rfl⟩, q⟩ hc.ok
def gI (f : Int → Int → Int) : G2
  | .d (.int i), .d (.int j), R => R (.d (.int (f i j)))
  | _, _, _ => False
def gIM : G2
  | .d (.int i), .d (.int j), R => CMulW i j ∧ R (.d (.int (i * j)))
  | _, _, _ => False
theorem sI (f : Int → Int → Int) : S2 K (ipI f) (gI f) := fun C σ ρ H v w x y R Q G ox oy h k => by
  match x, y, h, ox, oy with
  | .d (.int i), .d (.int j), h, ox, oy => exact ⟨i, j, Rd.inv_int ox, Rd.inv_int oy, G.fin k (fun _ => .int _) h⟩
theorem sIM : S2 K (rI CMulW fun i j => .int (i * j)) gIM := fun C σ ρ H v w x y R Q G ox oy h k => by
  match x, y, h, ox, oy with
  | .d (.int i), .d (.int j), h, ox, oy => exact ⟨i, j, Rd.inv_int ox, Rd.inv_int oy, h.1, G.fin k (fun _ => .int _) h.2⟩
theorem s_augN (i : Nat) (hi : F.N[i]? = some x) (ho : ∀ j, PIp (F.X j) op ti) (hr : S2 F.K ti g) (he : Ee F e n fe) (hx : ∀ j, Loc (F.X j).env.scope x := by intro _; first | exact .inl rfl | exact .inr rfl)
    (hf : ∀ j, (F.X j).fn x = true ∨ (F.X j).env.scope.names.lookup x = some .local := by intro _; first | exact .inl rfl | exact .inr rfl) :
    E1 F (.AugAssign (.Name x p') op e pos) n (fun ρ N => rd ρ i fun u => fe ρ fun v => g u v fun z => N.nx (ρ.set i (.v z))) := by
  obtain ⟨t, pt, s⟩ := he
  refine ⟨_, fun j => ps_aug (by rw [F.eN]; exact F.nd) (by rw [F.eN]; exact hi) (hx j) (pt j) (ho j) (hf j), fun C σ ρ H N D hm G hf l => ?_⟩
  have hf : rd ρ i _ := hf
  unfold rd at hf
  split at hf
  · rename_i y e0
    obtain ⟨v, h1, h2⟩ := G.sl i y e0
    refine ⟨v, h1, s C σ ρ H _ _ hm G hf fun w H1 z m l1 u1 t1 oz hz => hr (C.up m) σ ρ H1 v w y z _ _ (G.tr t1) (h2.mono (G.ex t1)) oz hz fun u H2 zz t2 ozz hzz => ?_⟩
    have hi2 : i < ρ.length := (List.getElem?_eq_some_iff.mp e0).1
    obtain ⟨G', ex⟩ := ((G.tr t1).tr t2).set hi2 ozz
    exact l.nx _ _ _ m l1 u1 G' (((G.ex t1).trans ((G.tr t1).ex t2)).trans ex) hzz
  · exact hf.elim
/-! ### a thing of an own list -/
def putI (i : Nat) (ρ : En) (xs : List PyData) (N : En → Prop) : Vl → Vl → Prop
  | .d d, .d (.int k) => ∃ j, ixN xs.length k = some j ∧ N (ρ.set i (.own (xs.set j d)))
  | _, _ => False
/-- xs[b] = e, xs an own list -/
theorem s_put (i : Nat) (hi : F.N[i]? = some x) (he : Ee F e n fe) (hb : Ee F b nb fb) (hv : ∀ j, Vis (F.X j).env.scope x := by intro _; first | exact .inl rfl | exact .inr (.inl rfl))
    (ha : ∀ j v, assign (.Subscript (.Name x p') b tpos) (F.X j).env v = (do
      let ov ← holding [v] (eval (.Name x p') (F.X j).env)
      let iv ← holding [v, ov] (eval b (F.X j).env)
      standAt tpos
      holding [v, ov, iv] (setItem ov iv v)
      release [v, ov, iv] []) := by intro _ _; rfl)
    (hs : ∀ j, swapsWithSole [.Subscript (.Name x p') b tpos] e pos.line (F.X j).env = pure false := by intro _; rfl) (hw : ∀ j, swappedStores [.Subscript (.Name x p') b tpos] e (F.X j).env = pure none := by intro _; rfl)
    (h1 : ∀ j, (assignEach [.Subscript (.Name x p') b tpos] (F.X j).env).map (·.2) = [assign (.Subscript (.Name x p') b tpos) (F.X j).env] := by intro _; rfl)
    (hd : (x == ("__debug__" : Str)) = false := by decide) (hcd : (x == ("__classdict__" : Str)) = false := by decide) :
    E1 F (.Assign [.Subscript (.Name x p') b tpos] e pos) (n + nb) (fun ρ N => fe ρ fun y => ownAt i ρ fun xs => fb ρ fun k => putI i ρ xs N.nx y k) := by
  obtain ⟨t, pt, s⟩ := he
  obtain ⟨tb, pb, sb⟩ := hb
  refine ⟨tAsg t (gSub (tVar i) tb rSetL), fun j => ps_asg (pt j) (pg_sub (pe_var (by rw [F.eN]; exact hi) (hv j) hd hcd) (pb j) set_list (ha j)) (hs j) (hw j) (h1 j), fun C σ ρ H N D hm G hf l => ?_⟩
  refine s C σ ρ H _ _ (by omega) G hf fun v H1 y m1 l1 u1 t1 oy hy => ?_
  have G1 := G.tr t1
  obtain ⟨xs, e0, hy⟩ := ownAt_of hy
  obtain ⟨q, vs0, a1, _⟩ := G1.ow i xs e0
  refine ⟨_, a1, sb (C.up m1) σ ρ H1 _ _ (by show m1 + nb ≤ lim; omega) G1 hy fun w H3 k m2 l2 u2 t2 ok hk => ?_⟩
  have G3 := G1.tr t2
  obtain ⟨q', vs, b1, b2, b3, b4, b5⟩ := G3.ow i xs e0
  rw [a1] at b1
  cases b1
  match y, k, oy, ok, hk with
  | .d d, .d (.int k), oy, ok, hk =>
    obtain ⟨j, hj, hn⟩ := hk
    have l2' : m1 ≤ m2 := l2
    have u2' : m2 ≤ m1 + nb := u2
    obtain ⟨G4, ex⟩ := G3.put e0 a1 (b3.set (Rd.mono (G1.ex t2) oy) j)
    exact ⟨q, vs, k, j, rfl, Rd.inv_int ok, b2, by rw [b3.length]; exact hj, l.nx _ _ _ m2 (by omega) (by omega) G4 (((G.ex t1).trans (G1.ex t2)).trans ex) hn⟩
/-- xs[b] op= e of an own list of ints -/
def augI (xs : List PyData) (P : Nat → PyData → Prop) : Vl → Prop
  | .d (.int k) => ∃ j d, ixN xs.length k = some j ∧ xs[j]? = some d ∧ P j d
  | _ => False
def putD (N : PyData → Prop) : Vl → Prop
  | .d d => N d
  | _ => False
theorem get_list {X : Cx} : PGet X (rIxL X.K) := by
  intro pins s σ H o i ov iv Q I ro ri h
  obtain ⟨p, xs, i, z, rfl, rfl, hq, he, q⟩ := h
  cases ro
  obtain ⟨t, rfl⟩ := ri
  obtain ⟨its, r, pl, hz⟩ := I.list hq
  obtain ⟨j, h1, h2, h3, h4, h5⟩ := atI_get he
  obtain ⟨w, ew, rw'⟩ := r.get h2
  have hl := r.length
  have hn := line63
  have fin : EP X pins σ Q w s := ⟨z, H, I, rw', q⟩
  by_cases h0 : 0 ≤ i
  · have hj : i.toNat = j := by
      rw [seqIndex_of h0 h5] at h1
      exact Option.some.inj h1
    exact wpAny_getItem_list pl.isList h0 (by omega) (by rw [hj]; simpa using ew) fin
  · have hj : (i + (its.toArray.size : Int)).toNat = j := by
      rw [seqIndex_neg (by omega) h4] at h1
      rw [List.size_toArray, ← hl]
      exact Option.some.inj h1
    exact wpAny_getItem_list_neg pl.isList (by omega) (by rw [List.size_toArray] <;> omega) (by omega) (by rw [hj]; simpa using ew) fin
theorem gGet (i) : PGet (F.X i) (rIxL F.K) := by
  have h := get_list (X := F.X i)
  rw [F.eK i] at h
  exact h
theorem s_augI (i : Nat) (hi : F.N[i]? = some x) (ho : ∀ j, PIp (F.X j) op ti) (hr : S2 F.K ti g) (hb : Ee F b nb fb) (he : Ee F e n fe) (hv : ∀ j, Vis (F.X j).env.scope x := by intro _; first | exact .inl rfl | exact .inr (.inl rfl))
    (ha : ∀ ov iv new, augStore b ov iv new = (do holding [new, ov, iv] (setItem ov iv new); release [new, ov, iv] []; pure .next) := by intros; rfl)
    (hd : (x == ("__debug__" : Str)) = false := by decide) (hcd : (x == ("__classdict__" : Str)) = false := by decide) :
    E1 F (.AugAssign (.Subscript (.Name x p') b tpos) op e pos) (nb + n) (fun ρ N => ownAt i ρ fun xs => fb ρ (augI xs fun j d0 => fe ρ fun y => g (.d d0) y (putD fun d => N.nx (ρ.set i (.own (xs.set j d)))))) := by
  obtain ⟨t, pt, s⟩ := he
  obtain ⟨tb, pb, sb⟩ := hb
  refine ⟨tAugS (tVar i) tb t (rIxL F.K) ti rSetL, fun j => ps_augS (pe_var (by rw [F.eN]; exact hi) (hv j) hd hcd) (pb j) (gGet j) (pt j) (ho j) set_list ha, fun C σ ρ H N D hm G hf l => ?_⟩
  obtain ⟨xs, e0, hf⟩ := ownAt_of hf
  obtain ⟨q, vs0, a1, _⟩ := G.ow i xs e0
  refine ⟨_, a1, sb C σ ρ H _ _ (by omega) G hf fun w H1 k m1 l1 u1 t1 ok hk => ?_⟩
  have G1 := G.tr t1
  obtain ⟨q1, vs1, b1, b2, b3, b4, b5⟩ := G1.ow i xs e0
  rw [a1] at b1
  cases b1
  match k, ok, hk with
  | .d (.int k), ok, hk =>
    obtain ⟨j, d0, hj, hd0, hk⟩ := hk
    obtain ⟨v0, ev0, rv0⟩ := b3.get hd0
    have hjv : ixN vs1.length k = some j := by rw [b3.length]; exact hj
    refine ⟨q, vs1, k, v0, rfl, Rd.inv_int ok, SqL.of b2, by unfold atI; rw [hjv]; exact ev0, ?_⟩
    refine s (C.up m1) σ ρ H1 _ _ (by show m1 + n ≤ lim; omega) G1 hk fun v H4 y m2 l2 u2 t2 oy hy => ?_
    have l2' : m1 ≤ m2 := l2
    have u2' : m2 ≤ m1 + n := u2
    have G4 := G1.tr t2
    refine hr (C.up m2) σ ρ H4 v0 v (.d d0) y _ _ G4 (Rd.mono (G1.ex t2) rv0) oy hy fun u H5 z t3 oz hz => ?_
    have G5 := G4.tr t3
    obtain ⟨q5, vs5, c1, c2, c3, c4, c5⟩ := G5.ow i xs e0
    rw [a1] at c1
    cases c1
    match z, oz, hz with
    | .d d, oz, hz =>
      obtain ⟨G6, ex⟩ := G5.put e0 a1 (c3.set oz j)
      exact ⟨q, vs5, k, j, rfl, Rd.inv_int ok, c2, by rw [c3.length]; exact hj, l.nx _ _ _ m2 (by omega) (by omega) G6 ((((G.ex t1).trans (G1.ex t2)).trans (G4.ex t3)).trans ex) hz⟩
/-! ### lists begun -/
theorem fresh_rd {C : Ct} {σ : Sg} {ρ : En} {H1 : Hp} {p : Addr} {vs : List V} {ds : List PyData} {o : HO} (hp : H1 p = none) (r : RdA K (mq C σ ρ H1) vs ds) : RdA K (mask (fun a => bar C.B σ ρ a ∨ a = p) (upd H1 p o)) vs ds := by
  refine r.mono fun a o ha => ?_
  obtain ⟨nb, ha⟩ := mask_of ha
  have ne : a ≠ p := ne_of_none ha hp
  refine mask_at (fun z => z.elim nb ne) ?_
  rw [upd_ne ne]
  exact ha
def asLT (R : List PyData → Prop) : Vl → Prop
  | .d (.list xs) => R xs
  | .d (.tuple xs) => R xs
  | _ => False
/-- list(e), a list of the def's own -/
theorem l_list (hm : F.mg "list" = none) (he : Ee F e n fe) (hg : ∀ i, Gl (F.X i) "list" := by intro _; rfl) (h1s : ∀ i, starEach [e] (F.X i).env = (false, eval e (F.X i).env) :: starEach [] (F.X i).env := by intro _; rfl)
    (hpl : ∀ i, (backTo pos (starEach [] (F.X i).env)).any (·.1) = false := by intro _; rfl) : El F (.Call (.Name "list" p) [e] [] pos) n (fun ρ R => fe ρ (asLT R)) := by
  obtain ⟨t, pt, s⟩ := he
  refine ⟨_, fun i => pe_callTy (cList i) (hg i) (by rw [F.eM]; exact hm) rfl (pa_cons (pt i) pa_nil (h1s i)) (by decide) (by decide) (h1s i) (hpl i), fun C σ ρ H R Q hm G hf k => s C σ ρ H _ _ hm G hf fun v H1 y m l u t1 oy hy => ?_⟩
  have G1 := G.tr t1
  match y, oy, hy with
  | .d (.list ds), oy, hy =>
    obtain ⟨a, ws, rfl, ha, ra⟩ := Rd.inv_list oy
    exact ⟨a, ws, rfl, .inl (SqL.of (mask_le _ _ ha)), fun p hp => k p _ ws ds m l u (G.back t1 hp) (t1.trans (G1.new hp)) upd_same (fresh_rd hp ra) hy⟩
  | .d (.tuple ds), oy, hy =>
    obtain ⟨a, ws, rfl, ha, ra⟩ := Rd.inv_tuple oy
    exact ⟨a, ws, rfl, .inr (Ex.sqt mask_le ha), fun p hp => k p _ ws ds m l u (G.back t1 hp) (t1.trans (G1.new hp)) upd_same (fresh_rd hp ra) hy⟩
def mulL (R : List PyData → Prop) : Vl → Vl → Prop
  | .d (.list xs), .d (.int j) => j ≤ 1000 ∧ -1000 ≤ j ∧ xs.length ≤ 1000 ∧ R (List.replicate j.toNat xs).flatten
  | _, _ => False
/-- [..] * e, a list of the def's own -/
theorem l_mul (ha : Ee F a0 na fa) (hb : Ee F b nb fb) : El F (.BinOp a0 .Mult b pos) (na + nb) (fun ρ R => fa ρ fun x => fb ρ fun y => mulL R x y) := by
  obtain ⟨ta, pa, sa⟩ := ha
  obtain ⟨tb, pb, sb⟩ := hb
  refine ⟨_, fun i => pe_op (oMul i) (pa i) (pb i), fun C σ ρ H R Q hm G hf k => sa C σ ρ H _ _ (by omega) G hf fun v H1 x m1 l1 u1 t1 ox hx => sb (C.up m1) σ ρ H1 _ _ (by show m1 + nb ≤ lim; omega) (G.tr t1) hx fun w H2 y m2 l2 u2 t2 oy hy => ?_⟩
  have G2 := (G.tr t1).tr t2
  have l2' : m1 ≤ m2 := l2
  have u2' : m2 ≤ m1 + nb := u2
  match x, y, ox, oy, hy with
  | .d (.list xs), .d (.int j), ox, oy, hy =>
    obtain ⟨a, vs, rfl, ha, ra⟩ := Rd.inv_list (Rd.mono ((G.tr t1).ex t2) ox)
    obtain ⟨h1, h2, h3, h4⟩ := hy
    refine .inr (.inl ⟨a, j, vs, rfl, Rd.inv_int oy, mask_le _ _ ha, by omega, by omega, small_le ?_, fun p hp => k p _ _ _ m2 (by omega) (by omega) (G.back (t1.trans t2) hp) ((t1.trans t2).trans (G2.new hp)) upd_same (fresh_rd hp (RdA.rep ra j.toNat)) h4⟩)
    have e := ra.length
    have : vs.length * j.toNat ≤ 1000 * 1000 := Nat.mul_le_mul (by omega) (by omega)
    omega
/-! ### ranges downwards -/
theorem irangeC_ex (lo c : Int) (n : Nat) : ∃ l : List Vl, l = (List.range n).map fun i => .d (.int (lo + (i : Nat) * c)) := ⟨_, rfl⟩
noncomputable def irangeC (lo c : Int) (n : Nat) : List Vl := Classical.choose (irangeC_ex lo c n)
theorem irangeC_def (lo c : Int) (n : Nat) : irangeC lo c n = (List.range n).map fun i => .d (.int (lo + (i : Nat) * c)) := Classical.choose_spec (irangeC_ex lo c n)
theorem WOk.rngC {M0 : Hp} {lo c : Int} {n : Nat} : WOk K M0 (Itc lo c n) (irangeC lo c n) := by
  refine ⟨_, _, by rw [irangeC_def, List.length_map, List.length_range]; exact walk_rangeC, fun _ _ => trivial, fun i H x H' hi e y => ?_⟩
  obtain ⟨e1, e2⟩ := y
  rw [irangeC_def] at hi ⊢
  rw [List.length_map, List.length_range] at hi
  exact ⟨_, by rw [List.getElem?_map, List.getElem?_range hi]; rfl, .inl ⟨e1, by rw [e2]; exact Rd.int _⟩⟩
def asR3 (R : List Vl → Prop) : List Vl → Prop
  | [.d (.int i), .d (.int j), .d (.int c)] => c = -1 ∧ (-(2 ^ 62) ≤ i ∧ i < 2 ^ 62 ∧ -(2 ^ 62) ≤ j ∧ j < 2 ^ 62) ∧ R (irangeC i (-1) (i - j).toNat)
  | _ => False
theorem i_rng3 {e2 e3 : Expr} {f : FA} (hm : F.mg "range" = none) (ha : Ea F [e, e2, e3] n f) (hg : ∀ i, Gl (F.X i) "range" := by intro _; rfl)
    (hs : ∀ i, starEach [e, e2, e3] (F.X i).env = (false, eval e (F.X i).env) :: starEach [e2, e3] (F.X i).env := by intro _; rfl) (hpl : ∀ i, (backTo pos (starEach [e2, e3] (F.X i).env)).any (·.1) = false := by intro _; rfl) :
    Ei F tg (.Call (.Name "range" p) [e, e2, e3] [] pos) n (fun ρ R => f ρ (asR3 R)) := by
  obtain ⟨t, pt, st⟩ := ha
  refine ⟨_, fun i => pi_range3 (hg i) (by rw [F.eM]; exact hm) (pt i) (hs i) (hpl i), fun C σ ρ H R Q hm G hf k => st C σ ρ H _ _ hm G hf fun vs H1 xs m l u t1 oxs h1 => ?_⟩
  match xs, oxs, h1 with
  | [.d (.int i), .d (.int j), .d (.int c)], oxs, h1 =>
    obtain ⟨rfl, ⟨a1, a2, a3, a4⟩, h1⟩ := h1
    cases oxs with
    | cons o1 oxs =>
      obtain ⟨v2, v3, rfl, o2, o3⟩ := oxs.two
      exact ⟨i, j, -1, (i - j).toNat, by rw [Rd.inv_int o1, Rd.inv_int o2, Rd.inv_int o3], RgC.neg a1 a2 a3 a4, k _ H1 _ m l u t1 WOk.rngC h1⟩
def asRv (R : List Vl → Prop) : Vl → Prop
  | .d (.int j) => 0 ≤ j ∧ j < 2 ^ 62 ∧ R (irangeC (j - 1) (-1) j.toNat)
  | _ => False
/-- reversed(range(e)) -/
theorem i_revr {p2 pos2 : Pos} (hm : F.mg "reversed" = none) (hm2 : F.mg "range" = none) (he : Ee F e n fe) (hg : ∀ i, Gl (F.X i) "reversed" := by intro _; rfl) (hg2 : ∀ i, Gl (F.X i) "range" := by intro _; rfl)
    (hs : ∀ i, starEach [.Call (.Name "range" p2) [e] [] pos2] (F.X i).env = (false, eval (.Call (.Name "range" p2) [e] [] pos2) (F.X i).env) :: starEach [] (F.X i).env := by intro _; rfl)
    (hs2 : ∀ i, starEach [e] (F.X i).env = (false, eval e (F.X i).env) :: starEach [] (F.X i).env := by intro _; rfl) :
    Ei F tg (.Call (.Name "reversed" p) [.Call (.Name "range" p2) [e] [] pos2] [] pos) n (fun ρ R => fe ρ (asRv R)) := by
  obtain ⟨t, pt, s⟩ := he
  refine ⟨_, fun i => pi_revR (hg i) (by rw [F.eM]; exact hm) (prg_1 (hg2 i) (by rw [F.eM]; exact hm2) (pt i) (hs2 i)) (hs i), fun C σ ρ H R Q hm G hf k => s C σ ρ H _ _ hm G hf fun v H1 y m l u t1 oy hy => ?_⟩
  match y, oy, hy with
  | .d (.int j), oy, hy =>
    obtain ⟨a1, a2, hy⟩ := hy
    refine ⟨j, Rd.inv_int oy, by decide, by decide, by omega, a2, ?_⟩
    have e1 : (j - 0).toNat = j.toNat := by rw [Int.sub_zero]
    have e2 : (0 : Int) + (((j - 0).toNat : Nat) : Int) - 1 = j - 1 := by omega
    rw [e1] at e2 ⊢
    rw [e2]
    exact k _ H1 _ m l u t1 WOk.rngC hy
end
end Px

set_option Elab.async false
set_option linter.all false
set_option maxRecDepth 100000
set_option maxHeartbeats 4000000
/-! PxSetP: sorted(a set of numbers' tuples), sorted({.. for .. in .. if ..}) as a list of the def's own. -/
namespace Px
open PySem PySem.Spec PyProof.Rows L2 PySem.W
theorem perm_back {α β : Type} (f : α → β) {l m : List β} (h : l.Perm m) : ∀ xs : List α, m = xs.map f → ∃ ys : List α, l = ys.map f ∧ ys.Perm xs := by
  induction h with
  | nil =>
    intro xs e
    cases xs with
    | nil => exact ⟨[], rfl, .nil⟩
    | cons x xs => cases e
  | @cons a l m _ ih =>
    intro xs e
    cases xs with
    | nil => cases e
    | cons x xs =>
      simp only [List.map_cons, List.cons.injEq] at e
      obtain ⟨ys, e1, p⟩ := ih xs e.2
      exact ⟨x :: ys, by rw [List.map_cons, ← e.1, e1], p.cons x⟩
  | swap a b l =>
    intro xs e
    match xs, e with
    | x :: y :: xs, e =>
      simp only [List.map_cons, List.cons.injEq] at e
      exact ⟨y :: x :: xs, by simp only [List.map_cons, e.1, e.2.1, e.2.2], .swap x y xs⟩
  | trans _ _ ih1 ih2 =>
    intro xs e
    obtain ⟨ys, e1, p1⟩ := ih2 xs e
    obtain ⟨zs, e2, p2⟩ := ih1 ys e1
    exact ⟨zs, e2, p2.trans p1⟩
mutual
theorem no_lists {h : Heap} : ∀ (d : PyData) (v : Value) (as : List Addr), numD d = true → Reads h v d as → as = []
  | .int _, _, _, _, r => by cases r; rfl
  | .tuple ds, _, _, q, r => by
    cases r with
    | tuple _ _ _ h4 => exact no_listsA ds _ _ (by simpa [numD] using q) h4
  | .none, _, _, q, _ => by simp [numD] at q
  | .bool _, _, _, q, _ => by simp [numD] at q
  | .str _, _, _, q, _ => by simp [numD] at q
  | .list _, _, _, q, _ => by simp [numD] at q
  | .dict _, _, _, q, _ => by simp [numD] at q
theorem no_listsA {h : Heap} : ∀ (ds : List PyData) (vs : List Value) (as : List Addr), numDs ds = true → ReadsAll h vs ds as → as = []
  | [], _, _, _, r => by cases r; rfl
  | d :: ds, _, _, q, r => by
    simp only [numDs, Bool.and_eq_true] at q
    cases r with
    | cons h1 h2 => rw [no_lists d _ _ q.1 h1, no_listsA ds _ _ q.2 h2] <;> rfl
end
abbrev kOf (b : Addr × PyData) : Addr × NestedKey := (b.1, toK b.2)
abbrev vOf (b : Addr × PyData) : Value := .ref b.1
theorem each_of {R : Value → Addr × PyData → Prop} : ∀ bs : List (Addr × PyData), (∀ b ∈ bs, R (vOf b) b) → EachIs R (bs.map vOf) bs
  | [], _ => .nil
  | b :: bs, h => .cons (h b (List.mem_cons_self ..)) (each_of bs fun c hc => h c (List.mem_cons_of_mem _ hc))
theorem each_v : ∀ {vs : List Value} {bs : List (Addr × PyData)}, EachIs (fun v b => v = vOf b) vs bs → vs = bs.map vOf
  | _, _, .nil => rfl
  | _, _, .cons h t => by rw [h, each_v t] <;> rfl
section
variable {P : Program} {w : World} {A : Around} {E : Value → Shared → Prop} {s : Shared} {a : Addr} {es : Array (Int × Value)} {ep : Nat} {t : SetTable}
theorem sorted_setN {bs : List (Addr × PyData)} {Q : Value → Shared → Prop} (R : SetN P w s.heap a (bs.map kOf) es ep t) (hh : A.handled = none) (hu : A.units + 64 < cLine) (rd : ∀ b ∈ bs, okK b.2 = true ∧ ∃ as, Reads s.heap (vOf b) b.2 as)
    (hal : AllAlike (bs.map (·.2))) (hk : Sortable (bs.map (·.2)))
    (q : ∀ s' p (out : Array Value) (c : Nat) (cs : List (Addr × PyData)), (∀ b o, s.heap.get? b = some o → s'.heap.get? b = some o) → s'.gens = s.gens → s'.os = s.os → s.heap.objs.size ≤ p →
      s'.heap.get? p = some (seqObj "list" out c) → cs.Perm bs → out.toList = (cs.mergeSort (dataLe false (·.2))).map vOf → Q (.ref p) s') :
    wpAny (model P w) A (call (.builtin "sorted") [.ref a]) Q E s := by
  obtain ⟨o, ho, hex, hd⟩ := R.obj
  have few := R.few
  rw [List.length_map] at few
  have size := setRows_len R.rows
  rw [List.length_map] at size
  refine Calls.call_function_entry kind_sorted plain_sorted entry_sorted (args_sorted1 _) ?_
  unfold Builtin.«sorted»
  refine wpAny_bind (m := checkCount "sorted" 1 1 _) (wpAny_pure ?_)
  refine wpAny_bind (collect_set (A := A.in1) hh ⟨o, ho, hex.1, hd⟩ R.fits (by unfold scanBound; omega) R.tab.ris R.led fun s1 vs k1 z1 g1 o1 pm => ?_)
  have rows : es.toList.map (·.2) = bs.map vOf := by
    rw [R.rows, setRows, List.map_map, List.map_map] <;> rfl
  rw [rows] at pm
  obtain ⟨cs, rfl, pc⟩ := perm_back vOf pm bs rfl
  have hl : (cs.map vOf).length < 64 := by rw [List.length_map, pc.length_eq]; exact few
  refine wpAny_bind (wpAny_newList ?_ (by rw [sizeLine_eq]; omega))
  have there : (s1.heap.push (seqObj "list" (cs.map vOf).toArray 0)).get? s1.heap.objs.size = some (seqObj "list" (cs.map vOf).toArray 0) := Heap.get?_push_size _ rfl
  have old : ∀ b o, s.heap.get? b = some o → (s1.heap.push (seqObj "list" (cs.map vOf).toArray 0)).get? b = some o := fun b o e => Heap.get?_push_of_some _ (k1 b o e)
  have each : ∀ b ∈ cs, ∃ as, Reads (s1.heap.push (seqObj "list" (cs.map vOf).toArray 0)) (vOf b) b.2 as ∧ s1.heap.objs.size ∉ as := fun b hb => by
    obtain ⟨ok, as, r⟩ := rd b (pc.mem_iff.mp hb)
    refine ⟨as, PyProof.Rows.Reads.keeps old r, ?_⟩
    rw [no_lists _ _ _ (okK_num ok).1 r]
    simp
  have al : AllAlike (cs.map (·.2)) := fun d hd d' hd' => hal d ((pc.map _).mem_iff.mp hd) d' ((pc.map _).mem_iff.mp hd')
  have so : Sortable (cs.map (·.2)) := hk.imp (fun z d hd => z d ((pc.map _).mem_iff.mp hd)) fun z d hd => z d ((pc.map _).mem_iff.mp hd)
  refine wpAny_bind (wpAny_holding (list_sort_data (s := { s1 with heap := s1.heap.push (seqObj "list" (cs.map vOf).toArray 0) }) (R := fun v b => v = vOf b) (enc := (·.2)) (bs := cs) there (each_of cs fun b _ => rfl) (each_of cs each) al so (by rw [← List.length_map (f := vOf) (as := cs), sizeLine_eq]; omega) (fun b hb => ?_) fun out ho2 eo => ?_))
  · have := (okK_num (rd b (pc.mem_iff.mp hb)).1).2
    simp only [Around.in1_units]
    omega
  · obtain ⟨c, hc⟩ := sortedHeap_at (vs := cs.map vOf) (out := out.toArray) there
    refine wpAny_pure ⟨_, rfl, q _ s1.heap.objs.size out.toArray c cs (fun b u e => ?_) g1 o1 z1 hc pc (by rw [← each_v eo])⟩
    have e1 := k1 b u e
    have hlt := Heap.lt_size e1
    show (sortedHeap (s1.heap.push (seqObj "list" (cs.map vOf).toArray 0)) s1.heap.objs.size (cs.map vOf) out.toArray).get? b = some u
    rw [sortedHeap_old (Nat.ne_of_lt hlt) (by rw [size_push']; exact Nat.lt_succ_of_lt hlt)]
    exact Heap.get?_push_of_some _ e1
end
section
variable {X : Cx}
/-- sorted of such a set -/
def rSorted (K : Fg) (P : Program) (w : World) : List V → Hp → VK → Prop := fun vs H Q => ∃ (a : Addr) (bs : List (Addr × PyData)), vs = [V.ref a] ∧ H a = some (SetH P w a (bs.map kOf)) ∧ (∀ b ∈ bs, okK b.2 = true ∧ Dp K H (.ref b.1) b.2) ∧ AllAlike (bs.map (·.2)) ∧ Sortable (bs.map (·.2)) ∧
  ∀ (cs : List (Addr × PyData)) (p : Addr), cs.Perm bs → H p = none → Q (.ref p) (upd H p (.lst ((cs.mergeSort (dataLe false (·.2))).map fun b => V.ref b.1)))
theorem vals_ref : ∀ bs : List (Addr × PyData), Vals (bs.map fun b => V.ref b.1) (bs.map vOf)
  | [] => .nil
  | _ :: bs => .cons rfl (vals_ref bs)
theorem call_sorted (calm : X.calm = true) (hu : X.A.units + 64 < cLine) : CallR X (.builtin "sorted") (rSorted X.K X.prog X.w) := by
  intro pins s σ H vs us Q I r h
  obtain ⟨a, bs, rfl, ha, rd, al, so, q⟩ := h
  have mem : Mem X.K H (bs.map kOf) := fun m hm => by
    obtain ⟨b, hb, rfl⟩ := List.mem_map.mp hm
    exact ⟨b.2, (rd b hb).2, (rd b hb).1, rfl⟩
  obtain ⟨es, ep, t, R⟩ := (setH_get I ha).whole (mem.isN I)
  have few := R.few
  rw [List.length_map] at few
  rw [Vals.ref1 r]
  refine sorted_setN R (I.ok.hd calm) hu (fun b hb => ⟨(rd b hb).1, Dp.reads I _ _ (vOf b) (rd b hb).2 rfl⟩) al so fun s' p out c cs k g o hp hg pc eo => ?_
  have hn : H p = none := I.hok.fresh hp
  have len : ((cs.mergeSort (dataLe false (·.2))).map fun b => V.ref b.1).length ≤ sizeLine := by
    rw [List.length_map, List.length_mergeSort, pc.length_eq, sizeLine_eq]; omega
  have J : Inv X pins σ (upd H p (.lst ((cs.mergeSort (dataLe false (·.2))).map fun b => V.ref b.1))) { s with heap := s'.heap, gens := s'.gens, drawn := s'.drawn, toks := s'.toks } :=
    I.call (ch := []) (Un.laid k hp hn) (I.hok.laid k hp ⟨len, out.toList, c, by rw [eo]; exact vals_ref _, hg⟩) (by rw [g]; exact I.bare) (fun _ z => nomatch z)
  have e : s' = { s with heap := s'.heap, gens := s'.gens, drawn := s'.drawn, toks := s'.toks } := by
    cases s'
    cases s
    cases o
    rfl
  rw [e]
  exact ⟨.ref p, _, J, rfl, q cs p pc hn⟩
end
/-! ### the pure side -/
/-- what comes of the members: they, without doubles, in order -/
def fSorted (acc : List PyData) (R : List PyData → Prop) : Prop := AllAlike acc ∧ Sortable acc ∧ ∀ ds : List PyData, ds.Nodup → (∀ d, d ∈ ds ↔ d ∈ acc) → R (ds.mergeSort (dataLe false fun d => d))
def snF (fg : FG) (ft : FT) (fe : FE) (ρ : En) : List Vl → List PyData → (List PyData → Prop) → Prop
  | [], acc, R => fSorted acc R
  | x :: xs, acc, R => fg x ρ fun ρ2 => ft ρ2 fun b => if b = true then fe ρ2 fun y => (match y with | .d d => okK d = true ∧ acc.length < 62 ∧ snF fg ft fe ρ xs (acc ++ [d]) R | _ => False) else snF fg ft fe ρ xs acc R
theorem ok_ref {K : Fg} {M : Hp} {v : V} {d : PyData} (h : okK d = true) (r : Rd K M v d) : ∃ b, v = .ref b := by
  cases d <;> simp only [okK, Bool.false_eq_true] at h
  obtain ⟨a, _, e, _⟩ := Rd.inv_tuple r
  exact ⟨a, e⟩
theorem sn_added {bs : List (Addr × PyData)} {b : Addr} {d : PyData} {L' : List (Addr × NestedKey)} (ok : ∀ c ∈ bs, okK c.2 = true) (od : okK d = true) (nd : (bs.map (·.2)).Nodup) (h : Added (bs.map kOf) b (toK d) L') :
    ∃ cs : List (Addr × PyData), L' = cs.map kOf ∧ (∀ c ∈ cs, c = (b, d) ∨ c ∈ bs) ∧ (cs.map (·.2)).Nodup ∧ (∀ e, e ∈ cs.map (·.2) ↔ e = d ∨ e ∈ bs.map (·.2)) ∧ cs.length ≤ bs.length + 1 := by
  have inj : toK d ∈ (bs.map kOf).map (·.2) ↔ d ∈ bs.map (·.2) := by
    rw [List.map_map]
    constructor
    · intro h
      obtain ⟨c, hc, e⟩ := List.mem_map.mp h
      have e2 : toK c.2 = toK d := e
      exact List.mem_map.mpr ⟨c, hc, toK_inj _ _ (okK_num (ok c hc)).1 (okK_num od).1 e2⟩
    · intro h
      obtain ⟨c, hc, e⟩ := List.mem_map.mp h
      exact List.mem_map.mpr ⟨c, hc, by show toK c.2 = toK d; rw [e]⟩
  by_cases hm : d ∈ bs.map (·.2)
  · refine ⟨bs, h.1 (inj.mpr hm), fun c hc => .inr hc, nd, fun e => ⟨.inr, fun z => z.elim (fun e => e ▸ hm) id⟩, by omega⟩
  · have pm := h.2 fun z => hm (inj.mp z)
    obtain ⟨cs, e1, pc⟩ := perm_back kOf pm ((b, d) :: bs) rfl
    have p2 : (cs.map (·.2)).Perm (d :: bs.map (·.2)) := pc.map (·.2)
    exact ⟨cs, e1, fun c hc => List.mem_cons.mp (pc.mem_iff.mp hc), p2.nodup_iff.mpr (List.nodup_cons.mpr ⟨hm, nd⟩), fun e => by rw [p2.mem_iff, List.mem_cons], by rw [pc.length_eq]; simp⟩
theorem sl_sn {K : Kx} {P : Program} {w : World} {wi : TI} {g : TG} {tt : TT} {te : TE} {L : List Nat} {fi : FI} {fg : FG} {ft : FT} {fe : FE} {ni nt ne : Nat} (hi : SI K wi ni fi) (hg : SG K g L fg) (ht : ST K tt nt ft) (he : SE K te ne fe) :
    SL K (tCB (rSorted K.fg P w) (tCons (tSn K.fg P w wi g tt te L) tNil)) (ni + 1000 * (nt + ne)) (fun ρ R => fi ρ fun items => items.length < 1000 ∧ snF fg ft fe (blkE ρ L) items [] R) := fun C σ ρ H R Q hm G hf k =>
  hi C σ ρ H _ _ (by omega) G hf fun J H1 items m1 l1 u1 t1 wok h1 => by
    obtain ⟨hlen, hlc⟩ := h1
    obtain ⟨Gd, Y, walk, hG, hY⟩ := wok
    have G1 := G.tr t1
    intro D hD
    have nSD : ¬ C.S D := fun s => G1.ct.th _ _ G1.si D s hD
    have hm1 : m1 + 1000 * (nt + ne) ≤ lim := by omega
    refine lc_itO (σw := σ) walk (B := fun x H' Nx => g x (wipe σ L) H' fun σ2 H2 => wipe σ2 L = wipe σ L ∧ tt σ2 H2 fun c H3 =>
        if c = true then te σ2 H3 fun y H4 => ∃ b d M, y = .ref b ∧ Dp K.fg H4 (.ref b) d ∧ okK d = true ∧ H4 D = some (SetH P w D M) ∧ Mem K.fg H4 M ∧ M.length + 1 < 64 ∧ ∀ M', Added M b (toK d) M' → Nx (upd H4 D (SetH P w D M')) else Nx H3)
      (fun i H => ∃ m, m1 ≤ m ∧ m ≤ m1 + i * (nt + ne) ∧ Tr C.S (K.SI m) H1 H ∧ ∃ (acc : List PyData) (bs : List (Addr × PyData)), H D = some (SetH P w D (bs.map kOf)) ∧ (∀ b ∈ bs, okK b.2 = true ∧ Rd K (mask (fun a => bar C.B σ ρ a ∨ a = D) H) (.ref b.1) b.2) ∧
        (bs.map (·.2)).Nodup ∧ (∀ d, d ∈ bs.map (·.2) ↔ d ∈ acc) ∧ bs.length ≤ acc.length ∧ snF fg ft fe (blkE ρ L) (items.drop i) acc R) ?_ ?_ ?_ ?_
    · exact ⟨m1, Nat.le_refl _, by omega, G1.new hD, [], [], upd_same, (fun b hb => by cases hb), .nil, (fun d => by simp), Nat.le_refl _, by simpa using hlc⟩
    · rintro i H' _ ⟨m, _, _, t, _⟩
      exact hG H' ((G1.ex t).trans mask_le)
    · rintro i x H' H'' hi' ⟨m, lm, um, t, acc, bs, hd, hr, nd, mm, hl, hf⟩ y
      have hx : items[i]? = some items[i] := List.getElem?_eq_getElem hi'
      have hml : m + (nt + ne) ≤ lim := by
        have h1 : (i + 1) * (nt + ne) ≤ 1000 * (nt + ne) := Nat.mul_le_mul_right _ (by omega)
        rw [Nat.add_mul, Nat.one_mul] at h1
        omega
      obtain ⟨it, e1, e2⟩ := hY i H' x H'' hi' ((G1.ex t).trans mask_le) y
      rw [hx] at e1
      have e1 : items[i] = it := Option.some.inj e1
      rw [List.drop_eq_getElem_cons hi', e1] at hf
      have hDn : H' D ≠ none := by rw [hd]; simp
      have GB : Good K (blkC C σ ρ D m) (wipe σ L) (blkE ρ L) H' := G1.blk hD t hDn
      have m0 : Ex (mq C σ ρ H1) (mq (blkC C σ ρ D m) (wipe σ L) (blkE ρ L) H') := (blk_ex hD G1 t).trans (mask_sub fun a z => blk_bar z)
      have step : Tr C.S (K.SI m) H' H'' ∧ VlOk K (mq (blkC C σ ρ D m) (wipe σ L) (blkE ρ L) H'') x it ∧ H'' D = some (SetH P w D (bs.map kOf)) := by
        rcases e2 with ⟨rfl, o⟩ | ⟨T, o, n, rfl, ok⟩
        · exact ⟨Tr.refl t.2, o.mono m0, hd⟩
        · have tt := GB.new (o := o) n
          refine ⟨tt, ok.mono fun a u z => ?_, by rw [upd_ne (ne_of_none hd n)]; exact hd⟩
          by_cases ea : a = T
          · subst ea
            rw [upd_same] at z
            cases z
            exact GB.mq_new n
          · rw [upd_ne ea] at z
            exact (GB.ex tt) a u (m0 a u z)
      obtain ⟨t2, ox, hd2⟩ := step
      refine hg (blkC C σ ρ D m) (wipe σ L) (blkE ρ L) H'' x it _ _ (GB.tr t2) ox hf fun σ2 ρ2 G2 x2 w2 h2 => ⟨?_, ?_⟩
      · rw [w2]
        exact wipe_eq (wipe_len L) fun j m => by rw [wipe_get, if_neg (fun z => m z.1)]
      · have kept : ∀ {H3 : Hp} {m3 : Nat}, Tr C.S (K.SI m3) H'' H3 → H3 D = some (SetH P w D (bs.map kOf)) := fun t3 => t3.1 D _ nSD hd2
        have read : ∀ {H3 : Hp} {m3 : Nat}, Tr C.S (K.SI m3) H' H3 → ∀ b ∈ bs, okK b.2 = true ∧ Rd K (mask (fun a => bar C.B σ ρ a ∨ a = D) H3) (.ref b.1) b.2 := fun t3 b hb => ⟨(hr b hb).1, (hr b hb).2.mono (t3.ex fun a s => .inl (.inl (G1.ct.sb a s)))⟩
        refine ht (blkC C σ ρ D m) σ2 ρ2 H'' _ _ (by show m + nt ≤ lim; omega) G2 h2 fun b H3 m3 l3 u3 t3 h3 => ?_
        have l3' : m ≤ m3 := l3
        have u3' : m3 ≤ m + nt := u3
        cases b with
        | false => exact iteF ⟨m3, by omega, turn_up2 um (by omega), (t.trans t2).trans t3, acc, bs, kept t3, read (t2.trans t3), nd, mm, hl, by simpa using h3⟩
        | true =>
          refine iteT (he (blkC C σ ρ D m3) σ2 ρ2 H3 _ _ (by show m3 + ne ≤ lim; omega) (G2.tr t3) (by simpa using h3) fun v H4 z m4 l4 u4 t4 oz h4 => ?_)
          have l4' : m3 ≤ m4 := l4
          have u4' : m4 ≤ m3 + ne := u4
          match z, oz, h4 with
          | .d d, oz, h4 =>
            obtain ⟨od, few, h4⟩ := h4
            have t34 := t3.trans t4
            have t24 := (t2.trans t3).trans t4
            have oz' : Rd K (mask (fun a => bar C.B σ ρ a ∨ a = D) H4) v d := Rd.mono (mask_sub fun a z => .inl z) oz
            obtain ⟨b, rfl⟩ := ok_ref od oz'
            refine ⟨b, d, bs.map kOf, rfl, (Rd.mono mask_le oz').dp, od, kept t34, fun mm hmm => ?_, by rw [List.length_map]; omega, fun M' add => ?_⟩
            · obtain ⟨c, hc, rfl⟩ := List.mem_map.mp hmm
              exact ⟨c.2, (Rd.mono mask_le (read t24 c hc).2).dp, (read t24 c hc).1, rfl⟩
            · obtain ⟨cs, rfl, c1, c2, c3, c4⟩ := sn_added (fun c hc => (hr c hc).1) od nd add
              have same : mask (fun a => bar C.B σ ρ a ∨ a = D) (upd H4 D (SetH P w D (cs.map kOf))) = mask (fun a => bar C.B σ ρ a ∨ a = D) H4 := by
                funext a
                unfold mask
                by_cases z : bar C.B σ ρ a ∨ a = D
                · rw [if_pos z, if_pos z]
                · rw [if_neg z, if_neg z, upd_ne (fun q => z (.inr q))]
              refine ⟨m4, by omega, turn_up2 um (by omega), ⟨fun a o ns e => ?_, ?_⟩, acc ++ [d], cs, upd_same, fun c hc => ?_, c2, fun e => ?_, by rw [List.length_append]; simp; omega, h4⟩
              · rw [upd_ne (ne_of_none e hD)]
                exact (t.trans t24).1 a o ns e
              · exact G1.ct.st _ H4 _ (fun a s => by rw [upd_ne (fun q => nSD (by rw [← q]; exact s))]) (fun a q e => by rw [upd_ne (fun z => by rw [z, kept t34] at e; exact setH_code (Option.some.inj e))]; exact e) t24.2
              · rw [same]
                rcases c1 c hc with e | hc
                · rw [e]; exact ⟨od, oz'⟩
                · exact read t24 c hc
              · rw [c3 e, mm e, List.mem_append, List.mem_singleton]
                exact Or.comm
    · rintro H' ⟨m, lm, um, t, acc, bs, hd, hr, nd, mm, hl, hf⟩
      rw [List.drop_length] at hf
      obtain ⟨al, so, hf⟩ := (show fSorted acc R from hf)
      have : items.length * (nt + ne) ≤ 1000 * (nt + ne) := Nat.mul_le_mul_right _ (Nat.le_of_lt hlen)
      refine ⟨D, bs, rfl, hd, fun b hb => ⟨(hr b hb).1, (Rd.mono mask_le (hr b hb).2).dp⟩, fun d hd d' hd' => al d ((mm d).mp hd) d' ((mm d').mp hd'), so.imp (fun z d hd => z d ((mm d).mp hd)) fun z d hd => z d ((mm d).mp hd), fun cs p pc hp => ?_⟩
      have pn := G1.back t hp
      have nD : p ≠ D := fun e => by rw [e, hd] at hp; cases hp
      have e3 : (cs.mergeSort (dataLe false fun c : Addr × PyData => c.2)).map (fun c : Addr × PyData => c.2) = (cs.map fun c : Addr × PyData => c.2).mergeSort (dataLe false fun d : PyData => d) := sort_maps (fun c : Addr × PyData => c.2) fun _ _ _ _ => rfl
      have rdp : ∀ b : Addr × PyData, b ∈ bs → Rd K (mask (fun a => bar C.B σ ρ a ∨ a = p) (upd H' p (.lst ((cs.mergeSort (dataLe false (·.2))).map fun b => V.ref b.1)))) (.ref b.1) b.2 := fun b hb => (hr b hb).2.mono fun a o ha => by
        obtain ⟨nb, ha⟩ := mask_of ha
        have ne : a ≠ p := ne_of_none ha hp
        refine mask_at (fun z => z.elim (fun z => nb (.inl z)) ne) ?_
        rw [upd_ne ne]; exact ha
      have all : ∀ ms : List (Addr × PyData), (∀ b ∈ ms, b ∈ bs) → RdA K (mask (fun a => bar C.B σ ρ a ∨ a = p) (upd H' p (.lst ((cs.mergeSort (dataLe false (·.2))).map fun b => V.ref b.1)))) (ms.map fun b => V.ref b.1) (ms.map (·.2)) := by
        intro ms
        induction ms with
        | nil => intro _; exact .nil
        | cons b ms ih => intro h; exact .cons (rdp b (h b (List.mem_cons_self ..))) (ih fun c hc => h c (List.mem_cons_of_mem _ hc))
      refine k p _ _ ((cs.map (·.2)).mergeSort (dataLe false fun d => d)) m (by omega) (by omega) (G.back t1 pn) ((t1.trans t).trans ((G1.tr t).new hp)) upd_same ?_ (hf _ ?_ fun d => ?_)
      · rw [← e3]
        exact all _ fun b hb => pc.mem_iff.mp (List.mem_mergeSort.mp hb)
      · exact (pc.map (·.2)).nodup_iff.mpr nd
      · rw [(pc.map (·.2)).mem_iff]; exact mm d
section
variable {F : Fm} {elt tg iter : Expr} {ifs : List Expr} {scope : Scope} {pos p p2 : Pos} {fi : FI} {fg : FG} {ft : FT} {fe : FE} {ni nt ne : Nat}
/-- sorted({elt for target in iter if ..}) -/
theorem l_sortS (hms : F.mg "sorted" = none) (own : List (Str × Nat)) (hi : Ei F tg iter ni fi) (ok : ∀ i, BlkOk F.N (F.X i).env.scope scope own) (hg : Eg (F.blk scope) tg (own.map (·.2)) fg) (ht : Ets (F.blk scope) ifs nt ft) (he : Ee (F.blk scope) elt ne fe)
    (hgs : ∀ i, Gl (F.X i) "sorted" := by intro _; rfl)
    (hs : ∀ i x, foldedSetIterable iter (F.X i).env x = pure x := by intro _ _; rfl)
    (h1s : ∀ i, starEach [.SetComp elt [⟨tg, iter, ifs, 0⟩] scope p2] (F.X i).env = (false, eval (.SetComp elt [⟨tg, iter, ifs, 0⟩] scope p2) (F.X i).env) :: starEach [] (F.X i).env := by intro _; rfl)
    (hpl : ∀ i, (backTo pos (starEach [] (F.X i).env)).any (·.1) = false := by intro _; rfl) :
    El F (.Call (.Name "sorted" p) [.SetComp elt [⟨tg, iter, ifs, 0⟩] scope p2] [] pos) (ni + 1000 * (nt + ne)) (fun ρ R => fi ρ fun items => items.length < 1000 ∧ snF fg ft fe (blkE ρ (own.map (·.2))) items [] R) := by
  obtain ⟨wi, pi, si⟩ := hi
  obtain ⟨g, pg, sg⟩ := hg
  obtain ⟨tt, ptt, stt⟩ := ht
  obtain ⟨te, pte, ste⟩ := he
  refine ⟨_, fun i => ?_, sl_sn (P := F.P) (w := F.w) si sg stt ste⟩
  have c1 := call_sorted (X := F.X i) (F.calm i) (F.room i).units
  have c2 := pe_sn (pos := p2) (F.calm i) (F.room i).units (by rw [F.eN]; exact F.nd) (pi i) (by rw [F.eN]; exact ok i) (fun s H c cl fp => pg (i, s, H, c, cl, fp)) (fun s H c cl fp => ptt (i, s, H, c, cl, fp)) (fun s H c cl fp => pte (i, s, H, c, cl, fp)) (hs i)
  rw [F.eK i, F.eP i, F.eW i] at c1 c2
  exact pe_callB c1 (hgs i) (by rw [F.eM]; exact hms) rfl (pa_cons c2 pa_nil (h1s i)) (by decide) (by decide) (h1s i) (hpl i)
end
end Px

set_option Elab.async false
set_option linter.all false
set_option maxRecDepth 100000
set_option maxHeartbeats 4000000
/-! PxSetQ: set(a list), whatever is known of each adding; sorted(set(xs)) of integers and of numbers' tuples; sorted(xs). -/
namespace Px
open PySem PySem.Spec PyProof.Rows L2 PySem.W
section
variable {P : Program} {w : World} {A : Around} {E : Value → Shared → Prop} {s : Shared}
/-- all that stood stands -/
abbrev Holds0 (h0 h : Heap) : Prop := ∀ b o, h0.get? b = some o → h.get? b = some o
/-- what one turn of the filling does -/
def AddsTo (P : Program) (w : World) (A : Around) (S : Addr) (h0 : Heap) (n : Nat) (Pv : Nat → Value → Prop) (J : Nat → Heap → Prop) : Prop :=
  (∀ i h h', J i h → (∀ o, h.get? S = some o → h'.get? S = some o) → Holds0 h0 h' → J i h') ∧
  ∀ (i : Nat) (v : Value) (z : Shared) (Q : Bool → Shared → Prop) (E : Value → Shared → Prop), i < n → Pv i v → J i z.heap → Holds0 h0 z.heap →
    (∀ b h' tk, z.toks ≤ tk → Heap.SameBut S z.heap h' → J (i + 1) h' → Q b { z with heap := h', toks := tk }) → wpAny (model P w) A (setAdd S v) Q E z
theorem fill_loop {I S : Addr} {fp wr : List Addr} {G : Array GenState → Array GenState → Prop} {n : Nat} {Pv : Nat → Value → Prop} {St : Nat → Shared → Prop} {R : Result → Shared → Prop} {J : Nat → Heap → Prop} {h0 : Heap}
    (W : WalksS P w A.in1 I fp wr G n Pv St) (nS : S ∉ fp) (hS0 : h0.get? S = none) (hw0 : ∀ b ∈ wr, h0.get? b = none) (T : AddsTo P w A.in1 S h0 n Pv J) :
    ∀ (left i : Nat) (z : Shared), n - i = left → i ≤ n → St i z → Holds0 h0 z.heap → J i z.heap →
      (∀ z', Moved (S :: wr) G z z' → J n z'.heap → Holds0 h0 z'.heap → R (.ok (.ret .none)) z') → codeAny (model P w) A (.builtin "set.update.loop" ⟨[.ref S, .ref I], []⟩) R z := by
  have nSw : S ∉ wr := fun h => nS (W.sub _ h)
  have into : ∀ b ∈ wr, b ∈ S :: wr := fun b hb => List.mem_cons_of_mem _ hb
  have stands : ∀ {z z' : Shared}, Moved wr G z z' → Holds0 h0 z.heap → Holds0 h0 z'.heap := fun mv kp b o e =>
    mv.heap b o (fun hb => by rw [hw0 b hb] at e; cases e) (kp b o e)
  intro left
  induction left with
  | zero =>
    intro i z hl hi st kp j out
    have e : i = n := by omega
    subst e
    refine codeAny_builtin F.entry_set_update_loop ?_
    rw [Around.under_plainId F.plain_set_update_loop _]
    show wpAny _ A.in1 (pyNext (.ref I) >>= _) _ _ z
    refine wpAny_bind (W.done z _ _ st fun z' mv => ?_)
    show wpAny _ A.in1 (ret Value.none) _ _ z'
    exact wpAny_pure (out z' (mv.mono into) (T.1 _ _ _ j (fun o e => mv.heap S o nSw e) (stands mv kp)) (stands mv kp))
  | succ left ih =>
    intro i z hl hi st kp j out
    have lt : i < n := by omega
    refine codeAny_builtin F.entry_set_update_loop ?_
    rw [Around.under_plainId F.plain_set_update_loop _]
    show wpAny _ A.in1 (pyNext (.ref I) >>= _) _ _ z
    refine wpAny_bind (W.item i z _ _ lt st fun v z' hP st' mv => ?_)
    have kp' := stands mv kp
    have j' := T.1 _ _ _ j (fun o e => mv.heap S o nSw e) kp'
    show wpAny _ A.in1 (holding [v] (setAdd S v) >>= _) _ _ z'
    refine wpAny_bind (wpAny_holding (T.2 i v z' _ _ lt hP j' kp' fun b h' tk le sb j2 => ?_))
    have kp2 : Holds0 h0 h' := fun b o e => (sb.2 b (fun q => by rw [q, hS0] at e; cases e)).trans (kp' b o e)
    refine wpAny_pure ⟨plainId_quiet F.plain_set_update_loop _, ih (i + 1) _ (by omega) lt (W.frame _ z' _ _ st' le fun b hb o e => ?_) kp2 j2 fun z2 mv2 j3 kp3 => ?_⟩
    · exact (sb.2 b (fun q : b = S => nS (by rw [← q]; exact hb))).trans e
    · refine out z2 (Moved.trans W.gtrans ((mv.mono into).then_heap le fun b o hb e => ?_) mv2) j3 kp3
      exact (sb.2 b (fun q : b = S => hb (by rw [q]; exact List.mem_cons_self))).trans e
abbrev freshObj (w : World) : Obj := { cls := .type "set", dict := none, data := .set #[] 0 (.fresh 0 0 (!w.params.followText "set-order")) }
/-- set(xs), xs a list -/
theorem call_set_gen {l : Addr} {items : Array Value} {J : Nat → Heap → Prop} {Q : Value → Shared → Prop} (hh : A.handled = none) (hl : s.heap.IsList l items)
    (j0 : ∀ h : Heap, h.get? s.heap.objs.size = some (freshObj w) → Holds0 s.heap h → J 0 h)
    (T : ∀ B : Around, B.units ≤ A.units + 5 → AddsTo P w B s.heap.objs.size s.heap items.size (fun i v => items[i]? = some v) J)
    (q : ∀ (h' : Heap) (tk : Nat), J items.size h' → Holds0 s.heap h' → Q (.ref s.heap.objs.size) { s with heap := h', toks := tk }) :
    wpAny (model P w) A (call (.type "set") [.ref l]) Q E s := by
  obtain ⟨c, tl, mro⟩ := F.called_set.mro
  have made := F.called_set.made
  have sub := F.called_set.sub
  refine wpAny_call (codeAny_of_tree ?_)
  show wpAny _ _ (callAny (.type "set") _) _ _ _
  refine wpAny_pure ⟨Code.quiet_builtin _ (by decide +kernel), codeAny_builtin F.entry_type_call ?_⟩
  rw [Around.under_plain (weight_type_call_type "set" [.ref l] []) rfl]
  have n1 := F.called_set.notType
  have n2 := F.called_set.canCreate
  have n3 := F.typeCall_set_1 (.ref l)
  repeat (any_goals (first | assumption | wp_step))

  refine codeAny_mono (code_set_led1 (.ref l) (E := E) (Q₁ := fun obj z => obj = .ref s.heap.objs.size ∧ z = { s with heap := s.heap.push (freshObj w) }) ⟨rfl, rfl⟩) fun r z hr => ?_
  cases r with
  | error e => exact hr
  | ok fl =>
    cases fl with
    | ret obj =>
      obtain ⟨rfl, rfl⟩ := hr
      have hS : (s.heap.push (freshObj w)).get? s.heap.objs.size = some (freshObj w) := Heap.get?_push_size _ rfl
      have hT : Shared.TypeIs { s with heap := s.heap.push (freshObj w) } (.ref s.heap.objs.size) "set" := ⟨_, hS, rfl⟩
      have li := F.called_set.init.lookup
      have bi := F.called_set.init.bind (.ref s.heap.objs.size)
      repeat (any_goals (first | assumption | wp_step))

      refine codeAny_mono (codeAny_call_builtin (R := wants (fun r z2 => r = .none ∧ ∃ h' tk, z2 = { s with heap := h', toks := tk } ∧ J items.size h' ∧ Holds0 s.heap h') E) F.called_set.init.plain F.entry_set_init (check_set_init_1 hT ?_)) fun r2 z2 hr2 => ?_
      · obtain ⟨ol, hol, hcl, nl, hdl⟩ := hl
        obtain ⟨ocls, odict, odata, oslots⟩ := ol
        simp only at hcl hdl
        subst hcl; subst hdl
        have hol1 : (s.heap.push (freshObj w)).get? l = some { cls := .type "list", dict := odict, data := .seq items nl, slots := oslots } := Heap.get?_push_of_some _ hol
        have s1 := F.sub_list_set
        have s2 := F.sub_list_frozenset
        have s3 : (Value.type "list" == Value.type "dict") = false := by decide
        have hl1 : (s.heap.push (freshObj w)).IsList l items := ⟨_, hol1, rfl, nl, rfl⟩
        unfold Builtin.«set.__init__» noKeywords Builtin.Frozenset.updateFrom
        generalize hPI : pyIter = PI
        wp_walk
        subst hPI

        refine wpAny_pyIter_list hl1 ?_
        refine wpAny_bind (wpAny_runValue ?_)
        have lt : l < s.heap.objs.size := Heap.lt_size hol
        have hh3 : A.in1.in1.in1.handled = none := by simp [hh]
        have z1 : (s.heap.push (freshObj w)).objs.size = s.heap.objs.size + 1 := Heap.size_push ..
        have neI : l ≠ (s.heap.push (freshObj w)).objs.size := by
          rw [z1]; exact Nat.ne_of_lt (Nat.lt_succ_of_lt lt)
        have nS : s.heap.objs.size ∉ [(s.heap.push (freshObj w)).objs.size, l] := by
          rw [z1]; simp only [List.mem_cons, List.mem_singleton, List.not_mem_nil, or_false, not_or]
          exact ⟨Nat.ne_of_lt (Nat.lt_succ_self _), Nat.ne_of_gt lt⟩
        have none_at : ∀ b, s.heap.objs.size ≤ b → s.heap.get? b = none := fun b hb => by
          cases e : s.heap.get? b with
          | none => rfl
          | some o => exact absurd (Nat.lt_of_lt_of_le (Heap.lt_size e) hb) (Nat.lt_irrefl _)
        refine fill_loop (J := J) (h0 := s.heap) ((Walks.list hh3 _ l neI items).toS) nS (none_at _ (Nat.le_refl _)) (fun b hb => none_at b (by
            rw [List.mem_singleton.mp hb, z1]
            exact Nat.le_succ _)) (T _ (by simp only [Around.in1_units]; omega)) (items.size - 0) 0 _ (by omega) (Nat.zero_le _)
          ⟨⟨_, Heap.get?_push_size _ rfl, rfl, rfl⟩, (hl1.push _)⟩ (fun b o e => Heap.get?_push_of_some _ (Heap.get?_push_of_some _ e)) (j0 _ (Heap.get?_push_of_some _ hS) (fun b o e => Heap.get?_push_of_some _ (Heap.get?_push_of_some _ e))) ?out
        case out =>
          intro z' mv j kp
          obtain ⟨h', g', d', tk', os'⟩ := z'
          have eg : g' = s.gens := mv.gens
          have ed : d' = s.drawn := mv.drawn
          have eo : os' = s.os := mv.os
          subst eg; subst ed; subst eo
          show wpAny _ _ _ _ _ _
          refine wpAny_pure ?_
          show wpAny _ _ (ret Value.none) _ _ _
          exact wpAny_pure ⟨rfl, h', tk', rfl, j, kp⟩

      · cases r2 with
        | error e => exact hr2
        | ok fl2 =>
          cases fl2 with
          | ret r =>
            obtain ⟨rfl, h', tk, rfl, j, kp⟩ := hr2
            repeat (any_goals (first | assumption | wp_step))
            exact q _ _ j kp
          | _ => exact hr2.elim
    | _ => exact hr.elim
end
end Px

set_option Elab.async false
set_option linter.all false
set_option maxRecDepth 100000
set_option maxHeartbeats 4000000
/-! PxSetR: sorted(set(xs)) of integers and of numbers' tuples, sorted(xs) of data. -/
namespace Px
open PySem PySem.Spec PyProof.Rows L2 PySem.W
section
variable {P : Program} {w : World} {A : Around} {E : Value → Shared → Prop} {s : Shared}
theorem IsN.held {h h' : Heap} {k : NestedKey} {b : Addr} (x : IsN P w h k b) (hk : Holds0 h h') : IsN P w h' k b := x.at hk
theorem len_in {α : Type} : ∀ (l U : List α), l.Nodup → (∀ x ∈ l, x ∈ U) → l.length ≤ U.length
  | [], U, _, _ => Nat.zero_le _
  | x :: l, U, nd, h => by
    obtain ⟨s, t, rfl⟩ := List.append_of_mem (h x (List.mem_cons_self ..))
    obtain ⟨n1, n2⟩ := List.nodup_cons.mp nd
    have := len_in l (s ++ t) n2 fun y hy => by
      have z := h y (List.mem_cons_of_mem _ hy)
      rcases List.mem_append.mp z with z | z
      · exact List.mem_append_left _ z
      · rcases List.mem_cons.mp z with e | z
        · exact absurd (e ▸ hy) n1
        · exact List.mem_append_right _ z
    rw [List.length_append] at this
    rw [List.length_cons, List.length_append, List.length_cons]
    omega
theorem adds_tups {l : Addr} {items : Array Value} {bs : List (Addr × PyData)} (few : ∃ U : List PyData, U.length < 62 ∧ ∀ b ∈ bs, b.2 ∈ U) (hit : items.toList = bs.map vOf) (rd : ∀ b ∈ bs, okK b.2 = true ∧ IsN P w s.heap (toK b.2) b.1) (B : Around) (hu : B.units + 16 < cLine) :
    AddsTo P w B s.heap.objs.size s.heap items.size (fun i v => items[i]? = some v) fun i h => ∃ (cs : List (Addr × PyData)) (es : Array (Int × Value)) (ep : Nat) (t : SetTable), SetN P w h s.heap.objs.size (cs.map kOf) es ep t ∧ (∀ c ∈ cs, c ∈ bs) ∧ (cs.map (·.2)).Nodup ∧ (∀ d, d ∈ cs.map (·.2) ↔ d ∈ (bs.take i).map (·.2)) ∧ cs.length ≤ i := by
  have size : items.size = bs.length := by
    have q := congrArg List.length hit
    rw [Array.length_toList, List.length_map] at q
    exact q
  refine ⟨fun i h h' j k1 k2 => ?_, fun i v z Q E lt hv j kp q => ?_⟩
  · obtain ⟨cs, es, ep, t, R, c1, c2, c3, c4⟩ := j
    obtain ⟨o, ho, r⟩ := R.obj
    refine ⟨cs, es, ep, t, ⟨⟨o, k1 o ho, r⟩, R.rows, R.tab, R.nodup, fun m hm => ?_, R.plain, R.led, R.wide, R.few⟩, c1, c2, c3, c4⟩
    obtain ⟨c, hc, rfl⟩ := List.mem_map.mp hm
    exact (rd c (c1 c hc)).2.held k2
  · obtain ⟨cs, es, ep, t, R, c1, c2, c3, c4⟩ := j
    have e : items.toList[i]? = some v := by rw [Array.getElem?_toList]; exact hv
    rw [hit, List.getElem?_map] at e
    have lt2 : i < bs.length := by omega
    rw [List.getElem?_eq_getElem lt2] at e
    have ev : v = vOf bs[i] := (Option.some.inj e).symm
    subst ev
    have hm : bs[i] ∈ bs := List.getElem_mem lt2
    have x := (rd _ hm).2.held kp
    unfold setAdd
    refine wpAny_holding (wpAny_bind ((nestedKind P w).pyHash (show B.units + 8 < cLine by omega) x.1 ?_))
    refine add_one (s := { z with toks := z.toks + (nestedKind P w).draws (toK bs[i].2) }) R x (by omega) (by
      obtain ⟨U, u1, u2⟩ := few
      have := len_in (cs.map (·.2)) U c2 fun d hd => by
        obtain ⟨c, hc, rfl⟩ := List.mem_map.mp hd
        exact u2 c (c1 c hc)
      rw [List.length_map] at this
      rw [List.length_map]; omega) fun b h' L' es' ep' t' sb R' a1 a2 => ?_
    obtain ⟨cs', rfl, d1, d2, d3, d4⟩ := sn_added (fun c hc => (rd c (c1 c hc)).1) (rd _ hm).1 c2 ⟨a1, a2⟩
    refine q b h' _ (Nat.le_add_right _ _) sb ⟨cs', es', ep', t', R', fun c hc => ?_, d2, fun d => ?_, by omega⟩
    · rcases d1 c hc with e | hc
      · rw [e]; exact hm
      · exact c1 c hc
    · rw [d3 d, c3 d, List.take_succ, List.getElem?_eq_getElem lt2, List.map_append, List.mem_append]
      simp
      exact Or.comm
theorem adds_ints {items : Array Value} {ns : List Int} (few : ns.length < 62) (hit : IntsAre items.toList ns) (B : Around) :
    AddsTo P w B s.heap.objs.size s.heap items.size (fun i v => items[i]? = some v) fun i h => ∃ c, c ≤ i ∧ SetR w h s.heap.objs.size (fun j => decide (j ∈ ns.take i)) c := by
  have size : items.size = ns.length := by
    have q := IntsAre.length hit
    rw [Array.length_toList] at q
    exact q
  refine ⟨fun i h h' j k1 k2 => ?_, fun i v z Q E lt hv j kp q => ?_⟩
  · obtain ⟨c, hc, R⟩ := j
    exact ⟨c, hc, R.at k1⟩
  · obtain ⟨c, hc, R⟩ := j
    have lt2 : i < ns.length := by omega
    obtain ⟨t, e⟩ := PyProof.Rows.IntsAre.int_at hit i v (by rw [Array.getElem?_toList]; exact hv)
    rw [List.getD_eq_getElem?_getD, List.getElem?_eq_getElem lt2] at e
    have ev : v = .int ns[i] t := e
    subst ev
    unfold setAdd
    refine wpAny_holding (wpAny_bind ((intKind P w).pyHash (k := ns[i]) (intKind_is _ _ _ _) ?_))
    refine setR_add_hashed (s := { z with toks := z.toks + 1 }) R (by unfold scanBound; omega) fun h' sb R' => ?_
    refine q _ h' _ (Nat.le_add_right _ _) sb ⟨_, ?_, R'.congr fun j => ?_⟩
    · split <;> omega
    · have e3 : ns.take (i + 1) = ns.take i ++ [ns[i]] := by rw [List.take_succ, List.getElem?_eq_getElem lt2] <;> rfl
      rw [Bool.eq_iff_iff, e3]
      simp only [List.mem_append, List.mem_singleton, decide_eq_true_eq, Bool.or_eq_true]
end
section
variable {X : Cx}
/-- set of a list of such tuples -/
def rSetT (K : Fg) (P : Program) (w : World) : List V → Hp → VK → Prop := fun vs H Q => ∃ (l : Addr) (bs : List (Addr × PyData)), vs = [V.ref l] ∧ SqL K H l (bs.map fun b => V.ref b.1) ∧ (∀ b ∈ bs, okK b.2 = true ∧ Dp K H (.ref b.1) b.2) ∧ (∃ U : List PyData, U.length < 62 ∧ ∀ b ∈ bs, b.2 ∈ U) ∧
  ∀ (a : Addr) (cs : List (Addr × PyData)), H a = none → (∀ c ∈ cs, c ∈ bs) → (cs.map (·.2)).Nodup → (∀ d, d ∈ cs.map (·.2) ↔ d ∈ bs.map (·.2)) → Q (.ref a) (upd H a (SetH P w a (cs.map kOf)))
theorem vals_refsT : ∀ {bs : List (Addr × PyData)} {us : List Value}, Vals (bs.map fun b => V.ref b.1) us → us = bs.map vOf
  | [], _, .nil => rfl
  | b :: bs, _, .cons r t => by
    cases r
    rw [vals_refsT t] <;> rfl
theorem call_setT (calm : X.calm = true) (hu : X.A.units + 64 < cLine) : CallR X (.type "set") (rSetT X.K X.prog X.w) := by
  intro pins s σ H vs us Q I r h
  obtain ⟨l, bs, rfl, hl, rd, few, q⟩ := h
  rw [Vals.ref1 r]
  obtain ⟨its, rv, pl, hz⟩ := I.list hl
  have hn : H s.heap.objs.size = none := I.hok.fresh (Nat.le_refl _)
  have hit : its.toArray.toList = bs.map vOf := by simpa using vals_refsT rv
  have size : its.toArray.size = bs.length := by
    have e := congrArg List.length hit
    rw [Array.length_toList, List.length_map] at e
    exact e
  refine call_set_gen (J := fun i h => ∃ (cs : List (Addr × PyData)) (es : Array (Int × Value)) (ep : Nat) (t : SetTable), SetN X.prog X.w h s.heap.objs.size (cs.map kOf) es ep t ∧ (∀ c ∈ cs, c ∈ bs) ∧ (cs.map (·.2)).Nodup ∧ (∀ d, d ∈ cs.map (·.2) ↔ d ∈ (bs.take i).map (·.2)) ∧ cs.length ≤ i) (I.ok.hd calm) pl.isList (fun h ho kp => by
      refine ⟨[], #[], 0, _, fresh_set ho, fun c hc => ?_, List.Pairwise.nil, fun d => ?_, Nat.le_refl _⟩
      · cases hc
      · rw [List.take_zero]) (fun B hB => adds_tups (l := l) (bs := bs) few hit (fun b hb => ⟨(rd b hb).1, isN_of I (rd b hb).2 (rd b hb).1⟩) B (by omega)) fun h' tk j kp => ?_
  obtain ⟨cs, es, ep, t, R, c1, c2, c3, c4⟩ := j
  rw [size, List.take_length] at c3
  exact ⟨.ref s.heap.objs.size, upd H s.heap.objs.size (SetH X.prog X.w s.heap.objs.size (cs.map kOf)), I.laid (t' := tk) kp (Nat.le_refl _) (setH_ok R.bare), rfl, q _ cs hn c1 c2 c3⟩
/-- set of a list of integers -/
def rSetI (K : Fg) (w : World) : List V → Hp → VK → Prop := fun vs H Q => ∃ (l : Addr) (ns : List Int), vs = [V.ref l] ∧ SqL K H l (ns.map V.int) ∧ ns.length < 62 ∧
  ∀ a c, H a = none → c < 62 → Q (.ref a) (upd H a (SetO w a (fun j => decide (j ∈ ns)) c))
theorem call_setI (calm : X.calm = true) : CallR X (.type "set") (rSetI X.K X.w) := by
  intro pins s σ H vs us Q I r h
  obtain ⟨l, ns, rfl, hl, few, q⟩ := h
  rw [Vals.ref1 r]
  obtain ⟨its, rv, pl, hz⟩ := I.list hl
  have hn : H s.heap.objs.size = none := I.hok.fresh (Nat.le_refl _)
  have hit : IntsAre its.toArray.toList ns := by simpa using rv.ints
  have size : its.toArray.size = ns.length := by
    have e := IntsAre.length hit
    rw [Array.length_toList] at e
    exact e
  refine call_set_gen (I.ok.hd calm) pl.isList (fun h ho kp => ⟨0, Nat.le_refl 0, setR_new_at ho⟩) (fun B hB => adds_ints (ns := ns) few hit B) fun h' tk j kp => ?_
  obtain ⟨c, hc, R⟩ := j
  rw [size, List.take_length] at R
  rw [size] at hc
  exact ⟨.ref s.heap.objs.size, upd H s.heap.objs.size (SetO X.w s.heap.objs.size (fun j => decide (j ∈ ns)) c), I.laid (t' := tk) kp (Nat.le_refl _) (setO_new R), rfl, q _ c hn (by omega)⟩
/-- sorted of a list of data -/
def rSortL (K : Fg) : List V → Hp → VK → Prop := fun vs H Q => ∃ (l : Addr) (bs : List (V × PyData)), vs = [V.ref l] ∧ SqL K H l (bs.map (·.1)) ∧ (∀ b ∈ bs, Dp K H b.1 b.2 ∧ b.2.depth ≤ 50) ∧ bs.length ≤ 100000 ∧ AllAlike (bs.map (·.2)) ∧ Sortable (bs.map (·.2)) ∧
  ∀ p, H p = none → Q (.ref p) (upd H p (.lst ((bs.mergeSort (dataLe false (·.2))).map (·.1))))
theorem each_rel : ∀ {bs : List (V × PyData)} {us : List Value}, Vals (bs.map (·.1)) us → EachIs (fun v b => RelV b.1 v) us bs
  | [], _, .nil => .nil
  | _ :: _, _, .cons r t => .cons r (each_rel t)
theorem rel_each : ∀ {us : List Value} {bs : List (V × PyData)}, EachIs (fun v b => RelV b.1 v) us bs → Vals (bs.map (·.1)) us
  | _, _, .nil => .nil
  | _, _, .cons r t => .cons r (rel_each t)
theorem each_reads {R : Value → V × PyData → Prop} : ∀ {us : List Value} {bs : List (V × PyData)}, EachIs (fun v b => RelV b.1 v) us bs → (∀ v, ∀ b ∈ bs, RelV b.1 v → R v b) → EachIs R us bs
  | _, _, .nil, _ => .nil
  | _, _, .cons r t, h => .cons (h _ _ (List.mem_cons_self ..) r) (each_reads t fun v b hb => h v b (List.mem_cons_of_mem _ hb))
theorem call_sortL (hu : X.A.units + 64 < cLine) : CallR X (.builtin "sorted") (rSortL X.K) := by
  intro pins s σ H vs us Q I r h
  obtain ⟨l, bs, rfl, hl, rd, len, al, so, q⟩ := h
  rw [Vals.ref1 r]
  obtain ⟨its, rv, pl, hz⟩ := I.list hl
  have er := each_rel rv
  refine sorted_data (R := fun v b => RelV b.1 v) (enc := (·.2)) (bs := bs) pl.isList er (each_reads er fun v b hb rel => Dp.reads I _ _ v (rd b hb).1 rel) al so (by rw [sizeLine_eq]; omega) (fun b hb => by have := (rd b hb).2; omega) fun out ho eo => ?_
  obtain ⟨c, hc⟩ := sortedAll_at s.heap its (List.toArray out)
  have hp : s.heap.objs.size ≤ s.heap.objs.size + 1 := Nat.le_succ _
  refine ⟨.ref (s.heap.objs.size + 1), _, I.laid (t' := s.toks) (o := .lst ((bs.mergeSort (dataLe false (·.2))).map (·.1))) (fun b o e => sortedAll_old e) hp ⟨?_, out, c, rel_each eo, hc⟩, rfl, q _ (I.hok.fresh hp)⟩
  rw [List.length_map, List.length_mergeSort, sizeLine_eq]; omega
end
/-! ### the pure side -/
section
variable {F : Fm} {e : Expr} {pos p p1 pos1 : Pos} {n : Nat} {fe : FE}
theorem pairs_of {K : Fg} {M : Hp} : ∀ {vs : List V} {ds : List PyData}, RdA K M vs ds → ∃ bs : List (V × PyData), bs.map (·.1) = vs ∧ bs.map (·.2) = ds ∧ ∀ b ∈ bs, Rd K M b.1 b.2
  | _, _, .nil => ⟨[], rfl, rfl, fun b hb => by cases hb⟩
  | v :: _, d :: _, .cons r t => by
    obtain ⟨bs, h1, h2, h3⟩ := pairs_of t
    refine ⟨(v, d) :: bs, by rw [List.map_cons, h1], by rw [List.map_cons, h2], fun b hb => ?_⟩
    rcases List.mem_cons.mp hb with e | hb
    · rw [e]; exact r
    · exact h3 b hb
theorem rdA_pairs {K : Fg} {M : Hp} : ∀ {bs : List (V × PyData)}, (∀ b ∈ bs, Rd K M b.1 b.2) → RdA K M (bs.map (·.1)) (bs.map (·.2))
  | [], _ => .nil
  | b :: bs, h => .cons (h b (List.mem_cons_self ..)) (rdA_pairs fun c hc => h c (List.mem_cons_of_mem _ hc))
def asSrt (R : List PyData → Prop) : Vl → Prop
  | .d (.list ds) => AllAlike ds ∧ Sortable ds ∧ ds.length ≤ 100000 ∧ PyData.depthAll ds ≤ 50 ∧ R (ds.mergeSort (dataLe false fun d => d))
  | _ => False
/-- sorted(e), e a list of data -/
theorem l_sort (hm : F.mg "sorted" = none) (he : Ee F e n fe) (hg : ∀ i, Gl (F.X i) "sorted" := by intro _; rfl) (h1s : ∀ i, starEach [e] (F.X i).env = (false, eval e (F.X i).env) :: starEach [] (F.X i).env := by intro _; rfl)
    (hpl : ∀ i, (backTo pos (starEach [] (F.X i).env)).any (·.1) = false := by intro _; rfl) : El F (.Call (.Name "sorted" p) [e] [] pos) n (fun ρ R => fe ρ (asSrt R)) := by
  obtain ⟨t, pt, s⟩ := he
  refine ⟨tCB (rSortL F.K.fg) (tCons t tNil), fun i => ?_, fun C σ ρ H R Q hm G hf k => s C σ ρ H _ _ hm G hf fun v H1 y m l u t1 oy hy => ?_⟩
  · have c1 := call_sortL (X := F.X i) (F.room i).units
    rw [F.eK i] at c1
    exact pe_callB c1 (hg i) (by rw [F.eM]; exact hm) rfl (pa_cons (pt i) pa_nil (h1s i)) (by decide) (by decide) (h1s i) (hpl i)
  have G1 := G.tr t1
  match y, oy, hy with
  | .d (.list ds), oy, hy =>
    obtain ⟨al, so, len, dep, hy⟩ := hy
    obtain ⟨a, ws, rfl, ha, ra⟩ := Rd.inv_list oy
    obtain ⟨bs, rfl, rfl, rb⟩ := pairs_of ra
    refine ⟨a, bs, rfl, SqL.of (mask_le _ _ ha), fun b hb => ⟨((rb b hb).mono mask_le).dp, ?_⟩, by rw [← List.length_map (f := Prod.snd) (as := bs)]; exact len, al, so, fun p hp => ?_⟩
    · exact Nat.le_trans (PyData.depth_le_depthAll _ _ (List.mem_map.mpr ⟨b, hb, rfl⟩)) dep
    · have e3 : (bs.mergeSort (dataLe false fun c : V × PyData => c.2)).map (fun c : V × PyData => c.2) = (bs.map fun c : V × PyData => c.2).mergeSort (dataLe false fun d : PyData => d) := sort_maps (fun c : V × PyData => c.2) fun _ _ _ _ => rfl
      refine k p _ _ _ m l u (G.back t1 hp) (t1.trans (G1.new hp)) upd_same ?_ hy
      refine fresh_rd hp ?_
      rw [← e3]
      exact rdA_pairs fun b hb => rb b (List.mem_mergeSort.mp hb)
def asSetI (R : List PyData → Prop) : Vl → Prop
  | .d (.list ds) => ∃ ns, allI ds = some ns ∧ ns.length < 62 ∧ ∀ out : List Int, out.Pairwise (· < ·) → (∀ k, k ∈ out ↔ k ∈ ns) → R (out.map PyData.int)
  | _ => False
theorem ints_rd (K : Fg) (M : Hp) : ∀ ns : List Int, RdA K M (ns.map V.int) (ns.map PyData.int)
  | [] => .nil
  | n :: ns => .cons (.int n) (ints_rd K M ns)
/-- sorted(set(e)), e a list of integers -/
theorem l_sortSetI (hm : F.mg "sorted" = none) (hm2 : F.mg "set" = none) (he : Ee F e n fe) (hg : ∀ i, Gl (F.X i) "sorted" := by intro _; rfl) (hg2 : ∀ i, Gl (F.X i) "set" := by intro _; rfl)
    (h1s : ∀ i, starEach [e] (F.X i).env = (false, eval e (F.X i).env) :: starEach [] (F.X i).env := by intro _; rfl)
    (hpl : ∀ i, (backTo pos1 (starEach [] (F.X i).env)).any (·.1) = false := by intro _; rfl)
    (h2s : ∀ i, starEach [.Call (.Name "set" p1) [e] [] pos1] (F.X i).env = (false, eval (.Call (.Name "set" p1) [e] [] pos1) (F.X i).env) :: starEach [] (F.X i).env := by intro _; rfl)
    (hpl2 : ∀ i, (backTo pos (starEach [] (F.X i).env)).any (·.1) = false := by intro _; rfl) :
    El F (.Call (.Name "sorted" p) [.Call (.Name "set" p1) [e] [] pos1] [] pos) n (fun ρ R => fe ρ (asSetI R)) := by
  obtain ⟨t, pt, s⟩ := he
  refine ⟨tCB (rSortedSet F.w) (tCons (tCB (rSetI F.K.fg F.w) (tCons t tNil)) tNil), fun i => ?_, fun C σ ρ H R Q hm G hf k => s C σ ρ H _ _ hm G hf fun v H1 y m l u t1 oy hy => ?_⟩
  · have c1 := cr_sortedSet (X := F.X i) (F.calm i)
    have c2 := call_setI (X := F.X i) (F.calm i)
    rw [F.eW i] at c1
    rw [F.eK i, F.eW i] at c2
    exact pe_callB c1 (hg i) (by rw [F.eM]; exact hm) rfl (pa_cons (pe_callTy c2 (hg2 i) (by rw [F.eM]; exact hm2) rfl (pa_cons (pt i) pa_nil (h1s i)) (by decide) (by decide) (h1s i) (hpl i)) pa_nil (h2s i)) (by decide) (by decide) (h2s i) (hpl2 i)
  have G1 := G.tr t1
  match y, oy, hy with
  | .d (.list ds), oy, hy =>
    obtain ⟨ns, e, few, hy⟩ := hy
    obtain ⟨a, ws, rfl, ha, ra⟩ := Rd.inv_list oy
    rw [allI_of e] at ra
    have e2 := ra.ints
    refine ⟨a, ns, rfl, by rw [← e2]; exact SqL.of (mask_le _ _ ha), few, fun D c hD hc => ?_⟩
    refine ⟨D, _, c, rfl, upd_same, by omega, fun out p pw mm _ hp => ?_⟩
    have t2 := G1.new (o := SetO F.w D (fun j => decide (j ∈ ns)) c) hD
    have hp1 := (G1).back t2 hp
    exact k p _ _ _ m l u (G.back t1 hp1) ((t1.trans t2).trans ((G1.tr t2).new hp)) upd_same (fresh_rd hp (ints_rd _ _ out)) (hy out pw fun k => by rw [mm k]; simp)
def asSetT (R : List PyData → Prop) : Vl → Prop
  | .d (.list ds) => (∃ U : List PyData, U.length < 62 ∧ ∀ d ∈ ds, d ∈ U) ∧ (∀ d ∈ ds, okK d = true) ∧ fSorted ds R
  | _ => False
theorem refs_of {K : Fg} {M : Hp} : ∀ {vs : List V} {ds : List PyData}, RdA K M vs ds → (∀ d ∈ ds, okK d = true) → ∃ bs : List (Addr × PyData), (bs.map fun b => V.ref b.1) = vs ∧ bs.map (·.2) = ds ∧ ∀ b ∈ bs, okK b.2 = true ∧ Rd K M (.ref b.1) b.2
  | _, _, .nil, _ => ⟨[], rfl, rfl, fun b hb => by cases hb⟩
  | v :: _, d :: _, .cons r t, ok => by
    obtain ⟨bs, h1, h2, h3⟩ := refs_of t fun d hd => ok d (List.mem_cons_of_mem _ hd)
    have od := ok d (List.mem_cons_self ..)
    obtain ⟨b, rfl⟩ := ok_ref od r
    refine ⟨(b, d) :: bs, by rw [List.map_cons, h1], by rw [List.map_cons, h2], fun c hc => ?_⟩
    rcases List.mem_cons.mp hc with e | hc
    · rw [e]; exact ⟨od, r⟩
    · exact h3 c hc
theorem rdA_refs {K : Fg} {M : Hp} : ∀ {bs : List (Addr × PyData)}, (∀ b ∈ bs, Rd K M (.ref b.1) b.2) → RdA K M (bs.map fun b => V.ref b.1) (bs.map (·.2))
  | [], _ => .nil
  | b :: bs, h => .cons (h b (List.mem_cons_self ..)) (rdA_refs fun c hc => h c (List.mem_cons_of_mem _ hc))
/-- sorted(set(e)), e a list of numbers' tuples -/
theorem l_sortSetT (hm : F.mg "sorted" = none) (hm2 : F.mg "set" = none) (he : Ee F e n fe) (hg : ∀ i, Gl (F.X i) "sorted" := by intro _; rfl) (hg2 : ∀ i, Gl (F.X i) "set" := by intro _; rfl)
    (h1s : ∀ i, starEach [e] (F.X i).env = (false, eval e (F.X i).env) :: starEach [] (F.X i).env := by intro _; rfl)
    (hpl : ∀ i, (backTo pos1 (starEach [] (F.X i).env)).any (·.1) = false := by intro _; rfl)
    (h2s : ∀ i, starEach [.Call (.Name "set" p1) [e] [] pos1] (F.X i).env = (false, eval (.Call (.Name "set" p1) [e] [] pos1) (F.X i).env) :: starEach [] (F.X i).env := by intro _; rfl)
    (hpl2 : ∀ i, (backTo pos (starEach [] (F.X i).env)).any (·.1) = false := by intro _; rfl) :
    El F (.Call (.Name "sorted" p) [.Call (.Name "set" p1) [e] [] pos1] [] pos) n (fun ρ R => fe ρ (asSetT R)) := by
  obtain ⟨t, pt, s⟩ := he
  refine ⟨tCB (rSorted F.K.fg F.P F.w) (tCons (tCB (rSetT F.K.fg F.P F.w) (tCons t tNil)) tNil), fun i => ?_, fun C σ ρ H R Q hm G hf k => s C σ ρ H _ _ hm G hf fun v H1 y m l u t1 oy hy => ?_⟩
  · have c1 := call_sorted (X := F.X i) (F.calm i) (F.room i).units
    have c2 := call_setT (X := F.X i) (F.calm i) (F.room i).units
    rw [F.eK i, F.eP i, F.eW i] at c1 c2
    exact pe_callB c1 (hg i) (by rw [F.eM]; exact hm) rfl (pa_cons (pe_callTy c2 (hg2 i) (by rw [F.eM]; exact hm2) rfl (pa_cons (pt i) pa_nil (h1s i)) (by decide) (by decide) (h1s i) (hpl i)) pa_nil (h2s i)) (by decide) (by decide) (h2s i) (hpl2 i)
  have G1 := G.tr t1
  match y, oy, hy with
  | .d (.list ds), oy, hy =>
    obtain ⟨few, ok, al, so, hy⟩ := hy
    obtain ⟨a, ws, rfl, ha, ra⟩ := Rd.inv_list oy
    obtain ⟨bs, rfl, rfl, rb⟩ := refs_of ra ok
    obtain ⟨U, u1, u2⟩ := few
    refine ⟨a, bs, rfl, SqL.of (mask_le _ _ ha), fun b hb => ⟨(rb b hb).1, ((rb b hb).2.mono mask_le).dp⟩, ⟨U, u1, fun b hb => u2 _ (List.mem_map.mpr ⟨b, hb, rfl⟩)⟩, fun D cs hD c1 c2 c3 => ?_⟩
    have t2 := G1.new (o := SetH F.P F.w D (cs.map kOf)) hD
    have r2 : ∀ c ∈ cs, Rd F.K.fg (mq C σ ρ (upd H1 D (SetH F.P F.w D (cs.map kOf)))) (.ref c.1) c.2 := fun c hc => (rb c (c1 c hc)).2.mono (G1.ex t2)
    refine ⟨D, cs, rfl, upd_same, fun c hc => ⟨(rb c (c1 c hc)).1, ((r2 c hc).mono mask_le).dp⟩, fun d hd d' hd' => al d ((c3 d).mp hd) d' ((c3 d').mp hd'), so.imp (fun z d hd => z d ((c3 d).mp hd)) fun z d hd => z d ((c3 d).mp hd), fun es p pe hp => ?_⟩
    have hp1 := G1.back t2 hp
    have e3 : (es.mergeSort (dataLe false fun c : Addr × PyData => c.2)).map (fun c : Addr × PyData => c.2) = (es.map fun c : Addr × PyData => c.2).mergeSort (dataLe false fun d : PyData => d) := sort_maps (fun c : Addr × PyData => c.2) fun _ _ _ _ => rfl
    refine k p _ _ ((es.map (·.2)).mergeSort (dataLe false fun d => d)) m l u (G.back t1 hp1) ((t1.trans t2).trans ((G1.tr t2).new hp)) upd_same (fresh_rd hp ?_) (hy _ ((pe.map (·.2)).nodup_iff.mpr c2) fun d => by rw [(pe.map (·.2)).mem_iff]; exact c3 d)
    rw [← e3]
    exact rdA_refs fun b hb => r2 b (pe.mem_iff.mp (List.mem_mergeSort.mp hb))
end
theorem fRel_int {g : Int → Int → Bool} {i j : Int} {R : Vl → Prop} : fRel g (.d (.int i)) (.d (.int j)) R = R (.d (.bool (g i j))) := rfl
theorem allD_nil {R : List PyData → Prop} : allD [] R = R [] := rfl
theorem allD_d {x : PyData} {r : List Vl} {R : List PyData → Prop} : allD (.d x :: r) R = allD r fun ds => R (x :: ds) := rfl
end Px

set_option Elab.async false
set_option linter.all false
set_option maxRecDepth 100000
set_option maxHeartbeats 4000000
/-! PxGo: small steps of a walk: a read, a decided if. -/
namespace Px
open PySem PySem.Spec PyProof.Rows L2
theorem rd_go {ρ : En} {i : Nat} {R : Vl → Prop} {x : Vl} (e : ρ[i]? = some (.v x)) (h : R x) : rd ρ i R := by
  unfold rd; rw [e]; exact h
theorem iteTT {A B : Prop} (h : A) : if true = true then A else B := h
theorem iteFF {A B : Prop} (h : B) : if false = true then A else B := h
theorem asTru_b {b : Bool} {A B : Prop} (h0 : b = false → A) (h1 : b = true → B) : asTru (fun b => if (!b) = true then A else B) (.d (.bool b)) := by
  cases b
  · exact h0 rfl
  · exact h1 rfl
theorem asTru_dec {p : Prop} [Decidable p] {A B : Prop} (h1 : p → A) (h0 : ¬ p → B) : asTru (fun k => if k = true then A else B) (.d (.bool (decide p))) := by
  by_cases c : p
  · rw [decide_eq_true c]; exact h1 c
  · rw [decide_eq_false c]; exact h0 c
theorem asB_dec {p : Prop} [Decidable p] {A B : Prop} (h1 : p → A) (h0 : ¬ p → B) : asB (fun k => if k = true then A else B) (.d (.bool (decide p))) := by
  by_cases c : p
  · rw [decide_eq_true c]; exact h1 c
  · rw [decide_eq_false c]; exact h0 c
end Px

set_option Elab.async false
set_option linter.all false
set_option maxRecDepth 100000
set_option maxHeartbeats 4000000
set_option exponentiation.threshold 10000
/-! W1: loops by their places, comprehensions by a function; pays, shares, what dice pay. -/
namespace Px
open PySem PySem.Spec PyProof.Rows L2
/-! ### promises as equations -/
theorem fs1 {α : Type} {enc : α → PyData} (inj : ∀ {a b}, enc a = enc b → a = b) {Q : α → Prop} {g : α → Vl} {a : α} {R : Vl → Prop} (h : Q a) : (∃ b, [Vl.d (enc a)] = [Vl.d (enc b)] ∧ Q b ∧ R (g b)) = R (g a) := by
  apply propext
  constructor
  · rintro ⟨b, e, _, q⟩
    injection e with e1 _
    injection e1 with e1
    rw [inj e1]
    exact q
  · exact fun q => ⟨a, rfl, h, q⟩
theorem fs0 {g : PyData → Vl} {x : PyData} {R : Vl → Prop} : (∃ b, [Vl.d x] = [Vl.d b] ∧ R (g b)) = R (g x) := by
  apply propext
  constructor
  · rintro ⟨b, e, q⟩
    injection e with e1 _
    injection e1 with e1
    rw [e1]
    exact q
  · exact fun q => ⟨x, rfl, q⟩
section
variable {x : PyData} {R : Vl → Prop} {i l m : Int}
theorem fKind_eq {T : String} : fKind T [.d x] R = R (.d (.bool (isTy T x))) := fs0 (g := fun x => .d (.bool (isTy T x)))
theorem fPair_eq : fPair [.d x] R = R (.d (.bool (isRow x 2 2))) := fs0 (g := fun x => .d (.bool (isRow x 2 2)))
theorem fIsFr_eq : fIsFr [.d x] R = R (.d (.bool (isFr x))) := fs0 (g := fun x => .d (.bool (isFr x)))
theorem fRow_eq : fRow [.d x, .d (.int l), .d (.int m)] R = R (.d (.bool (isRow x l m))) := by
  apply propext
  constructor
  · rintro ⟨x', l', m', e, q⟩
    simp only [List.cons.injEq, Vl.d.injEq, PyData.int.injEq, and_true] at e
    obtain ⟨rfl, rfl, rfl⟩ := e
    exact q
  · exact fun q => ⟨x, l, m, rfl, q⟩
def fWithin : FS := fun xs R => ∃ i l m : Int, xs = [.d (.int i), .d (.int l), .d (.int m)] ∧ R (.d (.bool (decide (l ≤ i) && decide (i ≤ m))))
theorem fWithin_eq : fWithin [.d (.int i), .d (.int l), .d (.int m)] R = R (.d (.bool (decide (l ≤ i) && decide (i ≤ m)))) := by
  apply propext
  constructor
  · rintro ⟨x', l', m', e, q⟩
    simp only [List.cons.injEq, Vl.d.injEq, PyData.int.injEq, and_true] at e
    obtain ⟨rfl, rfl, rfl⟩ := e
    exact q
  · exact fun q => ⟨i, l, m, rfl, q⟩
end
theorem fmOf_mg {P : Program} {w : World} {K : Kx} {mg : Str → Option Value} {base : Heap} {N : List Str} {qual : Str} {st : Stmt} {fa : Addr} {cd : Value} {A : Around} {outer : List PySem.Env} {s : Shared} {H : Hp} {E : XK} {k : Nat} {nd : N.Nodup}
    {hr : Room k (A.deeper (envOfC qual (defScope st) s.heap.objs.size fa cd))} {hg : A.guards = some []} : (fmOf P w K mg base N qual st fa cd A outer s H E k nd hr hg).mg = mg := rfl
/-! ### loops, comprehensions -/
theorem loop_over' {α : Type} {fg : FG} {fb : FSt} {N : SEn} (f : α → Vl) (l : List α) (I : Nat → En → Prop) (st : ∀ (i : Nat) (h : i < l.length) (ρ : En) (L : En → Prop), (∀ ρ', I (i + 1) ρ' → L ρ') → I i ρ → fg (f l[i]) ρ fun ρ' => fb ρ' { nx := L, rt := N.rt, bk := N.nx, ct := L }) (z : ∀ ρ, I l.length ρ → N.nx ρ) (ρ : En) (h : I 0 ρ) :
    loopF fg fb N (l.map f) ρ := by
  have go : ∀ (r : List α) (k : Nat) (ρ : En), k + r.length = l.length → r = l.drop k → I k ρ → loopF fg fb N (r.map f) ρ := by
    intro r
    induction r with
    | nil => intro k ρ e1 e2 h; exact z ρ (by have : k = l.length := by simpa using e1
                                              rw [← this]; exact h)
    | cons a r ih =>
      intro k ρ e1 e2 h
      have hk : k < l.length := by simp only [List.length_cons] at e1; omega
      have ea : l[k] = a := by
        have := congrArg (fun q => q[0]?) e2
        simp [hk] at this
        exact this.symm
      have er : r = l.drop (k + 1) := by
        have := congrArg List.tail e2
        simpa [List.tail_drop] using this
      have := st k hk ρ _ (fun ρ' h' => ih (k + 1) ρ' (by simp only [List.length_cons] at e1; omega) er h') h
      rw [ea] at this
      exact this
  exact go l 0 ρ (by simp) (by simp) h
theorem loop_rng {fg : FG} {fb : FSt} {N : SEn} (lo : Int) (n : Nat) (I : Nat → En → Prop) (st : ∀ (i : Nat) (ρ : En) (L : En → Prop), i < n → (∀ ρ', I (i + 1) ρ' → L ρ') → I i ρ → fg (.d (.int (lo + (i : Nat)))) ρ fun ρ' => fb ρ' { nx := L, rt := N.rt, bk := N.nx, ct := L }) (z : ∀ ρ, I n ρ → N.nx ρ) (ρ : En) (h : I 0 ρ) :
    loopF fg fb N (irange lo n) ρ := by
  rw [irange_def]
  refine loop_over' (fun i : Nat => Vl.d (.int (lo + (i : Nat)))) (List.range n) I (fun i hi ρ L hL h => ?_) (fun ρ h => z ρ (by simpa using h)) ρ h
  have := st i ρ L (by simpa using hi) hL h
  simpa using this
theorem le_big {n : Nat} (h : n ≤ 4611686018427387904) : n ≤ big := h
theorem irange_len (lo : Int) (n : Nat) : (irange lo n).length = n := by rw [irange_def, List.length_map, List.length_range]
theorem lc_map {α : Type} {fg : FG} {ft : FT} {fe : FE} {ρ : En} (f : α → Vl) (g : α → PyData) : ∀ (l : List α) (acc : List PyData) (R : List PyData → Prop),
    (∀ a ∈ l, ∀ (T : Vl → Prop) (T' : Prop), T (.d (g a)) → fg (f a) ρ fun ρ2 => ft ρ2 fun b => if b = true then fe ρ2 T else T') → R (acc ++ l.map g) → lcF fg ft fe ρ (l.map f) acc R
  | [], acc, R, _, h => by
    show R acc
    simpa using h
  | a :: l, acc, R, st, h => by
    refine st a (by simp) (fun y => match y with | .d d => lcF fg ft fe ρ (l.map f) (acc ++ [d]) R | _ => False) _ ?_
    show lcF fg ft fe ρ (l.map f) (acc ++ [g a]) R
    refine lc_map f g l (acc ++ [g a]) R (fun y hy => st y (List.mem_cons_of_mem _ hy)) ?_
    simpa using h
theorem lc_rng {fg : FG} {ft : FT} {fe : FE} {ρ : En} (n : Nat) (g : Nat → PyData) (acc : List PyData) (R : List PyData → Prop)
    (st : ∀ i < n, ∀ (T : Vl → Prop) (T' : Prop), T (.d (g i)) → fg (.d (.int (i : Nat))) ρ fun ρ2 => ft ρ2 fun b => if b = true then fe ρ2 T else T') (h : R (acc ++ (List.range n).map g)) : lcF fg ft fe ρ (irange 0 n) acc R := by
  rw [irange_def]
  refine lc_map (fun i : Nat => Vl.d (.int (0 + (i : Nat)))) g (List.range n) acc R (fun i hi T T' hT => ?_) h
  have := st i (by simpa using hi) T T' hT
  simpa using this
/-- a comprehension of draws: as many things, all good -/
theorem lc_draw {fg : FG} {ft : FT} {fe : FE} {ρ : En} (good : PyData → Prop) (n : Nat) (lo : Int) (R : List PyData → Prop)
    (st : ∀ x, ∀ (T : Vl → Prop) (T' : Prop), (∀ d, good d → T (.d d)) → fg x ρ fun ρ2 => ft ρ2 fun b => if b = true then fe ρ2 T else T')
    (h : ∀ ds : List PyData, ds.length = n → (∀ d ∈ ds, good d) → R ds) : lcF fg ft fe ρ (irange lo n) [] R :=
  lc_all good _ _ _ (fun x _ T T' hT => st x T T' hT) fun ds hl hg => h ds (by rw [hl, irange_len]) hg
theorem of_good {α : Type} (f : α → PyData) (p : α → Prop) : ∀ ds : List PyData, (∀ d ∈ ds, ∃ a, p a ∧ d = f a) → ∃ l : List α, ds = l.map f ∧ ∀ a ∈ l, p a
  | [], _ => ⟨[], rfl, by simp⟩
  | d :: ds, h => by
    obtain ⟨a, ha, rfl⟩ := h d (by simp)
    obtain ⟨l, rfl, hl⟩ := of_good f p ds fun e he => h e (List.mem_cons_of_mem _ he)
    exact ⟨a :: l, rfl, fun b hb => by rcases List.mem_cons.mp hb with rfl | hb; exact ha; exact hl b hb⟩
theorem atI_map {α : Type} (f : α → PyData) (l : List α) (d : α) {i : Nat} (h : i < l.length) : atI (l.map f) (i : Int) = some (f (l.getD i d)) := by
  rw [atI_nat (by simpa using h)]
  simp [h]
theorem atI_last {α : Type} (f : α → PyData) (l : List α) (a : α) : atI ((l ++ [a]).map f) (-1) = some (f a) := by
  unfold atI ixN
  rw [List.length_map, if_neg (by decide), if_pos (by simp; omega)]
  show ((l ++ [a]).map f)[((-1 : Int) + ((l ++ [a]).length : Nat)).toNat]? = _
  rw [show ((-1 : Int) + ((l ++ [a]).length : Nat)).toNat = l.length by simp; omega]
  simp
theorem at_last {α : Type} {l : List α} {a : α} : atI (l ++ [a]) (-1) = some a := by
  unfold atI ixN
  rw [if_neg (by decide), if_pos (by simp; omega)]
  show (l ++ [a])[((-1 : Int) + ((l ++ [a]).length : Nat)).toNat]? = _
  rw [show ((-1 : Int) + ((l ++ [a]).length : Nat)).toNat = l.length by simp; omega]
  simp
theorem map_d {α : Type} (f : α → PyData) (l : List α) : (l.map f).map Vl.d = l.map fun a => Vl.d (f a) := by rw [List.map_map]; rfl
theorem pairs_map {α β : Type} (f : α → PyData) (g : β → PyData) : ∀ (l : List α) (m : List β), pairs (l.map f) (m.map g) = (l.zip m).map fun p => Vl.d (.tuple [f p.1, g p.2])
  | [], _ => by simp [pairs]
  | _ :: _, [] => by simp [pairs]
  | a :: l, b :: m => by simp [pairs, pairs_map f g l m]
theorem enumD_map {α : Type} (f : α → PyData) : ∀ (l : List α) (n : Nat), enumD n (l.map f) = (l.zipIdx n).map fun p => Vl.d (.tuple [.int (p.2 : Nat), f p.1])
  | [], _ => rfl
  | a :: l, n => by simp only [List.map_cons, enumD, enumD_map f l (n + 1), List.zipIdx_cons]
section
variable {xs ys : List PyData} {R : Vl → Prop} {Q : List Vl → Prop}
theorem gLen_l : gLen [.d (.list xs)] R = R (.d (.int xs.length)) := rfl
theorem gLen_t : gLen [.d (.tuple xs)] R = R (.d (.int xs.length)) := rfl
theorem gTuple_l : gTuple [.d (.list xs)] R = R (.d (.tuple xs)) := rfl
theorem gTuple_t : gTuple [.d (.tuple xs)] R = R (.d (.tuple xs)) := rfl
theorem gList_l : gList [.d (.list xs)] R = R (.d (.list xs)) := rfl
theorem gList_t : gList [.d (.tuple xs)] R = R (.d (.list xs)) := rfl
theorem asS_l : asS Q (.d (.list xs)) = Q (xs.map Vl.d) := rfl
theorem asS_t : asS Q (.d (.tuple xs)) = Q (xs.map Vl.d) := rfl
theorem asE_l : asE Q [.d (.list xs)] = Q (enumD 0 xs) := rfl
theorem asE_t : asE Q [.d (.tuple xs)] = Q (enumD 0 xs) := rfl
theorem asZ_ll : asZM Q [.d (.list xs), .d (.list ys)] = Q (pairs xs ys) := rfl
theorem asZ_tt : asZM Q [.d (.tuple xs), .d (.tuple ys)] = Q (pairs xs ys) := rfl
theorem asZ_lt : asZM Q [.d (.list xs), .d (.tuple ys)] = Q (pairs xs ys) := rfl
end
/-! ### sums -/
def sm {α : Type} : List α → (α → Rat) → Rat
  | [], _ => 0
  | a :: l, φ => φ a + sm l φ
section
variable {α β : Type}
theorem sm_append (φ : α → Rat) : ∀ l m : List α, sm (l ++ m) φ = sm l φ + sm m φ
  | [], m => by simp [sm]; grind
  | a :: l, m => by simp only [List.cons_append, sm, sm_append φ l m]; grind
theorem sm_map (f : β → α) (φ : α → Rat) : ∀ l : List β, sm (l.map f) φ = sm l fun b => φ (f b)
  | [] => rfl
  | b :: l => by simp only [List.map_cons, sm, sm_map f φ l]
theorem sm_flatMap (f : β → List α) (φ : α → Rat) : ∀ l : List β, sm (l.flatMap f) φ = sm l fun b => sm (f b) φ
  | [] => rfl
  | b :: l => by simp only [List.flatMap_cons, sm_append, sm, sm_flatMap f φ l]
theorem sm_add (φ ψ : α → Rat) : ∀ l : List α, sm l (fun a => φ a + ψ a) = sm l φ + sm l ψ
  | [] => by simp [sm]; grind
  | a :: l => by simp only [sm, sm_add φ ψ l]; grind
theorem sm_mul (c : Rat) (φ : α → Rat) : ∀ l : List α, sm l (fun a => φ a * c) = sm l φ * c
  | [] => by simp [sm]
  | a :: l => by simp only [sm, sm_mul c φ l]; grind
theorem sm_congr {φ ψ : α → Rat} : ∀ {l : List α}, (∀ a ∈ l, φ a = ψ a) → sm l φ = sm l ψ
  | [], _ => rfl
  | a :: l, h => by simp only [sm, h a (by simp), sm_congr (l := l) fun b hb => h b (List.mem_cons_of_mem _ hb)]
theorem sm_comm (F : α → β → Rat) (m : List β) : ∀ l : List α, sm l (fun a => sm m fun b => F a b) = sm m fun b => sm l fun a => F a b
  | [] => by
    have : ∀ m : List β, sm m (fun _ => (0 : Rat)) = 0 := fun m => by
      induction m with
      | nil => rfl
      | cons b m ih => simp only [sm, ih]; grind
    simp only [sm, this]
  | a :: l => by simp only [sm, sm_comm F m l, sm_add]
theorem sm_nonneg {φ : α → Rat} : ∀ {l : List α}, (∀ a ∈ l, 0 ≤ φ a) → 0 ≤ sm l φ
  | [], _ => Rat.le_refl
  | a :: l, h => by
    have h1 := h a (by simp)
    have h2 := sm_nonneg (l := l) fun b hb => h b (List.mem_cons_of_mem _ hb)
    simp only [sm]
    grind
theorem sm_le {φ ψ : α → Rat} : ∀ {l : List α}, (∀ a ∈ l, φ a ≤ ψ a) → sm l φ ≤ sm l ψ
  | [], _ => Rat.le_refl
  | a :: l, h => by
    have h1 := h a (by simp)
    have h2 := sm_le (l := l) fun b hb => h b (List.mem_cons_of_mem _ hb)
    simp only [sm]
    grind
end
/-- the sum of the products of pairs -/
def dot (l m : List Rat) : Rat := sm (l.zip m) fun p => p.1 * p.2
/-! ### shares -/
def shD (qs : List Rat) : PyData := .tuple (qs.map fq)
structure ShOk (n : Nat) (qs : List Rat) : Prop where
  len : qs.length = n
  nn : ∀ q ∈ qs, 0 ≤ q
  bd : ∀ q ∈ qs, Fb 5 q
  sum : sm qs id = 1
def fShares : FS := fun xs R => ∃ (n : Nat) (qs : List Rat), xs = [.d (shD qs), .d (.int (n : Nat))] ∧ n ≤ 4 ∧ ShOk n qs ∧ R (.d (.bool true))
def fWeighed : FS := fun xs R => ∃ (vs ss : List Rat) (a b : Nat), (xs = [.d (.list (vs.map fq)), .d (.tuple (ss.map fq))] ∨ xs = [.d (.tuple (vs.map fq)), .d (.tuple (ss.map fq))]) ∧ (∀ v ∈ vs, Fb a v) ∧ (∀ s ∈ ss, Fb b s) ∧ (a + b + 1) * vs.length ≤ 7000 ∧ R (.d (fq (dot vs ss)))
theorem dot_fb {a b : Nat} : ∀ {vs ss : List Rat}, (∀ v ∈ vs, Fb a v) → (∀ s ∈ ss, Fb b s) → Fb ((a + b + 1) * vs.length + 1) (dot vs ss)
  | [], _, _, _ => fz _ (by omega)
  | _ :: _, [], _, _ => fz _ (by omega)
  | v :: vs, s :: ss, h1, h2 => by
    have ih := dot_fb (vs := vs) (ss := ss) (fun x hx => h1 x (List.mem_cons_of_mem _ hx)) fun x hx => h2 x (List.mem_cons_of_mem _ hx)
    have := Px.add2 ((h1 v (by simp)).mul (h2 s (by simp))) ih
    refine Fb.mono this ?_
    simp only [List.length_cons, Nat.mul_succ]
    omega
theorem zip_mapL {α β γ : Type} (f : α → γ) : ∀ (l : List α) (m : List β), (l.map f).zip m = (l.zip m).map fun p => (f p.1, p.2)
  | [], _ => by simp
  | _ :: _, [] => by simp
  | a :: l, b :: m => by simp [zip_mapL f l m]
theorem sum_cast : ∀ l : List Nat, (l.map fun (c : Nat) => ((c : Nat) : Int)).sum = ((l.sum : Nat) : Int)
  | [] => rfl
  | a :: l => by simp only [List.map_cons, List.sum_cons, sum_cast l]; omega
theorem sum_le {k : Nat} : ∀ {l : List Nat}, (∀ p ∈ l, p ≤ k) → l.sum ≤ k * l.length
  | [], _ => by simp
  | a :: l, h => by
    have := sum_le (l := l) fun b hb => h b (List.mem_cons_of_mem _ hb)
    have := h a (by simp)
    simp only [List.sum_cons, List.length_cons, Nat.mul_succ]
    omega
theorem divInt_nn {p w : Nat} (h : 0 < w) : 0 ≤ Rat.divInt (p : Nat) (w : Nat) := by
  rw [← Rat.num_nonneg, Rat.num_divInt, Int.sign_eq_one_of_pos (by omega)]
  simp only [Int.one_mul]
  exact Int.ediv_nonneg (by omega) (by omega)
theorem divInt_sm {w : Nat} (h : 0 < w) : ∀ l : List Nat, sm (l.map fun (p : Nat) => Rat.divInt (p : Nat) (w : Nat)) id = Rat.divInt (l.sum : Nat) (w : Nat)
  | [] => by simp [sm]
  | a :: l => by
    have hw : ((w : Nat) : Int) ≠ 0 := by omega
    simp only [List.map_cons, sm, divInt_sm h l, id, List.sum_cons]
    rw [Rat.divInt_add_divInt _ _ hw hw, Rat.divInt_eq_divInt_iff (Int.mul_ne_zero hw hw) hw]
    rw [Int.natCast_add]
    grind
theorem shOk_of {n : Nat} (n4 : n ≤ 4) {ps : List Nat} {w : Nat} (h1 : ps.length = n) (h2 : ∀ p ∈ ps, p ≤ 7) (h3 : ps.sum = w) (h4 : 0 < w) : ShOk n (ps.map fun (p : Nat) => Rat.divInt (p : Nat) (w : Nat)) where
  len := by rw [List.length_map, h1]
  nn := fun q hq => by
    obtain ⟨p, hp, rfl⟩ := List.mem_map.mp hq
    exact divInt_nn h4
  bd := fun q hq => by
    obtain ⟨p, hp, rfl⟩ := List.mem_map.mp hq
    have a := h2 p hp
    have b := sum_le h2
    exact Fb.red (by omega) (Bd.of_lt (j := 7) (by omega) (by decide)) (Bd.of_lt (j := 28) (by omega) (by decide))
  sum := by
    rw [divInt_sm h4, h3]
    have hw : ((w : Nat) : Int) ≠ 0 := by omega
    have : Rat.divInt (w : Nat) (w : Nat) = Rat.divInt 1 1 := (Rat.divInt_eq_divInt_iff hw (by decide)).mpr (by omega)
    rw [this]
    rfl
/-! ### pays -/
abbrev Cell := Int × Int
def cellD (c : Cell) : PyData := .tuple [.int c.1, .int c.2]
def rowD (r : List Cell) : PyData := .tuple (r.map cellD)
def tabD (T : List (List Cell)) : PyData := .tuple (T.map rowD)
def CellOk (c : Cell) : Prop := (-100 ≤ c.1 ∧ c.1 ≤ 100) ∧ -100 ≤ c.2 ∧ c.2 ≤ 100
structure TabOk (n w : Nat) (T : List (List Cell)) : Prop where
  len : T.length = n
  n1 : 1 ≤ n
  n4 : n ≤ 4
  w1 : 1 ≤ w
  w4 : w ≤ 4
  row : ∀ r ∈ T, r.length = w
  cell : ∀ r ∈ T, ∀ c ∈ r, CellOk c
theorem iq (c : Int) : PyData.tuple [.int c, .int 1] = fq (c : Rat) := rfl
def cq (c : Cell) : Rat × Rat := ((c.1 : Rat), (c.2 : Rat))
theorem cq_pt (c : Cell) : PyData.tuple [.tuple [.int c.1, .int 1], .tuple [.int c.2, .int 1]] = pt (cq c) := rfl
theorem fb_int {c : Int} {n : Nat} (h : Bd n c) (h0 : 0 < n) : Fb n (c : Rat) := ⟨h, by show (1 : Nat) < 2 ^ n; exact Nat.one_lt_two_pow (by omega)⟩
theorem cq_b {c : Cell} (h : CellOk c) : Pb 7 (cq c) := by
  obtain ⟨⟨h1, h2⟩, h3, h4⟩ := h
  exact ⟨fb_int (Bd.of_lt (j := 100) (by omega) (by decide)) (by decide), fb_int (Bd.of_lt (j := 100) (by omega) (by decide)) (by decide)⟩
def nth (r : List Cell) (j : Nat) : Cell := r.getD j (0, 0)
/-- what dice pay at an answer -/
def payAt (T : List (List Cell)) (qs : List Rat) (j : Nat) : Rat × Rat := (dot (T.map fun r => (cq (nth r j)).1) qs, dot (T.map fun r => (cq (nth r j)).2) qs)
def dotP (ps : List (Rat × Rat)) (ss : List Rat) : Rat × Rat := (dot (ps.map (·.1)) ss, dot (ps.map (·.2)) ss)
def payBy (T : List (List Cell)) (qs os : List Rat) (w : Nat) : Rat × Rat := dotP ((List.range w).map (payAt T qs)) os
theorem nth_ok {n w : Nat} {T : List (List Cell)} (h : TabOk n w T) {r : List Cell} (hr : r ∈ T) {j : Nat} (hj : j < w) : CellOk (nth r j) := by
  have : j < r.length := by rw [h.row r hr]; exact hj
  unfold nth
  rw [List.getD_eq_getElem?_getD, List.getElem?_eq_getElem this]
  exact h.cell r hr _ (List.getElem_mem this)
theorem payAt_b {n w : Nat} {T : List (List Cell)} {qs : List Rat} {j : Nat} (h : TabOk n w T) (hq : ShOk n qs) (hj : j < w) : Pb 60 (payAt T qs j) := by
  have l : T.length ≤ 4 := by rw [h.len]; exact h.n4
  refine ⟨(dot_fb (a := 7) (b := 5) (fun v hv => ?_) hq.bd).mono ?_, (dot_fb (a := 7) (b := 5) (fun v hv => ?_) hq.bd).mono ?_⟩
  · obtain ⟨r, hr, rfl⟩ := List.mem_map.mp hv
    exact (cq_b (nth_ok h hr hj)).1
  · rw [List.length_map]; omega
  · obtain ⟨r, hr, rfl⟩ := List.mem_map.mp hv
    exact (cq_b (nth_ok h hr hj)).2
  · rw [List.length_map]; omega
theorem payBy_b {n w : Nat} {T : List (List Cell)} {qs os : List Rat} (h : TabOk n w T) (hq : ShOk n qs) (ho : ShOk w os) : Pb 270 (payBy T qs os w) := by
  have l := h.w4
  refine ⟨(dot_fb (a := 60) (b := 5) (fun v hv => ?_) ho.bd).mono ?_, (dot_fb (a := 60) (b := 5) (fun v hv => ?_) ho.bd).mono ?_⟩
  · obtain ⟨p, hp, rfl⟩ := List.mem_map.mp hv
    obtain ⟨j, hj, rfl⟩ := List.mem_map.mp hp
    exact (payAt_b h hq (by simpa using hj)).1
  · simp; omega
  · obtain ⟨p, hp, rfl⟩ := List.mem_map.mp hv
    obtain ⟨j, hj, rfl⟩ := List.mem_map.mp hp
    exact (payAt_b h hq (by simpa using hj)).2
  · simp; omega
section
variable {T : List (List Cell)} {r : List Cell} {c : Cell} {qs : List Rat} {R : Vl → Prop} {Q : List Vl → Prop}
theorem gLen_tab : gLen [.d (tabD T)] R = R (.d (.int (T.length : Nat))) := by unfold tabD; rw [gLen_t, List.length_map]
theorem gLen_row : gLen [.d (rowD r)] R = R (.d (.int (r.length : Nat))) := by unfold rowD; rw [gLen_t, List.length_map]
theorem gLen_sh : gLen [.d (shD qs)] R = R (.d (.int (qs.length : Nat))) := by unfold shD; rw [gLen_t, List.length_map]
theorem asS_tab : asS Q (.d (tabD T)) = Q (T.map fun r => .d (rowD r)) := by unfold tabD; rw [asS_t, map_d]
theorem asS_row : asS Q (.d (rowD r)) = Q (r.map fun r => .d (cellD r)) := by unfold rowD; rw [asS_t, map_d]
theorem asS_sh : asS Q (.d (shD qs)) = Q (qs.map fun r => .d (fq r)) := by unfold shD; rw [asS_t, map_d]
theorem asE_tab : asE Q [.d (tabD T)] = Q (T.zipIdx.map fun p => .d (.tuple [.int (p.2 : Nat), rowD p.1])) := by unfold tabD; rw [asE_t, enumD_map]
theorem asE_row : asE Q [.d (rowD r)] = Q (r.zipIdx.map fun p => .d (.tuple [.int (p.2 : Nat), cellD p.1])) := by unfold rowD; rw [asE_t, enumD_map]
theorem asE_sh : asE Q [.d (shD qs)] = Q (qs.zipIdx.map fun p => .d (.tuple [.int (p.2 : Nat), fq p.1])) := by unfold shD; rw [asE_t, enumD_map]
theorem asZ_tab : asZM Q [.d (tabD T), .d (shD qs)] = Q ((T.zip qs).map fun p => .d (.tuple [rowD p.1, fq p.2])) := by unfold tabD shD; rw [asZ_tt, pairs_map]
theorem asZ_row : asZM Q [.d (rowD r), .d (shD qs)] = Q ((r.zip qs).map fun p => .d (.tuple [cellD p.1, fq p.2])) := by unfold rowD shD; rw [asZ_tt, pairs_map]
theorem ix_tab0 : fIx (.d (tabD (r :: T))) (.d (.int 0)) R = R (.d (rowD r)) := by unfold tabD; rw [List.map_cons, fIx_t, at_0, ex_some]
theorem ix_tab {j : Nat} (h : j < T.length) : fIx (.d (tabD T)) (.d (.int (j : Nat))) R = R (.d (rowD (T.getD j []))) := by unfold tabD; rw [fIx_t, atI_map rowD T [] h, ex_some]
theorem ix_row {j : Nat} (h : j < r.length) : fIx (.d (rowD r)) (.d (.int (j : Nat))) R = R (.d (cellD (nth r j))) := by unfold rowD nth; rw [fIx_t, atI_map cellD r (0, 0) h, ex_some]
theorem ix_sh {j : Nat} (h : j < qs.length) : fIx (.d (shD qs)) (.d (.int (j : Nat))) R = R (.d (fq (qs.getD j 0))) := by unfold shD; rw [fIx_t, atI_map fq qs 0 h, ex_some]
theorem ix_c0 : fIx (.d (cellD c)) (.d (.int 0)) R = R (.d (.int c.1)) := by unfold cellD; rw [fIx_t, at_0, ex_some]
theorem ix_c1 : fIx (.d (cellD c)) (.d (.int 1)) R = R (.d (.int c.2)) := by unfold cellD; rw [fIx_t, at_1, ex_some]
end
def fIsPay : FS := fun xs R => ∃ c, xs = [.d (cellD c)] ∧ CellOk c ∧ R (.d (.bool true))
theorem cellD_inj {c c' : Cell} (h : cellD c = cellD c') : c = c' := by
  simp only [cellD, PyData.tuple.injEq, List.cons.injEq, PyData.int.injEq, and_true] at h
  exact Prod.ext h.1 h.2
theorem fIsPay_eq {c : Cell} {R : Vl → Prop} (h : CellOk c) : fIsPay [.d (cellD c)] R = R (.d (.bool true)) := fs1 cellD_inj (g := fun _ => .d (.bool true)) h
/-- the table stands: no place is told -/
def fWrongPay (mg : Str → Option Value) : FS := fun xs R => ∃ n w T fa, xs = [.d (tabD T), .o (.ref fa)] ∧ mg "is_pay" = some (.ref fa) ∧ TabOk n w T ∧ R (.d .none)
def fNeedPays : FS := fun xs R => ∃ n w T, xs = [.d (tabD T)] ∧ TabOk n w T ∧ R (.d (tabD T))
def fNeedDice : FS := fun xs R => ∃ n w T qs, xs = [.d (tabD T), .d (shD qs)] ∧ TabOk n w T ∧ ShOk n qs ∧ R (.d (shD qs))
def fNeedOdds : FS := fun xs R => ∃ n w T qs, xs = [.d (tabD T), .d (shD qs)] ∧ TabOk n w T ∧ ShOk w qs ∧ R (.d (shD qs))
def fWholePt : FS := fun xs R => ∃ c, xs = [.d (cellD c)] ∧ R (.d (pt (cq c)))
def fWPts : FS := fun xs R => ∃ (ps : List (Rat × Rat)) (ss : List Rat) (a b : Nat), xs = [.d (.list (ps.map pt)), .d (.tuple (ss.map fq))] ∧ (∀ p ∈ ps, Pb a p) ∧ (∀ s ∈ ss, Fb b s) ∧ (a + b + 1) * ps.length ≤ 7000 ∧ ps.length < 1000 ∧ R (.d (pt (dotP ps ss)))
def fPay : FS := fun xs R => ∃ n w T qs, ∃ j : Nat, xs = [.d (tabD T), .d (shD qs), .d (.int (j : Nat))] ∧ TabOk n w T ∧ ShOk n qs ∧ j < w ∧ R (.d (pt (payAt T qs j)))
def fPayBy : FS := fun xs R => ∃ n w T qs os, xs = [.d (tabD T), .d (shD qs), .d (shD os)] ∧ TabOk n w T ∧ ShOk n qs ∧ ShOk w os ∧ R (.d (pt (payBy T qs os w)))
/-- the law's draws -/
def fShDraw : FS := fun xs R => ∃ n : Nat, xs = [.st, .d (.int (n : Nat))] ∧ 1 ≤ n ∧ n ≤ 4 ∧ ∀ qs, ShOk n qs → R (.d (shD qs))
def fCell : FS := fun xs R => ∃ h : Int, xs = [.st, .d (.int h)] ∧ 0 ≤ h ∧ h ≤ 100 ∧ ∀ c : Cell, CellOk c → R (.d (cellD c))
def fTab : FS := fun xs R => ∃ (n m : Nat) (h : Int), xs = [.st, .d (.int (n : Nat)), .d (.int (m : Nat)), .d (.int h)] ∧ 1 ≤ n ∧ n ≤ 4 ∧ 1 ≤ m ∧ m ≤ 4 ∧ 0 ≤ h ∧ h ≤ 100 ∧ ∀ (w : Nat) T, TabOk n w T → w ≤ m → R (.d (tabD T))
end Px

set_option Elab.async false
set_option linter.all false
set_option maxRecDepth 100000
set_option maxHeartbeats 4000000
set_option exponentiation.threshold 10000
/-! W4: rows of answers, means of rounds. -/
namespace Px
open PySem PySem.Spec PyProof.Rows L2
def extR (w : Nat) (r : List Nat) : List (List Nat) := (List.range w).map fun a => r ++ [a]
def rowsN (w : Nat) : Nat → List (List Nat)
  | 0 => [[]]
  | n + 1 => (rowsN w n).flatMap (extR w)
def natRow (r : List Nat) : PyData := .tuple (r.map fun (a : Nat) => .int (a : Nat))
theorem rows_mem {w : Nat} : ∀ {n : Nat} {r : List Nat}, r ∈ rowsN w n → r.length = n ∧ ∀ a ∈ r, a < w
  | 0, r, h => by simp [rowsN] at h; subst h; simp
  | n + 1, r, h => by
    simp only [rowsN, List.mem_flatMap, extR, List.mem_map, List.mem_range] at h
    obtain ⟨r', h1, a, h2, rfl⟩ := h
    obtain ⟨e1, e2⟩ := rows_mem h1
    refine ⟨by simp [e1], fun b hb => ?_⟩
    rcases List.mem_append.mp hb with hb | hb
    · exact e2 b hb
    · rw [List.mem_singleton.mp hb]; exact h2
theorem flat_len {α β : Type} {f : α → List β} {w : Nat} (h : ∀ a, (f a).length = w) : ∀ l : List α, (l.flatMap f).length = l.length * w
  | [] => by simp
  | a :: l => by rw [List.flatMap_cons, List.length_append, h, flat_len h l, List.length_cons, Nat.succ_mul]; omega
theorem rows_len (w : Nat) : ∀ n : Nat, (rowsN w n).length = w ^ n
  | 0 => rfl
  | n + 1 => by
    rw [rowsN, flat_len (w := w) (fun r => by simp [extR]), rows_len w n, Nat.pow_succ]
def fRows : FS := fun xs R => ∃ w n : Nat, xs = [.d (.int (w : Nat)), .d (.int (n : Nat))] ∧ 1 ≤ w ∧ w ≤ 4 ∧ n ≤ 3 ∧ R (.d (.list ((rowsN w n).map natRow)))
def fRight : FS := fun xs R => xs = [.st] ∧ R (.d (.bool true))
def fTabRight : FS := fun xs R => ∃ n w T, xs = [.st, .d (tabD T)] ∧ TabOk n w T ∧ R (.d (.bool true))
def meanP (ps : List (Rat × Rat)) : Rat × Rat := pMul (tot ps) (Rat.divInt 1 ps.length)
def mixD : List (Rat × Rat) → PyData
  | [] => .none
  | p :: ps => pt (meanP (p :: ps))
theorem tot_snoc (ps : List (Rat × Rat)) (p : Rat × Rat) : tot (ps ++ [p]) = pAdd (tot ps) p := by unfold tot; rw [List.foldl_append]; rfl
theorem mean_back {ps : List (Rat × Rat)} (h : 0 < ps.length) : pMul (meanP ps) (Rat.divInt ps.length 1) = tot ps := by
  have UW := unit_whole h
  unfold meanP pMul
  refine Prod.ext ?_ ?_
  · show (tot ps).1 * Rat.divInt 1 ps.length * Rat.divInt ps.length 1 = _
    rw [Rat.mul_assoc, UW, Rat.mul_one]
  · show (tot ps).2 * Rat.divInt 1 ps.length * Rat.divInt ps.length 1 = _
    rw [Rat.mul_assoc, UW, Rat.mul_one]
theorem tot_b {b : Nat} : ∀ {ps : List (Rat × Rat)} {t : Rat × Rat} {n : Nat}, Pb n t → (∀ p ∈ ps, Pb b p) → Pb (n + (b + 1) * ps.length) (ps.foldl pAdd t)
  | [], t, n, h, _ => h
  | p :: ps, t, n, h, hp => by
    have := tot_b (ps := ps) (h.add2 (hp p (by simp))) fun q hq => hp q (List.mem_cons_of_mem _ hq)
    refine Pb.mono this ?_
    simp only [List.length_cons, Nat.mul_succ]
    omega
theorem tot_b' {b : Nat} {ps : List (Rat × Rat)} (hp : ∀ p ∈ ps, Pb b p) : Pb (1 + (b + 1) * ps.length) (tot ps) := tot_b ⟨fz 1 (by decide), fz 1 (by decide)⟩ hp
theorem unit_b {n : Nat} (h : 0 < n) (h2 : n < 1000) : Fb 10 (Rat.divInt 1 n) := Fb.red (by omega) (Bd.lit (by decide)) (Bd.of_lt (j := 1000) (by omega) (by decide))
theorem whole_b {n : Nat} (h2 : n < 1000) : Fb 10 (Rat.divInt n 1) := Fb.red (by decide) (Bd.of_lt (j := 1000) (by omega) (by decide)) (Bd.lit (by decide))
theorem meanP_b {b : Nat} {ps : List (Rat × Rat)} (h0 : 0 < ps.length) (h1 : ps.length < 1000) (hp : ∀ p ∈ ps, Pb b p) : Pb (1 + (b + 1) * ps.length + 10) (meanP ps) := (tot_b' hp).mul (unit_b h0 h1)
theorem shw_pt {p : Rat × Rat} (h : Pb 1600 p) : shw (pt p) := ⟨okI_pt h, Nat.le_of_ble_eq_true rfl, Nat.le_of_ble_eq_true rfl⟩
/-! ### the mean over all rows of answers -/
def prob (cs : List Rat) (row : List Nat) : Rat := row.foldl (fun t a => t * cs.getD a 0) 1
def gain (gs : List (Nat → Rat)) (row : List Nat) : Rat := sm (gs.zip row) fun p => p.1 p.2
theorem zip_snoc {α β : Type} : ∀ (l : List α) (m : List β) (b : β) (h : m.length < l.length), l.zip (m ++ [b]) = l.zip m ++ [(l[m.length], b)]
  | [], _, _, h => by simp at h
  | a :: l, [], b, h => by simp
  | a :: l, c :: m, b, h => by
    simp only [List.cons_append, List.zip_cons_cons, List.length_cons]
    rw [zip_snoc l m b (by simpa using h)]
    rfl
theorem prob_snoc (cs : List Rat) (row : List Nat) (a : Nat) : prob cs (row ++ [a]) = prob cs row * cs.getD a 0 := by unfold prob; rw [List.foldl_append]; rfl
theorem gain_snoc (gs : List (Nat → Rat)) (row : List Nat) (a n : Nat) (hn : row.length = n) (h : n < gs.length) : gain gs (row ++ [a]) = gain gs row + gs[n] a := by
  subst hn
  unfold gain
  rw [zip_snoc _ _ _ h, sm_append]
  simp only [sm]
  grind
theorem sum_odds {cs : List Rat} {w : Nat} (h : cs.length = w) (hs : sm cs id = 1) : sm (List.range w) (fun a => cs.getD a 0) = 1 := by
  have : (List.range w).map (fun a => cs.getD a 0) = cs := by
    apply List.ext_getElem
    · simp [h]
    · intro i h1 h2
      simp [List.getD_eq_getElem?_getD, h2]
  have e := sm_map (fun a => cs.getD a 0) id (List.range w)
  rw [this, hs] at e
  exact e.symm
theorem rows_prob {cs : List Rat} {w : Nat} (h1 : sm (List.range w) (fun a => cs.getD a 0) = 1) : ∀ n : Nat, sm (rowsN w n) (prob cs) = 1
  | 0 => by simp [rowsN, sm, prob]; grind
  | n + 1 => by
    rw [rowsN, sm_flatMap]
    have : ∀ r ∈ rowsN w n, sm (extR w r) (prob cs) = prob cs r := fun r _ => by
      rw [extR, sm_map]
      have e : ∀ a ∈ List.range w, prob cs (r ++ [a]) = cs.getD a 0 * prob cs r := fun a _ => by rw [prob_snoc]; grind
      rw [sm_congr e, sm_mul, h1]
      grind
    rw [sm_congr this, rows_prob h1 n]
theorem rows_gain {cs : List Rat} {w : Nat} (gs : List (Nat → Rat)) (h1 : sm (List.range w) (fun a => cs.getD a 0) = 1) : ∀ n : Nat, n ≤ gs.length → sm (rowsN w n) (fun r => gain gs r * prob cs r) = sm (gs.take n) fun g => sm (List.range w) fun a => g a * cs.getD a 0
  | 0, _ => by simp [rowsN, sm, prob, gain]; grind
  | n + 1, hn => by
    rw [rowsN, sm_flatMap, List.take_succ_eq_append_getElem (by omega), sm_append]
    have : ∀ r ∈ rowsN w n, sm (extR w r) (fun r => gain gs r * prob cs r) = gain gs r * prob cs r + prob cs r * (sm (List.range w) fun a => gs[n] a * cs.getD a 0) := fun r hr => by
      have hl := (rows_mem hr).1
      rw [extR, sm_map]
      have e : ∀ a ∈ List.range w, gain gs (r ++ [a]) * prob cs (r ++ [a]) = cs.getD a 0 * (gain gs r * prob cs r) + (gs[n] a * cs.getD a 0) * prob cs r := fun a _ => by
        rw [prob_snoc, gain_snoc gs r a n hl (by omega)]
        grind
      rw [sm_congr e, sm_add, sm_mul, sm_mul, h1]
      grind
    rw [sm_congr this, sm_add, rows_gain gs h1 n (by omega), sm_mul, rows_prob h1 n]
    simp only [sm]
    grind
theorem getD_range {cs : List Rat} {w : Nat} (h : cs.length = w) : (List.range w).map (fun a => cs.getD a 0) = cs := by
  apply List.ext_getElem
  · simp [h]
  · intro i h1 h2
    simp [List.getD_eq_getElem?_getD, h2]
theorem dot_range {cs : List Rat} {w : Nat} (h : cs.length = w) (f : Nat → Rat) : dot ((List.range w).map f) cs = sm (List.range w) fun a => f a * cs.getD a 0 := by
  have e := getD_range h
  have : dot ((List.range w).map f) ((List.range w).map fun a => cs.getD a 0) = sm (List.range w) fun a => f a * cs.getD a 0 := by
    rw [dot, List.zip_map', sm_map]
  rw [e] at this
  exact this
theorem fold_fst : ∀ (ps : List (Rat × Rat)) (t : Rat × Rat), (ps.foldl pAdd t).1 = t.1 + sm ps (·.1)
  | [], t => by simp [sm]; grind
  | p :: ps, t => by rw [List.foldl_cons, fold_fst ps]; simp only [sm, pAdd]; grind
theorem fold_snd : ∀ (ps : List (Rat × Rat)) (t : Rat × Rat), (ps.foldl pAdd t).2 = t.2 + sm ps (·.2)
  | [], t => by simp [sm]; grind
  | p :: ps, t => by rw [List.foldl_cons, fold_snd ps]; simp only [sm, pAdd]; grind
theorem tot_fst (ps : List (Rat × Rat)) : (tot ps).1 = sm ps (·.1) := by rw [tot, fold_fst]; grind
theorem tot_snd (ps : List (Rat × Rat)) : (tot ps).2 = sm ps (·.2) := by rw [tot, fold_snd]; grind
def paidL (T : List (List Cell)) (l : List (List Rat × Nat)) : List (Rat × Rat) := l.map fun p => payAt T p.1 p.2
def termR (T : List (List Cell)) (hs : List (List Rat)) (cs : List Rat) (r : List Nat) : Rat × Rat := pMul (meanP (paidL T (hs.zip r))) (prob cs r)
theorem all_rows {T : List (List Cell)} {hs : List (List Rat)} {cs : List Rat} {w : Nat} (hc : ShOk w cs) :
    (sm (rowsN w hs.length) (fun r => (termR T hs cs r).1), sm (rowsN w hs.length) (fun r => (termR T hs cs r).2)) = meanP (hs.map fun h => payBy T h cs w) := by
  have h1 := sum_odds hc.len hc.sum
  have one : ∀ (c : Rat × Rat → Rat) (F : List Rat → Nat → Rat), (∀ ps : List (Rat × Rat), c (tot ps) = sm ps c) → (∀ p : Rat × Rat, ∀ q : Rat, c (pMul p q) = c p * q) → (∀ h a, F h a = c (payAt T h a)) → (∀ h, c (payBy T h cs w) = sm (List.range w) fun a => F h a * cs.getD a 0) →
      sm (rowsN w hs.length) (fun r => c (termR T hs cs r)) = c (meanP (hs.map fun h => payBy T h cs w)) := by
    intro c F c1 c2 c3 c4
    have e : ∀ r ∈ rowsN w hs.length, c (termR T hs cs r) = (gain (hs.map F) r * prob cs r) * Rat.divInt 1 hs.length := fun r hr => by
      have hl := (rows_mem hr).1
      have hz : (paidL T (hs.zip r)).length = hs.length := by rw [paidL, List.length_map, List.length_zip]; omega
      rw [termR, c2, meanP, c2, c1, hz, gain, zip_mapL, sm_map, paidL, sm_map]
      simp only [c3]
      grind
    rw [sm_congr e, sm_mul, rows_gain (hs.map F) h1 hs.length (by simp), meanP, c2, c1, List.length_map, sm_map]
    have e2 : (hs.map F).take hs.length = hs.map F := by rw [List.take_of_length_le (by simp)]
    rw [e2, sm_map]
    simp only [c4]
  refine Prod.ext ?_ ?_
  · exact one (·.1) (fun h a => (payAt T h a).1) tot_fst (fun _ _ => rfl) (fun _ _ => rfl) fun h => by
      show dot (((List.range w).map (payAt T h)).map (·.1)) cs = _
      rw [List.map_map, dot_range hc.len]
      rfl
  · exact one (·.2) (fun h a => (payAt T h a).2) tot_snd (fun _ _ => rfl) (fun _ _ => rfl) fun h => by
      show dot (((List.range w).map (payAt T h)).map (·.2)) cs = _
      rw [List.map_map, dot_range hc.len]
      rfl
theorem ShOk.getD {n : Nat} {qs : List Rat} (h : ShOk n qs) {j : Nat} (hj : j < n) : Fb 5 (qs.getD j 0) := by
  have : j < qs.length := by rw [h.len]; exact hj
  rw [List.getD_eq_getElem?_getD, List.getElem?_eq_getElem this]
  exact h.bd _ (List.getElem_mem this)
theorem mixD_snoc (ps : List (Rat × Rat)) (p : Rat × Rat) : mixD (ps ++ [p]) = pt (meanP (ps ++ [p])) := by cases ps <;> rfl
end Px

set_option Elab.async false
set_option linter.all false
set_option maxRecDepth 100000
set_option maxHeartbeats 4000000
set_option exponentiation.threshold 10000
/-! W2: sizes of shown data; convex sums; gaps of pays. -/
namespace Px
open PySem PySem.Spec PyProof.Rows L2
/-! ### what is shown -/
structure Sz (n D : Nat) (d : PyData) : Prop where
  ok : okI d = true
  nd : nods d ≤ n
  dp : d.depth ≤ D
theorem Sz.shw {n D : Nat} {d : PyData} (h : Sz n D d) (h1 : n ≤ 30000 := by decide) (h2 : D ≤ 60 := by decide) : shw d := ⟨h.ok, Nat.le_trans h.nd h1, Nat.le_trans h.dp h2⟩
theorem Sz.mono {n D n' D' : Nat} {d : PyData} (h : Sz n D d) (h1 : n ≤ n') (h2 : D ≤ D') : Sz n' D' d := ⟨h.ok, Nat.le_trans h.nd h1, Nat.le_trans h.dp h2⟩
theorem sz_all {n D : Nat} : ∀ {xs : List PyData}, (∀ x ∈ xs, Sz n D x) → okIs xs = true ∧ nodsA xs ≤ n * xs.length ∧ PyData.depthAll xs ≤ D
  | [], _ => ⟨rfl, Nat.zero_le _, Nat.zero_le _⟩
  | x :: xs, h => by
    obtain ⟨a, b, c⟩ := sz_all (xs := xs) fun y hy => h y (List.mem_cons_of_mem _ hy)
    obtain ⟨a', b', c'⟩ := h x (by simp)
    refine ⟨by simp only [okIs, a, a', Bool.and_true], ?_, ?_⟩
    · simp only [nodsA, List.length_cons, Nat.mul_succ]; omega
    · simp only [PyData.depthAll]; omega
theorem Sz.tup {n D k : Nat} {xs : List PyData} (h : ∀ x ∈ xs, Sz n D x) (hk : xs.length ≤ k) : Sz (1 + n * k) (D + 1) (.tuple xs) := by
  obtain ⟨a, b, c⟩ := sz_all h
  have : n * xs.length ≤ n * k := Nat.mul_le_mul_left _ hk
  refine ⟨a, ?_, ?_⟩
  · simp only [nods]; omega
  · simp only [PyData.depth]; omega
theorem Sz.lst {n D k : Nat} {xs : List PyData} (h : ∀ x ∈ xs, Sz n D x) (hk : xs.length ≤ k) : Sz (1 + n * k) (D + 1) (.list xs) := by
  obtain ⟨a, b, c⟩ := sz_all h
  have : n * xs.length ≤ n * k := Nat.mul_le_mul_left _ hk
  refine ⟨a, ?_, ?_⟩
  · simp only [nods]; omega
  · simp only [PyData.depth]; omega
theorem Sz.int {i : Int} (h : Bd 1600 i) : Sz 1 0 (.int i) := by
  have p : 2 ^ 1600 ≤ 10 ^ 500 := Nat.le_of_ble_eq_true rfl
  refine ⟨?_, Nat.le_refl _, Nat.le_refl _⟩
  simp only [okI, decide_eq_true_eq]
  exact Nat.lt_of_lt_of_le h p
theorem Sz.bool {b : Bool} : Sz 1 0 (.bool b) := ⟨rfl, Nat.le_refl _, Nat.le_refl _⟩
theorem Sz.none : Sz 1 0 .none := ⟨rfl, Nat.le_refl _, Nat.le_refl _⟩
theorem Sz.fq {q : Rat} (h : Fb 1600 q) : Sz 3 1 (fq q) := ⟨okI_fq h, Nat.le_refl _, Nat.le_refl _⟩
theorem Sz.pt {p : Rat × Rat} (h : Pb 1600 p) : Sz 7 2 (pt p) := ⟨okI_pt h, Nat.le_refl _, Nat.le_refl _⟩
theorem Sz.cell {c : Cell} (h : CellOk c) : Sz 3 1 (cellD c) := by
  obtain ⟨⟨h1, h2⟩, h3, h4⟩ := h
  refine (Sz.tup (n := 1) (D := 0) (k := 2) (fun x hx => ?_) (Nat.le_refl _)).mono (by decide) (by decide)
  simp only [List.mem_cons, List.not_mem_nil, or_false] at hx
  rcases hx with rfl | rfl
  · exact Sz.int ((Bd.of_lt (n := 10) (j := 100) (by omega) (by decide)).mono (by decide))
  · exact Sz.int ((Bd.of_lt (n := 10) (j := 100) (by omega) (by decide)).mono (by decide))
theorem Sz.tab {n w : Nat} {T : List (List Cell)} (h : TabOk n w T) : Sz 53 3 (tabD T) := by
  refine (Sz.tup (n := 13) (D := 2) (k := 4) (fun x hx => ?_) (by rw [List.length_map, h.len]; exact h.n4)).mono (by decide) (by decide)
  obtain ⟨r, hr, rfl⟩ := List.mem_map.mp hx
  refine (Sz.tup (n := 3) (D := 1) (k := 4) (fun x hx => ?_) (by rw [List.length_map, h.row r hr]; exact h.w4)).mono (by decide) (by decide)
  obtain ⟨c, hc, rfl⟩ := List.mem_map.mp hx
  exact Sz.cell (h.cell r hr c hc)
theorem Sz.sh {n : Nat} {qs : List Rat} (h : ShOk n qs) (h4 : n ≤ 4) : Sz 13 2 (shD qs) := by
  refine (Sz.tup (n := 3) (D := 1) (k := 4) (fun x hx => ?_) (by rw [List.length_map, h.len]; exact h4)).mono (by decide) (by decide)
  obtain ⟨q, hq, rfl⟩ := List.mem_map.mp hx
  exact Sz.fq ((h.bd q hq).mono (by decide))
/-! ### written values -/
theorem lit2 {q : Rat} {n d : Int} (h : q.num = n) (h2 : (q.den : Int) = d) : PyData.tuple [.int n, .int d] = fq q := by
  subst h
  subst h2
  rfl
theorem litp {p : Rat × Rat} {a b c d : Int} (h1 : p.1.num = a) (h2 : (p.1.den : Int) = b) (h3 : p.2.num = c) (h4 : (p.2.den : Int) = d) : PyData.tuple [.tuple [.int a, .int b], .tuple [.int c, .int d]] = pt p := by
  rw [lit2 h1 h2, lit2 h3 h4]
  rfl
instance {n : Nat} {i : Int} : Decidable (Bd n i) := by unfold Bd; infer_instance
instance {n : Nat} {q : Rat} : Decidable (Fb n q) := by unfold Fb; infer_instance
instance {c : Cell} : Decidable (CellOk c) := by unfold CellOk; infer_instance
/-! ### convex sums -/
section
variable {α : Type}
theorem sq_nn (a : Rat) : 0 ≤ a * a := sq_nonneg a
theorem sm_sub (φ ψ : α → Rat) : ∀ l : List α, sm l (fun a => φ a - ψ a) = sm l φ - sm l ψ
  | [] => by simp [sm]; grind
  | a :: l => by simp only [sm, sm_sub φ ψ l]; grind
theorem jensen (L : List (α × Rat)) (f : α → Rat) (z : Rat) (h1 : sm L (·.2) = 1) (h0 : ∀ p ∈ L, 0 ≤ p.2) : (sm L (fun p => f p.1 * p.2) - z) * (sm L (fun p => f p.1 * p.2) - z) ≤ sm L fun p => (f p.1 - z) * (f p.1 - z) * p.2 := by
  generalize hμ : sm L (fun p => f p.1 * p.2) = μ
  have e : ∀ p ∈ L, (f p.1 - z) * (f p.1 - z) * p.2 = (f p.1 - μ) * (f p.1 - μ) * p.2 + ((f p.1 * p.2) * (2 * (μ - z)) + p.2 * ((μ - z) * (μ - z) - μ * (2 * (μ - z)))) := fun p _ => by grind
  rw [sm_congr e, sm_add, sm_add, sm_mul, sm_mul, h1, hμ]
  have nn : 0 ≤ sm L fun p => (f p.1 - μ) * (f p.1 - μ) * p.2 := sm_nonneg fun p hp => Rat.mul_nonneg (sq_nn _) (h0 p hp)
  grind
theorem convex_near (L : List (α × Rat)) (P : α → Rat × Rat) (z : Rat × Rat) (m : Rat) (h1 : sm L (·.2) = 1) (h0 : ∀ p ∈ L, 0 ≤ p.2) (hm : ∀ p ∈ L, pSq (P p.1) z ≤ m) :
    pSq (sm L (fun p => (P p.1).1 * p.2), sm L (fun p => (P p.1).2 * p.2)) z ≤ m := by
  have a := jensen L (fun x => (P x).1) z.1 h1 h0
  have b := jensen L (fun x => (P x).2) z.2 h1 h0
  have c : sm L (fun p => ((P p.1).1 - z.1) * ((P p.1).1 - z.1) * p.2) + sm L (fun p => ((P p.1).2 - z.2) * ((P p.1).2 - z.2) * p.2) ≤ m := by
    rw [← sm_add]
    have e : ∀ p ∈ L, ((P p.1).1 - z.1) * ((P p.1).1 - z.1) * p.2 + ((P p.1).2 - z.2) * ((P p.1).2 - z.2) * p.2 ≤ p.2 * m := fun p hp => by
      have h2 := hm p hp
      have h3 := h0 p hp
      have h4 := Rat.mul_le_mul_of_nonneg_left h2 h3
      have : ((P p.1).1 - z.1) * ((P p.1).1 - z.1) * p.2 + ((P p.1).2 - z.2) * ((P p.1).2 - z.2) * p.2 = p.2 * pSq (P p.1) z := by unfold pSq; grind
      rw [this]
      exact h4
    refine Rat.le_trans (sm_le e) ?_
    rw [sm_mul, h1]
    grind
  unfold pSq
  grind
end
theorem pSq_comm (p q : Rat × Rat) : pSq p q = pSq q p := by unfold pSq; grind
theorem zip_sum : ∀ {α : Type} (l : List α) (qs : List Rat), qs.length ≤ l.length → sm (l.zip qs) (·.2) = sm qs id
  | _, _, [], _ => by simp [sm]
  | _, [], q :: qs, h => by simp at h
  | _, a :: l, q :: qs, h => by simp only [List.zip_cons_cons, sm, id, zip_sum l qs (by simpa using h)]
theorem payAt_zip (T : List (List Cell)) (qs : List Rat) (j : Nat) : payAt T qs j = (sm (T.zip qs) (fun p => (cq (nth p.1 j)).1 * p.2), sm (T.zip qs) (fun p => (cq (nth p.1 j)).2 * p.2)) := by
  rw [payAt, dot, dot, zip_mapL, zip_mapL, sm_map, sm_map]
theorem payAt_near {n w : Nat} {T : List (List Cell)} {qs : List Rat} {j : Nat} {z : Rat × Rat} {m : Rat} (h : TabOk n w T) (hq : ShOk n qs) (hm : ∀ r ∈ T, pSq (cq (nth r j)) z ≤ m) : pSq (payAt T qs j) z ≤ m := by
  rw [payAt_zip]
  refine convex_near (T.zip qs) (fun r => cq (nth r j)) z m ?_ (fun p hp => hq.nn _ (List.of_mem_zip hp).2) fun p hp => hm _ (List.of_mem_zip hp).1
  rw [zip_sum T qs (by rw [hq.len, h.len]; exact Nat.le_refl _), hq.sum]
/-! ### gaps -/
def gapI (c d : Cell) : Int := (c.1 - d.1) ^ 2 + (c.2 - d.2) ^ 2
def gaps (T : List (List Cell)) : List Int := T.flatten.flatMap fun c => T.flatten.map (gapI c)
theorem gap_sq (c d : Cell) : pSq (cq c) (cq d) = ((gapI c d : Int) : Rat) := by
  unfold pSq cq gapI
  rw [Rat.intCast_add, Int.pow_succ, Int.pow_succ, Int.pow_zero, Int.pow_succ, Int.pow_succ, Int.pow_zero]
  simp only [Int.one_mul, Rat.intCast_mul, Rat.intCast_sub]
theorem gap_mem {n w : Nat} {T : List (List Cell)} (h : TabOk n w T) {r s : List Cell} (hr : r ∈ T) (hs : s ∈ T) {i j : Nat} (hi : i < w) (hj : j < w) : gapI (nth r i) (nth s j) ∈ gaps T := by
  have mem : ∀ {r : List Cell} {i : Nat}, r ∈ T → i < w → nth r i ∈ T.flatten := fun {r i} hr hi => by
    have : i < r.length := by rw [h.row r hr]; exact hi
    unfold nth
    rw [List.getD_eq_getElem?_getD, List.getElem?_eq_getElem this]
    exact List.mem_flatten.mpr ⟨r, hr, List.getElem_mem this⟩
  exact List.mem_flatMap.mpr ⟨_, mem hr hi, List.mem_map.mpr ⟨_, mem hs hj, rfl⟩⟩
theorem pays_near {n w : Nat} {T : List (List Cell)} {qs os : List Rat} {i j : Nat} {m : Int} (h : TabOk n w T) (hq : ShOk n qs) (ho : ShOk n os) (hi : i < w) (hj : j < w) (hm : ∀ y ∈ gaps T, y ≤ m) : pSq (payAt T qs i) (payAt T os j) ≤ (m : Rat) := by
  refine payAt_near h hq fun r hr => ?_
  rw [pSq_comm]
  refine payAt_near h ho fun s hs => ?_
  rw [pSq_comm, gap_sq]
  exact Rat.intCast_le_intCast.mpr (hm _ (gap_mem h hr hs hi hj))
theorem gap_b {c d : Cell} (hc : CellOk c) (hd : CellOk d) : 0 ≤ gapI c d ∧ gapI c d ≤ 80000 := by
  obtain ⟨⟨a1, a2⟩, a3, a4⟩ := hc
  obtain ⟨⟨b1, b2⟩, b3, b4⟩ := hd
  have sq : ∀ x : Int, -200 ≤ x → x ≤ 200 → 0 ≤ x ^ 2 ∧ x ^ 2 ≤ 40000 := fun x h1 h2 => by
    rw [Int.pow_succ, Int.pow_succ, Int.pow_zero, Int.one_mul]
    constructor
    · rcases Int.le_total 0 x with h | h
      · exact Int.mul_nonneg h h
      · exact Int.mul_nonneg_of_nonpos_of_nonpos h h
    · have e : 40000 - x * x = (200 - x) * (200 + x) := by grind
      have : 0 ≤ (200 - x) * (200 + x) := Int.mul_nonneg (by omega) (by omega)
      omega
  have s1 := sq (c.1 - d.1) (by omega) (by omega)
  have s2 := sq (c.2 - d.2) (by omega) (by omega)
  unfold gapI
  omega
theorem flat_ok {n w : Nat} {T : List (List Cell)} (h : TabOk n w T) : (∀ c ∈ T.flatten, CellOk c) ∧ T.flatten.length = n * w := by
  refine ⟨fun c hc => ?_, ?_⟩
  · obtain ⟨r, hr, hc⟩ := List.mem_flatten.mp hc
    exact h.cell r hr c hc
  · rw [← h.len]
    have : ∀ T : List (List Cell), (∀ r ∈ T, r.length = w) → T.flatten.length = T.length * w := fun T => by
      induction T with
      | nil => intro _; simp
      | cons r T ih => intro h; rw [List.flatten_cons, List.length_append, h r (by simp), ih fun s hs => h s (List.mem_cons_of_mem _ hs), List.length_cons, Nat.succ_mul]; omega
    exact this T h.row
def fGapOf : FS := fun xs R => ∃ c d, xs = [.d (cellD c), .d (cellD d)] ∧ CellOk c ∧ CellOk d ∧ R (.d (.int (gapI c d)))
def fGap : FS := fun xs R => ∃ n w T, xs = [.d (tabD T)] ∧ TabOk n w T ∧ ∀ m, isMax (gaps T) m → R (.d (.int m))
def fWidest : FS := fun xs R => ∃ n w T, xs = [.d (tabD T)] ∧ TabOk n w T ∧ ∀ m, isMax (gaps T) m → R (.d (.tuple [.int m, .int 1]))
def overC (r : List Cell) (os : List Rat) : Rat × Rat := (sm (r.zip os) (fun p => (cq p.1).1 * p.2), sm (r.zip os) (fun p => (cq p.1).2 * p.2))
def fPaidOver : FS := fun xs R => ∃ (w : Nat) (r : List Cell) (os : List Rat), xs = [.d (rowD r), .d (shD os)] ∧ r.length = w ∧ w ≤ 4 ∧ (∀ c ∈ r, CellOk c) ∧ ShOk w os ∧ R (.d (pt (overC r os)))
theorem row_range {r : List Cell} {w : Nat} (h : r.length = w) : (List.range w).map (nth r) = r := by
  apply List.ext_getElem
  · simp [h]
  · intro i h1 h2
    simp [nth, List.getD_eq_getElem?_getD, h2]
theorem over_range {r : List Cell} {os : List Rat} {w : Nat} (h : r.length = w) (ho : os.length = w) (f : Cell → Rat) : sm (r.zip os) (fun p => f p.1 * p.2) = sm (List.range w) fun j => f (nth r j) * os.getD j 0 := by
  have e1 := row_range h
  have e2 := getD_range ho
  have : sm (((List.range w).map (nth r)).zip ((List.range w).map fun a => os.getD a 0)) (fun p => f p.1 * p.2) = sm (List.range w) fun j => f (nth r j) * os.getD j 0 := by
    rw [List.zip_map', sm_map]
  rw [e1, e2] at this
  exact this
theorem payBy_range {T : List (List Cell)} {qs os : List Rat} {w : Nat} (ho : os.length = w) : payBy T qs os w = (sm (List.range w) (fun j => (payAt T qs j).1 * os.getD j 0), sm (List.range w) (fun j => (payAt T qs j).2 * os.getD j 0)) := by
  unfold payBy dotP
  rw [List.map_map, List.map_map, dot_range ho, dot_range ho]
  rfl
theorem other_eq {n w : Nat} {T : List (List Cell)} {qs os : List Rat} (h : TabOk n w T) (ho : os.length = w) : (sm (T.zip qs) (fun p => (overC p.1 os).1 * p.2), sm (T.zip qs) (fun p => (overC p.1 os).2 * p.2)) = payBy T qs os w := by
  rw [payBy_range ho]
  have one : ∀ f : Cell → Rat, sm (T.zip qs) (fun p => sm (p.1.zip os) (fun c => f c.1 * c.2) * p.2) = sm (List.range w) fun j => sm (T.zip qs) (fun p => f (nth p.1 j) * p.2) * os.getD j 0 := fun f => by
    have e : ∀ p ∈ T.zip qs, sm (p.1.zip os) (fun c => f c.1 * c.2) * p.2 = sm (List.range w) fun j => f (nth p.1 j) * os.getD j 0 * p.2 := fun p hp => by
      rw [over_range (h.row _ (List.of_mem_zip hp).1) ho, ← sm_mul]
    rw [sm_congr e, sm_comm]
    refine sm_congr fun j _ => ?_
    rw [← sm_mul]
    exact sm_congr fun p _ => by grind
  refine Prod.ext ?_ ?_
  · show sm (T.zip qs) (fun p => sm (p.1.zip os) (fun c => (cq c.1).1 * c.2) * p.2) = sm (List.range w) fun j => (payAt T qs j).1 * os.getD j 0
    rw [one fun c => (cq c).1]
    simp only [payAt_zip]
  · show sm (T.zip qs) (fun p => sm (p.1.zip os) (fun c => (cq c.1).2 * c.2) * p.2) = sm (List.range w) fun j => (payAt T qs j).2 * os.getD j 0
    rw [one fun c => (cq c).2]
    simp only [payAt_zip]
theorem overC_b {w : Nat} {r : List Cell} {os : List Rat} (w4 : w ≤ 4) (hr : r.length = w) (hc : ∀ c ∈ r, CellOk c) (ho : ShOk w os) : Pb 60 (overC r os) := by
  have one : ∀ f : Cell → Rat, (∀ c ∈ r, Fb 7 (f c)) → Fb 60 (sm (r.zip os) fun p => f p.1 * p.2) := fun f hf => by
    have := dot_fb (a := 7) (b := 5) (vs := r.map f) (ss := os) (fun v hv => by obtain ⟨c, hc, rfl⟩ := List.mem_map.mp hv; exact hf c hc) ho.bd
    rw [dot, zip_mapL, sm_map, List.length_map] at this
    exact this.mono (by omega)
  exact ⟨one (fun c => (cq c).1) fun c h => (cq_b (hc c h)).1, one (fun c => (cq c).2) fun c h => (cq_b (hc c h)).2⟩
theorem gaps_b {n w : Nat} {T : List (List Cell)} (h : TabOk n w T) {m : Int} (hm : m ∈ gaps T) : 0 ≤ m ∧ m ≤ 80000 := by
  obtain ⟨fok, _⟩ := flat_ok h
  obtain ⟨c, hc, hm⟩ := List.mem_flatMap.mp hm
  obtain ⟨d, hd, rfl⟩ := List.mem_map.mp hm
  exact gap_b (fok c hc) (fok d hd)
theorem isMax_eq {l : List Int} {a b : Int} (ha : isMax l a) (hb : isMax l b) : a = b := by
  have h1 := ha.2 b hb.1
  have h2 := hb.2 a ha.1
  omega
/-- a comprehension with two walks, by functions -/
theorem lc2_map {α β : Type} {fg fg1 : FG} {ft ft1 : FT} {fi1 : FI} {fe : FE} {L1 : List Nat} {ρ : En} (f : α → Vl) (m : α → List β) (h : α → β → PyData) : ∀ (l : List α) (acc : List PyData) (R : List PyData → Prop),
    (∀ a ∈ l, ∀ (acc : List PyData) (K : List PyData → Prop) (T' : Prop), K (acc ++ (m a).map (h a)) → fg (f a) ρ fun ρ2 => ft ρ2 fun b => if b = true then fi1 ρ2 fun items1 => items1.length ≤ 999 ∧ lcF fg1 ft1 fe (wipeE ρ2 L1) items1 acc K else T') →
    R (acc ++ l.flatMap fun a => (m a).map (h a)) → lc2F fg ft fi1 fg1 ft1 fe L1 ρ (l.map f) acc R
  | [], acc, R, _, q => by
    show R acc
    simpa using q
  | a :: l, acc, R, st, q => by
    refine st a (by simp) acc _ _ ?_
    refine lc2_map f m h l _ R (fun b hb => st b (List.mem_cons_of_mem _ hb)) ?_
    simpa [List.append_assoc] using q
end Px

set_option Elab.async false
set_option linter.all false
set_option maxRecDepth 100000
set_option maxHeartbeats 4000000
set_option exponentiation.threshold 10000
/-! W3: lines, how far points are beyond them, lines pushed to pairs. -/
namespace Px
open PySem PySem.Spec PyProof.Rows L2
abbrev Line := Int × Int × Int
def lineD (s : Line) : PyData := .tuple [.int s.1, .int s.2.1, .int s.2.2]
def LineB (n : Nat) (s : Line) : Prop := Bd n s.1 ∧ Bd n s.2.1 ∧ Bd n s.2.2
/-- how far a point is beyond a line -/
def abv (s : Line) (p : Rat × Rat) : Rat := (s.1 : Rat) * p.1 + (s.2.1 : Rat) * p.2 - (s.2.2 : Rat)
def lin (a b : Int) (c : Cell) : Int := a * c.1 + b * c.2
theorem fEq_ii {neg : Bool} {a b c d : Int} {R : Vl → Prop} : fEq neg (.d (.tuple [.int a, .int b])) (.d (.tuple [.int c, .int d])) R = R (.d (.bool (neg ^^ decide (a = c ∧ b = d)))) := by
  have e : PyData.eqv (.tuple [.int a, .int b]) (.tuple [.int c, .int d]) = decide (a = c ∧ b = d) := by
    have e : PyData.eqv (.tuple [.int a, .int b]) (.tuple [.int c, .int d]) = ((a == c) && ((b == d) && true)) := rfl
    rw [e, Bool.and_true, Bool.decide_and]
    congr 1
  have u : fEq neg (.d (.tuple [.int a, .int b])) (.d (.tuple [.int c, .int d])) R = (SeqAt.shaped (.tuple [.int a, .int b]) = true ∧ SeqAt.shaped (.tuple [.int c, .int d]) = true ∧ R (.d (.bool (neg ^^ PyData.eqv (.tuple [.int a, .int b]) (.tuple [.int c, .int d]))))) := rfl
  have s : ∀ a b : Int, SeqAt.shaped (.tuple [.int a, .int b]) = true := fun _ _ => rfl
  rw [u, e, s, s]
  simp
theorem cut2 {a b c : PyData} : cutD [a, b, c] none (some 2) = [a, b] := rfl
def fSide : FS := fun xs R => ∃ c : Cell, xs = [.st, .d (cellD c)] ∧ CellOk c ∧ ∀ a b r : Int, (a ≠ 0 ∨ b ≠ 0) → -3 ≤ a → a ≤ 3 → -3 ≤ b → b ≤ 3 → 0 ≤ r → r ≤ 9 → R (.d (lineD (a, b, a * c.1 + b * c.2 + r)))
def fSum : FS := fun xs R => ∃ (qs : List Rat) (a : Nat), xs = [.d (.list (qs.map fq))] ∧ (∀ q ∈ qs, Fb a q) ∧ (a + 1) * qs.length ≤ 7000 ∧ R (.d (fq (sm qs id)))
def fAbove : FS := fun xs R => ∃ (s : Line) (p : Rat × Rat) (n m : Nat), xs = [.d (lineD s), .d (pt p)] ∧ LineB n s ∧ Pb m p ∧ 0 < n ∧ n + m ≤ 1500 ∧ R (.d (fq (abv s p)))
def fPushed : FS := fun xs R => ∃ (s : Line) (cs : List Cell), xs = [.d (lineD s), .d (.list (cs.map cellD))] ∧ cs ≠ [] ∧ cs.length ≤ 1000 ∧ LineB 30 s ∧ (∀ c ∈ cs, CellOk c) ∧ ∀ m, isMax (cs.map (lin s.1 s.2.1)) m → R (.d (lineD (s.1, s.2.1, m)))
def IsPay (T : List (List Cell)) (n w : Nat) (p : Rat × Rat) : Prop := ∃ qs j, ShOk n qs ∧ j < w ∧ p = payAt T qs j
def fRowDraw : FS := fun xs R => ∃ n w T, xs = [.st, .d (tabD T)] ∧ TabOk n w T ∧ ∀ ps : List (Rat × Rat), 0 < ps.length → ps.length ≤ 6 → (∀ p ∈ ps, IsPay T n w p) → R (.d (.list (ps.map pt)))
/-! ### what stays within lines -/
def linQ (a b : Int) (p : Rat × Rat) : Rat := (a : Rat) * p.1 + (b : Rat) * p.2
section
variable {α : Type}
theorem lin_convex (L : List (α × Rat)) (P : α → Rat × Rat) (a b : Int) (m : Rat) (h1 : sm L (·.2) = 1) (h0 : ∀ p ∈ L, 0 ≤ p.2) (hm : ∀ p ∈ L, linQ a b (P p.1) ≤ m) :
    linQ a b (sm L (fun p => (P p.1).1 * p.2), sm L (fun p => (P p.1).2 * p.2)) ≤ m := by
  have e : linQ a b (sm L (fun p => (P p.1).1 * p.2), sm L (fun p => (P p.1).2 * p.2)) = sm L fun p => p.2 * linQ a b (P p.1) := by
    unfold linQ
    have e1 : ∀ p ∈ L, p.2 * ((a : Rat) * (P p.1).1 + (b : Rat) * (P p.1).2) = (P p.1).1 * p.2 * (a : Rat) + (P p.1).2 * p.2 * (b : Rat) := fun p _ => by grind
    rw [sm_congr e1, sm_add, sm_mul, sm_mul]
    grind
  rw [e]
  have e2 : ∀ p ∈ L, p.2 * linQ a b (P p.1) ≤ p.2 * m := fun p hp => Rat.mul_le_mul_of_nonneg_left (hm p hp) (h0 p hp)
  refine Rat.le_trans (sm_le e2) ?_
  rw [sm_mul, h1]
  grind
end
theorem linQ_cell (a b : Int) (c : Cell) : linQ a b (cq c) = ((lin a b c : Int) : Rat) := by
  unfold linQ cq lin
  rw [Rat.intCast_add, Rat.intCast_mul, Rat.intCast_mul]
theorem payAt_line {n w : Nat} {T : List (List Cell)} {qs : List Rat} {j : Nat} {a b : Int} {m : Rat} (h : TabOk n w T) (hq : ShOk n qs) (hm : ∀ r ∈ T, linQ a b (cq (nth r j)) ≤ m) : linQ a b (payAt T qs j) ≤ m := by
  rw [payAt_zip]
  refine lin_convex (T.zip qs) (fun r => cq (nth r j)) a b m ?_ (fun p hp => hq.nn _ (List.of_mem_zip hp).2) fun p hp => hm _ (List.of_mem_zip hp).1
  rw [zip_sum T qs (by rw [hq.len, h.len]; exact Nat.le_refl _), hq.sum]
theorem payBy_line {n w : Nat} {T : List (List Cell)} {qs os : List Rat} {a b : Int} {m : Rat} (h : TabOk n w T) (hq : ShOk n qs) (ho : ShOk w os) (hm : ∀ r ∈ T, ∀ j < w, linQ a b (cq (nth r j)) ≤ m) : linQ a b (payBy T qs os w) ≤ m := by
  have e : payBy T qs os w = (sm ((List.range w).zip os) (fun p => (payAt T qs p.1).1 * p.2), sm ((List.range w).zip os) (fun p => (payAt T qs p.1).2 * p.2)) := by
    unfold payBy dotP dot
    rw [List.map_map, List.map_map, zip_mapL, zip_mapL, sm_map, sm_map]
    rfl
  rw [e]
  refine lin_convex ((List.range w).zip os) (payAt T qs) a b m ?_ (fun p hp => ho.nn _ (List.of_mem_zip hp).2) fun p hp => ?_
  · rw [zip_sum _ os (by rw [ho.len]; simp), ho.sum]
  · have hj : p.1 < w := by simpa using (List.of_mem_zip hp).1
    exact payAt_line h hq fun r hr => hm r hr _ hj
theorem abv_lin (s : Line) (p : Rat × Rat) : abv s p = linQ s.1 s.2.1 p - (s.2.2 : Rat) := rfl
theorem abv_le {s : Line} {p : Rat × Rat} (h : linQ s.1 s.2.1 p ≤ (s.2.2 : Rat)) : ¬ 0 < (abv s p).num := by
  intro hp
  have h1 : 0 ≤ -abv s p := by
    rw [abv_lin]
    grind
  have h2 := Rat.num_nonneg.mpr h1
  rw [Rat.neg_num] at h2
  omega
theorem mean_near {ps : List (Rat × Rat)} {z : Rat × Rat} {m : Rat} (h0 : 0 < ps.length) (hm : ∀ p ∈ ps, pSq p z ≤ m) : pSq (meanP ps) z ≤ m := by
  have hn : Rat.divInt 1 ps.length * (ps.length : Rat) = 1 := by
    have := unit_whole h0
    have e : Rat.divInt (ps.length : Nat) 1 = (ps.length : Rat) := fq_inj.mp (whole_q.symm.trans rfl)
    rw [e] at this
    exact this
  have hc : ∀ (ps : List (Rat × Rat)) (c : Rat), sm ps (fun _ => c) = c * (ps.length : Rat) := fun ps c => by
    induction ps with
    | nil => simp [sm]
    | cons p ps ih =>
      simp only [sm, ih, List.length_cons]
      have : ((ps.length + 1 : Nat) : Rat) = (ps.length : Rat) + 1 := by rw [Rat.natCast_add]; rfl
      rw [this]
      grind
  have e : meanP ps = (sm (ps.map fun p => (p, Rat.divInt 1 ps.length)) (fun p => (id p.1).1 * p.2), sm (ps.map fun p => (p, Rat.divInt 1 ps.length)) (fun p => (id p.1).2 * p.2)) := by
    rw [meanP, pMul, tot_fst, tot_snd, sm_map, sm_map, ← sm_mul, ← sm_mul]
    rfl
  rw [e]
  refine convex_near (ps.map fun p => (p, Rat.divInt 1 ps.length)) id z m ?_ (fun p hp => ?_) fun p hp => ?_
  · rw [sm_map, hc, hn]
  · obtain ⟨p, _, rfl⟩ := List.mem_map.mp hp
    exact divInt_nn (p := 1) h0
  · obtain ⟨p, hp', rfl⟩ := List.mem_map.mp hp
    exact hm p hp'
theorem means_near {n w : Nat} {T : List (List Cell)} {ps rs : List (Rat × Rat)} {m : Int} (h : TabOk n w T) (hm : ∀ y ∈ gaps T, y ≤ m) (p0 : 0 < ps.length) (r0 : 0 < rs.length) (hp : ∀ p ∈ ps, IsPay T n w p) (hr : ∀ p ∈ rs, IsPay T n w p) : pSq (meanP ps) (meanP rs) ≤ (m : Rat) := by
  refine mean_near p0 fun p hp' => ?_
  rw [pSq_comm]
  refine mean_near r0 fun r hr' => ?_
  obtain ⟨qs, j, hq, hj, rfl⟩ := hp p hp'
  obtain ⟨os, i, ho, hi, rfl⟩ := hr r hr'
  exact pays_near h ho hq hi hj hm
theorem isPay_b {n w : Nat} {T : List (List Cell)} {p : Rat × Rat} (h : TabOk n w T) (hp : IsPay T n w p) : Pb 60 p := by
  obtain ⟨qs, j, hq, hj, rfl⟩ := hp
  exact payAt_b h hq hj
end Px

set_option Elab.async false
set_option linter.all false
set_option maxRecDepth 100000
set_option maxHeartbeats 4000000
set_option exponentiation.threshold 10000
/-! W6: acts' means by odds, least ones, common denominators, margins. -/
namespace Px
open PySem PySem.Spec PyProof.Rows L2
/-! ### an act's mean by odds -/
def rowMean (r : List Cell) (os : List Rat) : Rat × Rat := dotP (r.map cq) os
def RowOk (w : Nat) (r : List Cell) : Prop := r.length = w ∧ w ≤ 4 ∧ ∀ c ∈ r, CellOk c
theorem TabOk.rowOk {n w : Nat} {T : List (List Cell)} (h : TabOk n w T) {r : List Cell} (hr : r ∈ T) : RowOk w r := ⟨h.row r hr, h.w4, h.cell r hr⟩
theorem rowMean_b {w : Nat} {r : List Cell} {os : List Rat} (h : RowOk w r) (ho : ShOk w os) : Pb 60 (rowMean r os) := by
  obtain ⟨h1, h2, h3⟩ := h
  refine ⟨(dot_fb (a := 7) (b := 5) (fun v hv => ?_) ho.bd).mono ?_, (dot_fb (a := 7) (b := 5) (fun v hv => ?_) ho.bd).mono ?_⟩
  · rw [List.map_map] at hv
    obtain ⟨c, hc, rfl⟩ := List.mem_map.mp hv
    exact (cq_b (h3 c hc)).1
  · rw [List.length_map, List.length_map]; omega
  · rw [List.map_map] at hv
    obtain ⟨c, hc, rfl⟩ := List.mem_map.mp hv
    exact (cq_b (h3 c hc)).2
  · rw [List.length_map, List.length_map]; omega
theorem dot_row {r : List Cell} {os : List Rat} {w : Nat} (hr : r.length = w) (ho : os.length = w) (f : Cell → Rat) : dot (r.map f) os = sm (List.range w) fun a => f (nth r a) * os.getD a 0 := by
  have : r.map f = (List.range w).map fun a => f (nth r a) := by
    apply List.ext_getElem
    · simp [hr]
    · intro i h1 h2
      rw [List.length_map] at h1
      simp [nth, List.getD_eq_getElem?_getD, h1]
  rw [this, dot_range ho]
theorem payBy_rows {n w : Nat} {T : List (List Cell)} {qs os : List Rat} (h : TabOk n w T) (ho : ShOk w os) : payBy T qs os w = (sm (T.zip qs) (fun p => (rowMean p.1 os).1 * p.2), sm (T.zip qs) (fun p => (rowMean p.1 os).2 * p.2)) := by
  have one : ∀ f : Cell → Rat, sm (List.range w) (fun a => sm (T.zip qs) (fun p => f (nth p.1 a) * p.2) * os.getD a 0) = sm (T.zip qs) fun p => dot (p.1.map f) os * p.2 := fun f => by
    have e1 : ∀ a ∈ List.range w, sm (T.zip qs) (fun p => f (nth p.1 a) * p.2) * os.getD a 0 = sm (T.zip qs) fun p => f (nth p.1 a) * p.2 * os.getD a 0 := fun a _ => (sm_mul _ _ _).symm
    rw [sm_congr e1, sm_comm]
    refine sm_congr fun p hp => ?_
    rw [dot_row (h.row _ (List.of_mem_zip hp).1) ho.len, ← sm_mul]
    exact sm_congr fun a _ => by grind
  unfold payBy dotP
  rw [List.map_map, List.map_map, dot_range ho.len, dot_range ho.len]
  refine Prod.ext ?_ ?_
  · have := one fun c => (cq c).1
    simp only [Function.comp, payAt_zip]
    rw [this]
    refine sm_congr fun p _ => ?_
    rw [rowMean, dotP, List.map_map]
    rfl
  · have := one fun c => (cq c).2
    simp only [Function.comp, payAt_zip]
    rw [this]
    refine sm_congr fun p _ => ?_
    show _ = dot ((p.1.map cq).map (·.2)) os * p.2
    rw [List.map_map]
    rfl
/-! ### least ones -/
def IsLeast (qs : List Rat) (m : Rat) : Prop := m ∈ qs ∧ ∀ q ∈ qs, m ≤ q
theorem linQ_neg (a b : Int) (p : Rat × Rat) : linQ (-a) (-b) p = -linQ a b p := by
  unfold linQ
  rw [Rat.intCast_neg, Rat.intCast_neg]
  grind
theorem payBy_least {n w : Nat} {T : List (List Cell)} {qs os : List Rat} {a b : Int} {m : Rat} (h : TabOk n w T) (hq : ShOk n qs) (ho : ShOk w os) (hm : ∀ r ∈ T, m ≤ linQ a b (rowMean r os)) : m ≤ linQ a b (payBy T qs os w) := by
  rw [payBy_rows h ho]
  have := lin_convex (T.zip qs) (fun r => rowMean r os) (-a) (-b) (-m) (by rw [zip_sum T qs (by rw [hq.len, h.len]; exact Nat.le_refl _), hq.sum]) (fun p hp => hq.nn _ (List.of_mem_zip hp).2) fun p hp => by
    have := hm _ (List.of_mem_zip hp).1
    rw [linQ_neg]
    grind
  rw [linQ_neg] at this
  grind
theorem meanP_sm (ps : List (Rat × Rat)) : meanP ps = (sm (ps.map fun p => (p, Rat.divInt 1 ps.length)) (fun p => (id p.1).1 * p.2), sm (ps.map fun p => (p, Rat.divInt 1 ps.length)) (fun p => (id p.1).2 * p.2)) := by
  rw [meanP, pMul, tot_fst, tot_snd, sm_map, sm_map, ← sm_mul, ← sm_mul]
  rfl
theorem sm_const {α : Type} : ∀ (ps : List α) (c : Rat), sm ps (fun _ => c) = c * (ps.length : Rat)
  | [], c => by simp [sm]
  | p :: ps, c => by
    simp only [sm, sm_const ps, List.length_cons]
    have : ((ps.length + 1 : Nat) : Rat) = (ps.length : Rat) + 1 := by rw [Rat.natCast_add]; rfl
    rw [this]
    grind
theorem unit_cast {n : Nat} (h : 0 < n) : Rat.divInt 1 n * (n : Rat) = 1 := by
  have := unit_whole h
  have e : Rat.divInt (n : Nat) 1 = (n : Rat) := fq_inj.mp (whole_q.symm.trans rfl)
  rw [e] at this
  exact this
theorem meanP_w {ps : List (Rat × Rat)} (h0 : 0 < ps.length) : sm (ps.map fun p => (p, Rat.divInt 1 ps.length)) (·.2) = 1 := by
  rw [sm_map, sm_const, unit_cast h0]
theorem mean_least {ps : List (Rat × Rat)} {a b : Int} {m : Rat} (h0 : 0 < ps.length) (hm : ∀ p ∈ ps, m ≤ linQ a b p) : m ≤ linQ a b (meanP ps) := by
  rw [meanP_sm]
  have := lin_convex (ps.map fun p => (p, Rat.divInt 1 ps.length)) id (-a) (-b) (-m) (meanP_w h0) (fun p hp => ?_) fun p hp => ?_
  · rw [linQ_neg] at this
    grind
  · obtain ⟨p, _, rfl⟩ := List.mem_map.mp hp
    exact divInt_nn (p := 1) h0
  · obtain ⟨p, hp', rfl⟩ := List.mem_map.mp hp
    have := hm p hp'
    rw [linQ_neg]
    simp only [id]
    grind
/-! ### common denominators -/
def Cd (D M : Nat) (q : Rat) : Prop := ∃ z : Int, q * ((D : Nat) : Rat) = (z : Rat) ∧ z.natAbs ≤ M
theorem Cd.add {D M N : Nat} {a b : Rat} (h : Cd D M a) (h2 : Cd D N b) : Cd D (M + N) (a + b) := by
  obtain ⟨z, e, l⟩ := h
  obtain ⟨y, e2, l2⟩ := h2
  exact ⟨z + y, by rw [Rat.intCast_add, ← e, ← e2]; grind, by omega⟩
theorem Cd.mul {D E M N : Nat} {a b : Rat} (h : Cd D M a) (h2 : Cd E N b) : Cd (D * E) (M * N) (a * b) := by
  obtain ⟨z, e, l⟩ := h
  obtain ⟨y, e2, l2⟩ := h2
  exact ⟨z * y, by rw [Rat.intCast_mul, ← e, ← e2, Rat.natCast_mul]; grind, by rw [Int.natAbs_mul]; exact Nat.mul_le_mul l l2⟩
theorem Cd.up {D M : Nat} {a : Rat} (h : Cd D M a) (E : Nat) : Cd (D * E) (M * E) a := by
  obtain ⟨z, e, l⟩ := h
  exact ⟨z * E, by rw [Rat.intCast_mul, ← e, Rat.natCast_mul, Rat.intCast_natCast]; grind, by rw [Int.natAbs_mul, Int.natAbs_natCast]; exact Nat.mul_le_mul_right _ l⟩
theorem Cd.mono {D M N : Nat} {a : Rat} (h : Cd D M a) (l : M ≤ N) : Cd D N a := by
  obtain ⟨z, e, l2⟩ := h
  exact ⟨z, e, Nat.le_trans l2 l⟩
theorem Cd.zero (D M : Nat) : Cd D M 0 := ⟨0, by simp, Nat.zero_le _⟩
theorem mul_den (q : Rat) : q * ((q.den : Nat) : Rat) = ((q.num : Int) : Rat) := by
  have e1 : ((q.den : Nat) : Rat) = Rat.divInt (q.den : Nat) 1 := (fq_inj.mp (whole_q.symm.trans rfl)).symm
  have e2 : q = Rat.divInt q.num q.den := (q_eq q).symm
  have e3 : ((q.num : Int) : Rat) = Rat.divInt q.num 1 := fq_inj.mp (by rw [← iq]; exact (red_fq (a := q.num) (b := 1) (by decide) ▸ by simp [sg]))
  rw [e3, e1]
  conv => lhs; lhs; rw [e2]
  rw [Rat.divInt_mul_divInt, Rat.divInt_eq_divInt_iff (by have := den_ne q; omega) (by decide)]
  simp
theorem Cd.of (q : Rat) : Cd q.den q.num.natAbs q := ⟨q.num, mul_den q, Nat.le_refl _⟩
theorem Cd.eq {D M : Nat} {q : Rat} (h : Cd D M q) (h0 : 0 < D) : ∃ z : Int, q = Rat.divInt z (D : Int) ∧ z.natAbs ≤ M := by
  obtain ⟨z, e, l⟩ := h
  refine ⟨z, ?_, l⟩
  have e2 : (D : Rat) * Rat.divInt 1 D = 1 := by rw [Rat.mul_comm]; exact unit_cast h0
  have e3 : Rat.divInt z (D : Int) = (z : Rat) * Rat.divInt 1 D := by
    have : (z : Rat) = Rat.divInt z 1 := fq_inj.mp (by rw [← iq]; exact (red_fq (a := z) (b := 1) (by decide) ▸ by simp [sg]))
    rw [this, Rat.divInt_mul_divInt]
    simp
  rw [e3, ← e, Rat.mul_assoc, e2, Rat.mul_one]
theorem Cd.fb {D M n : Nat} {q : Rat} (h : Cd D M q) (h0 : 0 < D) (hD : D < 2 ^ n) (hM : M < 2 ^ n) : Fb n q := by
  obtain ⟨z, e, l⟩ := h.eq h0
  rw [e]
  exact Fb.red (by omega) (Nat.lt_of_le_of_lt l hM) hD
end Px

set_option Elab.async false
set_option linter.all false
set_option maxRecDepth 100000
set_option maxHeartbeats 4000000
set_option exponentiation.threshold 10000
/-! W7: walls with odds: how far acts' means are beyond, margins, means over rows of dice. -/
namespace Px
open PySem PySem.Spec PyProof.Rows L2
def beyI (s : Line) (p : Rat × Rat) : Int := s.1 * p.1.num * p.2.den + s.2.1 * p.2.num * p.1.den - s.2.2 * p.1.den * p.2.den
theorem div_of {D : Nat} {z : Int} {q : Rat} (h0 : 0 < D) (e : q * (D : Rat) = (z : Rat)) : Rat.divInt z (D : Int) = q := by
  obtain ⟨z', e', _⟩ := Cd.eq (M := z.natAbs) ⟨z, e, Nat.le_refl _⟩ h0
  have e2 : (D : Rat) * Rat.divInt 1 D = 1 := by rw [Rat.mul_comm]; exact unit_cast h0
  have e3 : Rat.divInt z (D : Int) = (z : Rat) * Rat.divInt 1 D := by
    have : (z : Rat) = Rat.divInt z 1 := fq_inj.mp (by rw [← iq]; exact (red_fq (a := z) (b := 1) (by decide) ▸ by simp [sg]))
    rw [this, Rat.divInt_mul_divInt]
    simp
  rw [e3, ← e, Rat.mul_assoc, e2, Rat.mul_one]
theorem bey_q (s : Line) (p : Rat × Rat) : Rat.divInt (beyI s p) ((p.1.den : Int) * (p.2.den : Int)) = abv s p := by
  have hx := mul_den p.1
  have hy := mul_den p.2
  have h0 : 0 < p.1.den * p.2.den := Nat.mul_pos (Nat.pos_of_ne_zero p.1.den_nz) (Nat.pos_of_ne_zero p.2.den_nz)
  have := div_of (z := beyI s p) (q := abv s p) h0 (by
    unfold abv beyI
    simp only [Rat.natCast_mul, Rat.intCast_add, Rat.intCast_sub, Rat.intCast_mul, Rat.intCast_natCast]
    rw [← hx, ← hy]
    grind)
  rw [Int.natCast_mul] at this
  exact this
theorem fb_abv {n m : Nat} {s : Line} {p : Rat × Rat} (h : LineB n s) (hp : Pb m p) (n0 : 0 < n) : Fb (3 * n + 2 * m + 2) (abv s p) := by
  obtain ⟨b1, b2, b3⟩ := h
  have := sub2 (add2 ((fb_int b1 n0).mul hp.1) ((fb_int b2 n0).mul hp.2)) (fb_int b3 n0)
  exact this.mono (by omega)
def fBey : FS := fun xs R => ∃ (s : Line) (p : Rat × Rat) (n m : Nat), xs = [.d (lineD s), .d (pt p)] ∧ LineB n s ∧ Pb m p ∧ 0 < n ∧ n + m ≤ 1500 ∧ R (.d (.int (beyI s p)))
def fActMeans : FS := fun xs R => ∃ n w T os, xs = [.d (tabD T), .d (shD os)] ∧ TabOk n w T ∧ ShOk w os ∧ R (.d (.list (T.map fun r => pt (rowMean r os))))
def fRowMean : FS := fun xs R => ∃ w r os, xs = [.d (rowD r), .d (shD os)] ∧ RowOk w r ∧ ShOk w os ∧ R (.d (pt (rowMean r os)))
def fLeastOf : FS := fun xs R => ∃ (qs : List Rat) (a : Nat), xs = [.d (.list (qs.map fq))] ∧ qs ≠ [] ∧ (∀ q ∈ qs, Fb a q) ∧ a ≤ 4000 ∧ ∀ m, IsLeast qs m → R (.d (fq m))
def paperD (s : Line) (os : List Rat) : PyData := .tuple [lineD s, shD os]
def fMargin : FS := fun xs R => ∃ n w T s os, xs = [.d (tabD T), .d (paperD s os)] ∧ TabOk n w T ∧ LineB 300 s ∧ ShOk w os ∧ ∀ m, IsLeast (T.map fun r => abv s (rowMean r os)) m → R (.d (fq m))
def fIsWall : FS := fun xs R => ∃ s : Line, xs = [.d (lineD s)] ∧ (s.1 ≠ 0 ∨ s.2.1 ≠ 0) ∧ R (.d (.bool true))
structure PaperOk (n w : Nat) (T : List (List Cell)) (s : Line) (os : List Rat) : Prop where
  tab : TabOk n w T
  sh : ShOk w os
  lb : LineB 300 s
  nz : s.1 ≠ 0 ∨ s.2.1 ≠ 0
  out : ∀ r ∈ T, 0 < abv s (rowMean r os)
def fIsPaper : FS := fun xs R => ∃ n w T s os, xs = [.d (tabD T), .d (paperD s os)] ∧ PaperOk n w T s os ∧ R (.d (.bool true))
def fCheckPaper : FS := fun xs R => ∃ n w T s os, xs = [.d (tabD T), .d (paperD s os)] ∧ PaperOk n w T s os ∧ R (.d .none)
def fPaperMargin : FS := fun xs R => ∃ n w T s os, xs = [.d (tabD T), .d (paperD s os)] ∧ PaperOk n w T s os ∧ ∀ m, IsLeast (T.map fun r => abv s (rowMean r os)) m → R (.d (fq m))
def fCheckDices : FS := fun xs R => ∃ n w T, ∃ hs : List (List Rat), xs = [.d (tabD T), .d (.tuple (hs.map shD))] ∧ TabOk n w T ∧ 0 < hs.length ∧ hs.length ≤ 200 ∧ (∀ h ∈ hs, ShOk n h) ∧ R (.d .none)
def fMbo : FS := fun xs R => ∃ n w T os, ∃ hs : List (List Rat), xs = [.d (tabD T), .d (shD os), .d (.tuple (hs.map shD))] ∧ TabOk n w T ∧ ShOk w os ∧ 0 < hs.length ∧ hs.length ≤ 200 ∧ (∀ h ∈ hs, ShOk n h) ∧
  (∃ b, (∀ h ∈ hs, Pb b (payBy T h os w)) ∧ (b + 1) * hs.length ≤ 7000) ∧ R (.d (pt (meanP (hs.map fun h => payBy T h os w))))
/-! ### the law's own -/
def fFloor : FS := fun xs R => ∃ (q : Rat) (n : Nat), xs = [.d (fq q)] ∧ Fb n q ∧ n ≤ 8000 ∧ R (.d (.int (q.num.fdiv q.den)))
def fLow : FS := fun xs R => ∃ n w T s os, xs = [.d (tabD T), .d (lineD s), .d (shD os)] ∧ TabOk n w T ∧ ShOk w os ∧ LineB 300 s ∧ ∀ m, IsLeast (T.map fun r => linQ s.1 s.2.1 (rowMean r os)) m → R (.d (fq m))
def fPaperDraw : FS := fun xs R => xs = [.st] ∧ ∀ n w T s os, PaperOk n w T s os → n ≤ 3 → w ≤ 3 → R (.d (.tuple [tabD T, paperD s os]))
def fRows4 : FS := fun xs R => ∃ w n : Nat, xs = [.d (.int (w : Nat)), .d (.int (n : Nat))] ∧ 1 ≤ w ∧ w ≤ 3 ∧ n ≤ 4 ∧ R (.d (.list ((rowsN w n).map natRow)))
structure HandsOk (n w : Nat) (T : List (List Cell)) (hs : List (List Rat)) (os : List Rat) : Prop where
  tab : TabOk n w T
  w3 : w ≤ 3
  sh : ShOk w os
  h0 : 0 < hs.length
  h4 : hs.length ≤ 4
  hd : ∀ h ∈ hs, ShOk n h
def fOverR : FS := fun xs R => ∃ n w T, ∃ hs : List (List Rat), ∃ os, xs = [.d (tabD T), .d (.list (hs.map shD)), .d (shD os)] ∧ HandsOk n w T hs os ∧ R (.d (pt (meanP (hs.map fun h => payBy T h os w))))
theorem floor_le (q : Rat) : ((q.num.fdiv q.den : Int) : Rat) ≤ q := by
  have h : q.num.fdiv q.den * (q.den : Int) ≤ q.num := by
    rw [Int.fdiv_eq_ediv_of_nonneg _ (by omega)]
    exact Int.ediv_mul_le _ (den_ne q)
  have e := lt_q q ((q.num.fdiv q.den : Int) : Rat)
  have e1 : (((q.num.fdiv q.den : Int) : Rat)).num = q.num.fdiv q.den := rfl
  have e2 : (((q.num.fdiv q.den : Int) : Rat)).den = 1 := rfl
  rw [e1, e2] at e
  refine Rat.not_lt.mp fun lt => ?_
  rw [decide_eq_true lt, decide_eq_true_eq] at e
  omega
theorem floor_b {n : Nat} {q : Rat} (h : Fb n q) : Bd n (q.num.fdiv q.den) := by
  rw [Int.fdiv_eq_ediv_of_nonneg _ (by omega)]
  exact Nat.lt_of_le_of_lt (Int.natAbs_ediv_le_natAbs _ _) h.1
theorem abv_zero (a b : Int) (p : Rat × Rat) : abv (a, b, 0) p = linQ a b p := by
  have z : ((0 : Int) : Rat) = 0 := rfl
  rw [abv_lin]
  show linQ a b p - ((0 : Int) : Rat) = _
  rw [z]
  grind
theorem num_pos {q : Rat} (h : 0 < q) : 0 < q.num := by
  have h1 := Rat.num_nonneg.mpr (Rat.le_of_lt h)
  have h2 : q.num ≠ 0 := num_ne fun z => by rw [z] at h; exact absurd h (Rat.not_lt.mpr Rat.le_refl)
  omega
theorem rowMean_zip (r : List Cell) (os : List Rat) : rowMean r os = (sm (r.zip os) (fun p => (cq p.1).1 * p.2), sm (r.zip os) (fun p => (cq p.1).2 * p.2)) := by
  rw [rowMean, dotP, List.map_map, List.map_map, dot, dot, zip_mapL, zip_mapL, sm_map, sm_map]
  rfl
theorem isLeast_eq {qs : List Rat} {a b : Rat} (h : IsLeast qs a) (h2 : IsLeast qs b) : a = b := Rat.le_antisymm (h.2 _ h2.1) (h2.2 _ h.1)
theorem tot_pair (ps : List (Rat × Rat)) : tot ps = (sm ps (·.1), sm ps (·.2)) := Prod.ext (tot_fst ps) (tot_snd ps)
/-- the mean over the dice round by round -/
def byR (T : List (List Cell)) (hs : List (List Rat)) (os : List Rat) : Rat × Rat := pMul (sm hs (fun h => sm (T.zip h) fun p => (rowMean p.1 os).1 * p.2), sm hs (fun h => sm (T.zip h) fun p => (rowMean p.1 os).2 * p.2)) (Rat.divInt 1 hs.length)
theorem byR_eq {n w : Nat} {T : List (List Cell)} {hs : List (List Rat)} {os : List Rat} (hT : TabOk n w T) (ho : ShOk w os) : byR T hs os = meanP (hs.map fun h => payBy T h os w) := by
  rw [meanP, byR, tot_pair, List.length_map, sm_map, sm_map]
  have e : ∀ h ∈ hs, payBy T h os w = (sm (T.zip h) (fun p => (rowMean p.1 os).1 * p.2), sm (T.zip h) (fun p => (rowMean p.1 os).2 * p.2)) := fun h _ => payBy_rows hT ho
  rw [sm_congr (φ := fun h => (payBy T h os w).1) (fun h hh => by rw [e h hh]), sm_congr (φ := fun h => (payBy T h os w).2) (fun h hh => by rw [e h hh])]
/-- what the mean is beyond a paper's wall at least -/
theorem mbo_least {n w : Nat} {T : List (List Cell)} {s : Line} {hs : List (List Rat)} {os : List Rat} {m : Rat} (h : PaperOk n w T s os) (h0 : 0 < hs.length) (hh : ∀ h ∈ hs, ShOk n h) (hm : IsLeast (T.map fun r => abv s (rowMean r os)) m) : m ≤ abv s (meanP (hs.map fun h => payBy T h os w)) := by
  have a : m + (s.2.2 : Rat) ≤ linQ s.1 s.2.1 (meanP (hs.map fun h => payBy T h os w)) := by
    refine mean_least (by rw [List.length_map]; exact h0) fun p hp => ?_
    obtain ⟨x, hx, rfl⟩ := List.mem_map.mp hp
    refine payBy_least h.tab (hh x hx) h.sh fun r hr => ?_
    have := hm.2 _ (List.mem_map.mpr ⟨r, hr, rfl⟩)
    rw [abv_lin] at this
    grind
  rw [abv_lin]
  grind
/-! ### common denominators of pays -/
theorem sh_cd : ∀ {qs : List Rat}, (∀ q ∈ qs, Fb 5 q) → ∃ E : Nat, 0 < E ∧ E ≤ 2 ^ (5 * qs.length) ∧ ∀ q ∈ qs, Cd E (2 ^ (5 * qs.length)) q
  | [], _ => ⟨1, by decide, Nat.one_le_two_pow, by simp⟩
  | q :: qs, h => by
    obtain ⟨E, e0, e1, e2⟩ := sh_cd (qs := qs) fun x hx => h x (List.mem_cons_of_mem _ hx)
    obtain ⟨b1, b2⟩ := h q (by simp)
    have p : 2 ^ (5 * (q :: qs).length) = 2 ^ 5 * 2 ^ (5 * qs.length) := by rw [List.length_cons, Nat.mul_succ, Nat.pow_add, Nat.mul_comm]
    have d0 := Nat.pos_of_ne_zero q.den_nz
    rw [p]
    refine ⟨q.den * E, Nat.mul_pos d0 e0, Nat.mul_le_mul (Nat.le_of_lt b2) e1, fun x hx => ?_⟩
    rcases List.mem_cons.mp hx with rfl | hx
    · exact ((Cd.of x).up E).mono (Nat.mul_le_mul (Nat.le_of_lt b1) e1)
    · have := ((e2 x hx).up q.den).mono (N := 2 ^ 5 * 2 ^ (5 * qs.length)) (by rw [Nat.mul_comm]; exact Nat.mul_le_mul_right _ (Nat.le_of_lt b2))
      rw [Nat.mul_comm] at this
      exact this
theorem sm_cd {α : Type} {D M : Nat} {φ : α → Rat} : ∀ {l : List α}, (∀ a ∈ l, Cd D M (φ a)) → Cd D (M * l.length) (sm l φ)
  | [], _ => Cd.zero _ _
  | a :: l, h => by
    have := (h a (by simp)).add (sm_cd (l := l) fun b hb => h b (List.mem_cons_of_mem _ hb))
    rw [sm]
    refine this.mono ?_
    rw [List.length_cons, Nat.mul_succ]
    omega
theorem Cd.int {c : Int} {M : Nat} (h : c.natAbs ≤ M) : Cd 1 M (c : Rat) := ⟨c, by simp, h⟩
def Pc (D M : Nat) (p : Rat × Rat) : Prop := Cd D M p.1 ∧ Cd D M p.2
theorem payAt_cd {n w : Nat} {T : List (List Cell)} {qs : List Rat} (hT : TabOk n w T) (hq : ShOk n qs) : ∃ E : Nat, 0 < E ∧ E ≤ 2 ^ 20 ∧ ∀ j < w, Pc E (2 ^ 29) (payAt T qs j) := by
  obtain ⟨E, e0, e1, e2⟩ := sh_cd hq.bd
  have l4 := hT.n4
  have ll := hT.len
  have p20 : 2 ^ (5 * qs.length) ≤ 2 ^ 20 := Nat.pow_le_pow_right (by decide) (by rw [hq.len]; omega)
  refine ⟨E, e0, Nat.le_trans e1 p20, fun j hj => ?_⟩
  rw [payAt_zip]
  have z4 : (T.zip qs).length ≤ 4 := by rw [List.length_zip]; omega
  have one : ∀ f : Cell → Int, (∀ c, CellOk c → (f c).natAbs ≤ 100) → Cd E (2 ^ 29) (sm (T.zip qs) fun p => ((f (nth p.1 j) : Int) : Rat) * p.2) := fun f hf => by
    have := sm_cd (D := 1 * E) (M := 100 * 2 ^ 20) (φ := fun p : List Cell × Rat => ((f (nth p.1 j) : Int) : Rat) * p.2) (l := T.zip qs) fun p hp =>
      (Cd.int (hf _ (nth_ok hT (List.of_mem_zip hp).1 hj))).mul ((e2 _ (List.of_mem_zip hp).2).mono p20)
    rw [Nat.one_mul] at this
    exact this.mono (Nat.le_trans (Nat.mul_le_mul_left _ z4) (by decide))
  exact ⟨one (·.1) fun c hc => by obtain ⟨⟨a, b⟩, _, _⟩ := hc; omega, one (·.2) fun c hc => by obtain ⟨_, a, b⟩ := hc; omega⟩
theorem hands_cd {n w : Nat} {T : List (List Cell)} (hT : TabOk n w T) : ∀ {hs : List (List Rat)}, (∀ h ∈ hs, ShOk n h) → ∃ D : Nat, 0 < D ∧ D ≤ 2 ^ (20 * hs.length) ∧ ∀ h ∈ hs, ∀ j < w, Pc D (2 ^ (29 * hs.length)) (payAt T h j)
  | [], _ => ⟨1, by decide, Nat.one_le_two_pow, by simp⟩
  | h :: hs, hh => by
    obtain ⟨D, d0, d1, d2⟩ := hands_cd hT (hs := hs) fun x hx => hh x (List.mem_cons_of_mem _ hx)
    obtain ⟨E, e0, e1, e2⟩ := payAt_cd hT (hh h (by simp))
    have p1 : 2 ^ (20 * (h :: hs).length) = 2 ^ 20 * 2 ^ (20 * hs.length) := by rw [List.length_cons, Nat.mul_succ, Nat.pow_add, Nat.mul_comm]
    have p2 : 2 ^ (29 * (h :: hs).length) = 2 ^ 29 * 2 ^ (29 * hs.length) := by rw [List.length_cons, Nat.mul_succ, Nat.pow_add, Nat.mul_comm]
    have q1 : 2 ^ (20 * hs.length) ≤ 2 ^ (29 * hs.length) := Nat.pow_le_pow_right (by decide) (Nat.mul_le_mul_right _ (by decide))
    rw [p1, p2]
    refine ⟨E * D, Nat.mul_pos e0 d0, Nat.mul_le_mul e1 d1, fun x hx j hj => ?_⟩
    rcases List.mem_cons.mp hx with rfl | hx
    · exact ⟨((e2 j hj).1.up D).mono (Nat.mul_le_mul_left _ (Nat.le_trans d1 q1)), ((e2 j hj).2.up D).mono (Nat.mul_le_mul_left _ (Nat.le_trans d1 q1))⟩
    · have up : ∀ {q : Rat}, Cd D (2 ^ (29 * hs.length)) q → Cd (E * D) (2 ^ 29 * 2 ^ (29 * hs.length)) q := fun c => by
        have := (c.up E).mono (N := 2 ^ 29 * 2 ^ (29 * hs.length)) (by rw [Nat.mul_comm]; exact Nat.mul_le_mul_right _ (Nat.le_trans e1 (by decide)))
        rw [Nat.mul_comm] at this
        exact this
      exact ⟨up (d2 x hx j hj).1, up (d2 x hx j hj).2⟩
theorem prob_cd {cs : List Rat} {E N : Nat} (h : ∀ q ∈ cs, Cd E N q) : ∀ {r : List Nat} {t : Rat} {D M : Nat}, (∀ a ∈ r, a < cs.length) → Cd D M t → Cd (D * E ^ r.length) (M * N ^ r.length) (r.foldl (fun t a => t * cs.getD a 0) t)
  | [], t, D, M, _, ht => by simpa using ht
  | a :: r, t, D, M, ha, ht => by
    have hl := ha a (by simp)
    have hc : Cd E N (cs.getD a 0) := by
      rw [List.getD_eq_getElem?_getD, List.getElem?_eq_getElem hl]
      exact h _ (List.getElem_mem hl)
    have := prob_cd h (r := r) (fun b hb => ha b (List.mem_cons_of_mem _ hb)) (ht.mul hc)
    rw [List.foldl_cons, List.length_cons, Nat.pow_succ, Nat.pow_succ, Nat.mul_comm (E ^ _) E, Nat.mul_comm (N ^ _) N, ← Nat.mul_assoc, ← Nat.mul_assoc]
    exact this
theorem unit_cd {n : Nat} (h : 0 < n) : Cd n 1 (Rat.divInt 1 n) := ⟨1, by rw [unit_cast h]; rfl, Nat.le_refl _⟩
theorem term_cd {n w : Nat} {T : List (List Cell)} {hs : List (List Rat)} {os : List Rat} (hH : HandsOk n w T hs os) : ∃ D M : Nat, 0 < D ∧ D ≤ 2 ^ 162 ∧ M ≤ 2 ^ 198 ∧ ∀ r ∈ rowsN w hs.length, Pc D M (termR T hs os r) := by
  obtain ⟨Dh, d0, d1, d2⟩ := hands_cd hH.tab hH.hd
  obtain ⟨Ec, e0, e1, e2⟩ := sh_cd hH.sh.bd
  have h0 := hH.h0
  have h4 := hH.h4
  have lo := hH.sh.len
  have w3 := hH.w3
  have p1 : 2 ^ (20 * hs.length) ≤ 2 ^ 80 := Nat.pow_le_pow_right (by decide) (by omega)
  have p2 : 2 ^ (29 * hs.length) ≤ 2 ^ 116 := Nat.pow_le_pow_right (by decide) (by omega)
  have p3 : 2 ^ (5 * os.length) ≤ 2 ^ 20 := Nat.pow_le_pow_right (by decide) (by omega)
  have p4 : Ec ^ hs.length ≤ 2 ^ 80 := Nat.le_trans (Nat.pow_le_pow_left (Nat.le_trans e1 p3) _) (by rw [← Nat.pow_mul]; exact Nat.pow_le_pow_right (by decide) (by omega))
  have p5 : (2 ^ (5 * os.length)) ^ hs.length ≤ 2 ^ 80 := by rw [← Nat.pow_mul]; exact Nat.pow_le_pow_right (by decide) (Nat.le_trans (Nat.mul_le_mul (show 5 * os.length ≤ 15 by omega) h4) (by decide))
  refine ⟨Dh * hs.length * (1 * Ec ^ hs.length), 2 ^ 116 * 4 * 1 * (1 * (2 ^ (5 * os.length)) ^ hs.length), Nat.mul_pos (Nat.mul_pos d0 h0) (by rw [Nat.one_mul]; exact Nat.pow_pos e0), ?_, ?_, fun r hr => ?_⟩
  · exact Nat.le_trans (Nat.mul_le_mul (Nat.mul_le_mul (Nat.le_trans d1 p1) h4) (Nat.mul_le_mul_left 1 p4)) (Nat.le_of_ble_eq_true rfl)
  · exact Nat.le_trans (Nat.mul_le_mul_left _ (Nat.mul_le_mul_left 1 p5)) (Nat.le_of_ble_eq_true rfl)
  · obtain ⟨hl, ha⟩ := rows_mem hr
    have zl : (hs.zip r).length = hs.length := by rw [List.length_zip]; omega
    have pl : (paidL T (hs.zip r)).length = hs.length := by rw [paidL, List.length_map, zl]
    have hp : Cd (1 * Ec ^ hs.length) (1 * (2 ^ (5 * os.length)) ^ hs.length) (prob os r) := by
      have := prob_cd e2 (r := r) (t := 1) (D := 1) (M := 1) (fun a h => by rw [lo]; exact ha a h) ⟨1, by simp, by decide⟩
      rw [hl] at this
      exact this
    have one : ∀ c : Rat × Rat → Rat, (∀ h ∈ hs, ∀ j < w, Cd Dh (2 ^ (29 * hs.length)) (c (payAt T h j))) → Cd Dh (2 ^ 116 * 4) (sm (paidL T (hs.zip r)) c) := fun c hc => by
      have := sm_cd (l := paidL T (hs.zip r)) (φ := c) (D := Dh) (M := 2 ^ (29 * hs.length)) fun p hp' => by
        rw [paidL] at hp'
        obtain ⟨x, hx, rfl⟩ := List.mem_map.mp hp'
        exact hc _ (List.of_mem_zip hx).1 _ (ha _ (List.of_mem_zip hx).2)
      rw [pl] at this
      exact this.mono (Nat.mul_le_mul p2 h4)
    unfold termR meanP
    rw [pl, tot_pair]
    exact ⟨((one (·.1) fun h hh j hj => (d2 h hh j hj).1).mul (unit_cd h0)).mul hp, ((one (·.2) fun h hh j hj => (d2 h hh j hj).2).mul (unit_cd h0)).mul hp⟩
theorem rows_b {n w : Nat} {T : List (List Cell)} {hs : List (List Rat)} {os : List Rat} (hH : HandsOk n w T hs os) (j : Nat) :
    Pb 400 (sm ((rowsN w hs.length).take j) (fun r => (termR T hs os r).1), sm ((rowsN w hs.length).take j) (fun r => (termR T hs os r).2)) := by
  obtain ⟨D, M, d0, d1, m1, ht⟩ := term_cd hH
  have l81 : ((rowsN w hs.length).take j).length ≤ 81 := by
    rw [List.length_take, rows_len]
    have : w ^ hs.length ≤ 81 := Nat.le_trans (Nat.pow_le_pow_left hH.w3 _) (Nat.le_trans (Nat.pow_le_pow_right (by decide) hH.h4) (by decide))
    omega
  have mm : M * ((rowsN w hs.length).take j).length < 2 ^ 400 := Nat.lt_of_le_of_lt (Nat.mul_le_mul m1 l81) (Nat.lt_of_le_of_lt (Nat.le_of_ble_eq_true rfl : 2 ^ 198 * 81 ≤ 2 ^ 300) (Nat.pow_lt_pow_right (by decide) (by decide)))
  have dd : D < 2 ^ 400 := Nat.lt_of_le_of_lt d1 (Nat.pow_lt_pow_right (by decide) (by decide))
  exact ⟨(sm_cd fun r hr => (ht r (List.mem_of_mem_take hr)).1).fb d0 dd mm, (sm_cd fun r hr => (ht r (List.mem_of_mem_take hr)).2).fb d0 dd mm⟩
end Px

set_option Elab.async false
set_option linter.all false
set_option maxRecDepth 100000
set_option maxHeartbeats 4000000
set_option exponentiation.threshold 10000
/-! W8: the first answer that is farthest beyond, rows of told answers, means behind them. -/
namespace Px
open PySem PySem.Spec PyProof.Rows L2
/-- the first one of the greatest among f 0 .. f (k - 1) -/
def argF (f : Nat → Rat) : Nat → Nat
  | 0 => 0
  | 1 => 0
  | k + 2 => if f (argF f (k + 1)) < f (k + 1) then k + 1 else argF f (k + 1)
theorem argF_up {f : Nat → Rat} {k : Nat} (z : f (argF f (k + 1)) < f (k + 1)) : argF f (k + 2) = k + 1 := by rw [argF, if_pos z]
theorem argF_stay {f : Nat → Rat} {k : Nat} (z : ¬ f (argF f (k + 1)) < f (k + 1)) : argF f (k + 2) = argF f (k + 1) := by rw [argF, if_neg z]
theorem argF_lt (f : Nat → Rat) : ∀ k, argF f (k + 1) < k + 1
  | 0 => by simp [argF]
  | k + 1 => by
    have := argF_lt f k
    unfold argF
    split <;> omega
theorem argF_max (f : Nat → Rat) : ∀ k, ∀ i < k, f i ≤ f (argF f k)
  | 0, i, h => absurd h (Nat.not_lt_zero i)
  | 1, i, h => by
    have : i = 0 := by omega
    subst this
    exact Rat.le_refl
  | k + 2, i, h => by
    unfold argF
    by_cases z : f (argF f (k + 1)) < f (k + 1)
    · rw [if_pos z]
      by_cases e : i = k + 1
      · rw [e]; exact Rat.le_refl
      · exact Rat.le_trans (argF_max f (k + 1) i (by omega)) (Rat.le_of_lt z)
    · rw [if_neg z]
      by_cases e : i = k + 1
      · rw [e]; exact Rat.not_lt.mp z
      · exact argF_max f (k + 1) i (by omega)
def bestJ (s : Line) (T : List (List Cell)) (w : Nat) (qs : List Rat) : Nat := argF (fun j => abv s (payAt T qs j)) w
def bestP (s : Line) (T : List (List Cell)) (w : Nat) (qs : List Rat) : Rat × Rat := payAt T qs (bestJ s T w qs)
theorem bestJ_lt {n w : Nat} {T : List (List Cell)} (s : Line) (qs : List Rat) (hT : TabOk n w T) : bestJ s T w qs < w := by
  obtain ⟨k, rfl⟩ : ∃ k, w = k + 1 := ⟨w - 1, by have := hT.w1; omega⟩
  exact argF_lt _ k
theorem bestP_b {n w : Nat} {T : List (List Cell)} {qs : List Rat} (s : Line) (hT : TabOk n w T) (hq : ShOk n qs) : Pb 60 (bestP s T w qs) := payAt_b hT hq (bestJ_lt s qs hT)
/-- the told answer's pay is beyond by the margin at least -/
theorem best_least {n w : Nat} {T : List (List Cell)} {s : Line} {qs os : List Rat} {m : Rat} (h : PaperOk n w T s os) (hq : ShOk n qs) (hm : IsLeast (T.map fun r => abv s (rowMean r os)) m) : m ≤ abv s (bestP s T w qs) := by
  have a : m + (s.2.2 : Rat) ≤ linQ s.1 s.2.1 (payBy T qs os w) := payBy_least h.tab hq h.sh fun r hr => by
    have := hm.2 _ (List.mem_map.mpr ⟨r, hr, rfl⟩)
    rw [abv_lin] at this
    grind
  have e : payBy T qs os w = (sm ((List.range w).zip os) (fun p => (payAt T qs p.1).1 * p.2), sm ((List.range w).zip os) (fun p => (payAt T qs p.1).2 * p.2)) := by
    unfold payBy dotP dot
    rw [List.map_map, List.map_map, zip_mapL, zip_mapL, sm_map, sm_map]
    rfl
  have b : linQ s.1 s.2.1 (payBy T qs os w) ≤ linQ s.1 s.2.1 (bestP s T w qs) := by
    rw [e]
    refine lin_convex ((List.range w).zip os) (payAt T qs) s.1 s.2.1 _ ?_ (fun p hp => h.sh.nn _ (List.of_mem_zip hp).2) fun p hp => ?_
    · rw [zip_sum _ os (by rw [h.sh.len]; simp), h.sh.sum]
    · have hj : p.1 < w := by simpa using (List.of_mem_zip hp).1
      have := argF_max (fun j => abv s (payAt T qs j)) w p.1 hj
      simp only [abv_lin] at this
      show linQ s.1 s.2.1 (payAt T qs p.1) ≤ linQ s.1 s.2.1 (payAt T qs (argF (fun j => abv s (payAt T qs j)) w))
      simp only [abv_lin]
      grind
  rw [abv_lin]
  grind
theorem means_least {s : Line} {ps : List (Rat × Rat)} {m : Rat} (h0 : 0 < ps.length) (hm : ∀ p ∈ ps, m ≤ abv s p) : m ≤ abv s (meanP ps) := by
  have : m + (s.2.2 : Rat) ≤ linQ s.1 s.2.1 (meanP ps) := mean_least h0 fun p hp => by
    have := hm p hp
    rw [abv_lin] at this
    grind
  rw [abv_lin]
  grind
/-- the means behind each round -/
def meansL (ps : List (Rat × Rat)) : List (Rat × Rat) := (List.range ps.length).map fun i => meanP (ps.take (i + 1))
theorem meansL_snoc (ps : List (Rat × Rat)) (p : Rat × Rat) : meansL (ps ++ [p]) = meansL ps ++ [meanP (ps ++ [p])] := by
  unfold meansL
  rw [List.length_append, List.length_singleton, List.range_succ, List.map_append, List.map_singleton]
  congr 1
  · refine List.map_congr_left fun i hi => ?_
    have := List.mem_range.mp hi
    rw [List.take_append_of_le_length (by omega)]
  · rw [List.take_of_length_le (by simp)]
theorem meansL_len (ps : List (Rat × Rat)) : (meansL ps).length = ps.length := by simp [meansL]
def single (n p : Nat) : List Rat := (List.range n).map fun i => if i = p then 1 else 0
theorem single_ok {n p : Nat} (hp : p < n) : ShOk n (single n p) where
  len := by simp [single]
  nn := fun q hq => by
    obtain ⟨i, _, rfl⟩ := List.mem_map.mp hq
    split
    · decide
    · exact Rat.le_refl
  bd := fun q hq => by
    obtain ⟨i, _, rfl⟩ := List.mem_map.mp hq
    split
    · decide +kernel
    · decide +kernel
  sum := by
    have key : ∀ (k : Nat), sm ((List.range k).map fun i => if i = p then (1 : Rat) else 0) id = if p < k then 1 else 0 := fun k => by
      induction k with
      | zero => simp [sm]
      | succ k ih =>
        rw [List.range_succ, List.map_append, sm_append, ih]
        simp only [List.map_singleton, sm, id]
        by_cases h1 : p < k
        · rw [if_pos h1, if_neg (by omega), if_pos (by omega)]; grind
        · by_cases h2 : k = p
          · rw [if_neg h1, if_pos h2, if_pos (by omega)]; grind
          · rw [if_neg h1, if_neg h2, if_neg (by omega)]; grind
    rw [single, key, if_pos hp]
def fAnsAgainst : FS := fun xs R => ∃ n w T s qs, xs = [.d (tabD T), .d (lineD s), .d (shD qs)] ∧ TabOk n w T ∧ LineB 300 s ∧ ShOk n qs ∧ R (.d (.int (bestJ s T w qs : Nat)))
def fMeansOf : FS := fun xs R => ∃ n w T, ∃ hs : List (List Rat), ∃ js : List Nat, xs = [.d (tabD T), .d (.tuple (hs.map shD)), .d (natRow js)] ∧ TabOk n w T ∧ hs.length ≤ 12 ∧ js.length = hs.length ∧ (∀ h ∈ hs, ShOk n h) ∧ (∀ j ∈ js, j < w) ∧ R (.d (.tuple ((meansL (paidL T (hs.zip js))).map pt)))
def keptD (T : List (List Cell)) (s : Line) (w : Nat) (hs : List (List Rat)) : PyData := .tuple [natRow (hs.map (bestJ s T w)), .tuple ((meansL (hs.map (bestP s T w))).map pt)]
def fKeptRow : FS := fun xs R => ∃ n w T s os, ∃ hs : List (List Rat), xs = [.d (tabD T), .d (paperD s os), .d (.tuple (hs.map shD))] ∧ PaperOk n w T s os ∧ 0 < hs.length ∧ hs.length ≤ 12 ∧ (∀ h ∈ hs, ShOk n h) ∧ R (.d (keptD T s w hs))
theorem paid_best (T : List (List Cell)) (s : Line) (w : Nat) : ∀ hs : List (List Rat), paidL T (hs.zip (hs.map (bestJ s T w))) = hs.map (bestP s T w)
  | [] => rfl
  | h :: hs => by
    have := paid_best T s w hs
    rw [paidL] at this ⊢
    simp only [List.map_cons, List.zip_cons_cons, this]
    rfl
/-! ### the law's own -/
def fAnswer : FS := fun xs R => ∃ n w T s qs, xs = [.d (tabD T), .d (lineD s), .d (shD qs)] ∧ TabOk n w T ∧ LineB 300 s ∧ ShOk n qs ∧ R (.d (.tuple [.int (bestJ s T w qs : Nat), pt (bestP s T w qs)]))
def fSingle : FS := fun xs R => ∃ n p : Nat, xs = [.d (.int (n : Nat)), .d (.int (p : Nat))] ∧ n ≤ 4 ∧ p < n ∧ R (.d (shD (single n p)))
def fChosen : FS := fun xs R => ∃ n w T s, ∃ js : List Nat, ∃ pk : Int, xs = [.st, .d (tabD T), .d (lineD s), .d (.list (js.map fun (j : Nat) => .int (j : Nat))), .d (.int pk)] ∧ TabOk n w T ∧ LineB 300 s ∧ js.length ≤ 12 ∧ (∀ j ∈ js, j < w) ∧ ∀ qs, ShOk n qs → R (.d (shD qs))
def fRightP : FS := fun xs R => ∃ pk : Int, xs = [.st, .d (.int pk)] ∧ R (.d (.bool true))
theorem noL_sh (qs : List Rat) : noL (shD qs) = true := by
  have key : ∀ qs : List Rat, noLs (qs.map fq) = true := fun qs => by
    induction qs with
    | nil => rfl
    | cons q qs ih =>
      have : noL (fq q) = true := rfl
      simp [noLs, this, ih]
  simp [shD, noL, key]
theorem ints_lay : ∀ js : List Nat, PyData.canLayAll0 (js.map fun (j : Nat) => PyData.int (j : Nat)) = true ∧ PyData.depthAll (js.map fun (j : Nat) => PyData.int (j : Nat)) = 0
  | [] => ⟨rfl, rfl⟩
  | j :: js => by
    obtain ⟨a, b⟩ := ints_lay js
    refine ⟨?_, ?_⟩
    · simp only [List.map_cons, PyData.canLayAll0, PyData.canLay0, a, Bool.and_self]
    · simp only [List.map_cons, PyData.depthAll, PyData.depth, b]; rfl
theorem shaped_nats (js : List Nat) : SeqAt.shaped (.list (js.map fun (j : Nat) => PyData.int (j : Nat))) = true := by
  obtain ⟨a, b⟩ := ints_lay js
  simp [SeqAt.shaped, PyData.canLay0, PyData.depth, a, b]
theorem depthAll_le {D : Nat} : ∀ {xs : List PyData}, (∀ x ∈ xs, x.depth ≤ D) → PyData.depthAll xs ≤ D
  | [], _ => Nat.zero_le _
  | x :: xs, h => by
    have := depthAll_le (xs := xs) fun y hy => h y (List.mem_cons_of_mem _ hy)
    have := h x (by simp)
    simp only [PyData.depthAll]
    omega
theorem meansL_b {ps : List (Rat × Rat)} (hp : ∀ p ∈ ps, Pb 60 p) (h12 : ps.length ≤ 12) : ∀ q ∈ meansL ps, Pb 900 q := fun q hq => by
  obtain ⟨i, hi, rfl⟩ := List.mem_map.mp hq
  have hi := List.mem_range.mp hi
  have ln : (ps.take (i + 1)).length = i + 1 := by rw [List.length_take]; omega
  have := meanP_b (b := 60) (ps := ps.take (i + 1)) (by omega) (by omega) fun p hp' => hp p (List.mem_of_mem_take hp')
  exact this.mono (by omega)
theorem kept_shw {n w : Nat} {T : List (List Cell)} (s : Line) {hs : List (List Rat)} (hT : TabOk n w T) (hh : ∀ h ∈ hs, ShOk n h) (h12 : hs.length ≤ 12) : shw (keptD T s w hs) := by
  have w4 := hT.w4
  refine (Sz.tup (n := 85) (D := 3) (k := 2) (fun x hx => ?_) (Nat.le_refl _)).shw
  simp only [List.mem_cons, List.not_mem_nil, or_false] at hx
  rcases hx with rfl | rfl
  · refine (Sz.tup (n := 1) (D := 0) (k := 12) (fun x hx => ?_) (by rw [List.length_map, List.length_map]; exact h12)).mono (by decide) (by decide)
    obtain ⟨j, hj, rfl⟩ := List.mem_map.mp hx
    obtain ⟨q, hq, rfl⟩ := List.mem_map.mp hj
    have := bestJ_lt s q hT
    exact Sz.int ((Bd.of_lt (n := 10) (j := 4) (by omega) (by decide)).mono (by decide))
  · refine (Sz.tup (n := 7) (D := 2) (k := 12) (fun x hx => ?_) (by rw [List.length_map, meansL_len, List.length_map]; exact h12)).mono (by decide) (by decide)
    obtain ⟨p, hp, rfl⟩ := List.mem_map.mp hx
    refine Sz.pt ((meansL_b (fun p hp => ?_) (by rw [List.length_map]; exact h12) p hp).mono (by decide))
    obtain ⟨q, hq, rfl⟩ := List.mem_map.mp hp
    exact bestP_b s hT (hh q hq)
theorem ix_l0 {s : Line} {R : Vl → Prop} : fIx (.d (lineD s)) (.d (.int 0)) R = R (.d (.int s.1)) := by unfold lineD; rw [fIx_t, at_0, ex_some]
theorem ix_l1 {s : Line} {R : Vl → Prop} : fIx (.d (lineD s)) (.d (.int 1)) R = R (.d (.int s.2.1)) := by unfold lineD; rw [fIx_t, at_1, ex_some]
theorem ix_l2 {s : Line} {R : Vl → Prop} : fIx (.d (lineD s)) (.d (.int 2)) R = R (.d (.int s.2.2)) := by unfold lineD; rw [fIx_t, at_2, ex_some]
end Px

set_option Elab.async false
set_option linter.all false
set_option maxRecDepth 100000
set_option maxHeartbeats 4000000
/-! W39: walls that let the least mean just so, refused (k52). -/
namespace Px
open PySem PySem.Spec PyProof.Rows L2
structure PapG (n w : Nat) (T : List (List Cell)) (s : Line) (os : List Rat) : Prop where
  tab : TabOk n w T
  sh : ShOk w os
  lb : LineB 300 s
  nz : s.1 ≠ 0 ∨ s.2.1 ≠ 0
theorem PaperOk.g {n w : Nat} {T : List (List Cell)} {s : Line} {os : List Rat} (h : PaperOk n w T s os) : PapG n w T s os := ⟨h.tab, h.sh, h.lb, h.nz⟩
theorem PaperOk.pos {n w : Nat} {T : List (List Cell)} {s : Line} {os : List Rat} {m : Rat} (h : PaperOk n w T s os) (hm : IsLeast (T.map fun r => abv s (rowMean r os)) m) : 0 < m.num := num_pos (by obtain ⟨r, hr, rfl⟩ := List.mem_map.mp hm.1; exact h.out r hr)
def fIsPaperG : FS := fun xs R => ∃ n w T s os, xs = [.d (tabD T), .d (paperD s os)] ∧ PapG n w T s os ∧ ∀ m, IsLeast (T.map fun r => abv s (rowMean r os)) m → R (.d (.bool (decide (0 < m.num))))
def badP (s : Line) (os : List Rat) : Bad := ⟨"BadParameter", "value", .d (paperD s os)⟩
def fCheckX : FSX := fun xs R EX => ∃ n w T s os, xs = [.d (tabD T), .d (paperD s os)] ∧ PapG n w T s os ∧ ∀ m, IsLeast (T.map fun r => abv s (rowMean r os)) m → (0 < m.num → R (.d .none)) ∧ (¬ 0 < m.num → EX (badP s os))
def fMarginX : FSX := fun xs R EX => ∃ n w T s os, xs = [.d (tabD T), .d (paperD s os)] ∧ PapG n w T s os ∧ ∀ m, IsLeast (T.map fun r => abv s (rowMean r os)) m → (0 < m.num → R (.d (fq m))) ∧ (¬ 0 < m.num → EX (badP s os))
def fKeptAns : FS := fun xs R => ∃ n w T s os qs, xs = [.d (tabD T), .d (paperD s os), .d (shD qs)] ∧ PaperOk n w T s os ∧ ShOk n qs ∧ R (.d (.int (bestJ s T w qs : Nat)))
def fRefused52 : FLm → (Vl → Prop) → Prop := fun L R => L (fun _ => R (.d .none)) fun b => b.cls = "BadParameter" ∧ b.fld = "value" ∧ ∃ d, b.val = .d d ∧ R (.d (.tuple [d, .bool true]))
def fPaperDraw2 : FS := fun xs R => xs = [.st] ∧ ∀ n w T s os, PaperOk n w T s os → n ≤ 3 → w ≤ 3 → LineB 40 (s.1, s.2.1, 0) → R (.d (.tuple [tabD T, paperD s os]))
/-- the wall that lets the least mean just so -/
def justW (s : Line) (m : Rat) : Line := (s.1 * (m.den : Int), s.2.1 * (m.den : Int), m.num)
theorem just_zero {s : Line} {m : Rat} {os : List Rat} {T : List (List Cell)} (hm : IsLeast (T.map fun r => linQ s.1 s.2.1 (rowMean r os)) m) : IsLeast (T.map fun r => abv (justW s m) (rowMean r os)) 0 := by
  have e : ∀ p, abv (justW s m) p = (m.den : Rat) * (linQ s.1 s.2.1 p - m) := fun p => by
    rw [abv_lin]
    have h1 := mul_den m
    unfold linQ justW
    rw [Rat.intCast_mul, Rat.intCast_mul, Rat.intCast_natCast, ← h1]
    grind
  have d0 : (0 : Rat) < (m.den : Rat) := by exact_mod_cast m.den_pos
  constructor
  · obtain ⟨r, hr, h1⟩ := List.mem_map.mp hm.1
    refine List.mem_map.mpr ⟨r, hr, ?_⟩
    rw [e, h1]
    grind
  · intro q hq
    obtain ⟨r, hr, rfl⟩ := List.mem_map.mp hq
    have h1 := hm.2 _ (List.mem_map.mpr ⟨r, hr, rfl⟩)
    rw [e]
    exact Rat.mul_nonneg (Rat.le_of_lt d0) (by grind)
theorem just_g {n w : Nat} {T : List (List Cell)} {s : Line} {os : List Rat} {m : Rat} (h : PaperOk n w T s os) (lb : LineB 40 (s.1, s.2.1, 0)) (fm : Fb 250 m) : PapG n w T (justW s m) os := by
  refine ⟨h.tab, h.sh, ⟨(lb.1.mul fm.den).mono (by decide), (lb.2.1.mul fm.den).mono (by decide), fm.1.mono (by decide)⟩, ?_⟩
  exact h.nz.imp (fun z => Int.mul_ne_zero z (den_ne m)) fun z => Int.mul_ne_zero z (den_ne m)
theorem least_abv {T : List (List Cell)} {s : Line} {os : List Rat} {m : Rat} (hm : IsLeast (T.map fun r => linQ s.1 s.2.1 (rowMean r os)) m) : IsLeast (T.map fun r => abv s (rowMean r os)) (m - (s.2.2 : Rat)) := by
  constructor
  · obtain ⟨r, hr, h1⟩ := List.mem_map.mp hm.1
    exact List.mem_map.mpr ⟨r, hr, by rw [abv_lin, h1]⟩
  · intro q hq
    obtain ⟨r, hr, rfl⟩ := List.mem_map.mp hq
    have h1 := hm.2 _ (List.mem_map.mpr ⟨r, hr, rfl⟩)
    rw [abv_lin]
    grind
theorem low_fb {n w : Nat} {T : List (List Cell)} {s : Line} {os : List Rat} {m : Rat} (hT : TabOk n w T) (ho : ShOk w os) (lb : LineB 40 (s.1, s.2.1, 0)) (hm : IsLeast (T.map fun r => linQ s.1 s.2.1 (rowMean r os)) m) : Fb 250 m := by
  obtain ⟨r, hr, rfl⟩ := List.mem_map.mp hm.1
  rw [← abv_zero]
  exact (fb_abv lb (rowMean_b (hT.rowOk hr) ho) (by decide)).mono (by decide)
/-- the answers' way to the farthest one: none yet, or the first farthest so far -/
def farS (s : Line) (T : List (List Cell)) (qs : List Rat) (i : Nat) (b f : PyData) : Prop := (i = 0 ∧ b = .none ∧ f = .none) ∨ (0 < i ∧ b = .int (argF (fun j => abv s (payAt T qs j)) i : Nat) ∧ f = fq (abv s (payAt T qs (argF (fun j => abv s (payAt T qs j)) i))))
theorem small_shw {z : Nat} (h : z < 4) : shw (.int (z : Nat)) := by
  have : z = 0 ∨ z = 1 ∨ z = 2 ∨ z = 3 := by omega
  rcases this with rfl | rfl | rfl | rfl <;> exact ⟨by decide +kernel, by decide +kernel, by decide +kernel⟩
theorem sz_paper {w : Nat} {s : Line} {os : List Rat} (hb : LineB 300 s) (ho : ShOk w os) (w4 : w ≤ 4) : Sz 28 3 (paperD s os) := by
  have l1 : Sz 4 1 (lineD s) := (Sz.tup (n := 1) (D := 0) (k := 3) (fun x hx => by
    simp only [List.mem_cons, List.not_mem_nil, or_false] at hx
    rcases hx with rfl | rfl | rfl
    · exact Sz.int (Bd.mono hb.1 (by decide))
    · exact Sz.int (Bd.mono hb.2.1 (by decide))
    · exact Sz.int (Bd.mono hb.2.2 (by decide))) (Nat.le_refl _) : Sz (1 + 1 * 3) (0 + 1) (.tuple [.int s.1, .int s.2.1, .int s.2.2]))
  refine (Sz.tup (n := 13) (D := 2) (k := 2) (fun x hx => ?_) (Nat.le_refl _) : Sz (1 + 13 * 2) (2 + 1) (.tuple [lineD s, shD os])).mono (by decide) (by decide)
  simp only [List.mem_cons, List.not_mem_nil, or_false] at hx
  rcases hx with rfl | rfl
  · exact l1.mono (by decide) (by decide)
  · exact Sz.sh ho w4
theorem shw_ref {d : PyData} {n D : Nat} (h : Sz n D d) (hn : n ≤ 1000) (hD : D ≤ 20) : shw (.tuple [d, .bool true]) :=
  (Sz.tup (n := 1 + n) (D := D) (k := 2) (fun x hx => by
    simp only [List.mem_cons, List.not_mem_nil, or_false] at hx
    rcases hx with rfl | rfl
    · exact h.mono (by omega) (Nat.le_refl _)
    · exact Sz.bool.mono (by omega) (by omega)) (Nat.le_refl _)).shw (by omega) (by omega)
end Px

set_option Elab.async false
set_option linter.all false
set_option maxRecDepth 100000
set_option maxHeartbeats 2000000
/-! Px: zip(*rows), the rows tuples of one length, at most four; one name as the target. -/
namespace Px
open PySem PySem.Spec PyProof.Rows L2
open Sem (wp)
/-- a loop whose every turn yields -/
theorem wpAny_turns {α β : Type} {M : Model} {A : Around} {f : α → β → Sem (ForInStep β)} {E : Value → Shared → Prop} {Q : β → Shared → Prop} (R : List α → β → Shared → Prop)
    (hs : ∀ x rest b s, R (x :: rest) b s → wpAny M A (f x b) (fun r s' => ∃ b', r = .yield b' ∧ R rest b' s') E s) (he : ∀ b s, R [] b s → Q b s) :
    ∀ l b s, R l b s → wpAny M A (forIn l b f) Q E s
  | [], b, s, h => by
    rw [List.forIn_nil]
    exact wpAny_pure (he b s h)
  | x :: rest, b, s, h => by
    rw [List.forIn_cons]
    refine wpAny_bind (wpAny_mono (hs x rest b s h) (fun r s' hr => ?_) fun _ _ z => z)
    obtain ⟨b', rfl, h'⟩ := hr
    exact wpAny_turns R hs he rest b' s' h'
abbrev IsZipF (h : Heap) (z TI TO : Addr) (f0 f1 : Value) : Prop :=
  h.get? z = some { cls := .type "zip", dict := none, data := .fields #[f0, f1, .bool false, .ref TI, .ref TO], slots := #[] }
abbrev IsSeqT (h : Heap) (T : Addr) (xs : Array Value) : Prop := h.get? T = some { cls := .type "tuple", data := .seq xs }
/-- an iterator, the tuple it walks, the tuple's items -/
structure ZIt where
  it : Addr
  tup : Addr
  xs : Array Value
def ZOut (i : Nat) (p : ZIt) : Value := (p.xs[i]?).getD .none
structure ZSep (z TI TO : Addr) (L : List ZIt) : Prop where
  TIz : TI ≠ z
  TOz : TO ≠ z
  TITO : TI ≠ TO
  nd : (L.map (·.it)).Nodup
  iz : ∀ p ∈ L, p.it ≠ z
  iTI : ∀ p ∈ L, p.it ≠ TI
  iTO : ∀ p ∈ L, p.it ≠ TO
  tz : ∀ p ∈ L, p.tup ≠ z
  tTO : ∀ p ∈ L, p.tup ≠ TO
  ti : ∀ p ∈ L, ∀ q ∈ L, p.tup ≠ q.it
section
variable {prog : Program} {w : World} {A : Around} {E : Value → Shared → Prop} {s : Shared}
theorem alive_any {a : Addr} {Q : Option Obj → Shared → Prop} (h : Q (s.heap.get? a) s) : wpAny (model prog w) A (loadIfAlive a) Q E s := fun _ _ _ => h
theorem owned_any {z TI TO : Addr} {f0 f1 : Value} {Q : Bool → Shared → Prop} (hz : IsZipF s.heap z TI TO f0 f1) (hf : f0 = .none ∨ ∃ T : Nat, f0 = rawInt T)
    (h : ∀ b h' f1', IsZipF h' z TI TO f0 f1' → Heap.SameBut z s.heap h' → Q b { s with heap := h' }) : wpAny (model prog w) A (Builtin.SmallTypes.ownedTupleIsFree (.ref z)) Q E s := by
  unfold Builtin.SmallTypes.ownedTupleIsFree
  rcases hf with rfl | ⟨T, rfl⟩
  · exact wpAny_bind (wpAny_field hz rfl (x := .none) rfl (wpAny_pure (h true s.heap f1 hz (Heap.SameBut.refl _ _))))
  · refine wpAny_bind (wpAny_field hz rfl (x := rawInt T) rfl ?_)
    show wpAny _ _ (loadIfAlive ((T : Int).toNat) >>= _) _ _ _
    rw [Int.toNat_natCast]
    refine wpAny_bind (alive_any ?_)
    cases hT : s.heap.get? T with
    | none => exact wpAny_pure (h true s.heap f1 hz (Heap.SameBut.refl _ _))
    | some o =>
      simp only [Option.isNone_some, Bool.false_eq_true, if_false]
      refine wpAny_bind (wpAny_field hz rfl (x := f1) rfl ?_)
      cases hb : (f1 != Value.bool true) with
      | false =>
        rw [if_neg Bool.false_ne_true]
        exact wpAny_pure (h false s.heap f1 hz (Heap.SameBut.refl _ _))
      | true =>
        rw [if_pos rfl]
        exact wpAny_bind (wpAny_setField_rec hz (by simp) fun h₁ hz₁ hs₁ => wpAny_pure (h false h₁ (.bool true) hz₁ hs₁))
/-- where the walk stands: `dn` have drawn, `rs` not yet -/
structure ZAt (z TI TO : Addr) (i : Nat) (dn rs : List ZIt) (h0 h : Heap) : Prop where
  sz : h.objs.size = h0.objs.size
  drawn : ∀ p ∈ dn, h.IsTupleIter p.it p.tup (i + 1)
  left : ∀ p ∈ rs, h.IsTupleIter p.it p.tup i
  tups : ∀ p ∈ rs, h.IsTuple p.tup p.xs
  rest : ∀ c o, c ≠ z → c ≠ TO → (∀ p ∈ dn ++ rs, c ≠ p.it) → h0.get? c = some o → h.get? c = some o
theorem ZAt.but {z TI TO : Addr} {i : Nat} {dn rs : List ZIt} {h0 h h' : Heap} {b : Addr} (W : ZAt z TI TO i dn rs h0 h) (hb : b = z ∨ b = TO) (S : ZSep z TI TO (dn ++ rs)) (hs : Heap.SameBut b h h') : ZAt z TI TO i dn rs h0 h' := by
  have ni : ∀ p ∈ dn ++ rs, p.it ≠ b := fun p hp => by
    rcases hb with rfl | rfl
    · exact S.iz p hp
    · exact S.iTO p hp
  have nt : ∀ p ∈ dn ++ rs, p.tup ≠ b := fun p hp => by
    rcases hb with rfl | rfl
    · exact S.tz p hp
    · exact S.tTO p hp
  exact ⟨hs.1.trans W.sz, fun p hp => (W.drawn p hp).extBut hs.extBut (ni p (List.mem_append_left _ hp)), fun p hp => (W.left p hp).extBut hs.extBut (ni p (List.mem_append_right _ hp)),
    fun p hp => (W.tups p hp).extBut hs.extBut (nt p (List.mem_append_right _ hp)), fun c o c1 c2 c3 e => hs.extBut _ _ (fun eb => hb.elim (fun q => c1 (eb.trans q)) fun q => c2 (eb.trans q)) (W.rest c o c1 c2 c3 e)⟩
theorem ZAt.step {z TI TO : Addr} {i : Nat} {dn rs : List ZIt} {p : ZIt} {h0 h h' : Heap} (W : ZAt z TI TO i dn (p :: rs) h0 h) (S : ZSep z TI TO (dn ++ p :: rs)) (h1 : h'.IsTupleIter p.it p.tup (i + 1)) (hs : Heap.SameBut p.it h h') : ZAt z TI TO i (dn ++ [p]) rs h0 h' := by
  have nd := S.nd
  rw [List.map_append, List.map_cons, List.nodup_append] at nd
  obtain ⟨n1, n2, n3⟩ := nd
  rw [List.nodup_cons] at n2
  refine ⟨hs.1.trans W.sz, fun q hq => ?_, fun q hq => (W.left q (List.mem_cons_of_mem _ hq)).extBut hs.extBut fun e => n2.1 (by rw [← e]; exact List.mem_map_of_mem hq),
    fun q hq => (W.tups q (List.mem_cons_of_mem _ hq)).extBut hs.extBut (S.ti q (List.mem_append_right _ (List.mem_cons_of_mem _ hq)) p (List.mem_append_right _ (List.mem_cons_self ..))), fun c o c1 c2 c3 e => hs.extBut _ _ (c3 p (by simp)) (W.rest c o c1 c2 (fun q hq => c3 q (by simpa using hq)) e)⟩
  rcases List.mem_append.mp hq with hq | hq
  · exact (W.drawn q hq).extBut hs.extBut (n3 _ (List.mem_map_of_mem hq) _ (List.mem_cons_self ..))
  · rw [List.mem_singleton.mp hq]; exact h1
theorem zn_item {z TI TO : Addr} {L : List ZIt} {i : Nat} {f0 f1 : Value} {arr : Array Value} {Q : Value → Shared → Prop} (S : ZSep z TI TO L) (hL : L ≠ []) (h4 : L.length ≤ 4)
    (hz : IsZipF s.heap z TI TO f0 f1) (hf : f0 = .none ∨ ∃ T : Nat, f0 = rawInt T) (hTI : IsSeqT s.heap TI ((L.map fun p => Value.ref p.it).toArray)) (hTO : IsSeqT s.heap TO arr) (ha : arr.size = L.length)
    (hi : ∀ p ∈ L, s.heap.IsTupleIter p.it p.tup i) (ht : ∀ p ∈ L, s.heap.IsTuple p.tup p.xs) (hlt : ∀ p ∈ L, i < p.xs.size)
    (hQ : ∀ h' g0 g1 arr', IsZipF h' z TI TO g0 g1 → (g0 = .none ∨ ∃ T : Nat, g0 = rawInt T) → IsSeqT h' TO arr' → arr'.size = L.length → (∀ p ∈ L, h'.IsTupleIter p.it p.tup (i + 1)) →
      IsSeqT h' s.heap.objs.size ((L.map (ZOut i)).toArray) → h'.objs.size = s.heap.objs.size + 1 →
      (∀ c o, c ≠ z → c ≠ TO → (∀ p ∈ L, c ≠ p.it) → s.heap.get? c = some o → h'.get? c = some o) → Q (.ref s.heap.objs.size) { s with heap := h' }) :
    wpAny (model prog w) A (Builtin.«zip.__next__» ⟨[.ref z], []⟩) (fun fin s' => ∃ v, fin = .done (.ret v) ∧ Q v s') E s := by
  obtain ⟨hp, g, d, tk0, os⟩ := s
  show wpAny _ _ (field (.ref z) 2 >>= _) _ _ _
  refine wpAny_bind (wpAny_field hz rfl (x := .bool false) rfl ?_)
  show wpAny _ _ (field (.ref z) 3 >>= _) _ _ _
  refine wpAny_bind (wpAny_field hz rfl (x := .ref TI) rfl ?_)
  refine wpAny_bind (wpAny_seqItems hTI rfl ?_)
  have hne : ((L.map fun p => Value.ref p.it).toArray).isEmpty = false := by
    cases L with
    | nil => exact absurd rfl hL
    | cons p r => rfl
  simp only [hne, Bool.false_eq_true, if_false]
  show wpAny _ _ (Builtin.SmallTypes.ownedTupleIsFree (.ref z) >>= _) _ _ _
  refine wpAny_bind (owned_any hz hf fun b h1 f1' hz1 hs1 => ?_)
  replace hs1 : Heap.SameBut z hp h1 := hs1
  have W0 : ZAt z TI TO i [] L hp hp := ⟨rfl, fun _ h => absurd h (List.not_mem_nil), hi, ht, fun _ _ _ _ _ e => e⟩
  have W1 := W0.but (.inl rfl) S hs1
  cases b with
  | true =>
    simp only [if_true]
    refine wpAny_bind (wpAny_rule ?_)
    refine wpAny_bind (wpAny_field hz1 rfl (x := .ref TO) rfl ?_)
    refine wpAny_bind (wpAny_setField_rec hz1 (by simp) fun g0 hz0 hs0 => ?_)
    replace hz0 : IsZipF g0 z TI TO .ellipsis f1' := hz0
    replace hs0 : Heap.SameBut z h1 g0 := hs0
    have Wg := W1.but (.inl rfl) S hs0
    have hT0 : IsSeqT g0 TO arr := hs0.extBut _ _ S.TOz (hs1.extBut _ _ S.TOz hTO)
    refine wpAny_bind (wpAny_turns (fun (rs : List (Value × Nat)) (b : Option Fin × Unit) s2 => ∃ dn rl h2 ar, L = dn ++ rl ∧ rs = (rl.map (fun p => Value.ref p.it)).zipIdx dn.length ∧ b = (none, ()) ∧ s2 = ⟨h2, g, d, tk0, os⟩ ∧ IsZipF h2 z TI TO .ellipsis f1' ∧ ZAt z TI TO i dn rl hp h2 ∧ IsSeqT h2 TO ar ∧ ar.size = L.length ∧ ∀ j, j < dn.length → ar[j]? = (dn.map (ZOut i))[j]?) ?_ ?_ _ _ _ ⟨[], L, g0, arr, rfl, rfl, rfl, rfl, hz0, Wg, hT0, ha, fun j hj => absurd hj (Nat.not_lt_zero j)⟩)
    · rintro x rest b s2 ⟨dn, rl, h2, ar, eL, er, rfl, rfl, hz2, W2, hT2, hsz, hfi⟩
      cases rl with
      | nil => cases er
      | cons p rl =>
        rw [List.map_cons, List.zipIdx_cons] at er
        obtain ⟨rfl, rfl⟩ := List.cons.inj er
        subst eL
        have hp' := hlt p (List.mem_append_right _ (List.mem_cons_self ..))
        refine wpAny_bind (wpAny_onRaise ?_)
        show wpAny _ _ (Builtin.SmallTypes.nextOf (.ref p.it) >>= _) _ _ ⟨h2, g, d, tk0, os⟩
        refine wpAny_bind (RZ.nextOf_tuple_item (W2.left p (List.mem_cons_self ..)) (W2.tups p (List.mem_cons_self ..)) (x := ZOut i p) (by rw [ZOut, Array.getElem?_eq_getElem hp']; rfl) fun h3 h3i hs3 => wpAny_pure ?_)
        replace hs3 : Heap.SameBut p.it h2 h3 := hs3
        have W3 := W2.step S h3i hs3
        have hT3 : IsSeqT h3 TO ar := hs3.extBut _ _ (S.iTO p (List.mem_append_right _ (List.mem_cons_self ..))).symm hT2
        have hz3 : IsZipF h3 z TI TO .ellipsis f1' := hs3.extBut _ _ (S.iz p (List.mem_append_right _ (List.mem_cons_self ..))).symm hz2
        refine wpAny_bind (wpAny_seqItems (s := ⟨h3, g, d, tk0, os⟩) hT3 rfl ?_)
        have hsz4 : ar.size ≤ 4 := by omega
        refine wpAny_bind (wpAny_updateSeq (s := ⟨h3, g, d, tk0, os⟩) hT3 rfl ?_ (Nat.le_trans hsz4 (by decide)) (by rw [Array.size_setIfInBounds]; exact Nat.le_trans hsz4 (by decide)))
        have hs4 : Heap.SameBut TO h3 (h3.update TO (Obj.mapSeq (·.setIfInBounds dn.length (ZOut i p)))) := Heap.SameBut.update ..
        have hT4 : IsSeqT (h3.update TO (Obj.mapSeq (·.setIfInBounds dn.length (ZOut i p)))) TO (ar.setIfInBounds dn.length (ZOut i p)) := by
          show Heap.get? _ _ = _
          rw [Heap.get?_update_self _ hT3 rfl]
          simp [Obj.mapSeq]
        refine wpAny_bind (wpAny_letGo (wpAny_pure ⟨_, rfl, dn ++ [p], rl, _, _, by simp, by simp, rfl, rfl, hs4.extBut _ _ S.TOz.symm hz3, W3.but (.inr rfl) (by simpa using S) hs4, hT4, by rw [Array.size_setIfInBounds]; exact hsz, fun j hj => ?_⟩))
        rw [List.length_append, List.length_singleton] at hj
        rw [Array.getElem?_setIfInBounds]
        by_cases e : dn.length = j
        · subst e
          have : dn.length < ar.size := by rw [hsz, List.length_append, List.length_cons]; omega
          simp [this]
        · rw [if_neg e, hfi j (by omega), List.map_append, List.getElem?_append_left (by rw [List.length_map]; omega)]
    · rintro b s2 ⟨dn, rl, h2, ar, eL, er, rfl, rfl, hz2, W2, hT2, hsz, hfi⟩
      have erl : rl = [] := by
        cases rl with
        | nil => rfl
        | cons p r => rw [List.map_cons, List.zipIdx_cons] at er; cases er
      subst erl
      rw [List.append_nil] at eL
      subst eL
      have ear : ar = (L.map (ZOut i)).toArray := by
        apply Array.ext_getElem?
        intro j
        by_cases e : j < L.length
        · rw [hfi j e, List.getElem?_toArray]
        · rw [Array.getElem?_eq_none (by omega), List.getElem?_toArray, List.getElem?_eq_none (by rw [List.length_map]; omega)]
      subst ear
      refine wpAny_bind (wpAny_seqItems (s := ⟨h2, g, d, tk0, os⟩) hT2 rfl ?_)
      refine wpAny_bind (wpAny_newTuple ?_ (by simp only [List.length_map]; exact Nat.le_trans h4 (by decide)))
      show wpAny _ _ (Builtin.SmallTypes.ownedTupleHandOut (.ref z) (.ref h2.objs.size) >>= _) _ _ ⟨h2.push { cls := .type "tuple", data := .seq (L.map (ZOut i)).toArray }, g, d, tk0, os⟩
      refine wpAny_bind ?_
      unfold Builtin.SmallTypes.ownedTupleHandOut
      have hz6 : IsZipF (h2.push { cls := .type "tuple", data := .seq (L.map (ZOut i)).toArray }) z TI TO .ellipsis f1' := Heap.get?_push_of_some _ hz2
      refine wpAny_bind (wpAny_setField_rec hz6 (by simp) fun h7 hz7 hs7 => ?_)
      replace hz7 : IsZipF h7 z TI TO (rawInt h2.objs.size) f1' := hz7
      refine wpAny_setField_rec hz7 (by simp) fun h8 hz8 hs8 => ?_
      replace hz8 : IsZipF h8 z TI TO (rawInt h2.objs.size) (.bool false) := hz8
      replace hs7 : Heap.SameBut z (h2.push { cls := .type "tuple", data := .seq (L.map (ZOut i)).toArray }) h7 := hs7
      replace hs8 : Heap.SameBut z h7 h8 := hs8
      have up : ∀ c o, c ≠ z → h2.get? c = some o → h8.get? c = some o := fun c o c1 e => hs8.extBut _ _ c1 (hs7.extBut _ _ c1 (Heap.get?_push_of_some _ e))
      have hzlt : z < h2.objs.size := Heap.lt_size hz2
      have hT8 : IsSeqT h8 h2.objs.size (L.map (ZOut i)).toArray := hs8.extBut _ _ (Nat.ne_of_gt hzlt) (hs7.extBut _ _ (Nat.ne_of_gt hzlt) (Heap.get?_push_size _ rfl))
      have z8 : h8.objs.size = h2.objs.size + 1 := by rw [hs8.1, hs7.1, Heap.size_push]
      have esz := W2.sz
      rw [esz] at hT8 z8 hz8
      refine wpAny_pure ⟨_, rfl, ?_⟩
      show Q (.ref h2.objs.size) ⟨h8, g, d, tk0, os⟩
      rw [esz]
      refine hQ h8 _ _ _ hz8 (.inr ⟨_, rfl⟩) (up _ _ S.TOz hT2) (by simp) (fun p hp => ?_) hT8 z8 fun c o c1 c2 c3 e => up c o c1 (W2.rest c o c1 c2 (by simpa using c3) e)
      obtain ⟨o, ho, r⟩ := W2.drawn p hp
      exact ⟨o, up _ _ (S.iz p hp) ho, r⟩
  | false =>
    simp only [Bool.false_eq_true, if_false]
    refine wpAny_bind ?_
    rw [← Array.forIn_toList]
    refine wpAny_turns (fun (rs : List Value) (b : Option Fin × Array Value) s2 => ∃ dn rl h2, L = dn ++ rl ∧ rs = rl.map (fun p => Value.ref p.it) ∧ b = (none, (dn.map (ZOut i)).toArray) ∧ s2 = ⟨h2, g, d, tk0, os⟩ ∧ IsZipF h2 z TI TO f0 f1' ∧ ZAt z TI TO i dn rl hp h2 ∧ IsSeqT h2 TO arr) ?_ ?_ _ _ _ ⟨[], L, h1, rfl, by first | rfl | simp, rfl, rfl, hz1, W1, ?_⟩
    · rintro x rest b s2 ⟨dn, rl, h2, eL, er, rfl, rfl, hz2, W2, hT2⟩
      cases rl with
      | nil => cases er
      | cons p rl =>
        rw [List.map_cons] at er
        obtain ⟨rfl, rfl⟩ := List.cons.inj er
        subst eL
        have hp' := hlt p (List.mem_append_right _ (List.mem_cons_self ..))
        refine wpAny_bind (wpAny_holding ?_)
        show wpAny _ _ (Builtin.SmallTypes.nextOf (.ref p.it) >>= _) _ _ ⟨h2, g, d, tk0, os⟩
        refine wpAny_bind (RZ.nextOf_tuple_item (W2.left p (List.mem_cons_self ..)) (W2.tups p (List.mem_cons_self ..)) (x := ZOut i p) (by rw [ZOut, Array.getElem?_eq_getElem hp']; rfl) fun h3 h3i hs3 => wpAny_pure ?_)
        replace hs3 : Heap.SameBut p.it h2 h3 := hs3
        refine wpAny_pure ⟨_, rfl, dn ++ [p], rl, h3, by simp, rfl, by simp, rfl, hs3.extBut _ _ (S.iz p (List.mem_append_right _ (List.mem_cons_self ..))).symm hz2, W2.step S h3i hs3, hs3.extBut _ _ (S.iTO p (List.mem_append_right _ (List.mem_cons_self ..))).symm hT2⟩
    · rintro b s2 ⟨dn, rl, h2, eL, er, rfl, rfl, hz2, W2, hT2⟩
      have erl : rl = [] := by
        cases rl with
        | nil => rfl
        | cons p r => cases er
      subst erl
      rw [List.append_nil] at eL
      subst eL
      show wpAny _ _ (newTuple ((L.map (ZOut i)).toArray).toList >>= _) _ _ ⟨h2, g, d, tk0, os⟩
      refine wpAny_bind (wpAny_newTuple ?_ (by simp only [List.length_map]; exact Nat.le_trans h4 (by decide)))
      refine wpAny_pure ⟨_, rfl, ?_⟩
      have esz := W2.sz
      show Q (.ref h2.objs.size) ⟨h2.push { cls := .type "tuple", data := .seq (L.map (ZOut i)).toArray }, g, d, tk0, os⟩
      have hT8 : IsSeqT (h2.push { cls := .type "tuple", data := .seq (L.map (ZOut i)).toArray }) h2.objs.size (L.map (ZOut i)).toArray := Heap.get?_push_size _ rfl
      have z8 : (h2.push { cls := .type "tuple", data := .seq (L.map (ZOut i)).toArray }).objs.size = h2.objs.size + 1 := Heap.size_push ..
      have up : ∀ c o, h2.get? c = some o → (h2.push { cls := .type "tuple", data := .seq (L.map (ZOut i)).toArray }).get? c = some o := fun c o e => Heap.get?_push_of_some _ e
      generalize h2.push { cls := .type "tuple", data := .seq (L.map (ZOut i)).toArray } = h8 at hT8 z8 up ⊢
      rw [esz] at hT8 z8 ⊢
      refine hQ h8 _ _ _ (up _ _ hz2) hf (up _ _ hT2) ha (fun p hp => ?_) hT8 z8 fun c o c1 c2 c3 e => up c o (W2.rest c o c1 c2 (by simpa using c3) e)
      obtain ⟨o, ho, r⟩ := W2.drawn p hp
      exact ⟨o, up _ _ ho, r⟩
    · exact hs1.extBut _ _ S.TOz hTO
theorem zn_end {z TI TO : Addr} {L : List ZIt} {i : Nat} {f0 f1 : Value} {arr : Array Value} {Q : Fin → Shared → Prop} (hh : A.handled = none) (S : ZSep z TI TO L) (hL : L ≠ [])
    (hz : IsZipF s.heap z TI TO f0 f1) (hf : f0 = .none ∨ ∃ T : Nat, f0 = rawInt T) (hTI : IsSeqT s.heap TI ((L.map fun p => Value.ref p.it).toArray)) (hTO : IsSeqT s.heap TO arr)
    (hi : ∀ p ∈ L, s.heap.IsTupleIter p.it p.tup i) (ht : ∀ p ∈ L, s.heap.IsTuple p.tup p.xs) (hlt : ∀ p ∈ L, i = p.xs.size)
    (hE : ∀ h' e, (∀ c o, c ≠ z → c ≠ TO → (∀ p ∈ L, c ≠ p.it) → s.heap.get? c = some o → h'.get? c = some o) → (∃ o, h'.get? e = some o ∧ o.cls = .type "StopIteration") → E (.ref e) { s with heap := h' }) :
    wpAny (model prog w) A (Builtin.«zip.__next__» ⟨[.ref z], []⟩) Q E s := by
  cases L with
  | nil => exact absurd rfl hL
  | cons p L =>
  obtain ⟨hp, g, d, tk0, os⟩ := s
  have pm : p ∈ p :: L := List.mem_cons_self ..
  have hx : p.xs[i]? = none := Array.getElem?_eq_none (by rw [hlt p pm]; exact Nat.le_refl _)
  show wpAny _ _ (field (.ref z) 2 >>= _) _ _ _
  refine wpAny_bind (wpAny_field hz rfl (x := .bool false) rfl ?_)
  show wpAny _ _ (field (.ref z) 3 >>= _) _ _ _
  refine wpAny_bind (wpAny_field hz rfl (x := .ref TI) rfl ?_)
  refine wpAny_bind (wpAny_seqItems hTI rfl ?_)
  have hne : (((p :: L).map fun p => Value.ref p.it).toArray).isEmpty = false := rfl
  simp only [hne, Bool.false_eq_true, if_false]
  show wpAny _ _ (Builtin.SmallTypes.ownedTupleIsFree (.ref z) >>= _) _ _ _
  refine wpAny_bind (owned_any hz hf fun b h1 f1' hz1 hs1 => ?_)
  replace hs1 : Heap.SameBut z hp h1 := hs1
  cases b with
  | true =>
    simp only [if_true]
    refine wpAny_bind (wpAny_rule ?_)
    refine wpAny_bind (wpAny_field hz1 rfl (x := .ref TO) rfl ?_)
    refine wpAny_bind (wpAny_setField_rec hz1 (by simp) fun g0 hz0 hs0 => ?_)
    replace hz0 : IsZipF g0 z TI TO .ellipsis f1' := hz0
    replace hs0 : Heap.SameBut z h1 g0 := hs0
    refine wpAny_bind ?_
    simp only [List.map_cons, List.zipIdx_cons, List.forIn_cons]
    refine wpAny_bind (wpAny_bind (wpAny_onRaise ?_))
    show wpAny _ _ (Builtin.SmallTypes.nextOf (.ref p.it) >>= _) _ _ ⟨g0, g, d, tk0, os⟩
    refine wpAny_bind (RZ.nextOf_tuple_end (s := ⟨g0, g, d, tk0, os⟩) hh (((hi p pm).extBut hs1.extBut (S.iz p pm)).extBut hs0.extBut (S.iz p pm)) (((ht p pm).extBut hs1.extBut (S.tz p pm)).extBut hs0.extBut (S.tz p pm)) hx fun q e hq he => ?_)
    replace hq : Heap.ExtBut p.it g0 q := hq
    obtain ⟨oe, hoe, hce⟩ := he
    replace hoe : q.get? e = some oe := hoe
    have hzq : IsZipF q z TI TO .ellipsis f1' := hq _ _ (S.iz p pm).symm hz0
    have hez : e ≠ z := fun x => by subst x; rw [hzq] at hoe; cases hoe; simp at hce
    refine wpAny_setField_rec (s := ⟨q, g, d, tk0, os⟩) hzq (by simp) fun q' _ hq' => ?_
    replace hq' : Heap.SameBut z q q' := hq'
    exact hE q' e (fun c o cz cT c1 x => hq'.extBut _ _ cz (hq _ _ (c1 p pm) (hs0.extBut _ _ cz (hs1.extBut _ _ cz x)))) ⟨oe, hq'.extBut _ _ hez hoe, hce⟩
  | false =>
    simp only [Bool.false_eq_true, if_false]
    refine wpAny_bind ?_
    rw [← Array.forIn_toList]
    simp only [List.map_cons, List.forIn_cons]
    refine wpAny_bind (wpAny_bind (wpAny_holding ?_))
    show wpAny _ _ (Builtin.SmallTypes.nextOf (.ref p.it) >>= _) _ _ ⟨h1, g, d, tk0, os⟩
    refine wpAny_bind (RZ.nextOf_tuple_end (s := ⟨h1, g, d, tk0, os⟩) hh ((hi p pm).extBut hs1.extBut (S.iz p pm)) ((ht p pm).extBut hs1.extBut (S.tz p pm)) hx fun q e hq he => ?_)
    exact hE q e (fun c o cz cT c1 x => hq _ _ (c1 p pm) (hs1.extBut _ _ cz x)) he
theorem pyNext_zn_item {z TI TO : Addr} {L : List ZIt} {i : Nat} {f0 f1 : Value} {arr : Array Value} {Q : Option Value → Shared → Prop} (S : ZSep z TI TO L) (hL : L ≠ []) (h4 : L.length ≤ 4)
    (hz : IsZipF s.heap z TI TO f0 f1) (hf : f0 = .none ∨ ∃ T : Nat, f0 = rawInt T) (hTI : IsSeqT s.heap TI ((L.map fun p => Value.ref p.it).toArray)) (hTO : IsSeqT s.heap TO arr) (ha : arr.size = L.length)
    (hi : ∀ p ∈ L, s.heap.IsTupleIter p.it p.tup i) (ht : ∀ p ∈ L, s.heap.IsTuple p.tup p.xs) (hlt : ∀ p ∈ L, i < p.xs.size)
    (hQ : ∀ h' g0 g1 arr', IsZipF h' z TI TO g0 g1 → (g0 = .none ∨ ∃ T : Nat, g0 = rawInt T) → IsSeqT h' TO arr' → arr'.size = L.length → (∀ p ∈ L, h'.IsTupleIter p.it p.tup (i + 1)) →
      IsSeqT h' s.heap.objs.size ((L.map (ZOut i)).toArray) → h'.objs.size = s.heap.objs.size + 1 →
      (∀ c o, c ≠ z → c ≠ TO → (∀ p ∈ L, c ≠ p.it) → s.heap.get? c = some o → h'.get? c = some o) → Q (some (.ref s.heap.objs.size)) { s with heap := h' }) :
    wpAny (model prog w) A (pyNext (.ref z)) Q E s := by
  have hT : s.TypeIs (.ref z) "zip" := ⟨_, hz, rfl⟩
  unfold pyNext
  exact wpAny_bind (wpAny_attempt (wpAny_callSpecial?_slot (name := Str.ofString "__next__") hT F.slot_zip_next
    (wpAny_call_entry F.slot_zip_next hT F.entry_zip_next
      (zn_item S hL h4 hz hf hTI hTO ha hi ht hlt fun h' g0 g1 arr' b1 b2 b3 b4 b5 b6 b7 b8 => wpAny_pure (hQ h' g0 g1 arr' b1 b2 b3 b4 b5 b6 b7 b8)) (F.args_zip_next_1 _))))
theorem pyNext_zn_end {z TI TO : Addr} {L : List ZIt} {i : Nat} {f0 f1 : Value} {arr : Array Value} {Q : Option Value → Shared → Prop} (hh : A.in1.handled = none) (S : ZSep z TI TO L) (hL : L ≠ [])
    (hz : IsZipF s.heap z TI TO f0 f1) (hf : f0 = .none ∨ ∃ T : Nat, f0 = rawInt T) (hTI : IsSeqT s.heap TI ((L.map fun p => Value.ref p.it).toArray)) (hTO : IsSeqT s.heap TO arr)
    (hi : ∀ p ∈ L, s.heap.IsTupleIter p.it p.tup i) (ht : ∀ p ∈ L, s.heap.IsTuple p.tup p.xs) (hlt : ∀ p ∈ L, i = p.xs.size)
    (hQ : ∀ h', (∀ c o, c ≠ z → c ≠ TO → (∀ p ∈ L, c ≠ p.it) → s.heap.get? c = some o → h'.get? c = some o) → Q none { s with heap := h' }) :
    wpAny (model prog w) A (pyNext (.ref z)) Q E s := by
  have hT : s.TypeIs (.ref z) "zip" := ⟨_, hz, rfl⟩
  unfold pyNext
  refine wpAny_bind (wpAny_attempt (wpAny_callSpecial?_slot (name := Str.ofString "__next__") hT F.slot_zip_next
    (wpAny_call_entry F.slot_zip_next hT F.entry_zip_next (zn_end hh S hL hz hf hTI hTO hi ht hlt fun h' e hk he => ?_) (F.args_zip_next_1 _))))
  obtain ⟨o, ho, hc⟩ := he
  refine wpAny_bind (wpAny_isInstance (T := "StopIteration") (b := true) ⟨o, ho, hc⟩ isSubtype_stop ?_)
  exact wpAny_pure (hQ _ hk)
theorem pyIter_zn {z TI TO : Addr} {f0 f1 : Value} {Q : Value → Shared → Prop} (hz : IsZipF s.heap z TI TO f0 f1) (h : Q (.ref z) s) : wpAny (model prog w) A (pyIter (.ref z)) Q E s := by
  have hT : s.TypeIs (.ref z) "zip" := ⟨_, hz, rfl⟩
  refine wpAny_pyIter_slot hT F.slot_zip_iter (wpAny_call_entry F.slot_zip_iter hT F.entry_zip_iter ?_ (F.args_zip_iter_1 _))
  show wpAny _ _ (ret (.ref z)) _ _ s
  exact wpAny_pure ⟨_, rfl, "zip", _, hT, F.slot_zip_next.lookup, h⟩
end
end Px

set_option Elab.async false
set_option linter.all false
set_option maxRecDepth 100000
set_option maxHeartbeats 2000000
/-! Px: zip(*rows) begins; what a walk over it gives; the rule. -/
namespace Px
open PySem PySem.Spec PyProof.Rows L2
open Sem (wp)
theorem tc_zip : ∀ xs : List Value, xs ≠ [] → xs.length ≤ 4 → checkTypeCall "zip" ⟨xs, []⟩ = pure () ∧ checkBuiltinCall "zip.__new__" ⟨.type "zip" :: xs, []⟩ = pure () ∧ ∀ obj, argsOk "object.__init__" ⟨obj :: xs, []⟩
  | [], h, _ => absurd rfl h
  | [a], _, _ => ⟨by kernel_rfl, by kernel_rfl, fun obj => by unfold argsOk; kernel_rfl⟩
  | [a, b], _, _ => ⟨by kernel_rfl, by kernel_rfl, fun obj => by unfold argsOk; kernel_rfl⟩
  | [a, b, c], _, _ => ⟨by kernel_rfl, by kernel_rfl, fun obj => by unfold argsOk; kernel_rfl⟩
  | [a, b, c, d], _, _ => ⟨by kernel_rfl, by kernel_rfl, fun obj => by unfold argsOk; kernel_rfl⟩
  | a :: b :: c :: d :: e :: r, _, h => absurd h (by simp only [List.length_cons]; omega)
def itsFrom : Nat → List Addr → List Addr
  | _, [] => []
  | n, _ :: as => n :: itsFrom (n + 1) as
theorem itsFrom_len : ∀ n as, (itsFrom n as).length = as.length
  | _, [] => rfl
  | n, _ :: as => congrArg (· + 1) (itsFrom_len (n + 1) as)
theorem itsFrom_app : ∀ n (as : List Addr) (a : Addr), itsFrom n (as ++ [a]) = itsFrom n as ++ [n + as.length]
  | n, [], a => rfl
  | n, b :: as, a => by
    show n :: itsFrom (n + 1) (as ++ [a]) = n :: (itsFrom (n + 1) as ++ [n + (as.length + 1)])
    rw [itsFrom_app (n + 1) as a, Nat.add_right_comm, Nat.add_assoc]
/-- the iterators `its` stand at `i` over the tuples `as` -/
def AtIts (h : Heap) (i : Nat) : List Addr → List Addr → Prop
  | t :: its, a :: as => h.IsTupleIter t a i ∧ AtIts h i its as
  | [], [] => True
  | _, _ => False
theorem AtIts.keep {h h' : Heap} {i : Nat} : ∀ {its as : List Addr}, AtIts h i its as → (∀ t ∈ its, ∀ o, h.get? t = some o → h'.get? t = some o) → AtIts h' i its as
  | [], [], _, _ => trivial
  | t :: its, a :: as, ⟨h1, h2⟩, k => ⟨h1.at fun o e => k t (List.mem_cons_self ..) o e, h2.keep fun t ht => k t (List.mem_cons_of_mem _ ht)⟩
  | [], _ :: _, h, _ => h
  | _ :: _, [], h, _ => h
theorem AtIts.app {h : Heap} {i : Nat} : ∀ {its as : List Addr} {t a : Addr}, AtIts h i its as → h.IsTupleIter t a i → AtIts h i (its ++ [t]) (as ++ [a])
  | [], [], _, _, _, q => ⟨q, trivial⟩
  | _ :: _, _ :: _, _, _, ⟨h1, h2⟩, q => ⟨h1, h2.app q⟩
  | [], _ :: _, _, _, h, _ => h.elim
  | _ :: _, [], _, _, h, _ => h.elim
theorem iterAll_tups {prog : Program} {w : World} {A : Around} {E : Value → Shared → Prop} {hp : Heap} {g : Array GenState} {d : Drawn} {tk : Nat} {os : OsState} {as : List Addr} {Q : List Value → Shared → Prop} (ht : ∀ a ∈ as, ∃ its, hp.IsTuple a its)
    (h : ∀ h2, h2.objs.size = hp.objs.size + as.length → (∀ b o, hp.get? b = some o → h2.get? b = some o) → AtIts h2 0 (itsFrom hp.objs.size as) as → Q ((itsFrom hp.objs.size as).map Value.ref) ⟨h2, g, d, tk, os⟩) :
    wpAny (model prog w) A (Builtin.SmallTypes.iterAll (as.map Value.ref)) Q E ⟨hp, g, d, tk, os⟩ := by
  unfold Builtin.SmallTypes.iterAll
  refine wpAny_bind (wpAny_turns (fun (rs : List Value) (b : Array Value) s2 => ∃ dn rl h2, as = dn ++ rl ∧ rs = rl.map Value.ref ∧ b = ((itsFrom hp.objs.size dn).map Value.ref).toArray ∧ s2 = ⟨h2, g, d, tk, os⟩ ∧ h2.objs.size = hp.objs.size + dn.length ∧ (∀ b o, hp.get? b = some o → h2.get? b = some o) ∧ AtIts h2 0 (itsFrom hp.objs.size dn) dn) ?_ ?_ _ _ _ ⟨[], as, hp, rfl, rfl, rfl, rfl, rfl, fun _ _ e => e, trivial⟩)
  · rintro x rest b s2 ⟨dn, rl, h2, ea, er, rfl, rfl, hsz, hk, hi⟩
    cases rl with
    | nil => cases er
    | cons p rl =>
      rw [List.map_cons] at er
      obtain ⟨rfl, rfl⟩ := List.cons.inj er
      subst ea
      obtain ⟨its, hp1⟩ := ht p (List.mem_append_right _ (List.mem_cons_self ..))
      have hp2 : h2.IsTuple p its := let ⟨o, ho, r⟩ := hp1; ⟨o, hk _ _ ho, r⟩
      refine wpAny_bind (wpAny_holding (wpAny_pyIter_tuple (s := ⟨h2, g, d, tk, os⟩) hp2 (wpAny_pure ⟨_, rfl, dn ++ [p], rl, _, by simp, rfl, ?_, rfl, ?_, fun b o e => Heap.get?_push_of_some _ (hk b o e), ?_⟩)))
      · rw [itsFrom_app, List.map_append, hsz]; simp
      · show (Heap.push _ _).objs.size = _
        rw [Heap.size_push, hsz, List.length_append]; rfl
      · rw [itsFrom_app]
        refine AtIts.app (hi.keep fun t _ o e => Heap.get?_push_of_some _ e) ?_
        rw [← hsz]
        exact ⟨_, Heap.get?_push_size _ rfl, rfl, rfl⟩
  · rintro b s2 ⟨dn, rl, h2, ea, er, rfl, rfl, hsz, hk, hi⟩
    have erl : rl = [] := by
      cases rl with
      | nil => rfl
      | cons p r => cases er
    subst erl
    rw [List.append_nil] at ea
    subst ea
    exact wpAny_pure (h h2 hsz hk hi)
theorem meets_zip_newN {as : List Addr} (h0 : as ≠ []) (h4 : as.length ≤ 4) :
    Meets (Builtin.«zip.__new__» ⟨.type "zip" :: as.map Value.ref, []⟩) (fun _ R s => (∀ a ∈ as, ∃ its, s.heap.IsTuple a its) ∧
      ∀ h', IsZipF h' (s.heap.objs.size + as.length + 2) (s.heap.objs.size + as.length) (s.heap.objs.size + as.length + 1) .none (.bool false) → IsSeqT h' (s.heap.objs.size + as.length) (((itsFrom s.heap.objs.size as).map Value.ref).toArray) →
        (∃ arr, IsSeqT h' (s.heap.objs.size + as.length + 1) arr ∧ arr.size = as.length) → (∀ b o, s.heap.get? b = some o → h'.get? b = some o) → AtIts h' 0 (itsFrom s.heap.objs.size as) as → h'.objs.size = s.heap.objs.size + as.length + 3 →
        R (.ok (.ret (.ref (s.heap.objs.size + as.length + 2)))) { s with heap := h' }) :=
  .of_wp fun prog w A R s h => by
    obtain ⟨hp, g, d, tk, os⟩ := s; obtain ⟨ht, h⟩ := h
    have hsub := sub_zip
    have q1 : ∀ {A' : Around} {E : Value → Shared → Prop} {Q : List Value → Shared → Prop}, (∀ h2, h2.objs.size = hp.objs.size + as.length → (∀ b o, hp.get? b = some o → h2.get? b = some o) → AtIts h2 0 (itsFrom hp.objs.size as) as → Q ((itsFrom hp.objs.size as).map Value.ref) ⟨h2, g, d, tk, os⟩) →
        wpAny (model prog w) A' (Builtin.SmallTypes.iterAll (as.map Value.ref)) Q E ⟨hp, g, d, tk, os⟩ := fun q => iterAll_tups ht q
    have hl : ((itsFrom hp.objs.size as).map Value.ref).length ≤ sizeLine := by rw [List.length_map, itsFrom_len]; exact Nat.le_trans h4 (by decide)
    have hl2 : (((itsFrom hp.objs.size as).map Value.ref).map fun _ => Value.none).length ≤ sizeLine := by rw [List.length_map, List.length_map, itsFrom_len]; exact Nat.le_trans h4 (by decide)
    have q2 : ∀ {A' : Around} {E : Value → Shared → Prop} {Q : Value × List Value → Shared → Prop} {s : Shared}, Q (.type "zip", as.map Value.ref) s → wpAny (model prog w) A' (Builtin.SmallTypes.newClass "zip" ⟨.type "zip" :: as.map Value.ref, []⟩) Q E s := fun q => by
      unfold Builtin.SmallTypes.newClass
      wp_walk
      exact q
    unfold Builtin.«zip.__new__»
    refine wpAny_bind (q2 ?_)
    refine wpAny_bind (q1 fun h2 hsz hk hi => ?_)
    refine wpAny_bind (wpAny_newTuple ?_ hl)
    refine wpAny_bind (wpAny_newTuple ?_ hl2)
    have ha : (((itsFrom hp.objs.size as).map Value.ref).map fun _ => Value.none).toArray.size = as.length := by simp [itsFrom_len]
    generalize ((itsFrom hp.objs.size as).map Value.ref).map (fun _ => Value.none) = nones at hl2 ha ⊢
    have g1 : (h2.push { cls := .type "tuple", data := .seq ((itsFrom hp.objs.size as).map Value.ref).toArray }).get? h2.objs.size = some { cls := .type "tuple", data := .seq ((itsFrom hp.objs.size as).map Value.ref).toArray } := Heap.get?_push_size _ rfl
    have k1 : ∀ b o, h2.get? b = some o → (h2.push { cls := .type "tuple", data := .seq ((itsFrom hp.objs.size as).map Value.ref).toArray }).get? b = some o := fun b o e => Heap.get?_push_of_some _ e
    have s1 : (h2.push { cls := .type "tuple", data := .seq ((itsFrom hp.objs.size as).map Value.ref).toArray }).objs.size = h2.objs.size + 1 := Heap.size_push ..
    show wpAny _ _ _ _ _ ⟨(h2.push { cls := .type "tuple", data := .seq ((itsFrom hp.objs.size as).map Value.ref).toArray }).push { cls := .type "tuple", data := .seq nones.toArray }, g, d, tk, os⟩
    show wpAny _ _ (Builtin.SmallTypes.newRecord (.type "zip") (Builtin.SmallTypes.ownedTupleFields ++ [.bool false, .ref h2.objs.size, .ref (h2.push { cls := .type "tuple", data := .seq ((itsFrom hp.objs.size as).map Value.ref).toArray }).objs.size]) >>= _) _ _ _
    generalize h2.push { cls := .type "tuple", data := .seq ((itsFrom hp.objs.size as).map Value.ref).toArray } = h3 at g1 k1 s1 ⊢
    have g2 : (h3.push { cls := .type "tuple", data := .seq nones.toArray }).get? h3.objs.size = some { cls := .type "tuple", data := .seq nones.toArray } := Heap.get?_push_size _ rfl
    have k2 : ∀ b o, h3.get? b = some o → (h3.push { cls := .type "tuple", data := .seq nones.toArray }).get? b = some o := fun b o e => Heap.get?_push_of_some _ e
    have s2 : (h3.push { cls := .type "tuple", data := .seq nones.toArray }).objs.size = h3.objs.size + 1 := Heap.size_push ..
    generalize h3.push { cls := .type "tuple", data := .seq nones.toArray } = h4' at g2 k2 s2 ⊢
    unfold Builtin.SmallTypes.newRecord
    wp_walk
    have e3 : h3.objs.size = hp.objs.size + as.length + 1 := by rw [s1, hsz]
    have e4 : h4'.objs.size = hp.objs.size + as.length + 2 := by rw [s2, e3]
    have up : ∀ b o, h4'.get? b = some o → (h4'.push { cls := .type "zip", data := .fields #[Value.none, Value.bool false, Value.bool false, Value.ref h2.objs.size, Value.ref h3.objs.size] }).get? b = some o := fun b o e => Heap.get?_push_of_some _ e
    have gz : (h4'.push { cls := .type "zip", data := .fields #[Value.none, Value.bool false, Value.bool false, Value.ref h2.objs.size, Value.ref h3.objs.size] }).get? h4'.objs.size = some { cls := .type "zip", data := .fields #[Value.none, Value.bool false, Value.bool false, Value.ref h2.objs.size, Value.ref h3.objs.size] } := Heap.get?_push_size _ rfl
    have sz : (h4'.push { cls := .type "zip", data := .fields #[Value.none, Value.bool false, Value.bool false, Value.ref h2.objs.size, Value.ref h3.objs.size] }).objs.size = h4'.objs.size + 1 := Heap.size_push ..
    refine ⟨_, rfl, ?_⟩
    show R (.ok (.ret (.ref h4'.objs.size))) ⟨h4'.push { cls := .type "zip", data := .fields #[Value.none, Value.bool false, Value.bool false, Value.ref h2.objs.size, Value.ref h3.objs.size] }, g, d, tk, os⟩
    generalize h4'.push { cls := .type "zip", data := .fields #[Value.none, Value.bool false, Value.bool false, Value.ref h2.objs.size, Value.ref h3.objs.size] } = h5 at up gz sz ⊢
    rw [e3, hsz] at gz
    rw [e4] at gz sz ⊢
    rw [e3] at g2
    rw [hsz] at g1
    exact h h5 gz (up _ _ (k2 _ _ g1)) ⟨nones.toArray, up _ _ g2, ha⟩ (fun b o e => up _ _ (k2 _ _ (k1 _ _ (hk _ _ e)))) (hi.keep fun t _ o e => up _ _ (k2 _ _ (k1 _ _ e))) sz
theorem call_zipN {prog : Program} {w : World} {A : Around} {E : Value → Shared → Prop} {s : Shared} {as : List Addr} {Q : Value → Shared → Prop} (h0 : as ≠ []) (h4 : as.length ≤ 4) (ht : ∀ a ∈ as, ∃ its, s.heap.IsTuple a its)
    (h : ∀ h', IsZipF h' (s.heap.objs.size + as.length + 2) (s.heap.objs.size + as.length) (s.heap.objs.size + as.length + 1) .none (.bool false) → IsSeqT h' (s.heap.objs.size + as.length) (((itsFrom s.heap.objs.size as).map Value.ref).toArray) →
        (∃ arr, IsSeqT h' (s.heap.objs.size + as.length + 1) arr ∧ arr.size = as.length) → (∀ b o, s.heap.get? b = some o → h'.get? b = some o) → AtIts h' 0 (itsFrom s.heap.objs.size as) as → h'.objs.size = s.heap.objs.size + as.length + 3 →
        Q (.ref (s.heap.objs.size + as.length + 2)) { s with heap := h' }) :
    wpAny (model prog w) A (call (.type "zip") (as.map Value.ref)) Q E s := by
  obtain ⟨c1, c2, c3⟩ := tc_zip (as.map Value.ref) (by cases as with | nil => exact absurd rfl h0 | cons a r => exact fun e => by cases e) (by rw [List.length_map]; exact h4)
  refine callType_new F.called_zip (by decide) c1 c2 c3 F.entry_zip_new (meets_zip_newN h0 h4) ⟨ht, fun h' q1 q2 q3 q4 q5 q6 => ?_⟩
  exact ⟨⟨_, q1, rfl⟩, h h' q1 q2 q3 q4 q5 q6⟩
/-! ### the turn -/
def RowsAt (K : PySem.W.Frag) (H : Hp) : List Addr → List (List V) → Prop
  | a :: as, r :: rs => SqT K H a r ∧ RowsAt K H as rs
  | [], [] => True
  | _, _ => False
theorem RowsAt.len {K : PySem.W.Frag} {H : Hp} : ∀ {as rs}, RowsAt K H as rs → as.length = rs.length
  | [], [], _ => rfl
  | _ :: _, _ :: _, ⟨_, h⟩ => congrArg (· + 1) h.len
  | [], _ :: _, h => h.elim
  | _ :: _, [], h => h.elim
def xsOf (h : Heap) (a : Addr) : Array Value := match h.get? a with
  | some ⟨_, _, .seq its _, _⟩ => its
  | _ => #[]
theorem xsOf_eq {h : Heap} {a : Addr} {its : Array Value} (x : h.IsTuple a its) : xsOf h a = its := by
  obtain ⟨⟨c, dc, dt, sl⟩, ho, _, n, hd⟩ := x
  simp only at hd
  subst hd
  unfold xsOf
  rw [ho]
def mkL (h : Heap) : List Addr → List Addr → List ZIt
  | t :: its, a :: as => ⟨t, a, xsOf h a⟩ :: mkL h its as
  | _, _ => []
theorem mkL_it (h : Heap) : ∀ {its as : List Addr}, its.length = as.length → (mkL h its as).map (·.it) = its
  | [], [], _ => rfl
  | t :: its, a :: as, e => congrArg (t :: ·) (mkL_it h (Nat.succ.inj e))
  | [], _ :: _, e => by cases e
  | _ :: _, [], e => by cases e
theorem mkL_tup (h : Heap) : ∀ {its as : List Addr}, its.length = as.length → (mkL h its as).map (·.tup) = as
  | [], [], _ => rfl
  | t :: its, a :: as, e => congrArg (a :: ·) (mkL_tup h (Nat.succ.inj e))
  | [], _ :: _, e => by cases e
  | _ :: _, [], e => by cases e
theorem AtIts.mk {h g : Heap} {i : Nat} : ∀ {its as : List Addr}, AtIts h i its as → ∀ p ∈ mkL g its as, h.IsTupleIter p.it p.tup i
  | [], [], _, _, hp => nomatch hp
  | t :: its, a :: as, ⟨h1, h2⟩, p, hp => by
    rcases List.mem_cons.mp hp with rfl | hp
    · exact h1
    · exact h2.mk p hp
  | [], _ :: _, h, _, _ => h.elim
  | _ :: _, [], h, _, _ => h.elim
theorem AtIts.of {h g : Heap} {i : Nat} : ∀ {its as : List Addr}, its.length = as.length → (∀ p ∈ mkL g its as, h.IsTupleIter p.it p.tup i) → AtIts h i its as
  | [], [], _, _ => trivial
  | t :: its, a :: as, e, q => ⟨q _ (List.mem_cons_self ..), AtIts.of (Nat.succ.inj e) fun p hp => q p (List.mem_cons_of_mem _ hp)⟩
  | [], _ :: _, e, _ => by cases e
  | _ :: _, [], e, _ => by cases e
theorem rows_facts {X : Cx} {pins : List (Addr × Obj)} {σ : L2.St} {H : Hp} {s : Shared} (I : L2.Inv X pins σ H s) : ∀ {its as : List Addr} {rows : List (List V)}, its.length = as.length → RowsAt X.K H as rows →
    (∀ p ∈ mkL s.heap its as, s.heap.IsTuple p.tup p.xs) ∧ (∀ i, (∀ r ∈ rows, i < r.length) → (∀ p ∈ mkL s.heap its as, i < p.xs.size) ∧ Vals (rows.map fun r => (r[i]?).getD .non) ((mkL s.heap its as).map (ZOut i))) ∧ (∀ i, (∀ r ∈ rows, r.length = i) → ∀ p ∈ mkL s.heap its as, i = p.xs.size)
  | [], [], [], _, _ => ⟨fun _ h => absurd h (List.not_mem_nil), fun i _ => ⟨fun _ h => absurd h (List.not_mem_nil), .nil⟩, fun i _ _ h => absurd h (List.not_mem_nil)⟩
  | t :: its, a :: as, r :: rs, e, ⟨q1, q2⟩ => by
    obtain ⟨h1, h2, h3⟩ := rows_facts I (Nat.succ.inj e) q2
    obtain ⟨ys, rv, p1, _⟩ := I.tuple q1
    have p1' : s.heap.IsTuple a ys.toArray := p1
    have ex := xsOf_eq p1'
    have hl := rv.length
    refine ⟨fun p hp => ?_, fun i hi => ⟨fun p hp => ?_, ?_⟩, fun i hi p hp => ?_⟩
    · rcases List.mem_cons.mp hp with rfl | hp
      · show s.heap.IsTuple a (xsOf s.heap a)
        rw [ex]; exact p1'
      · exact h1 p hp
    · rcases List.mem_cons.mp hp with rfl | hp
      · show i < (xsOf s.heap a).size
        rw [ex, List.size_toArray, ← hl]; exact hi r (List.mem_cons_self ..)
      · exact (h2 i fun x hx => hi x (List.mem_cons_of_mem _ hx)).1 p hp
    · refine .cons ?_ (h2 i fun x hx => hi x (List.mem_cons_of_mem _ hx)).2
      have hi' := hi r (List.mem_cons_self ..)
      have er : r[i]? = some r[i] := List.getElem?_eq_getElem hi'
      obtain ⟨u, hu, ru⟩ := rv.get er
      show RelV ((r[i]?).getD .non) (((xsOf s.heap a)[i]?).getD .none)
      rw [ex, er, List.getElem?_toArray, hu]
      exact ru
    · rcases List.mem_cons.mp hp with rfl | hp
      · show i = (xsOf s.heap a).size
        rw [ex, List.size_toArray, ← hl]; exact (hi r (List.mem_cons_self ..)).symm
      · exact h3 i (fun x hx => hi x (List.mem_cons_of_mem _ hx)) p hp
  | [], [], _ :: _, _, h => h.elim
  | [], _ :: _, _, e, _ => by cases e
  | _ :: _, [], _, e, _ => by cases e
  | _ :: _, _ :: _, [], _, h => h.elim
theorem rows_inj {X : Cx} {pins : List (Addr × Obj)} {σ : L2.St} {H : Hp} {s : Shared} (I : L2.Inv X pins σ H s) : ∀ {as : List Addr} {rs rs' : List (List V)}, RowsAt X.K H as rs → RowsAt X.K H as rs' → rs = rs'
  | [], [], [], _, _ => rfl
  | a :: as, r :: rs, r' :: rs', ⟨q1, q2⟩, ⟨p1, p2⟩ => by rw [I.tuple_inj q1 p1, rows_inj I q2 p2]
  | [], _ :: _, _, h, _ => h.elim
  | [], [], _ :: _, _, h => h.elim
  | _ :: _, [], _, h, _ => h.elim
  | _ :: _, _ :: _, [], _, h => h.elim
def ItzN (K : PySem.W.Frag) (as : List Addr) : It where
  go := fun i H => ∃ rows, RowsAt K H as rows ∧ ∀ r ∈ rows, i < r.length
  yld := fun i H v H' => ∃ T col, v = V.ref T ∧ H T = none ∧ H' = upd H T (HO.tup col) ∧ ∀ rows, RowsAt K H as rows → col = rows.map fun r => (r[i]?).getD .non
  stop := fun i H => ∃ rows, RowsAt K H as rows ∧ ∀ r ∈ rows, r.length = i
theorem turn_zn {P : Program} {w : World} {K : PySem.W.Frag} {x : Str} {tpos : Pos} {z TI TO : Addr} {its as : List Addr} (S : ∀ h, ZSep z TI TO (mkL h its as)) (hl : its.length = as.length) (h0 : as ≠ []) (h4 : as.length ≤ 4) :
    Turn P w K (.Name x tpos) (ItzN K as) (z :: TI :: TO :: its) z (fun i h => (∃ f0 f1, IsZipF h z TI TO f0 f1 ∧ (f0 = .none ∨ ∃ T : Nat, f0 = rawInt T)) ∧ IsSeqT h TI ((its.map Value.ref).toArray) ∧ (∃ arr, IsSeqT h TO arr ∧ arr.size = as.length) ∧ AtIts h i its as) where
  mem := by simp
  obj := fun i h st c hc => by
    obtain ⟨⟨f0, f1, hz, _⟩, hTI, ⟨arr, hTO, _⟩, hi⟩ := st
    rcases List.mem_cons.mp hc with q | hc
    · rw [q]; exact ⟨_, hz, fun v q => nomatch q⟩
    · rcases List.mem_cons.mp hc with q | hc
      · rw [q]; exact ⟨_, hTI, fun v q => nomatch q⟩
      · rcases List.mem_cons.mp hc with q | hc
        · rw [q]; exact ⟨_, hTO, fun v q => nomatch q⟩
        · rw [← mkL_it h hl] at hc
          obtain ⟨p, hp, rfl⟩ := List.mem_map.mp hc
          obtain ⟨o, e, _, d⟩ := hi.mk p hp
          exact ⟨o, e, fun v q => by rw [d] at q; cases q⟩
  keep := fun i h h' st k => by
    obtain ⟨⟨f0, f1, hz, hf⟩, hTI, ⟨arr, hTO, ha⟩, hi⟩ := st
    exact ⟨⟨f0, f1, k z (by simp) _ hz, hf⟩, k TI (by simp) _ hTI, ⟨arr, k TO (by simp) _ hTO, ha⟩, hi.keep fun t ht o e => k t (by simp [ht]) o e⟩
  item := by
    intro X hP hw hK hc i pins s σ H E I hf st hg
    subst hP hw
    obtain ⟨⟨f0, f1, hz, hf0⟩, hTI, ⟨arr, hTO, ha⟩, hi⟩ := st
    obtain ⟨rows, hr, hlt⟩ := hg
    have hr' : RowsAt X.K H as rows := by rw [hK]; exact hr
    obtain ⟨t1, t2, _⟩ := rows_facts I hl hr'
    obtain ⟨t3, t4⟩ := t2 i hlt
    have eit := mkL_it s.heap hl
    have eL : (mkL s.heap its as).length = as.length := by rw [← List.length_map (f := (·.it)), eit, hl]
    have hne : mkL s.heap its as ≠ [] := fun e => by rw [e] at eL; exact h0 (List.length_eq_zero_iff.mp eL.symm)
    have eref : (mkL s.heap its as).map (fun p => Value.ref p.it) = its.map Value.ref := by
      have := congrArg (List.map Value.ref) eit
      rw [List.map_map] at this
      exact this
    refine pyNext_zn_item (S s.heap) hne (by rw [eL]; exact h4) hz hf0 (by rw [eref]; exact hTI) hTO (by rw [eL]; exact ha) hi.mk t1 t3 fun h' g0 g1 arr' b1 b2 b3 b4 b5 b6 b7 b8 => ?_
    refine ⟨_, rfl, ?_⟩
    have hTn : H s.heap.objs.size = none := I.hok.fresh (Nat.le_refl _)
    refine wpAny_pure ⟨.ref s.heap.objs.size, upd H s.heap.objs.size (.tup (rows.map fun r => (r[i]?).getD .non)), I.turnedNew (t' := s.toks) (ch := z :: TI :: TO :: its) (fun c o hb q => b8 c o (fun e => hb (by simp [e])) (fun e => hb (by simp [e])) (fun p hp e => hb (by
      have : p.it ∈ its := by rw [← eit]; exact List.mem_map_of_mem hp
      simp [e, this])) q) hf (Nat.le_refl _) ?_, rfl, ⟨_, _, rfl, hTn, rfl, fun rows' hr'' => by rw [rows_inj I hr' (by rw [hK]; exact hr'')]⟩, ⟨⟨g0, g1, b1, b2⟩, ?_, ⟨arr', b3, by rw [b4, eL]⟩, AtIts.of hl b5⟩, fun c hcm => ?_⟩
    · refine ⟨?_, _, t4, ⟨_, b6, rfl, _, rfl⟩⟩
      rw [List.length_map, ← hr.len]
      exact Nat.le_trans h4 (by decide)
    · exact b8 _ _ (S s.heap).TIz (S s.heap).TITO (fun p hp => ((S s.heap).iTI p hp).symm) hTI
    · have hlt : c < s.heap.objs.size := by
        rcases List.mem_cons.mp hcm with q | hcm
        · rw [q]; exact Heap.lt_size hz
        · rcases List.mem_cons.mp hcm with q | hcm
          · rw [q]; exact Heap.lt_size hTI
          · rcases List.mem_cons.mp hcm with q | hcm
            · rw [q]; exact Heap.lt_size hTO
            · rw [← eit] at hcm
              obtain ⟨p, hp, rfl⟩ := List.mem_map.mp hcm
              obtain ⟨_, e, _⟩ := hi.mk p hp
              exact Heap.lt_size e
      rw [upd_ne (Nat.ne_of_lt hlt)]
      exact (hf c hcm).1
  done := by
    intro X hP hw hK hc i pins s σ H E I hf st hg
    subst hP hw
    obtain ⟨⟨f0, f1, hz, hf0⟩, hTI, ⟨arr, hTO, ha⟩, hi⟩ := st
    obtain ⟨rows, hr, hlt⟩ := hg
    have hr' : RowsAt X.K H as rows := by rw [hK]; exact hr
    obtain ⟨t1, _, t2⟩ := rows_facts I hl hr'
    have eit := mkL_it s.heap hl
    have eL : (mkL s.heap its as).length = as.length := by rw [← List.length_map (f := (·.it)), eit, hl]
    have hne : mkL s.heap its as ≠ [] := fun e => by rw [e] at eL; exact h0 (List.length_eq_zero_iff.mp eL.symm)
    have eref : (mkL s.heap its as).map (fun p => Value.ref p.it) = its.map Value.ref := by
      have := congrArg (List.map Value.ref) eit
      rw [List.map_map] at this
      exact this
    refine pyNext_zn_end (I.ok.hd hc) (S s.heap) hne hz hf0 (by rw [eref]; exact hTI) hTO hi.mk t1 (t2 i hlt) fun h' hk => ⟨rfl, ?_⟩
    exact I.turnedL (t' := s.toks) (ch := z :: TI :: TO :: its) (fun c o hb q => hk c o (fun e => hb (by simp [e])) (fun e => hb (by simp [e])) (fun p hp e => hb (by
      have : p.it ∈ its := by rw [← eit]; exact List.mem_map_of_mem hp
      simp [e, this])) q) hf
  self := fun A i s Q E st h => by
    obtain ⟨⟨f0, f1, hz, _⟩, _⟩ := st
    exact pyIter_zn hz h
/-! ### it begins -/
theorem itsFrom_mem : ∀ {n : Nat} {as : List Addr} {t : Nat}, t ∈ itsFrom n as → @LE.le Nat _ n t ∧ @LT.lt Nat _ t (n + as.length)
  | n, _ :: as, t, h => by
    rcases List.mem_cons.mp h with h | h
    · have h' : @Eq Nat t n := h
      constructor
      · omega
      · simp only [List.length_cons]; omega
    · obtain ⟨h1, h2⟩ := itsFrom_mem h
      simp only [List.length_cons]
      constructor <;> omega
theorem itsFrom_nd : ∀ (n : Nat) (as : List Addr), (itsFrom n as).Nodup
  | _, [] => List.nodup_nil
  | n, _ :: as => List.nodup_cons.mpr ⟨fun h => by have h' : @LE.le Nat _ (n + 1) n := (itsFrom_mem h).1; omega, itsFrom_nd (n + 1) as⟩
theorem sep_of {N : Nat} {as : List Addr} (ha : ∀ a ∈ as, @LT.lt Nat _ a N) (h : Heap) : ZSep (N + as.length + 2) (N + as.length) (N + as.length + 1) (mkL h (itsFrom N as) as) := by
  have hl := itsFrom_len N as
  have i1 : ∀ p ∈ mkL h (itsFrom N as) as, @LE.le Nat _ N p.it ∧ @LT.lt Nat _ p.it (N + as.length) := fun p hp => itsFrom_mem (by
    have : p.it ∈ (mkL h (itsFrom N as) as).map (·.it) := List.mem_map_of_mem hp
    rw [mkL_it h hl] at this; exact this)
  have t1 : ∀ p ∈ mkL h (itsFrom N as) as, @LT.lt Nat _ p.tup N := fun p hp => ha _ (by
    have : p.tup ∈ (mkL h (itsFrom N as) as).map (·.tup) := List.mem_map_of_mem hp
    rw [mkL_tup h hl] at this; exact this)
  refine ⟨?_, ?_, ?_, by rw [mkL_it h hl]; exact itsFrom_nd N as, fun p hp => ?_, fun p hp => ?_, fun p hp => ?_, fun p hp => ?_, fun p hp => ?_, fun p hp q hq => ?_⟩
  · show ¬ @Eq Nat (N + as.length) (N + as.length + 2)
    omega
  · show ¬ @Eq Nat (N + as.length + 1) (N + as.length + 2)
    omega
  · show ¬ @Eq Nat (N + as.length) (N + as.length + 1)
    omega
  · have := i1 p hp
    show ¬ @Eq Nat p.it (N + as.length + 2)
    omega
  · have := i1 p hp
    show ¬ @Eq Nat p.it (N + as.length)
    omega
  · have := i1 p hp
    show ¬ @Eq Nat p.it (N + as.length + 1)
    omega
  · have := t1 p hp
    show ¬ @Eq Nat p.tup (N + as.length + 2)
    omega
  · have := t1 p hp
    show ¬ @Eq Nat p.tup (N + as.length + 1)
    omega
  · have := t1 p hp
    have := i1 q hq
    show ¬ @Eq Nat p.tup q.it
    omega
theorem vals_refs : ∀ {as : List Addr} {us : List Value}, Vals (as.map V.ref) us → us = as.map Value.ref
  | [], _, .nil => rfl
  | a :: as, _, .cons r rr => by
    cases r
    rw [vals_refs rr]; rfl
def iZipS (K : PySem.W.Frag) (te : TE) : TI := fun σ H R => te σ H fun v H1 => ∃ a as rows, v = V.ref a ∧ SqT K H1 a (as.map V.ref) ∧ as ≠ [] ∧ as.length ≤ 4 ∧ RowsAt K H1 as rows ∧ R (ItzN K as) H1
theorem rows_tups {X : Cx} {pins : List (Addr × Obj)} {σ : L2.St} {H : Hp} {s : Shared} (I : L2.Inv X pins σ H s) : ∀ {as : List Addr} {rs : List (List V)}, RowsAt X.K H as rs → ∀ a ∈ as, ∃ its, s.heap.IsTuple a its
  | a :: as, r :: rs, ⟨q1, q2⟩, b, hb => by
    rcases List.mem_cons.mp hb with rfl | hb
    · obtain ⟨its, _, p, _⟩ := I.tuple q1
      exact ⟨_, p⟩
    · exact rows_tups I q2 b hb
  | [], [], _, _, hb => absurd hb (List.not_mem_nil)
  | [], _ :: _, h, _, _ => h.elim
  | _ :: _, [], h, _, _ => h.elim
theorem pi_zipS {X : Cx} {e : Expr} {te : TE} {x : Str} {p pos sp tpos : Pos} (hg : Gl X "zip") (hm : X.mg "zip" = none) (he : PE X e te) (hst : starEach [.Starred e sp] X.env = [(true, eval e X.env)] := by rfl) :
    PI X (.Name x tpos) (.Call (.Name "zip" p) [.Starred e sp] [] pos) (iZipS X.K te) := by
  refine ⟨fun pins s σ H R I h => ?_⟩
  refine Call_ (ld_blt I hg hm PyProof.Rows.boot_zip ?_)
  rw [hst]
  refine PySem.W.ks_call (P := fun _ => True) rfl (fun _ _ => ⟨.machine, .inr (.inl rfl), PySem.W.Looks.of_pure rfl⟩) (PySem.W.ks_lone ?_)
  refine thn (he.run pins s σ H _ I h) fun v s1 ⟨y, H1, I1, ry, a, as, rows, ey, hx, h0, h4, hr, q⟩ => ?_
  subst ey
  obtain rfl : v = Value.ref a := ry
  refine StX.star_any I1 (.inl hx) fun us s2 I2 rv => ⟨trivial, ?_⟩
  rw [vals_refs rv, List.nil_append]
  have hts := rows_tups I2 hr
  refine call_zipN h0 h4 hts fun h' hz hTI hTO hk hi hsz => pyIter_zn hz ?_
  have I3 : L2.Inv X pins σ H1 { s2 with heap := h' } := I2.kept (t' := s2.toks) hk
  have hlt : ∀ a ∈ as, a < s2.heap.objs.size := fun a ha => let ⟨_, o, ho, _⟩ := hts a ha; Heap.lt_size ho
  refine ⟨s2.heap.objs.size + as.length + 2, (s2.heap.objs.size + as.length + 2) :: (s2.heap.objs.size + as.length) :: (s2.heap.objs.size + as.length + 1) :: itsFrom s2.heap.objs.size as, _, _, H1, rfl, I3,
    turn_zn (fun h => sep_of hlt h) (itsFrom_len _ _) h0 h4, ⟨⟨_, _, hz, .inl rfl⟩, hTI, hTO, hi⟩, fun c hc => ?_, q⟩
  have hle : @LE.le Nat _ s2.heap.objs.size c := by
    rcases List.mem_cons.mp hc with z | hc
    · have z' : @Eq Nat c (s2.heap.objs.size + as.length + 2) := z
      omega
    · rcases List.mem_cons.mp hc with z | hc
      · have z' : @Eq Nat c (s2.heap.objs.size + as.length) := z
        omega
      · rcases List.mem_cons.mp hc with z | hc
        · have z' : @Eq Nat c (s2.heap.objs.size + as.length + 1) := z
          omega
        · exact (itsFrom_mem hc).1
  exact I2.fpOk hle (I2.hok.fresh hle)
/-! ### by data -/
theorem RowsAt.ex {K : PySem.W.Frag} {H H' : Hp} (e : Ex H H') : ∀ {as rs}, RowsAt K H as rs → RowsAt K H' as rs
  | [], [], _ => trivial
  | _ :: _, _ :: _, ⟨h1, h2⟩ => ⟨Ex.sqt e h1, h2.ex e⟩
  | [], _ :: _, h => h.elim
  | _ :: _, [], h => h.elim
def RowsRd (K : Kx) (M : Hp) : List (List V) → List (List PyData) → Prop
  | r :: rs, d :: ds => RdA K M r d ∧ RowsRd K M rs ds
  | [], [] => True
  | _, _ => False
theorem rows_of {K : Kx} {M : Hp} : ∀ {vs : List V} {rows : List (List PyData)}, RdA K M vs (rows.map PyData.tuple) → ∃ as rws, vs = as.map V.ref ∧ RowsAt K M as rws ∧ RowsRd K M rws rows
  | _, [], .nil => ⟨[], [], rfl, trivial, trivial⟩
  | _, r :: rows, .cons h hh => by
    obtain ⟨a, xs, rfl, h1, h2⟩ := Rd.inv_tuple h
    obtain ⟨as, rws, rfl, q1, q2⟩ := rows_of hh
    exact ⟨a :: as, xs :: rws, rfl, ⟨h1, q1⟩, h2, q2⟩
theorem RowsRd.len {K : Kx} {M : Hp} {m : Nat} : ∀ {rws : List (List V)} {rows : List (List PyData)}, RowsRd K M rws rows → (∀ r ∈ rows, r.length = m) → ∀ r ∈ rws, r.length = m
  | r :: rws, d :: rows, ⟨h1, h2⟩, hm, x, hx => by
    rcases List.mem_cons.mp hx with rfl | hx
    · rw [h1.length]; exact hm d (List.mem_cons_self ..)
    · exact RowsRd.len h2 (fun r hr => hm r (List.mem_cons_of_mem _ hr)) x hx
  | [], [], _, _, _, hx => absurd hx (List.not_mem_nil)
  | [], _ :: _, h, _, _, _ => h.elim
  | _ :: _, [], h, _, _, _ => h.elim
theorem RowsRd.col {K : Kx} {M : Hp} {m i : Nat} (hi : i < m) : ∀ {rws : List (List V)} {rows : List (List PyData)}, RowsRd K M rws rows → (∀ r ∈ rows, r.length = m) → RdA K M (rws.map fun r => (r[i]?).getD .non) (rows.map fun r => (r[i]?).getD .none)
  | [], [], _, _ => .nil
  | r :: rws, d :: rows, ⟨h1, h2⟩, hm => by
    refine .cons ?_ (RowsRd.col hi h2 fun r hr => hm r (List.mem_cons_of_mem _ hr))
    have hl : i < d.length := by rw [hm d (List.mem_cons_self ..)]; exact hi
    have e : d[i]? = some (d[i]'hl) := List.getElem?_eq_getElem hl
    obtain ⟨v, q1, q2⟩ := h1.get e
    show Rd K.fg M ((r[i]?).getD .non) ((d[i]?).getD .none)
    rw [e, q1]
    exact q2
  | [], _ :: _, h, _ => h.elim
  | _ :: _, [], h, _ => h.elim
/-- the columns of rows of one length -/
def colsD (m : Nat) (rows : List (List PyData)) : List Vl := (List.range m).map fun i => .d (.tuple (rows.map fun r => (r[i]?).getD .none))
theorem WOk.cols {K : Kx} {M0 : Hp} {as : List Addr} {rws : List (List V)} {rows : List (List PyData)} {m : Nat} (hr : RowsAt K M0 as rws) (hd : RowsRd K M0 rws rows) (hm : ∀ r ∈ rows, r.length = m) : WOk K M0 (ItzN K as) (colsD m rows) := by
  have hlen : (colsD m rows).length = m := by simp [colsD]
  have hm' := hd.len hm
  refine ⟨fun H => RowsAt K H as rws, fun i H v H' => ∃ T, v = V.ref T ∧ H T = none ∧ H' = upd H T (.tup (rws.map fun r => (r[i]?).getD .non)), ?_, fun H e => hr.ex e, fun i H x H' hi e y => ?_⟩
  · rw [hlen]
    refine ⟨fun i H hi q => ⟨rws, q, fun r h => by rw [hm' r h]; exact hi⟩, fun H q => ⟨rws, q, hm'⟩, fun i H v H' _ q y => ?_⟩
    obtain ⟨T, col, h1, h2, h3, h4⟩ := y
    exact ⟨T, h1, h2, by rw [h3, h4 rws q]⟩
  · rw [hlen] at hi
    obtain ⟨T, rfl, hn, rfl⟩ := y
    have n0 : M0 T = none := by
      cases q : M0 T with
      | none => rfl
      | some o => rw [e T o q] at hn; cases hn
    have ex : Ex M0 (upd M0 T (.tup (rws.map fun r => (r[i]?).getD .non))) := fun a o e => by rw [upd_ne (ne_of_none e n0)]; exact e
    refine ⟨.d (.tuple (rows.map fun r => (r[i]?).getD .none)), by simp [colsD, hi], .inr ⟨T, _, hn, rfl, ?_⟩⟩
    exact Rd.tup (.inl (.inl upd_same)) ((hd.col hi hm).mono ex)
def asStar (R : List Vl → Prop) : Vl → Prop := fun v => ∃ rows m, v = .d (.tuple (rows.map PyData.tuple)) ∧ rows ≠ [] ∧ rows.length ≤ 4 ∧ (∀ r ∈ rows, r.length = m) ∧ R (colsD m rows)
theorem RowsRd.nlen {K : Kx} {M : Hp} : ∀ {rws : List (List V)} {rows : List (List PyData)}, RowsRd K M rws rows → rws.length = rows.length
  | [], [], _ => rfl
  | _ :: _, _ :: _, ⟨_, h⟩ => congrArg (· + 1) h.nlen
  | [], _ :: _, h => h.elim
  | _ :: _, [], h => h.elim
/-- for x in zip(*e) -/
theorem i_zipS {F : Fm} {e : Expr} {x : Str} {p pos sp tpos : Pos} {n : Nat} {f : FE} (hm : F.mg "zip" = none) (he : Ee F e n f) (hg : ∀ i, Gl (F.X i) "zip" := by intro _; rfl)
    (hst : ∀ i, starEach [.Starred e sp] (F.X i).env = [(true, eval e (F.X i).env)] := by intro _; rfl) :
    Ei F (.Name x tpos) (.Call (.Name "zip" p) [.Starred e sp] [] pos) n (fun ρ R => f ρ (asStar R)) := by
  obtain ⟨t, pt, st⟩ := he
  refine ⟨iZipS F.K t, fun i => by have := pi_zipS (x := x) (tpos := tpos) (p := p) (pos := pos) (sp := sp) (hg i) (by rw [F.eM]; exact hm) (pt i) (hst i); rw [F.eK i] at this; exact this, fun C σ ρ H R Q hm' G hf k => st C σ ρ H _ _ hm' G hf fun v H1 y m l u t1 ox h1 => ?_⟩
  obtain ⟨rows, mm, rfl, h0, h4, hlen, hR⟩ := h1
  obtain ⟨a, vs, rfl, ha, ra⟩ := Rd.inv_tuple ox
  obtain ⟨as, rws, rfl, hr, hd⟩ := rows_of ra
  have e1 : as.length = rows.length := by rw [hr.len, hd.nlen]
  refine ⟨a, as, rws, rfl, Ex.sqt mask_le ha, fun z => h0 (by subst z; exact List.length_eq_zero_iff.mp e1.symm), by rw [e1]; exact h4, hr.ex mask_le, k _ H1 _ m l u t1 (WOk.cols hr hd hlen) hR⟩
/-- the scope of a comprehension's block -/
theorem blk_scope {F : Fm} {sc : Scope} (i : (F.blk sc).I) : ((F.blk sc).X i).env.scope = relabel sc (F.X i.1).env := rfl
theorem relab {x : Str} {f : Str × NameKind → Str × NameKind} (hf : ∀ p, f p = p ∨ f p = (p.1, .cell)) : ∀ {names : List (Str × NameKind)}, names.lookup x = some .cell ∨ names.lookup x = some .free →
    (names.map f).lookup x = some .cell ∨ (names.map f).lookup x = some .free
  | [], h => by rcases h with h | h <;> cases h
  | (n, k) :: r, h => by
    have ih := @relab x f hf r
    rw [List.map_cons]
    rcases hf (n, k) with e1 | e1
    · rw [e1]
      simp only [List.lookup_cons] at h ⊢
      cases e : x == n with
      | true => simpa only [e] using h
      | false => rw [e] at h; exact ih h
    · rw [e1]
      simp only [List.lookup_cons] at h ⊢
      cases e : x == n with
      | true => exact .inl rfl
      | false => rw [e] at h; exact ih h
theorem blkOk_in {N : List Str} {sc scope : Scope} {own : List (Str × Nat)} {env : PySem.Env} (h : L2.blkC N sc scope own = true) : L2.BlkOk N (relabel sc env) scope own := by
  obtain ⟨h1, h2, h3, h4, h5⟩ := L2.blkOk_by h
  refine ⟨h1, h2, h3, fun y hy e => relab (fun p => ?_) (h4 y hy e), h5⟩
  obtain ⟨n, k⟩ := p
  by_cases c : (k == NameKind.free && env.scope.kind == .function && env.kindOf n == some .cell) = true
  · exact .inr (if_pos c)
  · exact .inl (if_neg c)
end Px

set_option Elab.async false
set_option linter.all false
set_option maxRecDepth 100000
set_option maxHeartbeats 4000000
set_option exponentiation.threshold 10000
namespace K52
local macro_rules | `(tactic| walk_at "px") => `(tactic| simp only [Px.rd, Px.ownAt, Px.frz, Px.fAdd, Px.fSub, Px.fMul, Px.fFdiv, Px.fMod, Px.fPow, Px.fRel, Px.fEq_int, Px.fEq_str, Px.fEq_bool, Px.fEq_fq, Px.fIs, Px.fIsTy, Px.fIx_l, Px.fIx_t, Px.ix0, Px.ix1, Px.at_0, Px.at_1, Px.at_2, Px.at_3, Px.at_4, Px.ex_some, Px.fSl, Px.gLen, Px.gAbs, Px.gInt, Px.gTuple, Px.gList, Px.gGcd, Px.gSum, Px.gMax, Px.gMin, Px.gAll, Px.gAny, Px.gRepr, Px.gTy, Px.tyOf, Px.asB, Px.asTru, Px.truD, Px.asNeg, Px.asI, Px.asL, Px.asT, Px.asS, Px.asR1, Px.asR2, Px.asZ, Px.asZM, Px.asRg, Px.asRgI, Px.blkE, Px.wipeE, Px.unown, Px.asS, Px.asE, Px.asTwo, Px.asApp, Px.allD, Px.gNm, Px.isNon, Px.isSt, Px.pick,
  List.map_cons, List.map_nil, List.length_cons, List.length_nil, List.length_set, List.replicate_succ, List.replicate_zero, List.cons_append, List.nil_append, List.append_nil, List.getElem?_cons_zero, List.getD_cons_zero, List.getD_cons_succ, List.getElem?_cons_succ, List.set_cons_zero, List.set_cons_succ, Nat.reduceAdd, Nat.reduceSub, Nat.reduceLT, Nat.reduceLeDiff, Nat.zero_add, Nat.mul_zero, Nat.add_zero, eq_self, Nat.sub_self, true_and, and_true, true_or, if_true, Bool.false_eq_true, if_false, ne_eq, not_false_eq_true, Nat.zero_lt_succ, Nat.lt_add_one, Nat.succ_lt_succ_iff])
local macro_rules | `(tactic| walk_at "pz") => `(tactic| simp only [Px.at_last, Px.fKind_eq, Px.fPair_eq, Px.fIsFr_eq, Px.fRow_eq, Px.fWithin_eq, Px.fmOf_mg, Px.isFr_fq, Px.isTy, decide_true, Bool.not_true, Bool.not_false, Bool.and_true, Bool.true_and, Bool.false_and, Bool.and_false, Bool.or_false, Bool.or_true, Px.px0, Px.px1, Px.fNeedPt_eq, Px.fNeedFr_eq, Px.isSt, List.length_append, List.getElem?_map, and_self, Px.map_d, Px.pairs_map, Px.enumD_map, Px.rd, Px.ownAt, Px.frz, Px.fAdd, Px.fSub, Px.fMul, Px.fFdiv, Px.fMod, Px.fPow, Px.fRel, Px.fEq_int, Px.fEq_str, Px.fEq_bool, Px.fEq_fq, Px.fIs, Px.fIsTy, Px.fIx_l, Px.fIx_t, Px.ix0, Px.ix1, Px.at_0, Px.at_1, Px.at_2, Px.at_3, Px.at_4, Px.ex_some, Px.fSl, Px.gLen_l, Px.gLen_t, Px.gLen_tab, Px.gLen_row, Px.gLen_sh, Px.asS_tab, Px.asS_row, Px.asS_sh, Px.asE_tab, Px.asE_row, Px.asE_sh, Px.asZ_tab, Px.asZ_row, Px.ix_tab0, Px.ix_c0, Px.ix_c1, Px.gAbs, Px.gInt, Px.gTuple_l, Px.gTuple_t, Px.gList_l, Px.gList_t, Px.gGcd, Px.gSum, Px.gMax, Px.gMin, Px.gAll, Px.gAny, Px.gRepr, Px.gTy, Px.tyOf, Px.asB, Px.asTru, Px.truD, Px.asNeg, Px.asI, Px.asL, Px.asT, Px.asS_l, Px.asS_t, Px.asR1, Px.asR2, Px.asZ, Px.asZ_ll, Px.asZ_tt, Px.asZ_lt, Px.asRg, Px.asRgI, Px.blkE, Px.wipeE, Px.unown, Px.asE_l, Px.asE_t, Px.asTwo, Px.asApp, Px.allD, Px.gNm, Px.isNon, Px.isSt, Px.pick,
  List.map_cons, List.map_nil, List.length_cons, List.length_nil, List.length_set, List.replicate_succ, List.replicate_zero, List.cons_append, List.nil_append, List.append_nil, List.getElem?_cons_zero, List.getD_cons_zero, List.getD_cons_succ, List.getElem?_cons_succ, List.set_cons_zero, List.set_cons_succ, Nat.reduceAdd, Nat.reduceSub, Nat.reduceLT, Nat.reduceLeDiff, Nat.zero_add, Nat.mul_zero, Nat.add_zero, eq_self, Nat.sub_self, true_and, and_true, true_or, if_true, Bool.false_eq_true, if_false, ne_eq, not_false_eq_true, Nat.zero_lt_succ, Nat.lt_add_one, Nat.succ_lt_succ_iff])
local macro_rules | `(tactic| walk_at "pu") => `(tactic| simp only [Px.rd, Px.ownAt, Px.frz, Px.asR1, Px.asR2, Px.asRg, Px.asRgI, Px.blkE, Px.wipeE, Px.unown, Px.asApp, Px.gNm, Px.isNon, Px.isSt,
  List.map_cons, List.map_nil, List.length_cons, List.length_nil, List.length_set, List.replicate_succ, List.replicate_zero, List.cons_append, List.nil_append, List.append_nil, List.getElem?_cons_zero, List.getD_cons_zero, List.getD_cons_succ, List.getElem?_cons_succ, List.set_cons_zero, List.set_cons_succ, Nat.reduceAdd, Nat.reduceSub, Nat.reduceLT, Nat.reduceLeDiff, Nat.zero_add, Nat.mul_zero, Nat.add_zero, eq_self, Nat.sub_self, true_and, and_true, true_or, if_true, Bool.false_eq_true, if_false, ne_eq, not_false_eq_true, Nat.zero_lt_succ, Nat.lt_add_one, Nat.succ_lt_succ_iff])
local macro_rules | `(tactic| walk_at "pl") => `(tactic| simp only [Px.asS_lnD, Px.gLen_lnD, Px.asE_lnD, Px.ix_l0, Px.ix_l1, Px.ix_l2])
open PySem PySem.Spec PyProof.Rows L2 Px
def topS (i : Nat) : Stmt := PySem.Challenge.pw_withinshapes_k52_whole_margins_and_told.main.body.getD i (.Pass ⟨0, 0, 0, 0⟩)
abbrev Lo := Px.LoD
section
variable {P : Program} {w : World} {K : Kx} {fg : Fg} {d c l : Addr} {nC : Nat} {tT : List (Addr × Str)} {mg : Str → Option Value} {base : Heap}

abbrev s_is_int : Stmt := topS 9
theorem sc_is_int : FnScope ["value"] ["value"] (defScope s_is_int) := ⟨rfl, rfl, rfl, by decide +kernel, rfl, by decide +kernel, by decide +kernel⟩
theorem bp_is_int : BindP "is_int" s_is_int ["value"] := fun _ _ _ _ _ _ us hl => match us, hl with | [_], _ => rfl
abbrev DD_is_int (P : Program) (w : World) (K : Kx) (mg : Str → Option Value) (base : Heap) : Prop := Df P w K mg base "is_int" s_is_int ["value"] 1 0 (fKind "int")
theorem ok_is_int (Lf : Lo K mg "is_int" s_is_int) (m_type : mg "type" = none) (m_int : mg "int" = none) : DD_is_int P w K mg base := by
  obtain ⟨fa, fd, hm, Fu⟩ := Lf
  refine ⟨fa, fd, fn_make Fu sc_is_int (by decide) fun cd A outer s H E hr hg => ⟨_, _, ?_, (ss_cons (s_ret (e_cmp oIsTy sIsTy (e_callT cTy sTy m_type (by decide +kernel) (a_cons (nm 0) a_nil)) (e_ty "int" m_int (by decide +kernel))))
    ss_nil), fun xs R hl h => ?_⟩, hm, Fu⟩
  · exact Nat.le_of_ble_eq_true rfl
  · obtain ⟨x, rfl, q⟩ := h
    try (walk_at "px")
    exact q
abbrev s_is_tuple : Stmt := topS 11
theorem sc_is_tuple : FnScope ["value"] ["value"] (defScope s_is_tuple) := ⟨rfl, rfl, rfl, by decide +kernel, rfl, by decide +kernel, by decide +kernel⟩
theorem bp_is_tuple : BindP "is_tuple" s_is_tuple ["value"] := fun _ _ _ _ _ _ us hl => match us, hl with | [_], _ => rfl
abbrev DD_is_tuple (P : Program) (w : World) (K : Kx) (mg : Str → Option Value) (base : Heap) : Prop := Df P w K mg base "is_tuple" s_is_tuple ["value"] 1 0 (fKind "tuple")
theorem ok_is_tuple (Lf : Lo K mg "is_tuple" s_is_tuple) (m_type : mg "type" = none) (m_tuple : mg "tuple" = none) : DD_is_tuple P w K mg base := by
  obtain ⟨fa, fd, hm, Fu⟩ := Lf
  refine ⟨fa, fd, fn_make Fu sc_is_tuple (by decide) fun cd A outer s H E hr hg => ⟨_, _, ?_, (ss_cons (s_ret (e_cmp oIsTy sIsTy (e_callT cTy sTy m_type (by decide +kernel) (a_cons (nm 0) a_nil)) (e_ty "tuple" m_tuple (by decide +kernel))))
    ss_nil), fun xs R hl h => ?_⟩, hm, Fu⟩
  · exact Nat.le_of_ble_eq_true rfl
  · obtain ⟨x, rfl, q⟩ := h
    try (walk_at "px")
    exact q
abbrev s_is_row : Stmt := topS 12
theorem sc_is_row : FnScope ["value", "least", "most"] ["value", "least", "most"] (defScope s_is_row) := ⟨rfl, rfl, rfl, by decide +kernel, rfl, by decide +kernel, by decide +kernel⟩
theorem bp_is_row : BindP "is_row" s_is_row ["value", "least", "most"] := fun _ _ _ _ _ _ us hl => match us, hl with | [_, _, _], _ => rfl
abbrev DD_is_row (P : Program) (w : World) (K : Kx) (mg : Str → Option Value) (base : Heap) : Prop := Df P w K mg base "is_row" s_is_row ["value", "least", "most"] 2 0 fRow
theorem ok_is_row (Lf : Lo K mg "is_row" s_is_row) (m_len : mg "len" = none) (D_is_tuple : DD_is_tuple P w K mg base) : DD_is_row P w K mg base := by
  obtain ⟨fa, fd, hm, Fu⟩ := Lf
  refine ⟨fa, fd, fn_make Fu sc_is_row (by decide) fun cd A outer s H E hr hg => ⟨_, _, ?_, (ss_cons (s_ret (e_and (e_def D_is_tuple bp_is_tuple (a_cons (nm 0) a_nil)) (e_one (e_chain oLe sRel oLe sRel (nm 1) (e_callB cLen sLen m_len (by decide +kernel) (a_cons (nm 0) a_nil)) (nm 2)))))
    ss_nil), fun xs R hl h => ?_⟩, hm, Fu⟩
  · exact Nat.le_of_ble_eq_true rfl
  · obtain ⟨x, l, m, rfl, q⟩ := h
    try (walk_at "px")
    refine ⟨x, rfl, ?_⟩
    cases x with
    | tuple xs =>
      simp only [isTy, tyOf, asB, isRow] at q ⊢
      try (walk_at "px")
      by_cases z : l ≤ (xs.length : Int)
      · simpa [z] using q
      · simpa [z] using q
    | _ => simpa [isTy, tyOf, asB, isRow] using q
abbrev s_is_pair : Stmt := topS 13
theorem sc_is_pair : FnScope ["value"] ["value"] (defScope s_is_pair) := ⟨rfl, rfl, rfl, by decide +kernel, rfl, by decide +kernel, by decide +kernel⟩
theorem bp_is_pair : BindP "is_pair" s_is_pair ["value"] := fun _ _ _ _ _ _ us hl => match us, hl with | [_], _ => rfl
abbrev DD_is_pair (P : Program) (w : World) (K : Kx) (mg : Str → Option Value) (base : Heap) : Prop := Df P w K mg base "is_pair" s_is_pair ["value"] 3 0 fPair
theorem ok_is_pair (Lf : Lo K mg "is_pair" s_is_pair) (D_is_row : DD_is_row P w K mg base) : DD_is_pair P w K mg base := by
  obtain ⟨fa, fd, hm, Fu⟩ := Lf
  refine ⟨fa, fd, fn_make Fu sc_is_pair (by decide) fun cd A outer s H E hr hg => ⟨_, _, ?_, (ss_cons (s_ret (e_def D_is_row bp_is_row (a_cons (nm 0) (a_cons e_int (a_cons e_int a_nil)))))
    ss_nil), fun xs R hl h => ?_⟩, hm, Fu⟩
  · exact Nat.le_of_ble_eq_true rfl
  · obtain ⟨x, rfl, q⟩ := h
    try (walk_at "px")
    exact ⟨x, 2, 2, rfl, q⟩
abbrev s_is_fraction : Stmt := topS 18
theorem sc_is_fraction : FnScope ["value", "above", "below"] ["value"] (defScope s_is_fraction) := ⟨rfl, rfl, rfl, by decide +kernel, rfl, by decide +kernel, by decide +kernel⟩
theorem bp_is_fraction : BindP "is_fraction" s_is_fraction ["value"] := fun _ _ _ _ _ _ us hl => match us, hl with | [_], _ => rfl
abbrev DD_is_fraction (P : Program) (w : World) (K : Kx) (mg : Str → Option Value) (base : Heap) : Prop := Df P w K mg base "is_fraction" s_is_fraction ["value"] 4 0 fIsFr
theorem ok_is_fraction (Lf : Lo K mg "is_fraction" s_is_fraction) (m_gcd : mg "gcd" = some (.builtin "math.gcd")) (D_is_pair : DD_is_pair P w K mg base) (D_is_int : DD_is_int P w K mg base) : DD_is_fraction P w K mg base := by
  obtain ⟨fa, fd, hm, Fu⟩ := Lf
  refine ⟨fa, fd, fn_make Fu sc_is_fraction (by decide) fun cd A outer s H E hr hg => ⟨_, _, ?_, (ss_cons (s_if (t_not (t_val (e_def D_is_pair bp_is_pair (a_cons (nm 0) a_nil)))) (ss_cons (s_ret e_bool)
    ss_nil) ss_nil)
    (ss_cons (s_unp (g_tup (gs_cons (tn 1) (gs_cons (tn 2) gs_nil)) rfl fun c h => pg_tup c h) (nm 0))
    (ss_cons (s_if (t_w (w_or (t_not (t_val (e_def D_is_int bp_is_int (a_cons (nm 1) a_nil)))) (w_one2 (t_not (t_val (e_def D_is_int bp_is_int (a_cons (nm 2) a_nil))))))) (ss_cons (s_ret e_bool)
    ss_nil) ss_nil)
    (ss_cons (s_ret (e_and (e_cmp oGe sRel (nm 2) e_int) (e_one (e_cmp oEq sEq (e_callL cGcd sGcd m_gcd (a_cons (nm 1) (a_cons (nm 2) a_nil))) e_int))))
    ss_nil)))), fun xs R hl h => ?_⟩, hm, Fu⟩
  · exact Nat.le_of_ble_eq_true rfl
  · obtain ⟨x, rfl, q⟩ := h
    try (walk_at "px")
    refine ⟨x, rfl, ?_⟩
    cases z : isRow x 2 2 with
    | false => rw [isFr_pair z] at q; simpa [asTru, truD] using q
    | true =>
      obtain ⟨a, b, rfl⟩ := pair_row z
      simp only [asTru, truD, Bool.not_true, Bool.false_eq_true, if_false]
      try (walk_at "px")
      refine ⟨a, rfl, ?_⟩
      cases a with
      | int a =>
        simp only [isTy, tyOf, asTru, truD]
        try (walk_at "px")
        simp only [decide_true, Bool.not_true, Bool.false_eq_true, if_false]
        refine ⟨b, rfl, ?_⟩
        cases b with
        | int b =>
          simp only [isTy, tyOf, asTru, truD]
          try (walk_at "px")
          simp only [decide_true, Bool.not_true, Bool.false_eq_true, if_false]
          try (walk_at "px")
          simp only [isFr] at q
          by_cases z1 : 1 ≤ b
          · simpa [z1] using q
          · simpa [z1] using q
        | _ => simpa [isTy, tyOf, asTru, truD, isFr] using q
      | _ => simpa [isTy, tyOf, asTru, truD, isFr] using q
abbrev s_need_fraction : Stmt := topS 19
theorem sc_need_fraction : FnScope ["value"] ["value"] (defScope s_need_fraction) := ⟨rfl, rfl, rfl, by decide +kernel, rfl, by decide +kernel, by decide +kernel⟩
theorem bp_need_fraction : BindP "need_fraction" s_need_fraction ["value"] := fun _ _ _ _ _ _ us hl => match us, hl with | [_], _ => rfl
abbrev DD_need_fraction (P : Program) (w : World) (K : Kx) (mg : Str → Option Value) (base : Heap) : Prop := Df P w K mg base "need_fraction" s_need_fraction ["value"] 5 0 fNeedFr
theorem ok_need_fraction (Lf : Lo K mg "need_fraction" s_need_fraction) (D_is_fraction : DD_is_fraction P w K mg base) : DD_need_fraction P w K mg base := by
  obtain ⟨fa, fd, hm, Fu⟩ := Lf
  refine ⟨fa, fd, fn_make Fu sc_need_fraction (by decide) fun cd A outer s H E hr hg => ⟨_, _, ?_, (ss_cons (s_if (t_not (t_val (e_def D_is_fraction bp_is_fraction (a_cons (nm 0) a_nil)))) (ss_cons s_never
    ss_nil) ss_nil)
    (ss_cons (s_ret (nm 0))
    ss_nil)), fun xs R hl h => ?_⟩, hm, Fu⟩
  · exact Nat.le_of_ble_eq_true rfl
  · obtain ⟨x, rfl, h1, q⟩ := h
    try (walk_at "px")
    refine ⟨x, rfl, ?_⟩
    simp only [h1, asTru, truD, Bool.not_true, Bool.false_eq_true, if_false]
    try (walk_at "px")
    exact q
abbrev s_least_terms : Stmt := topS 20
theorem sc_least_terms : FnScope ["above", "below", "divisor"] ["above", "below"] (defScope s_least_terms) := ⟨rfl, rfl, rfl, by decide +kernel, rfl, by decide +kernel, by decide +kernel⟩
theorem bp_least_terms : BindP "least_terms" s_least_terms ["above", "below"] := fun _ _ _ _ _ _ us hl => match us, hl with | [_, _], _ => rfl
abbrev DD_least_terms (P : Program) (w : World) (K : Kx) (mg : Str → Option Value) (base : Heap) : Prop := Df P w K mg base "least_terms" s_least_terms ["above", "below"] 1 0 fRed
theorem ok_least_terms (Lf : Lo K mg "least_terms" s_least_terms) (m_gcd : mg "gcd" = some (.builtin "math.gcd")) : DD_least_terms P w K mg base := by
  obtain ⟨fa, fd, hm, Fu⟩ := Lf
  refine ⟨fa, fd, fn_make Fu sc_least_terms (by decide) fun cd A outer s H E hr hg => ⟨_, _, ?_, (ss_cons (s_set 2 rfl (e_callL cGcd sGcd m_gcd (a_cons (nm 0) (a_cons (nm 1) a_nil))))
    (ss_cons (s_if (t_cmp oLt sRel (nm 1) e_int) (ss_cons (s_set 2 rfl (e_neg (nm 2)))
    ss_nil) ss_nil)
    (ss_cons (s_ret (e_tup (a_cons (e_bin oFdiv sFdiv (nm 0) (nm 2)) (a_cons (e_bin oFdiv sFdiv (nm 1) (nm 2)) a_nil))))
    ss_nil))), fun xs R hl h => ?_⟩, hm, Fu⟩
  · exact Nat.le_of_ble_eq_true rfl
  · obtain ⟨a, b, rfl, h0, hb, q⟩ := h
    have d1 := div_ok (a := a) h0 hb
    rw [← red_fq h0] at q
    try (walk_at "px")
    by_cases z : b < 0
    · simp only [z, decide_true, if_true]
      try (walk_at "px")
      have e : sg a b = -((Nat.gcd a.natAbs b.natAbs : Nat) : Int) := if_pos z
      rw [e] at d1 q
      exact ⟨d1 a, d1 b, q⟩
    · simp only [z, decide_false, Bool.false_eq_true, if_false]
      try (walk_at "px")
      have e : sg a b = ((Nat.gcd a.natAbs b.natAbs : Nat) : Int) := if_neg z
      rw [e] at d1 q
      exact ⟨d1 a, d1 b, q⟩
abbrev s_plus : Stmt := topS 21
theorem sc_plus : FnScope ["one", "other"] ["one", "other"] (defScope s_plus) := ⟨rfl, rfl, rfl, by decide +kernel, rfl, by decide +kernel, by decide +kernel⟩
theorem bp_plus : BindP "plus" s_plus ["one", "other"] := fun _ _ _ _ _ _ us hl => match us, hl with | [_, _], _ => rfl
abbrev DD_plus (P : Program) (w : World) (K : Kx) (mg : Str → Option Value) (base : Heap) : Prop := Df P w K mg base "plus" s_plus ["one", "other"] 6 0 fPlus
theorem ok_plus (Lf : Lo K mg "plus" s_plus) (D_need_fraction : DD_need_fraction P w K mg base) (D_least_terms : DD_least_terms P w K mg base) : DD_plus P w K mg base := by
  obtain ⟨fa, fd, hm, Fu⟩ := Lf
  refine ⟨fa, fd, fn_make Fu sc_plus (by decide) fun cd A outer s H E hr hg => ⟨_, _, ?_, (ss_cons (s_expr (e_def D_need_fraction bp_need_fraction (a_cons (nm 0) a_nil)))
    (ss_cons (s_expr (e_def D_need_fraction bp_need_fraction (a_cons (nm 1) a_nil)))
    (ss_cons (s_ret (e_def D_least_terms bp_least_terms (a_cons (e_bin oAdd sAdd (e_bin oMul sMul (e_ix oIx sIx (nm 0) e_int) (e_ix oIx sIx (nm 1) e_int)) (e_bin oMul sMul (e_ix oIx sIx (nm 1) e_int) (e_ix oIx sIx (nm 0) e_int))) (a_cons (e_bin oMul sMul (e_ix oIx sIx (nm 0) e_int) (e_ix oIx sIx (nm 1) e_int)) a_nil))))
    ss_nil))), fun xs R hl h => ?_⟩, hm, Fu⟩
  · exact Nat.le_of_ble_eq_true rfl
  · obtain ⟨a, b, rfl, ⟨n, m, ha, hb, nm⟩, _, q⟩ := h
    obtain ⟨m1, m2, m3, m4, m5⟩ := mul_ok2 ha hb nm
    try (walk_at "px")
    refine ⟨_, rfl, isFr_fq a, _, rfl, isFr_fq b, ?_⟩
    try (walk_at "px")
    exact ⟨m1, m2, m3, _, _, rfl, Int.mul_ne_zero (den_ne a) (den_ne b), (ha.den.mul hb.den).mono nm, by rw [add_q]; exact q⟩
abbrev s_times : Stmt := topS 22
theorem sc_times : FnScope ["one", "other"] ["one", "other"] (defScope s_times) := ⟨rfl, rfl, rfl, by decide +kernel, rfl, by decide +kernel, by decide +kernel⟩
theorem bp_times : BindP "times" s_times ["one", "other"] := fun _ _ _ _ _ _ us hl => match us, hl with | [_, _], _ => rfl
abbrev DD_times (P : Program) (w : World) (K : Kx) (mg : Str → Option Value) (base : Heap) : Prop := Df P w K mg base "times" s_times ["one", "other"] 6 0 fTimes
theorem ok_times (Lf : Lo K mg "times" s_times) (D_need_fraction : DD_need_fraction P w K mg base) (D_least_terms : DD_least_terms P w K mg base) : DD_times P w K mg base := by
  obtain ⟨fa, fd, hm, Fu⟩ := Lf
  refine ⟨fa, fd, fn_make Fu sc_times (by decide) fun cd A outer s H E hr hg => ⟨_, _, ?_, (ss_cons (s_expr (e_def D_need_fraction bp_need_fraction (a_cons (nm 0) a_nil)))
    (ss_cons (s_expr (e_def D_need_fraction bp_need_fraction (a_cons (nm 1) a_nil)))
    (ss_cons (s_ret (e_def D_least_terms bp_least_terms (a_cons (e_bin oMul sMul (e_ix oIx sIx (nm 0) e_int) (e_ix oIx sIx (nm 1) e_int)) (a_cons (e_bin oMul sMul (e_ix oIx sIx (nm 0) e_int) (e_ix oIx sIx (nm 1) e_int)) a_nil))))
    ss_nil))), fun xs R hl h => ?_⟩, hm, Fu⟩
  · exact Nat.le_of_ble_eq_true rfl
  · obtain ⟨a, b, rfl, ⟨n, m, ha, hb, nm⟩, _, q⟩ := h
    obtain ⟨m1, m2, m3, m4, m5⟩ := mul_ok2 ha hb nm
    try (walk_at "px")
    refine ⟨_, rfl, isFr_fq a, _, rfl, isFr_fq b, ?_⟩
    try (walk_at "px")
    exact ⟨m4, m3, _, _, rfl, Int.mul_ne_zero (den_ne a) (den_ne b), (ha.den.mul hb.den).mono nm, by rw [mul_q]; exact q⟩
abbrev s_less : Stmt := topS 23
theorem sc_less : FnScope ["one", "other"] ["one", "other"] (defScope s_less) := ⟨rfl, rfl, rfl, by decide +kernel, rfl, by decide +kernel, by decide +kernel⟩
theorem bp_less : BindP "less" s_less ["one", "other"] := fun _ _ _ _ _ _ us hl => match us, hl with | [_, _], _ => rfl
abbrev DD_less (P : Program) (w : World) (K : Kx) (mg : Str → Option Value) (base : Heap) : Prop := Df P w K mg base "less" s_less ["one", "other"] 6 0 fLess
theorem ok_less (Lf : Lo K mg "less" s_less) (D_need_fraction : DD_need_fraction P w K mg base) : DD_less P w K mg base := by
  obtain ⟨fa, fd, hm, Fu⟩ := Lf
  refine ⟨fa, fd, fn_make Fu sc_less (by decide) fun cd A outer s H E hr hg => ⟨_, _, ?_, (ss_cons (s_expr (e_def D_need_fraction bp_need_fraction (a_cons (nm 0) a_nil)))
    (ss_cons (s_expr (e_def D_need_fraction bp_need_fraction (a_cons (nm 1) a_nil)))
    (ss_cons (s_ret (e_cmp oLt sRel (e_bin oMul sMul (e_ix oIx sIx (nm 0) e_int) (e_ix oIx sIx (nm 1) e_int)) (e_bin oMul sMul (e_ix oIx sIx (nm 1) e_int) (e_ix oIx sIx (nm 0) e_int))))
    ss_nil))), fun xs R hl h => ?_⟩, hm, Fu⟩
  · exact Nat.le_of_ble_eq_true rfl
  · obtain ⟨a, b, rfl, ⟨n, m, ha, hb, nm⟩, _, q⟩ := h
    obtain ⟨m1, m2, m3, m4, m5⟩ := mul_ok2 ha hb nm
    try (walk_at "px")
    refine ⟨_, rfl, isFr_fq a, _, rfl, isFr_fq b, ?_⟩
    try (walk_at "px")
    exact ⟨m1, m2, by rw [lt_q]; exact q⟩
abbrev s__law_mixed : Stmt := topS 48
theorem sc__law_mixed : FnScope ["cell", "k"] ["cell", "k"] (defScope s__law_mixed) := ⟨rfl, rfl, rfl, by decide +kernel, rfl, by decide +kernel, by decide +kernel⟩
theorem bp__law_mixed : BindP "_law_mixed" s__law_mixed ["cell", "k"] := fun _ _ _ _ _ _ us hl => match us, hl with | [_, _], _ => rfl
abbrev DD__law_mixed (P : Program) (w : World) (K : Kx) (mg : Str → Option Value) (base : Heap) : Prop := Df P w K mg base "_law_mixed" s__law_mixed ["cell", "k"] 1 0 fMixed
theorem ok__law_mixed (Lf : Lo K mg "_law_mixed" s__law_mixed) (m_int : mg "int" = none) : DD__law_mixed P w K mg base := by
  obtain ⟨fa, fd, hm, Fu⟩ := Lf
  refine ⟨fa, fd, fn_make Fu sc__law_mixed (by decide) fun cd A outer s H E hr hg => ⟨_, _, ?_, (ss_cons (s_set 0 rfl (e_bin oMod sMod (e_callT cInt sInt m_int (by decide +kernel) (a_cons (nm 0) a_nil)) e_int))
    (ss_cons (s_ret (e_bin oMod sMod (e_bin oMul sMul (e_bin oMod sMod (e_bin oAdd sAdd (e_bin oAdd sAdd (e_bin oMul sMul (nm 0) (e_bin oAdd sAdd e_int (e_bin oMul sMul (e_bin oMul sMul e_int (nm 1)) (nm 1)))) (e_bin oMul sMul e_int (nm 1))) e_int) e_int) e_int) e_int))
    ss_nil)), fun xs R hl h => ?_⟩, hm, Fu⟩
  · exact Nat.le_of_ble_eq_true rfl
  · obtain ⟨a, k, rfl, hk, q⟩ := h
    have c1 : Bd 31 (a.fmod 2147483647) := Bd.fmod (Bd.lit (by decide)) (by decide)
    have c2 : Bd 8300 (48271 + 2 * k * k) := ((Bd.lit (n := 8299) (by decide)).add (Bd.mono (((Bd.lit (n := 2) (i := 2) (by decide)).mul hk).mul hk) (by decide)))
    have c3 : Bd 31 ((a.fmod 2147483647 * (48271 + 2 * k * k) + 69621 * k + 11).fmod 2147483647) := Bd.fmod (Bd.lit (by decide)) (by decide)
    have c4 := fmod_rng (i := ((a.fmod 2147483647 * (48271 + 2 * k * k) + 69621 * k + 11).fmod 2147483647 * 69621)) (j := 2147483629) (by decide)
    try (walk_at "px")
    exact ⟨by decide, (Bd.lit (n := 2) (by decide)).ok hk (by decide) (by decide) (by decide), ((Bd.lit (n := 2) (i := 2) (by decide)).mul hk).ok hk (by decide) (by decide) (by decide), c1.ok c2 (by decide) (by decide) (by decide),
      (Bd.lit (n := 17) (by decide)).ok hk (by decide) (by decide) (by decide), by decide, c3.ok (Bd.lit (n := 17) (by decide)) (by decide) (by decide) (by decide), by decide, q _ c4.1 c4.2⟩
abbrev s__law_draw : Stmt := topS 50
theorem sc__law_draw : FnScope ["state_so", "limit", "at", "spot", "left", "mixed"] ["state_so", "limit"] (defScope s__law_draw) := ⟨rfl, rfl, rfl, by decide +kernel, rfl, by decide +kernel, by decide +kernel⟩
theorem bp__law_draw : BindP "_law_draw" s__law_draw ["state_so", "limit"] := fun _ _ _ _ _ _ us hl => match us, hl with | [_, _], _ => rfl
abbrev DD__law_draw (P : Program) (w : World) (fg : Fg) (d c l : Addr) (nC : Nat) (tT : List (Addr × Str)) (mg : Str → Option Value) (base : Heap) : Prop := Df P w (stK fg d c l nC tT) mg base "_law_draw" s__law_draw ["state_so", "limit"] 2 1 fDraw
theorem ok__law_draw (Lf : Lo fg mg "_law_draw" s__law_draw) (hC : 0 < nC ∧ nC ≤ 1000) (m_int : mg "int" = none) (m_len : mg "len" = none) (D__law_mixed : DD__law_mixed P w (stK fg d c l nC tT) mg base) : DD__law_draw P w fg d c l nC tT mg base := by
  obtain ⟨fa, fd, hm, Fu⟩ := Lf
  refine ⟨fa, fd, fn_make Fu sc__law_draw (by decide) fun cd A outer s H E hr hg => ⟨_, _, ?_, (ss_tick rfl 0 2 (by decide) rfl rfl (e_bin oAdd sAdd (nm 2) e_int)
    (ss_cons (s_set 3 rfl (e_bin oMod sMod (e_callT cInt sInt m_int (by decide +kernel) (a_cons (nm 2) a_nil)) (e_stLen rfl m_len 0)))
    (ss_cons (s_set 4 rfl (e_stIx (.inr rfl) rfl 0 (nm 3)))
    (ss_cons (s_if (t_cmp oGt sRel (nm 4) e_int) (ss_cons (s_stPut rfl 0 rfl (nm 3) (e_bin oFdiv sFdiv (nm 4) (nm 1)))
    (ss_cons (s_ret (e_bin oMod sMod (e_callT cInt sInt m_int (by decide +kernel) (a_cons (nm 4) a_nil)) (nm 1)))
    ss_nil)) ss_nil)
    (ss_cons (s_set 5 rfl (e_def D__law_mixed bp__law_mixed (a_cons (e_def D__law_mixed bp__law_mixed (a_cons (e_stIx (.inl rfl) rfl 0 (nm 3)) (a_cons (nm 2) a_nil))) (a_cons (e_bin oAdd sAdd e_int (nm 2)) a_nil))))
    (ss_cons (s_ret (e_bin oMod sMod (e_bin oFdiv sFdiv (e_callT cInt sInt m_int (by decide +kernel) (a_cons (e_bin oAdd sAdd (e_bin oMul sMul (nm 5) e_int) (e_def D__law_mixed bp__law_mixed (a_cons (nm 5) (a_cons (e_bin oAdd sAdd e_int (nm 2)) a_nil)))) a_nil)) e_int) (nm 1)))
    ss_nil)))))), fun xs R hl h => ?_⟩, hm, Fu⟩
  · exact Nat.le_of_ble_eq_true rfl
  · obtain ⟨n, rfl, h1, hn, q⟩ := h
    have nz : (nC : Int) ≠ 0 := by omega
    have sp : ∀ k : Nat, 0 ≤ (k : Int).fmod nC ∧ (k : Int).fmod nC < nC := fun k => fmod_rng (by omega)
    have dn : ∀ i : Int, CDivA i n := fun i => ⟨by omega, Nat.lt_trans (hn.log (by decide)) (by decide)⟩
    have kb : ∀ k : Nat, k ≤ lim → Bd 4001 (k : Int) := fun k h => Nat.lt_of_le_of_lt h (Nat.pow_lt_pow_right (by decide) (by decide))
    try (walk_at "px")
    intro k hk
    refine ⟨nz, _, rfl, (sp k).1, (sp k).2, fun z => ?_⟩
    have fin : ∀ z : Int, R (.d (.int (z.fmod n))) := fun z => q _ (fmod_rng (by omega)).1 (fmod_rng (by omega)).2
    have b1 : Bd 4100 ((k : Nat) : Int) := (kb k hk).mono (by decide)
    have b2 : Bd 4100 (40 + (k : Int)) := ((Bd.lit (n := 4001) (by decide)).add (kb k hk)).mono (by decide)
    have b3 : Bd 4100 (7 + (k : Int)) := ((Bd.lit (n := 4001) (by decide)).add (kb k hk)).mono (by decide)
    split
    · exact ⟨dn z, _, rfl, _, rfl, (sp k).1, (sp k).2, by omega, fin z⟩
    · refine ⟨_, rfl, (sp k).1, (sp k).2, fun z => ⟨_, _, rfl, b1, fun r _ _ => ⟨_, _, rfl, b2, fun r2 h3 h4 => ?_⟩⟩⟩
      try (walk_at "px")
      have b4 : Bd 31 r2 := by unfold Bd; omega
      refine ⟨b4.ok (Bd.lit (n := 31) (by decide)) (by decide) (by decide) (by decide), _, _, rfl, b3, fun r3 _ _ => ?_⟩
      try (walk_at "px")
      exact ⟨div_lit, by omega, fin _⟩
abbrev s__law_of : Stmt := topS 51
theorem sc__law_of : FnScope ["state_so", "some"] ["state_so", "some"] (defScope s__law_of) := ⟨rfl, rfl, rfl, by decide +kernel, rfl, by decide +kernel, by decide +kernel⟩
theorem bp__law_of : BindP "_law_of" s__law_of ["state_so", "some"] := fun _ _ _ _ _ _ us hl => match us, hl with | [_, _], _ => rfl
abbrev DD__law_of (P : Program) (w : World) (fg : Fg) (d c l : Addr) (nC : Nat) (tT : List (Addr × Str)) (mg : Str → Option Value) (base : Heap) : Prop := Df P w (stK fg d c l nC tT) mg base "_law_of" s__law_of ["state_so", "some"] 3 1 fOf
theorem ok__law_of (Lf : Lo fg mg "_law_of" s__law_of) (m_len : mg "len" = none) (D__law_draw : DD__law_draw P w fg d c l nC tT mg base) : DD__law_of P w fg d c l nC tT mg base := by
  obtain ⟨fa, fd, hm, Fu⟩ := Lf
  refine ⟨fa, fd, fn_make Fu sc__law_of (by decide) fun cd A outer s H E hr hg => ⟨_, _, ?_, (ss_cons (s_ret (e_ix oIx sIx (nm 1) (e_def D__law_draw bp__law_draw (a_cons (nm 0) (a_cons (e_callB cLen sLen m_len (by decide +kernel) (a_cons (nm 1) a_nil)) a_nil)))))
    ss_nil), fun xs R hl h => ?_⟩, hm, Fu⟩
  · exact Nat.le_of_ble_eq_true rfl
  · obtain ⟨xs, rfl, h1, h2, q⟩ := h
    try (walk_at "px")
    refine ⟨_, rfl, by omega, Nat.lt_trans (show _ < 2 ^ 10 by omega) (Nat.pow_lt_pow_right (by decide) (by decide)), fun k h3 h4 => ?_⟩
    try (walk_at "px")
    obtain ⟨n, rfl⟩ := Int.eq_ofNat_of_zero_le h3
    have hn : n < xs.length := by omega
    exact ⟨xs[n], by rw [atI_nat hn]; simp [hn], q _ (List.getElem_mem hn)⟩
abbrev s__law_divisor : Stmt := topS 56
theorem sc__law_divisor : FnScope ["one", "other", "step"] ["one", "other"] (defScope s__law_divisor) := ⟨rfl, rfl, rfl, by decide +kernel, rfl, by decide +kernel, by decide +kernel⟩
theorem bp__law_divisor : BindP "_law_divisor" s__law_divisor ["one", "other"] := fun _ _ _ _ _ _ us hl => match us, hl with | [_, _], _ => rfl
abbrev DD__law_divisor (P : Program) (w : World) (K : Kx) (mg : Str → Option Value) (base : Heap) : Prop := Df P w K mg base "_law_divisor" s__law_divisor ["one", "other"] 1 0 fGcd
theorem ok__law_divisor (Lf : Lo K mg "_law_divisor" s__law_divisor) (m_abs : mg "abs" = none) (m_range : mg "range" = none) : DD__law_divisor P w K mg base := by
  obtain ⟨fa, fd, hm, Fu⟩ := Lf
  refine ⟨fa, fd, fn_make Fu sc__law_divisor (by decide) fun cd A outer s H E hr hg => ⟨_, _, ?_, (ss_cons (s_par 0 1 rfl rfl (by decide) (a_cons (e_callB cAbs sAbs m_abs (by decide +kernel) (a_cons (nm 0) a_nil)) (a_cons (e_callB cAbs sAbs m_abs (by decide +kernel) (a_cons (nm 1) a_nil)) a_nil)) fun pa => ps_par (by rfl) sc__law_divisor.nd rfl rfl (by decide) rfl rfl pa (by rfl))
    (ss_cons (s_for (i_rng1 m_range (a_cons e_int a_nil)) (tn 2) (ss_cons (s_if (t_cmp oEq sEq (nm 1) e_int) (ss_cons (s_ret (nm 0))
    ss_nil) ss_nil)
    (ss_cons (s_par 0 1 rfl rfl (by decide) (a_cons (nm 1) (a_cons (e_bin oMod sMod (nm 0) (nm 1)) a_nil)) fun pa => ps_par (by rfl) sc__law_divisor.nd rfl rfl (by decide) rfl rfl pa (by rfl))
    ss_nil)))
    (ss_cons (s_ret (nm 0))
    ss_nil))), fun xs R hl h => ?_⟩, hm, Fu⟩
  · exact Nat.le_of_ble_eq_true rfl
  · obtain ⟨a, b, rfl, hb, q⟩ := h
    try (walk_at "px")
    refine forty fun k0 hk0 hk1 => ?_
    have hlen := ir_len (k := k0) (n := Int.toNat 100000) (by omega)
    generalize irange 0 (Int.toNat 100000) = items at hlen ⊢
    rw [abs_nat, abs_nat]
    refine ⟨by decide, by decide, ?_⟩
    refine loop_down (fun k ρ => ∃ (A B : Nat) (s : Sl), ρ = [.v (.d (.int A)), .v (.d (.int B)), s] ∧ Nat.gcd A B = Nat.gcd a.natAbs b.natAbs ∧ eu k A B) ?_ (fun ρ h => let ⟨_, _, _, _, _, h⟩ := h; h) items _ k0 hlen ?_
    rotate_left
    · exact ⟨a.natAbs, b.natAbs, _, rfl, rfl, eu_go hb (Nat.le_trans (Nat.le_of_ble_eq_true rfl) hk0)⟩
    intro k x ρ L hL hI
    obtain ⟨A, B, s, rfl, hg, he⟩ := hI
    try (walk_at "px")
    by_cases z : B = 0
    · subst z
      rw [if_pos (by simp)]
      rw [Nat.gcd_zero_right] at hg
      rw [hg]
      exact q
    · rw [if_neg (by simp; omega)]
      refine ⟨by omega, hL _ ⟨B, A % B, _, by rw [fmod_nat], ?_, he.resolve_left z⟩⟩
      rw [Nat.gcd_comm, ← Nat.gcd_rec, Nat.gcd_comm]
      exact hg
abbrev s__law_share : Stmt := topS 57
theorem sc__law_share : FnScope ["above", "below", "told"] ["above", "below"] (defScope s__law_share) := ⟨rfl, rfl, rfl, by decide +kernel, rfl, by decide +kernel, by decide +kernel⟩
theorem bp__law_share : BindP "_law_share" s__law_share ["above", "below"] := fun _ _ _ _ _ _ us hl => match us, hl with | [_, _], _ => rfl
abbrev DD__law_share (P : Program) (w : World) (K : Kx) (mg : Str → Option Value) (base : Heap) : Prop := Df P w K mg base "_law_share" s__law_share ["above", "below"] 2 0 fRed
theorem ok__law_share (Lf : Lo K mg "_law_share" s__law_share) (D__law_divisor : DD__law_divisor P w K mg base) : DD__law_share P w K mg base := by
  obtain ⟨fa, fd, hm, Fu⟩ := Lf
  refine ⟨fa, fd, fn_make Fu sc__law_share (by decide) fun cd A outer s H E hr hg => ⟨_, _, ?_, (ss_cons (s_set 2 rfl (e_def D__law_divisor bp__law_divisor (a_cons (nm 0) (a_cons (nm 1) a_nil))))
    (ss_cons (s_set 2 rfl (e_if (t_cmp oGt sRel (nm 1) e_int) (nm 2) (e_neg (nm 2))))
    (ss_cons (s_ret (e_tup (a_cons (e_bin oFdiv sFdiv (nm 0) (nm 2)) (a_cons (e_bin oFdiv sFdiv (nm 1) (nm 2)) a_nil))))
    ss_nil))), fun xs R hl h => ?_⟩, hm, Fu⟩
  · exact Nat.le_of_ble_eq_true rfl
  · obtain ⟨a, b, rfl, h0, hb, q⟩ := h
    have d1 := div_ok (a := a) h0 hb
    rw [← red_fq h0] at q
    try (walk_at "px")
    refine ⟨_, _, rfl, hb.mono (by decide), ?_⟩
    try (walk_at "px")
    by_cases z : b < 0
    · have e : sg a b = -((Nat.gcd a.natAbs b.natAbs : Nat) : Int) := if_pos z
      rw [e] at d1 q
      have z' : ¬ 0 < b := by omega
      simp only [z', decide_false, Bool.false_eq_true, if_false]
      try (walk_at "px")
      exact ⟨d1 a, d1 b, q⟩
    · have e : sg a b = ((Nat.gcd a.natAbs b.natAbs : Nat) : Int) := if_neg z
      rw [e] at d1 q
      have z' : 0 < b := by omega
      simp only [z', decide_true, if_true]
      try (walk_at "px")
      exact ⟨d1 a, d1 b, q⟩
abbrev s__law_plus : Stmt := topS 58
theorem sc__law_plus : FnScope ["one", "other"] ["one", "other"] (defScope s__law_plus) := ⟨rfl, rfl, rfl, by decide +kernel, rfl, by decide +kernel, by decide +kernel⟩
theorem bp__law_plus : BindP "_law_plus" s__law_plus ["one", "other"] := fun _ _ _ _ _ _ us hl => match us, hl with | [_, _], _ => rfl
abbrev DD__law_plus (P : Program) (w : World) (K : Kx) (mg : Str → Option Value) (base : Heap) : Prop := Df P w K mg base "_law_plus" s__law_plus ["one", "other"] 3 0 fPlus
theorem ok__law_plus (Lf : Lo K mg "_law_plus" s__law_plus) (D__law_share : DD__law_share P w K mg base) : DD__law_plus P w K mg base := by
  obtain ⟨fa, fd, hm, Fu⟩ := Lf
  refine ⟨fa, fd, fn_make Fu sc__law_plus (by decide) fun cd A outer s H E hr hg => ⟨_, _, ?_, (ss_cons (s_ret (e_def D__law_share bp__law_share (a_cons (e_bin oAdd sAdd (e_bin oMul sMul (e_ix oIx sIx (nm 0) e_int) (e_ix oIx sIx (nm 1) e_int)) (e_bin oMul sMul (e_ix oIx sIx (nm 1) e_int) (e_ix oIx sIx (nm 0) e_int))) (a_cons (e_bin oMul sMul (e_ix oIx sIx (nm 0) e_int) (e_ix oIx sIx (nm 1) e_int)) a_nil))))
    ss_nil), fun xs R hl h => ?_⟩, hm, Fu⟩
  · exact Nat.le_of_ble_eq_true rfl
  · obtain ⟨a, b, rfl, ⟨n, m, ha, hb, nm⟩, _, q⟩ := h
    obtain ⟨m1, m2, m3, m4, m5⟩ := mul_ok2 ha hb nm
    try (walk_at "px")
    exact ⟨m1, m2, m3, _, _, rfl, Int.mul_ne_zero (den_ne a) (den_ne b), (ha.den.mul hb.den).mono nm, by rw [add_q]; exact q⟩
abbrev s__law_minus : Stmt := topS 59
theorem sc__law_minus : FnScope ["one", "other"] ["one", "other"] (defScope s__law_minus) := ⟨rfl, rfl, rfl, by decide +kernel, rfl, by decide +kernel, by decide +kernel⟩
theorem bp__law_minus : BindP "_law_minus" s__law_minus ["one", "other"] := fun _ _ _ _ _ _ us hl => match us, hl with | [_, _], _ => rfl
abbrev DD__law_minus (P : Program) (w : World) (K : Kx) (mg : Str → Option Value) (base : Heap) : Prop := Df P w K mg base "_law_minus" s__law_minus ["one", "other"] 3 0 fMinus
theorem ok__law_minus (Lf : Lo K mg "_law_minus" s__law_minus) (D__law_share : DD__law_share P w K mg base) : DD__law_minus P w K mg base := by
  obtain ⟨fa, fd, hm, Fu⟩ := Lf
  refine ⟨fa, fd, fn_make Fu sc__law_minus (by decide) fun cd A outer s H E hr hg => ⟨_, _, ?_, (ss_cons (s_ret (e_def D__law_share bp__law_share (a_cons (e_bin oSub sSub (e_bin oMul sMul (e_ix oIx sIx (nm 0) e_int) (e_ix oIx sIx (nm 1) e_int)) (e_bin oMul sMul (e_ix oIx sIx (nm 1) e_int) (e_ix oIx sIx (nm 0) e_int))) (a_cons (e_bin oMul sMul (e_ix oIx sIx (nm 0) e_int) (e_ix oIx sIx (nm 1) e_int)) a_nil))))
    ss_nil), fun xs R hl h => ?_⟩, hm, Fu⟩
  · exact Nat.le_of_ble_eq_true rfl
  · obtain ⟨a, b, rfl, ⟨n, m, ha, hb, nm⟩, _, q⟩ := h
    obtain ⟨m1, m2, m3, m4, m5⟩ := mul_ok2 ha hb nm
    try (walk_at "px")
    exact ⟨m1, m2, m3, _, _, rfl, Int.mul_ne_zero (den_ne a) (den_ne b), (ha.den.mul hb.den).mono nm, by rw [sub_q]; exact q⟩
abbrev s__law_times : Stmt := topS 60
theorem sc__law_times : FnScope ["one", "other"] ["one", "other"] (defScope s__law_times) := ⟨rfl, rfl, rfl, by decide +kernel, rfl, by decide +kernel, by decide +kernel⟩
theorem bp__law_times : BindP "_law_times" s__law_times ["one", "other"] := fun _ _ _ _ _ _ us hl => match us, hl with | [_, _], _ => rfl
abbrev DD__law_times (P : Program) (w : World) (K : Kx) (mg : Str → Option Value) (base : Heap) : Prop := Df P w K mg base "_law_times" s__law_times ["one", "other"] 3 0 fTimes
theorem ok__law_times (Lf : Lo K mg "_law_times" s__law_times) (D__law_share : DD__law_share P w K mg base) : DD__law_times P w K mg base := by
  obtain ⟨fa, fd, hm, Fu⟩ := Lf
  refine ⟨fa, fd, fn_make Fu sc__law_times (by decide) fun cd A outer s H E hr hg => ⟨_, _, ?_, (ss_cons (s_ret (e_def D__law_share bp__law_share (a_cons (e_bin oMul sMul (e_ix oIx sIx (nm 0) e_int) (e_ix oIx sIx (nm 1) e_int)) (a_cons (e_bin oMul sMul (e_ix oIx sIx (nm 0) e_int) (e_ix oIx sIx (nm 1) e_int)) a_nil))))
    ss_nil), fun xs R hl h => ?_⟩, hm, Fu⟩
  · exact Nat.le_of_ble_eq_true rfl
  · obtain ⟨a, b, rfl, ⟨n, m, ha, hb, nm⟩, _, q⟩ := h
    obtain ⟨m1, m2, m3, m4, m5⟩ := mul_ok2 ha hb nm
    try (walk_at "px")
    exact ⟨m4, m3, _, _, rfl, Int.mul_ne_zero (den_ne a) (den_ne b), (ha.den.mul hb.den).mono nm, by rw [mul_q]; exact q⟩
abbrev s__law_below : Stmt := topS 61
theorem sc__law_below : FnScope ["one", "other"] ["one", "other"] (defScope s__law_below) := ⟨rfl, rfl, rfl, by decide +kernel, rfl, by decide +kernel, by decide +kernel⟩
theorem bp__law_below : BindP "_law_below" s__law_below ["one", "other"] := fun _ _ _ _ _ _ us hl => match us, hl with | [_, _], _ => rfl
abbrev DD__law_below (P : Program) (w : World) (K : Kx) (mg : Str → Option Value) (base : Heap) : Prop := Df P w K mg base "_law_below" s__law_below ["one", "other"] 1 0 fLess
theorem ok__law_below (Lf : Lo K mg "_law_below" s__law_below)  : DD__law_below P w K mg base := by
  obtain ⟨fa, fd, hm, Fu⟩ := Lf
  refine ⟨fa, fd, fn_make Fu sc__law_below (by decide) fun cd A outer s H E hr hg => ⟨_, _, ?_, (ss_cons (s_ret (e_cmp oLt sRel (e_bin oMul sMul (e_ix oIx sIx (nm 0) e_int) (e_ix oIx sIx (nm 1) e_int)) (e_bin oMul sMul (e_ix oIx sIx (nm 1) e_int) (e_ix oIx sIx (nm 0) e_int))))
    ss_nil), fun xs R hl h => ?_⟩, hm, Fu⟩
  · exact Nat.le_of_ble_eq_true rfl
  · obtain ⟨a, b, rfl, ⟨n, m, ha, hb, nm⟩, _, q⟩ := h
    obtain ⟨m1, m2, m3, m4, m5⟩ := mul_ok2 ha hb nm
    try (walk_at "px")
    exact ⟨m1, m2, by rw [lt_q]; exact q⟩
abbrev s__law_like : Stmt := topS 69
theorem sc__law_like : FnScope ["got", "due"] ["got", "due"] (defScope s__law_like) := ⟨rfl, rfl, rfl, by decide +kernel, rfl, by decide +kernel, by decide +kernel⟩
theorem bp__law_like : BindP "_law_like" s__law_like ["got", "due"] := fun _ _ _ _ _ _ us hl => match us, hl with | [_, _], _ => rfl
abbrev DD__law_like (P : Program) (w : World) (K : Kx) (mg : Str → Option Value) (base : Heap) : Prop := Df P w K mg base "_law_like" s__law_like ["got", "due"] 1 0 fLike
theorem ok__law_like (Lf : Lo K mg "_law_like" s__law_like) (m_repr : mg "repr" = none) : DD__law_like P w K mg base := by
  obtain ⟨fa, fd, hm, Fu⟩ := Lf
  refine ⟨fa, fd, fn_make Fu sc__law_like (by decide) fun cd A outer s H E hr hg => ⟨_, _, ?_, (ss_cons (s_ret (e_cmp oEq sEq (e_callB cRepr sRepr m_repr (by decide +kernel) (a_cons (nm 0) a_nil)) (e_callB cRepr sRepr m_repr (by decide +kernel) (a_cons (nm 1) a_nil))))
    ss_nil), fun xs R hl h => ?_⟩, hm, Fu⟩
  · exact Nat.le_of_ble_eq_true rfl
  · obtain ⟨x, rfl, h1, q⟩ := h
    try (walk_at "px")
    refine ⟨h1, h1, ?_⟩
    simpa using q

end
end K52

set_option Elab.async false
set_option linter.all false
set_option maxRecDepth 100000
set_option maxHeartbeats 4000000
set_option exponentiation.threshold 10000
namespace K52
local macro_rules | `(tactic| walk_at "px") => `(tactic| simp only [Px.rd, Px.ownAt, Px.frz, Px.fAdd, Px.fSub, Px.fMul, Px.fFdiv, Px.fMod, Px.fPow, Px.fRel, Px.fEq_int, Px.fEq_str, Px.fEq_bool, Px.fEq_fq, Px.fIs, Px.fIsTy, Px.fIx_l, Px.fIx_t, Px.ix0, Px.ix1, Px.at_0, Px.at_1, Px.at_2, Px.at_3, Px.at_4, Px.ex_some, Px.fSl, Px.gLen, Px.gAbs, Px.gInt, Px.gTuple, Px.gList, Px.gGcd, Px.gSum, Px.gMax, Px.gMin, Px.gAll, Px.gAny, Px.gRepr, Px.gTy, Px.tyOf, Px.asB, Px.asTru, Px.truD, Px.asNeg, Px.asI, Px.asL, Px.asT, Px.asS, Px.asR1, Px.asR2, Px.asZ, Px.asZM, Px.asRg, Px.asRgI, Px.blkE, Px.wipeE, Px.unown, Px.asS, Px.asE, Px.asTwo, Px.asApp, Px.allD, Px.gNm, Px.isNon, Px.isSt, Px.pick,
  List.map_cons, List.map_nil, List.length_cons, List.length_nil, List.length_set, List.replicate_succ, List.replicate_zero, List.cons_append, List.nil_append, List.append_nil, List.getElem?_cons_zero, List.getD_cons_zero, List.getD_cons_succ, List.getElem?_cons_succ, List.set_cons_zero, List.set_cons_succ, Nat.reduceAdd, Nat.reduceSub, Nat.reduceLT, Nat.reduceLeDiff, Nat.zero_add, Nat.mul_zero, Nat.add_zero, eq_self, Nat.sub_self, true_and, and_true, true_or, if_true, Bool.false_eq_true, if_false, ne_eq, not_false_eq_true, Nat.zero_lt_succ, Nat.lt_add_one, Nat.succ_lt_succ_iff])
local macro_rules | `(tactic| walk_at "pz") => `(tactic| simp only [Px.at_last, Px.fKind_eq, Px.fPair_eq, Px.fIsFr_eq, Px.fRow_eq, Px.fWithin_eq, Px.fmOf_mg, Px.isFr_fq, Px.isTy, decide_true, Bool.not_true, Bool.not_false, Bool.and_true, Bool.true_and, Bool.false_and, Bool.and_false, Bool.or_false, Bool.or_true, Px.px0, Px.px1, Px.fNeedPt_eq, Px.fNeedFr_eq, Px.isSt, List.length_append, List.getElem?_map, and_self, Px.map_d, Px.pairs_map, Px.enumD_map, Px.rd, Px.ownAt, Px.frz, Px.fAdd, Px.fSub, Px.fMul, Px.fFdiv, Px.fMod, Px.fPow, Px.fRel, Px.fEq_int, Px.fEq_str, Px.fEq_bool, Px.fEq_fq, Px.fIs, Px.fIsTy, Px.fIx_l, Px.fIx_t, Px.ix0, Px.ix1, Px.at_0, Px.at_1, Px.at_2, Px.at_3, Px.at_4, Px.ex_some, Px.fSl, Px.gLen_l, Px.gLen_t, Px.gLen_tab, Px.gLen_row, Px.gLen_sh, Px.asS_tab, Px.asS_row, Px.asS_sh, Px.asE_tab, Px.asE_row, Px.asE_sh, Px.asZ_tab, Px.asZ_row, Px.ix_tab0, Px.ix_c0, Px.ix_c1, Px.gAbs, Px.gInt, Px.gTuple_l, Px.gTuple_t, Px.gList_l, Px.gList_t, Px.gGcd, Px.gSum, Px.gMax, Px.gMin, Px.gAll, Px.gAny, Px.gRepr, Px.gTy, Px.tyOf, Px.asB, Px.asTru, Px.truD, Px.asNeg, Px.asI, Px.asL, Px.asT, Px.asS_l, Px.asS_t, Px.asR1, Px.asR2, Px.asZ, Px.asZ_ll, Px.asZ_tt, Px.asZ_lt, Px.asRg, Px.asRgI, Px.blkE, Px.wipeE, Px.unown, Px.asE_l, Px.asE_t, Px.asTwo, Px.asApp, Px.allD, Px.gNm, Px.isNon, Px.isSt, Px.pick,
  List.map_cons, List.map_nil, List.length_cons, List.length_nil, List.length_set, List.replicate_succ, List.replicate_zero, List.cons_append, List.nil_append, List.append_nil, List.getElem?_cons_zero, List.getD_cons_zero, List.getD_cons_succ, List.getElem?_cons_succ, List.set_cons_zero, List.set_cons_succ, Nat.reduceAdd, Nat.reduceSub, Nat.reduceLT, Nat.reduceLeDiff, Nat.zero_add, Nat.mul_zero, Nat.add_zero, eq_self, Nat.sub_self, true_and, and_true, true_or, if_true, Bool.false_eq_true, if_false, ne_eq, not_false_eq_true, Nat.zero_lt_succ, Nat.lt_add_one, Nat.succ_lt_succ_iff])
local macro_rules | `(tactic| walk_at "pu") => `(tactic| simp only [Px.rd, Px.ownAt, Px.frz, Px.asR1, Px.asR2, Px.asRg, Px.asRgI, Px.blkE, Px.wipeE, Px.unown, Px.asApp, Px.gNm, Px.isNon, Px.isSt,
  List.map_cons, List.map_nil, List.length_cons, List.length_nil, List.length_set, List.replicate_succ, List.replicate_zero, List.cons_append, List.nil_append, List.append_nil, List.getElem?_cons_zero, List.getD_cons_zero, List.getD_cons_succ, List.getElem?_cons_succ, List.set_cons_zero, List.set_cons_succ, Nat.reduceAdd, Nat.reduceSub, Nat.reduceLT, Nat.reduceLeDiff, Nat.zero_add, Nat.mul_zero, Nat.add_zero, eq_self, Nat.sub_self, true_and, and_true, true_or, if_true, Bool.false_eq_true, if_false, ne_eq, not_false_eq_true, Nat.zero_lt_succ, Nat.lt_add_one, Nat.succ_lt_succ_iff])
local macro_rules | `(tactic| walk_at "pl") => `(tactic| simp only [Px.asS_lnD, Px.gLen_lnD, Px.asE_lnD, Px.ix_l0, Px.ix_l1, Px.ix_l2])
open PySem PySem.Spec PyProof.Rows L2 Px
section
variable {P : Program} {w : World} {K : Kx} {fg : Fg} {d c l : Addr} {nC : Nat} {tT : List (Addr × Str)} {mg : Str → Option Value} {base : Heap}

abbrev s__law_spot_plus : Stmt := topS 63
theorem sc__law_spot_plus : FnScope ["one", "other"] ["one", "other"] (defScope s__law_spot_plus) := ⟨rfl, rfl, rfl, by decide +kernel, rfl, by decide +kernel, by decide +kernel⟩
theorem bp__law_spot_plus : BindP "_law_spot_plus" s__law_spot_plus ["one", "other"] := fun _ _ _ _ _ _ us hl => match us, hl with | [_, _], _ => rfl
abbrev DD__law_spot_plus (P : Program) (w : World) (K : Kx) (mg : Str → Option Value) (base : Heap) : Prop := Df P w K mg base "_law_spot_plus" s__law_spot_plus ["one", "other"] 4 0 fPtPlus
theorem ok__law_spot_plus (Lf : Lo K mg "_law_spot_plus" s__law_spot_plus) (D__law_plus : DD__law_plus P w K mg base) : DD__law_spot_plus P w K mg base := by
  obtain ⟨fa, fd, hm, Fu⟩ := Lf
  refine ⟨fa, fd, fn_make Fu sc__law_spot_plus (by decide) fun cd A outer s H E hr hg => ⟨_, _, ?_, (ss_cons (s_ret (e_tup (a_cons (e_def D__law_plus bp__law_plus (a_cons (e_ix oIx sIx (nm 0) e_int) (a_cons (e_ix oIx sIx (nm 1) e_int) a_nil))) (a_cons (e_def D__law_plus bp__law_plus (a_cons (e_ix oIx sIx (nm 0) e_int) (a_cons (e_ix oIx sIx (nm 1) e_int) a_nil))) a_nil))))
    ss_nil), fun xs R hl h => ?_⟩, hm, Fu⟩
  · exact Nat.le_of_ble_eq_true rfl
  · obtain ⟨p, q', rfl, ⟨n, m, h1, h2, nm⟩, q⟩ := h
    try (walk_at "px")
    simp only [px0, px1, fPlus_eq h1.1 h2.1, fPlus_eq h1.2 h2.2]
    try (walk_at "px")
    exact q
abbrev s__law_spot_times : Stmt := topS 64
theorem sc__law_spot_times : FnScope ["one", "factor_so"] ["one", "factor_so"] (defScope s__law_spot_times) := ⟨rfl, rfl, rfl, by decide +kernel, rfl, by decide +kernel, by decide +kernel⟩
theorem bp__law_spot_times : BindP "_law_spot_times" s__law_spot_times ["one", "factor_so"] := fun _ _ _ _ _ _ us hl => match us, hl with | [_, _], _ => rfl
abbrev DD__law_spot_times (P : Program) (w : World) (K : Kx) (mg : Str → Option Value) (base : Heap) : Prop := Df P w K mg base "_law_spot_times" s__law_spot_times ["one", "factor_so"] 4 0 fPtTimes
theorem ok__law_spot_times (Lf : Lo K mg "_law_spot_times" s__law_spot_times) (D__law_times : DD__law_times P w K mg base) : DD__law_spot_times P w K mg base := by
  obtain ⟨fa, fd, hm, Fu⟩ := Lf
  refine ⟨fa, fd, fn_make Fu sc__law_spot_times (by decide) fun cd A outer s H E hr hg => ⟨_, _, ?_, (ss_cons (s_ret (e_tup (a_cons (e_def D__law_times bp__law_times (a_cons (e_ix oIx sIx (nm 0) e_int) (a_cons (nm 1) a_nil))) (a_cons (e_def D__law_times bp__law_times (a_cons (e_ix oIx sIx (nm 0) e_int) (a_cons (nm 1) a_nil))) a_nil))))
    ss_nil), fun xs R hl h => ?_⟩, hm, Fu⟩
  · exact Nat.le_of_ble_eq_true rfl
  · obtain ⟨p, r, rfl, ⟨n, m, h1, h2, nm⟩, q⟩ := h
    try (walk_at "px")
    simp only [px0, px1, fTimes_eq h1.1 h2, fTimes_eq h1.2 h2]
    try (walk_at "px")
    exact q
end
end K52

set_option Elab.async false
set_option linter.all false
set_option maxRecDepth 100000
set_option maxHeartbeats 4000000
set_option exponentiation.threshold 10000
namespace K52
local macro_rules | `(tactic| walk_at "px") => `(tactic| simp only [Px.rd, Px.ownAt, Px.frz, Px.fAdd, Px.fSub, Px.fMul, Px.fFdiv, Px.fMod, Px.fPow, Px.fRel, Px.fEq_int, Px.fEq_str, Px.fEq_bool, Px.fEq_fq, Px.fIs, Px.fIsTy, Px.fIx_l, Px.fIx_t, Px.ix0, Px.ix1, Px.at_0, Px.at_1, Px.at_2, Px.at_3, Px.at_4, Px.ex_some, Px.fSl, Px.gLen, Px.gAbs, Px.gInt, Px.gTuple, Px.gList, Px.gGcd, Px.gSum, Px.gMax, Px.gMin, Px.gAll, Px.gAny, Px.gRepr, Px.gTy, Px.tyOf, Px.asB, Px.asTru, Px.truD, Px.asNeg, Px.asI, Px.asL, Px.asT, Px.asS, Px.asR1, Px.asR2, Px.asZ, Px.asZM, Px.asRg, Px.asRgI, Px.blkE, Px.wipeE, Px.unown, Px.asS, Px.asE, Px.asTwo, Px.asApp, Px.allD, Px.gNm, Px.isNon, Px.isSt, Px.pick,
  List.map_cons, List.map_nil, List.length_cons, List.length_nil, List.length_set, List.replicate_succ, List.replicate_zero, List.cons_append, List.nil_append, List.append_nil, List.getElem?_cons_zero, List.getD_cons_zero, List.getD_cons_succ, List.getElem?_cons_succ, List.set_cons_zero, List.set_cons_succ, Nat.reduceAdd, Nat.reduceSub, Nat.reduceLT, Nat.reduceLeDiff, Nat.zero_add, Nat.mul_zero, Nat.add_zero, eq_self, Nat.sub_self, true_and, and_true, true_or, if_true, Bool.false_eq_true, if_false, ne_eq, not_false_eq_true, Nat.zero_lt_succ, Nat.lt_add_one, Nat.succ_lt_succ_iff])
local macro_rules | `(tactic| walk_at "pz") => `(tactic| simp only [Px.at_last, Px.fKind_eq, Px.fPair_eq, Px.fIsFr_eq, Px.fRow_eq, Px.fWithin_eq, Px.fmOf_mg, Px.isFr_fq, Px.isTy, decide_true, Bool.not_true, Bool.not_false, Bool.and_true, Bool.true_and, Bool.false_and, Bool.and_false, Bool.or_false, Bool.or_true, Px.px0, Px.px1, Px.fNeedPt_eq, Px.fNeedFr_eq, Px.isSt, List.length_append, List.getElem?_map, and_self, Px.map_d, Px.pairs_map, Px.enumD_map, Px.rd, Px.ownAt, Px.frz, Px.fAdd, Px.fSub, Px.fMul, Px.fFdiv, Px.fMod, Px.fPow, Px.fRel, Px.fEq_int, Px.fEq_str, Px.fEq_bool, Px.fEq_fq, Px.fIs, Px.fIsTy, Px.fIx_l, Px.fIx_t, Px.ix0, Px.ix1, Px.at_0, Px.at_1, Px.at_2, Px.at_3, Px.at_4, Px.ex_some, Px.fSl, Px.gLen_l, Px.gLen_t, Px.gLen_tab, Px.gLen_row, Px.gLen_sh, Px.asS_tab, Px.asS_row, Px.asS_sh, Px.asE_tab, Px.asE_row, Px.asE_sh, Px.asZ_tab, Px.asZ_row, Px.ix_tab0, Px.ix_c0, Px.ix_c1, Px.gAbs, Px.gInt, Px.gTuple_l, Px.gTuple_t, Px.gList_l, Px.gList_t, Px.gGcd, Px.gSum, Px.gMax, Px.gMin, Px.gAll, Px.gAny, Px.gRepr, Px.gTy, Px.tyOf, Px.asB, Px.asTru, Px.truD, Px.asNeg, Px.asI, Px.asL, Px.asT, Px.asS_l, Px.asS_t, Px.asR1, Px.asR2, Px.asZ, Px.asZ_ll, Px.asZ_tt, Px.asZ_lt, Px.asRg, Px.asRgI, Px.blkE, Px.wipeE, Px.unown, Px.asE_l, Px.asE_t, Px.asTwo, Px.asApp, Px.allD, Px.gNm, Px.isNon, Px.isSt, Px.pick,
  List.map_cons, List.map_nil, List.length_cons, List.length_nil, List.length_set, List.replicate_succ, List.replicate_zero, List.cons_append, List.nil_append, List.append_nil, List.getElem?_cons_zero, List.getD_cons_zero, List.getD_cons_succ, List.getElem?_cons_succ, List.set_cons_zero, List.set_cons_succ, Nat.reduceAdd, Nat.reduceSub, Nat.reduceLT, Nat.reduceLeDiff, Nat.zero_add, Nat.mul_zero, Nat.add_zero, eq_self, Nat.sub_self, true_and, and_true, true_or, if_true, Bool.false_eq_true, if_false, ne_eq, not_false_eq_true, Nat.zero_lt_succ, Nat.lt_add_one, Nat.succ_lt_succ_iff])
local macro_rules | `(tactic| walk_at "pu") => `(tactic| simp only [Px.rd, Px.ownAt, Px.frz, Px.asR1, Px.asR2, Px.asRg, Px.asRgI, Px.blkE, Px.wipeE, Px.unown, Px.asApp, Px.gNm, Px.isNon, Px.isSt,
  List.map_cons, List.map_nil, List.length_cons, List.length_nil, List.length_set, List.replicate_succ, List.replicate_zero, List.cons_append, List.nil_append, List.append_nil, List.getElem?_cons_zero, List.getD_cons_zero, List.getD_cons_succ, List.getElem?_cons_succ, List.set_cons_zero, List.set_cons_succ, Nat.reduceAdd, Nat.reduceSub, Nat.reduceLT, Nat.reduceLeDiff, Nat.zero_add, Nat.mul_zero, Nat.add_zero, eq_self, Nat.sub_self, true_and, and_true, true_or, if_true, Bool.false_eq_true, if_false, ne_eq, not_false_eq_true, Nat.zero_lt_succ, Nat.lt_add_one, Nat.succ_lt_succ_iff])
local macro_rules | `(tactic| walk_at "pl") => `(tactic| simp only [Px.asS_lnD, Px.gLen_lnD, Px.asE_lnD, Px.ix_l0, Px.ix_l1, Px.ix_l2])
open PySem PySem.Spec PyProof.Rows L2 Px
section
variable {P : Program} {w : World} {K : Kx} {fg : Fg} {d c l : Addr} {nC : Nat} {tT : List (Addr × Str)} {mg : Str → Option Value} {base : Heap}

abbrev s_is_int_within : Stmt := topS 10
theorem sc_is_int_within : FnScope ["value", "least", "most"] ["value", "least", "most"] (defScope s_is_int_within) := ⟨rfl, rfl, rfl, by decide +kernel, rfl, by decide +kernel, by decide +kernel⟩
theorem bp_is_int_within : BindP "is_int_within" s_is_int_within ["value", "least", "most"] := fun _ _ _ _ _ _ us hl => match us, hl with | [_, _, _], _ => rfl
abbrev DD_is_int_within (P : Program) (w : World) (K : Kx) (mg : Str → Option Value) (base : Heap) : Prop := Df P w K mg base "is_int_within" s_is_int_within ["value", "least", "most"] 2 0 fWithin
theorem ok_is_int_within (Lf : Lo K mg "is_int_within" s_is_int_within) (D_is_int : DD_is_int P w K mg base) : DD_is_int_within P w K mg base := by
  obtain ⟨fa, fd, hm, Fu⟩ := Lf
  refine ⟨fa, fd, fn_make Fu sc_is_int_within (by decide) fun cd A outer s H E hr hg => ⟨_, _, ?_, (ss_cons (s_ret (e_and (e_def D_is_int bp_is_int (a_cons (nm 0) a_nil)) (e_one (e_chain oLe sRel oLe sRel (nm 1) (nm 0) (nm 2)))))
    ss_nil), fun xs R hl h => ?_⟩, hm, Fu⟩
  · exact Nat.le_of_ble_eq_true rfl
  · obtain ⟨i, l, m, rfl, q⟩ := h
    try (walk_at "pz")
    by_cases z : l ≤ i
    · simpa [z] using q
    · simpa [z] using q
abbrev s_is_pay : Stmt := topS 29
theorem sc_is_pay : FnScope ["value", "number"] ["value"] (defScope s_is_pay) := ⟨rfl, rfl, rfl, by decide +kernel, rfl, by decide +kernel, by decide +kernel⟩
theorem bp_is_pay : BindP "is_pay" s_is_pay ["value"] := fun _ _ _ _ _ _ us hl => match us, hl with | [_], _ => rfl
abbrev DD_is_pay (P : Program) (w : World) (K : Kx) (mg : Str → Option Value) (base : Heap) : Prop := Df P w K mg base "is_pay" s_is_pay ["value"] 4 0 fIsPay
theorem ok_is_pay (Lf : Lo K mg "is_pay" s_is_pay) (m_all : mg "all" = none) (c_MOST_PAID : Cn K mg "MOST_PAID" (.int 100)) (D_is_pair : DD_is_pair P w K mg base) (D_is_int_within : DD_is_int_within P w K mg base) : DD_is_pay P w K mg base := by
  obtain ⟨fa, fd, hm, Fu⟩ := Lf
  refine ⟨fa, fd, fn_make Fu sc_is_pay (by decide) fun cd A outer s H E hr hg => ⟨_, _, ?_, (ss_cons (s_if (t_not (t_val (e_def D_is_pair bp_is_pair (a_cons (nm 0) a_nil)))) (ss_cons (s_ret e_bool)
    ss_nil) ss_nil)
    (ss_cons (s_ret (e_callB cAll sAll m_all (by decide +kernel) (a_cons (e_l (l_lc [("number", 1)] (i_seq (nm 0)) (fun _ => blkOk_by (N := ["value", "number"]) (sc := defScope s_is_pay) (by decide +kernel)) (tn 1) ts_nil (e_def D_is_int_within bp_is_int_within (a_cons (nm 1) (a_cons (e_neg (e_con c_MOST_PAID)) (a_cons (e_con c_MOST_PAID) a_nil)))))) a_nil)))
    ss_nil)), fun xs R hl h => ?_⟩, hm, Fu⟩
  · exact Nat.le_of_ble_eq_true rfl
  · obtain ⟨c', rfl, hc, q⟩ := h
    obtain ⟨⟨h1, h2⟩, h3, h4⟩ := hc
    try (walk_at "pz")
    have e : isRow (cellD c') 2 2 = true := rfl
    simp only [e, asTru, truD, Bool.not_true, Bool.false_eq_true, if_false]
    unfold cellD
    try (walk_at "pz")
    simp only [lcF]
    try (walk_at "pz")
    refine ⟨[_, _], rfl, ?_⟩
    simpa [h1, h2, h3, h4] using q
abbrev s_wrong_place : Stmt := topS 14
theorem sc_wrong_place : FnScope ["table", "is_thing", "act", "row", "answer", "thing"] ["table", "is_thing"] (defScope s_wrong_place) := ⟨rfl, rfl, rfl, by decide +kernel, rfl, by decide +kernel, by decide +kernel⟩
theorem bp_wrong_place : BindP "wrong_place" s_wrong_place ["table", "is_thing"] := fun _ _ _ _ _ _ us hl => match us, hl with | [_, _], _ => rfl
abbrev DD_wrong_place__is_pay (P : Program) (w : World) (K : Kx) (mg : Str → Option Value) (base : Heap) : Prop := Df P w K mg base "wrong_place" s_wrong_place ["table", "is_thing"] 5 0 (fWrongPay mg)
theorem ok_wrong_place__is_pay (Lf : Lo K mg "wrong_place" s_wrong_place) (m_len : mg "len" = none) (m_enumerate : mg "enumerate" = none) (c_MOST_ACTS : Cn K mg "MOST_ACTS" (.int 4)) (c_MOST_ANSWERS : Cn K mg "MOST_ANSWERS" (.int 4)) (D_is_row : DD_is_row P w K mg base) (D_is_pay : DD_is_pay P w K mg base) : DD_wrong_place__is_pay P w K mg base := by
  obtain ⟨fa, fd, hm, Fu⟩ := Lf
  refine ⟨fa, fd, fn_make Fu sc_wrong_place (by decide) fun cd A outer s H E hr hg => ⟨_, _, ?_, (ss_cons (s_if (t_not (t_val (e_def D_is_row bp_is_row (a_cons (nm 0) (a_cons e_int (a_cons (e_con c_MOST_ACTS) a_nil)))))) (ss_cons (s_ret (e_tup a_nil))
    ss_nil) ss_nil)
    (ss_cons (s_for (i_enum m_enumerate (a_cons (nm 0) a_nil)) (g_tup (gs_cons (tn 2) (gs_cons (tn 3) gs_nil)) rfl fun c h => pg_tup c h) (ss_cons (s_if (t_w (w_or (t_not (t_val (e_def D_is_row bp_is_row (a_cons (nm 3) (a_cons e_int (a_cons (e_con c_MOST_ANSWERS) a_nil)))))) (w_one2 (t_cmp oNe sNe (e_callB cLen sLen m_len (by decide +kernel) (a_cons (nm 3) a_nil)) (e_callB cLen sLen m_len (by decide +kernel) (a_cons (e_ix oIx sIx (nm 0) e_int) a_nil)))))) (ss_cons (s_ret (e_tup (a_cons (nm 2) a_nil)))
    ss_nil) ss_nil)
    (ss_cons (s_for (i_enum m_enumerate (a_cons (nm 3) a_nil)) (g_tup (gs_cons (tn 4) (gs_cons (tn 5) gs_nil)) rfl fun c h => pg_tup c h) (ss_cons (s_if (t_not (t_val (e_callV D_is_pay 1 bp_is_pay (a_cons (nm 5) a_nil)))) (ss_cons (s_ret (e_tup (a_cons (nm 2) (a_cons (nm 4) a_nil))))
    ss_nil) ss_nil)
    ss_nil))
    ss_nil)))
    (ss_cons (s_ret e_none)
    ss_nil))), fun xs R hl h => ?_⟩, hm, Fu⟩
  · exact Nat.le_of_ble_eq_true rfl
  · obtain ⟨n, w, T, ga, rfl, hga, hT, q⟩ := h
    have l1 := hT.n1
    have l4 := hT.n4
    have ll := hT.len
    have w1 := hT.w1
    have w4 := hT.w4
    have e : isRow (tabD T) 1 4 = true := by simp only [isRow, tabD, List.length_map, Bool.and_eq_true, decide_eq_true_eq]; omega
    try (walk_at "pz")
    simp only [e]
    try (walk_at "pz")
    refine loop_over' (fun p : List Cell × Nat => Vl.d (.tuple [.int (p.2 : Nat), rowD p.1])) T.zipIdx (fun _ ρ => ∃ s2 s3 s4 s5, ρ = [.v (.d (tabD T)), .v (.o (.ref ga)), s2, s3, s4, s5]) ?_ ?_ _ ⟨_, _, _, _, rfl⟩
    · rintro i hi ρ L hL ⟨s2, s3, s4, s5, rfl⟩
      have hr : (T.zipIdx[i]).1 ∈ T := by simp
      generalize T.zipIdx[i] = pr at hr ⊢
      have er := hT.row _ hr
      have e2 : isRow (rowD pr.1) 1 4 = true := by simp only [isRow, rowD, List.length_map, Bool.and_eq_true, decide_eq_true_eq]; omega
      obtain ⟨r0, T', rfl⟩ : ∃ r0 T', T = r0 :: T' := by
        cases T with
        | nil => simp at ll; omega
        | cons r0 T' => exact ⟨_, _, rfl⟩
      have e0 := hT.row r0 (by simp)
      try (walk_at "pz")
      simp only [e2]
      try (walk_at "pz")
      simp only [er, e0]
      try (walk_at "pz")
      refine loop_over' (fun p : Cell × Nat => Vl.d (.tuple [.int (p.2 : Nat), cellD p.1])) pr.1.zipIdx (fun _ ρ => ∃ s2 s3 s4 s5, ρ = [.v (.d (tabD (r0 :: T'))), .v (.o (.ref ga)), s2, s3, s4, s5]) ?_ ?_ _ ⟨_, _, _, _, rfl⟩
      · rintro j hj ρ L2 hL2 ⟨s2, s3, s4, s5, rfl⟩
        have hc : (pr.1.zipIdx[j]).1 ∈ pr.1 := by simp
        generalize pr.1.zipIdx[j] = pc at hc ⊢
        try (walk_at "pz")
        refine ⟨⟨ga, hga, rfl⟩, ?_⟩
        rw [fIsPay_eq (hT.cell _ hr _ hc)]
        try (walk_at "pz")
        exact hL2 _ ⟨_, _, _, _, rfl⟩
      · rintro ρ ⟨s2, s3, s4, s5, rfl⟩
        exact hL _ ⟨_, _, _, _, rfl⟩
    · rintro ρ ⟨s2, s3, s4, s5, rfl⟩
      try (walk_at "pz")
      exact q
abbrev s_need_pays : Stmt := topS 30
theorem sc_need_pays : FnScope ["pays", "place"] ["pays"] (defScope s_need_pays) := ⟨rfl, rfl, rfl, by decide +kernel, rfl, by decide +kernel, by decide +kernel⟩
theorem bp_need_pays : BindP "need_pays" s_need_pays ["pays"] := fun _ _ _ _ _ _ us hl => match us, hl with | [_], _ => rfl
abbrev DD_need_pays (P : Program) (w : World) (K : Kx) (mg : Str → Option Value) (base : Heap) : Prop := Df P w K mg base "need_pays" s_need_pays ["pays"] 6 0 fNeedPays
theorem ok_need_pays (Lf : Lo K mg "need_pays" s_need_pays) (D_wrong_place__is_pay : DD_wrong_place__is_pay P w K mg base) (D_is_pay : DD_is_pay P w K mg base) : DD_need_pays P w K mg base := by
  obtain ⟨fa, fd, hm, Fu⟩ := Lf
  refine ⟨fa, fd, fn_make Fu sc_need_pays (by decide) fun cd A outer s H E hr hg => ⟨_, _, ?_, (ss_cons (s_set 1 rfl (e_def D_wrong_place__is_pay bp_wrong_place (a_cons (nm 0) (a_cons (e_fn D_is_pay) a_nil))))
    (ss_cons (s_if (t_cmp oIsNot sIsNot (nm 1) e_none) (ss_cons s_never
    ss_nil) ss_nil)
    (ss_cons (s_ret (nm 0))
    ss_nil))), fun xs R hl h => ?_⟩, hm, Fu⟩
  · exact Nat.le_of_ble_eq_true rfl
  · obtain ⟨n, w, T, rfl, hT, q⟩ := h
    try (walk_at "pz")
    refine fun ga hga => ⟨n, w, T, ga, rfl, hga, hT, ?_⟩
    try (walk_at "pz")
    exact q
abbrev s_are_shares : Stmt := topS 25
theorem sc_are_shares : FnScope ["value", "many", "total", "share"] ["value", "many"] (defScope s_are_shares) := ⟨rfl, rfl, rfl, by decide +kernel, rfl, by decide +kernel, by decide +kernel⟩
theorem bp_are_shares : BindP "are_shares" s_are_shares ["value", "many"] := fun _ _ _ _ _ _ us hl => match us, hl with | [_, _], _ => rfl
abbrev DD_are_shares (P : Program) (w : World) (K : Kx) (mg : Str → Option Value) (base : Heap) : Prop := Df P w K mg base "are_shares" s_are_shares ["value", "many"] 7 0 fShares
theorem ok_are_shares (Lf : Lo K mg "are_shares" s_are_shares) (c_NOUGHT : Cn K mg "NOUGHT" (fq 0)) (c_UNIT : Cn K mg "UNIT" (fq 1)) (D_is_row : DD_is_row P w K mg base) (D_is_fraction : DD_is_fraction P w K mg base) (D_plus : DD_plus P w K mg base) : DD_are_shares P w K mg base := by
  obtain ⟨fa, fd, hm, Fu⟩ := Lf
  refine ⟨fa, fd, fn_make Fu sc_are_shares (by decide) fun cd A outer s H E hr hg => ⟨_, _, ?_, (ss_cons (s_if (t_not (t_val (e_def D_is_row bp_is_row (a_cons (nm 0) (a_cons (nm 1) (a_cons (nm 1) a_nil)))))) (ss_cons (s_ret e_bool)
    ss_nil) ss_nil)
    (ss_cons (s_set 2 rfl (e_con c_NOUGHT))
    (ss_cons (s_for (i_seq (nm 0)) (tn 3) (ss_cons (s_if (t_w (w_or (t_not (t_val (e_def D_is_fraction bp_is_fraction (a_cons (nm 3) a_nil)))) (w_one2 (t_cmp oLt sRel (e_ix oIx sIx (nm 3) e_int) e_int)))) (ss_cons (s_ret e_bool)
    ss_nil) ss_nil)
    (ss_cons (s_set 2 rfl (e_def D_plus bp_plus (a_cons (nm 2) (a_cons (nm 3) a_nil))))
    ss_nil)))
    (ss_cons (s_ret (e_cmp oEq sEq (nm 2) (e_con c_UNIT)))
    ss_nil)))), fun xs R hl h => ?_⟩, hm, Fu⟩
  · exact Nat.le_of_ble_eq_true rfl
  · obtain ⟨n, qs, rfl, hn, hs, q⟩ := h
    have e : isRow (shD qs) n n = true := by simp only [isRow, shD, List.length_map, Bool.and_eq_true, decide_eq_true_eq, hs.len]; omega
    try (walk_at "pz")
    simp only [e]
    try (walk_at "pz")
    refine loop_over' (fun q : Rat => Vl.d (fq q)) qs (fun k ρ => ∃ t m s3, ρ = [.v (.d (shD qs)), .v (.d (.int (n : Nat))), .v (.d (fq t)), s3] ∧ t + sm (qs.drop k) id = 1 ∧ Fb m t ∧ m ≤ 1 + 6 * k) ?_ ?_ _ ⟨0, 1, _, rfl, by rw [List.drop_zero, hs.sum]; grind, fz 1 (by decide), by omega⟩
    · rintro k hk ρ L hL ⟨t, m, s3, rfl, ht, hb, hm⟩
      have hq := hs.bd _ (List.getElem_mem hk)
      have h0 := hs.nn _ (List.getElem_mem hk)
      have hn0 : ¬ (qs[k]).num < 0 := by have := Rat.num_nonneg.mpr h0; omega
      have hl := hs.len
      rw [List.drop_eq_getElem_cons hk] at ht
      generalize qs[k] = v at hq h0 hn0 ht ⊢
      try (walk_at "pz")
      have hn1 : ¬ decide (v.num < 0) = true := by simpa using hn0
      rw [if_neg hn1]
      rw [fPlus_eq hb hq]
      try (walk_at "pz")
      refine hL _ ⟨t + v, m + 5 + 1, _, rfl, ?_, add2 hb hq, by omega⟩
      simp only [sm, id] at ht
      rw [← ht]
      grind
    · rintro ρ ⟨t, m, s3, rfl, ht, hb, hm⟩
      have e1 : t = 1 := by
        rw [List.drop_length] at ht
        simp only [sm] at ht
        grind
      subst e1
      try (walk_at "pz")
      simpa using q
abbrev s_need_dice : Stmt := topS 31
theorem sc_need_dice : FnScope ["pays", "dice"] ["pays", "dice"] (defScope s_need_dice) := ⟨rfl, rfl, rfl, by decide +kernel, rfl, by decide +kernel, by decide +kernel⟩
theorem bp_need_dice : BindP "need_dice" s_need_dice ["pays", "dice"] := fun _ _ _ _ _ _ us hl => match us, hl with | [_, _], _ => rfl
abbrev DD_need_dice (P : Program) (w : World) (K : Kx) (mg : Str → Option Value) (base : Heap) : Prop := Df P w K mg base "need_dice" s_need_dice ["pays", "dice"] 8 0 fNeedDice
theorem ok_need_dice (Lf : Lo K mg "need_dice" s_need_dice) (m_len : mg "len" = none) (D_need_pays : DD_need_pays P w K mg base) (D_are_shares : DD_are_shares P w K mg base) : DD_need_dice P w K mg base := by
  obtain ⟨fa, fd, hm, Fu⟩ := Lf
  refine ⟨fa, fd, fn_make Fu sc_need_dice (by decide) fun cd A outer s H E hr hg => ⟨_, _, ?_, (ss_cons (s_expr (e_def D_need_pays bp_need_pays (a_cons (nm 0) a_nil)))
    (ss_cons (s_if (t_not (t_val (e_def D_are_shares bp_are_shares (a_cons (nm 1) (a_cons (e_callB cLen sLen m_len (by decide +kernel) (a_cons (nm 0) a_nil)) a_nil))))) (ss_cons s_never
    ss_nil) ss_nil)
    (ss_cons (s_ret (nm 1))
    ss_nil))), fun xs R hl h => ?_⟩, hm, Fu⟩
  · exact Nat.le_of_ble_eq_true rfl
  · obtain ⟨n, w, T, qs, rfl, hT, hs, q⟩ := h
    try (walk_at "pz")
    refine ⟨n, w, T, rfl, hT, ?_⟩
    try (walk_at "pz")
    refine ⟨n, qs, by rw [hT.len], hT.n4, hs, ?_⟩
    try (walk_at "pz")
    exact q
abbrev s_whole_point : Stmt := topS 32
theorem sc_whole_point : FnScope ["pay"] ["pay"] (defScope s_whole_point) := ⟨rfl, rfl, rfl, by decide +kernel, rfl, by decide +kernel, by decide +kernel⟩
theorem bp_whole_point : BindP "whole_point" s_whole_point ["pay"] := fun _ _ _ _ _ _ us hl => match us, hl with | [_], _ => rfl
abbrev DD_whole_point (P : Program) (w : World) (K : Kx) (mg : Str → Option Value) (base : Heap) : Prop := Df P w K mg base "whole_point" s_whole_point ["pay"] 1 0 fWholePt
theorem ok_whole_point (Lf : Lo K mg "whole_point" s_whole_point)  : DD_whole_point P w K mg base := by
  obtain ⟨fa, fd, hm, Fu⟩ := Lf
  refine ⟨fa, fd, fn_make Fu sc_whole_point (by decide) fun cd A outer s H E hr hg => ⟨_, _, ?_, (ss_cons (s_ret (e_tup (a_cons (e_tup (a_cons (e_ix oIx sIx (nm 0) e_int) (a_cons e_int a_nil))) (a_cons (e_tup (a_cons (e_ix oIx sIx (nm 0) e_int) (a_cons e_int a_nil))) a_nil))))
    ss_nil), fun xs R hl h => ?_⟩, hm, Fu⟩
  · exact Nat.le_of_ble_eq_true rfl
  · obtain ⟨c', rfl, q⟩ := h
    try (walk_at "pz")
    exact q
abbrev s_weighed : Stmt := topS 26
theorem sc_weighed : FnScope ["values", "shares", "total", "value", "share"] ["values", "shares"] (defScope s_weighed) := ⟨rfl, rfl, rfl, by decide +kernel, rfl, by decide +kernel, by decide +kernel⟩
theorem bp_weighed : BindP "weighed" s_weighed ["values", "shares"] := fun _ _ _ _ _ _ us hl => match us, hl with | [_, _], _ => rfl
abbrev DD_weighed (P : Program) (w : World) (K : Kx) (mg : Str → Option Value) (base : Heap) : Prop := Df P w K mg base "weighed" s_weighed ["values", "shares"] 7 0 fWeighed
theorem ok_weighed (Lf : Lo K mg "weighed" s_weighed) (m_zip : mg "zip" = none) (c_NOUGHT : Cn K mg "NOUGHT" (fq 0)) (D_plus : DD_plus P w K mg base) (D_times : DD_times P w K mg base) : DD_weighed P w K mg base := by
  obtain ⟨fa, fd, hm, Fu⟩ := Lf
  refine ⟨fa, fd, fn_make Fu sc_weighed (by decide) fun cd A outer s H E hr hg => ⟨_, _, ?_, (ss_cons (s_set 2 rfl (e_con c_NOUGHT))
    (ss_cons (s_for (i_zipM m_zip (a_cons (nm 0) (a_cons (nm 1) a_nil))) (g_tup (gs_cons (tn 3) (gs_cons (tn 4) gs_nil)) rfl fun c h => pg_tup c h) (ss_cons (s_set 2 rfl (e_def D_plus bp_plus (a_cons (nm 2) (a_cons (e_def D_times bp_times (a_cons (nm 3) (a_cons (nm 4) a_nil))) a_nil))))
    ss_nil))
    (ss_cons (s_ret (nm 2))
    ss_nil))), fun xs R hl h => ?_⟩, hm, Fu⟩
  · exact Nat.le_of_ble_eq_true rfl
  · obtain ⟨vs, ss, a, b, hx, hv, hs, hn, q⟩ := h
    have hz : (vs.zip ss).length ≤ vs.length := by rw [List.length_zip]; omega
    have fin : (a + b + 1) * (vs.zip ss).length ≤ (a + b + 1) * vs.length := Nat.mul_le_mul_left _ hz
    rcases hx with rfl | rfl
    all_goals
      try (walk_at "pz")
      refine loop_over' (fun p : Rat × Rat => Vl.d (.tuple [fq p.1, fq p.2])) (vs.zip ss) (fun k ρ => ∃ s0 s1 t m s3 s4, ρ = [s0, s1, .v (.d (fq t)), s3, s4] ∧ t + sm ((vs.zip ss).drop k) (fun p => p.1 * p.2) = dot vs ss ∧ Fb m t ∧ m ≤ 1 + (a + b + 1) * k) ?_ ?_ _ ⟨_, _, 0, 1, _, _, rfl, by rw [List.drop_zero, dot]; grind, fz 1 (by decide), by omega⟩
      · rintro k hk ρ L hL ⟨s0, s1, t, m, s3, s4, rfl, ht, hb, hm⟩
        have h1 : Fb a ((vs.zip ss)[k]).1 := hv _ (List.of_mem_zip (List.getElem_mem hk)).1
        have h2 : Fb b ((vs.zip ss)[k]).2 := hs _ (List.of_mem_zip (List.getElem_mem hk)).2
        rw [List.drop_eq_getElem_cons hk] at ht
        generalize (vs.zip ss)[k] = pr at h1 h2 ht ⊢
        have b3 := h1.mul h2
        have hk' : (a + b + 1) * (k + 1) ≤ (a + b + 1) * (vs.zip ss).length := Nat.mul_le_mul_left _ hk
        rw [Nat.mul_succ] at hk'
        try (walk_at "pz")
        rw [fTimes_eq h1 h2 (by have : a + b ≤ 7000 := by omega
                                omega), fPlus_eq hb b3 (by omega)]
        try (walk_at "pz")
        refine hL _ ⟨_, _, _, _, _, _, rfl, ?_, add2 hb b3, by rw [Nat.mul_succ]; omega⟩
        simp only [sm] at ht
        rw [← ht]
        grind
      · rintro ρ ⟨s0, s1, t, m, s3, s4, rfl, ht, hb, hm⟩
        have e1 : t = dot vs ss := by
          rw [List.drop_length] at ht
          simp only [sm] at ht
          grind
        subst e1
        try (walk_at "pz")
        exact q
abbrev s_weighed_points : Stmt := topS 33
theorem sc_weighed_points : FnScope ["points", "shares", "across", "up", "point"] ["points", "shares"] (defScope s_weighed_points) := ⟨rfl, rfl, rfl, by decide +kernel, rfl, by decide +kernel, by decide +kernel⟩
theorem bp_weighed_points : BindP "weighed_points" s_weighed_points ["points", "shares"] := fun _ _ _ _ _ _ us hl => match us, hl with | [_, _], _ => rfl
abbrev DD_weighed_points (P : Program) (w : World) (K : Kx) (mg : Str → Option Value) (base : Heap) : Prop := Df P w K mg base "weighed_points" s_weighed_points ["points", "shares"] 8 0 fWPts
theorem ok_weighed_points (Lf : Lo K mg "weighed_points" s_weighed_points) (D_weighed : DD_weighed P w K mg base) : DD_weighed_points P w K mg base := by
  obtain ⟨fa, fd, hm, Fu⟩ := Lf
  refine ⟨fa, fd, fn_make Fu sc_weighed_points (by decide) fun cd A outer s H E hr hg => ⟨_, _, ?_, (ss_cons (s_set 2 rfl (e_def D_weighed bp_weighed (a_cons (e_l (l_lc [("point", 4)] (i_seq (nm 0)) (fun _ => blkOk_by (N := ["points", "shares", "across", "up", "point"]) (sc := defScope s_weighed_points) (by decide +kernel)) (tn 4) ts_nil (e_ix oIx sIx (nm 4) e_int))) (a_cons (nm 1) a_nil))))
    (ss_cons (s_set 3 rfl (e_def D_weighed bp_weighed (a_cons (e_l (l_lc [("point", 4)] (i_seq (nm 0)) (fun _ => blkOk_by (N := ["points", "shares", "across", "up", "point"]) (sc := defScope s_weighed_points) (by decide +kernel)) (tn 4) ts_nil (e_ix oIx sIx (nm 4) e_int))) (a_cons (nm 1) a_nil))))
    (ss_cons (s_ret (e_tup (a_cons (nm 2) (a_cons (nm 3) a_nil))))
    ss_nil))), fun xs R hl h => ?_⟩, hm, Fu⟩
  · exact Nat.le_of_ble_eq_true rfl
  · obtain ⟨ps, ss, a, b, rfl, hp, hs, hn, hl2, q⟩ := h
    try (walk_at "pz")
    refine ⟨by simp; omega, lc_map (fun p => Vl.d (pt p)) (fun p => fq p.1) ps [] _ (fun p hp' T T' hT => ?_) ?_⟩
    · try (walk_at "pz")
      exact hT
    simp only [List.nil_append]
    refine ⟨ps.map (·.1), ss, a, b, .inl (by rw [List.map_map]; rfl), fun v hv => ?_, hs, by rw [List.length_map]; exact hn, ?_⟩
    · obtain ⟨p, hp', rfl⟩ := List.mem_map.mp hv
      exact (hp p hp').1
    try (walk_at "pz")
    refine ⟨by simp; omega, lc_map (fun p => Vl.d (pt p)) (fun p => fq p.2) ps [] _ (fun p hp' T T' hT => ?_) ?_⟩
    · try (walk_at "pz")
      exact hT
    simp only [List.nil_append]
    refine ⟨ps.map (·.2), ss, a, b, .inl (by rw [List.map_map]; rfl), fun v hv => ?_, hs, by rw [List.length_map]; exact hn, ?_⟩
    · obtain ⟨p, hp', rfl⟩ := List.mem_map.mp hv
      exact (hp p hp').2
    try (walk_at "pz")
    exact q
abbrev s_pay_at : Stmt := topS 34
theorem sc_pay_at : FnScope ["pays", "dice", "answer", "act"] ["pays", "dice", "answer"] (defScope s_pay_at) := ⟨rfl, rfl, rfl, by decide +kernel, rfl, by decide +kernel, by decide +kernel⟩
theorem bp_pay_at : BindP "pay_at" s_pay_at ["pays", "dice", "answer"] := fun _ _ _ _ _ _ us hl => match us, hl with | [_, _, _], _ => rfl
abbrev DD_pay_at (P : Program) (w : World) (K : Kx) (mg : Str → Option Value) (base : Heap) : Prop := Df P w K mg base "pay_at" s_pay_at ["pays", "dice", "answer"] 9 0 fPay
theorem ok_pay_at (Lf : Lo K mg "pay_at" s_pay_at) (D_weighed_points : DD_weighed_points P w K mg base) (D_whole_point : DD_whole_point P w K mg base) : DD_pay_at P w K mg base := by
  obtain ⟨fa, fd, hm, Fu⟩ := Lf
  refine ⟨fa, fd, fn_make Fu sc_pay_at (by decide) fun cd A outer s H E hr hg => ⟨_, _, ?_, (ss_cons (s_ret (e_def D_weighed_points bp_weighed_points (a_cons (e_l (l_lc [("act", 3)] (i_seq (nm 0)) (fun _ => blkOk_by (N := ["pays", "dice", "answer", "act"]) (sc := defScope s_pay_at) (by decide +kernel)) (tn 3) ts_nil (e_def D_whole_point bp_whole_point (a_cons (e_ix oIx sIx (nm 3) (nm 2)) a_nil)))) (a_cons (nm 1) a_nil))))
    ss_nil), fun xs R hl h => ?_⟩, hm, Fu⟩
  · exact Nat.le_of_ble_eq_true rfl
  · obtain ⟨n, w, T, qs, j, rfl, hT, hs, hj, q⟩ := h
    have l4 := hT.n4
    have ll := hT.len
    try (walk_at "pz")
    refine ⟨by simp; omega, lc_map (fun r => Vl.d (rowD r)) (fun r => pt (cq (nth r j))) T [] _ (fun r hr T1 T2 hT1 => ?_) ?_⟩
    · try (walk_at "pz")
      rw [ix_row (by rw [hT.row r hr]; exact hj)]
      exact ⟨_, rfl, hT1⟩
    simp only [List.nil_append]
    refine ⟨T.map fun r => cq (nth r j), qs, 7, 5, by rw [List.map_map]; rfl, fun p hp => ?_, hs.bd, by rw [List.length_map]; omega, by rw [List.length_map]; omega, ?_⟩
    · obtain ⟨r, hr, rfl⟩ := List.mem_map.mp hp
      exact cq_b (nth_ok hT hr hj)
    · rw [dotP, List.map_map, List.map_map]
      exact q
end
end K52

set_option Elab.async false
set_option linter.all false
set_option maxRecDepth 100000
set_option maxHeartbeats 4000000
set_option exponentiation.threshold 10000
namespace K52
local macro_rules | `(tactic| walk_at "px") => `(tactic| simp only [Px.rd, Px.ownAt, Px.frz, Px.fAdd, Px.fSub, Px.fMul, Px.fFdiv, Px.fMod, Px.fPow, Px.fRel, Px.fEq_int, Px.fEq_str, Px.fEq_bool, Px.fEq_fq, Px.fIs, Px.fIsTy, Px.fIx_l, Px.fIx_t, Px.ix0, Px.ix1, Px.at_0, Px.at_1, Px.at_2, Px.at_3, Px.at_4, Px.ex_some, Px.fSl, Px.gLen, Px.gAbs, Px.gInt, Px.gTuple, Px.gList, Px.gGcd, Px.gSum, Px.gMax, Px.gMin, Px.gAll, Px.gAny, Px.gRepr, Px.gTy, Px.tyOf, Px.asB, Px.asTru, Px.truD, Px.asNeg, Px.asI, Px.asL, Px.asT, Px.asS, Px.asR1, Px.asR2, Px.asZ, Px.asZM, Px.asRg, Px.asRgI, Px.blkE, Px.wipeE, Px.unown, Px.asS, Px.asE, Px.asTwo, Px.asApp, Px.allD, Px.gNm, Px.isNon, Px.isSt, Px.pick,
  List.map_cons, List.map_nil, List.length_cons, List.length_nil, List.length_set, List.replicate_succ, List.replicate_zero, List.cons_append, List.nil_append, List.append_nil, List.getElem?_cons_zero, List.getD_cons_zero, List.getD_cons_succ, List.getElem?_cons_succ, List.set_cons_zero, List.set_cons_succ, Nat.reduceAdd, Nat.reduceSub, Nat.reduceLT, Nat.reduceLeDiff, Nat.zero_add, Nat.mul_zero, Nat.add_zero, eq_self, Nat.sub_self, true_and, and_true, true_or, if_true, Bool.false_eq_true, if_false, ne_eq, not_false_eq_true, Nat.zero_lt_succ, Nat.lt_add_one, Nat.succ_lt_succ_iff])
local macro_rules | `(tactic| walk_at "pz") => `(tactic| simp only [Px.at_last, Px.fKind_eq, Px.fPair_eq, Px.fIsFr_eq, Px.fRow_eq, Px.fWithin_eq, Px.fmOf_mg, Px.isFr_fq, Px.isTy, decide_true, Bool.not_true, Bool.not_false, Bool.and_true, Bool.true_and, Bool.false_and, Bool.and_false, Bool.or_false, Bool.or_true, Px.px0, Px.px1, Px.fNeedPt_eq, Px.fNeedFr_eq, Px.isSt, List.length_append, List.getElem?_map, and_self, Px.map_d, Px.pairs_map, Px.enumD_map, Px.rd, Px.ownAt, Px.frz, Px.fAdd, Px.fSub, Px.fMul, Px.fFdiv, Px.fMod, Px.fPow, Px.fRel, Px.fEq_int, Px.fEq_str, Px.fEq_bool, Px.fEq_fq, Px.fIs, Px.fIsTy, Px.fIx_l, Px.fIx_t, Px.ix0, Px.ix1, Px.at_0, Px.at_1, Px.at_2, Px.at_3, Px.at_4, Px.ex_some, Px.fSl, Px.gLen_l, Px.gLen_t, Px.gLen_tab, Px.gLen_row, Px.gLen_sh, Px.asS_tab, Px.asS_row, Px.asS_sh, Px.asE_tab, Px.asE_row, Px.asE_sh, Px.asZ_tab, Px.asZ_row, Px.ix_tab0, Px.ix_c0, Px.ix_c1, Px.gAbs, Px.gInt, Px.gTuple_l, Px.gTuple_t, Px.gList_l, Px.gList_t, Px.gGcd, Px.gSum, Px.gMax, Px.gMin, Px.gAll, Px.gAny, Px.gRepr, Px.gTy, Px.tyOf, Px.asB, Px.asTru, Px.truD, Px.asNeg, Px.asI, Px.asL, Px.asT, Px.asS_l, Px.asS_t, Px.asR1, Px.asR2, Px.asZ, Px.asZ_ll, Px.asZ_tt, Px.asZ_lt, Px.asRg, Px.asRgI, Px.blkE, Px.wipeE, Px.unown, Px.asE_l, Px.asE_t, Px.asTwo, Px.asApp, Px.allD, Px.gNm, Px.isNon, Px.isSt, Px.pick,
  List.map_cons, List.map_nil, List.length_cons, List.length_nil, List.length_set, List.replicate_succ, List.replicate_zero, List.cons_append, List.nil_append, List.append_nil, List.getElem?_cons_zero, List.getD_cons_zero, List.getD_cons_succ, List.getElem?_cons_succ, List.set_cons_zero, List.set_cons_succ, Nat.reduceAdd, Nat.reduceSub, Nat.reduceLT, Nat.reduceLeDiff, Nat.zero_add, Nat.mul_zero, Nat.add_zero, eq_self, Nat.sub_self, true_and, and_true, true_or, if_true, Bool.false_eq_true, if_false, ne_eq, not_false_eq_true, Nat.zero_lt_succ, Nat.lt_add_one, Nat.succ_lt_succ_iff])
local macro_rules | `(tactic| walk_at "pu") => `(tactic| simp only [Px.rd, Px.ownAt, Px.frz, Px.asR1, Px.asR2, Px.asRg, Px.asRgI, Px.blkE, Px.wipeE, Px.unown, Px.asApp, Px.gNm, Px.isNon, Px.isSt,
  List.map_cons, List.map_nil, List.length_cons, List.length_nil, List.length_set, List.replicate_succ, List.replicate_zero, List.cons_append, List.nil_append, List.append_nil, List.getElem?_cons_zero, List.getD_cons_zero, List.getD_cons_succ, List.getElem?_cons_succ, List.set_cons_zero, List.set_cons_succ, Nat.reduceAdd, Nat.reduceSub, Nat.reduceLT, Nat.reduceLeDiff, Nat.zero_add, Nat.mul_zero, Nat.add_zero, eq_self, Nat.sub_self, true_and, and_true, true_or, if_true, Bool.false_eq_true, if_false, ne_eq, not_false_eq_true, Nat.zero_lt_succ, Nat.lt_add_one, Nat.succ_lt_succ_iff])
local macro_rules | `(tactic| walk_at "pl") => `(tactic| simp only [Px.asS_lnD, Px.gLen_lnD, Px.asE_lnD, Px.ix_l0, Px.ix_l1, Px.ix_l2])
open PySem PySem.Spec PyProof.Rows L2 Px
section
variable {P : Program} {w : World} {K : Kx} {fg : Fg} {d c l : Addr} {nC : Nat} {tT : List (Addr × Str)} {mg : Str → Option Value} {base : Heap}

abbrev s__law_cell : Stmt := topS 53
theorem sc__law_cell : FnScope ["state_so", "high"] ["state_so", "high"] (defScope s__law_cell) := ⟨rfl, rfl, rfl, by decide +kernel, rfl, by decide +kernel, by decide +kernel⟩
theorem bp__law_cell : BindP "_law_cell" s__law_cell ["state_so", "high"] := fun _ _ _ _ _ _ us hl => match us, hl with | [_, _], _ => rfl
abbrev DD__law_cell (P : Program) (w : World) (fg : Fg) (d c l : Addr) (nC : Nat) (tT : List (Addr × Str)) (mg : Str → Option Value) (base : Heap) : Prop := Df P w (stK fg d c l nC tT) mg base "_law_cell" s__law_cell ["state_so", "high"] 3 2 fCell
theorem ok__law_cell (Lf : Lo fg mg "_law_cell" s__law_cell) (D__law_draw : DD__law_draw P w fg d c l nC tT mg base) : DD__law_cell P w fg d c l nC tT mg base := by
  obtain ⟨fa, fd, hm, Fu⟩ := Lf
  refine ⟨fa, fd, fn_make Fu sc__law_cell (by decide) fun cd A outer s H E hr hg => ⟨_, _, ?_, (ss_cons (s_ret (e_tup (a_cons (e_bin oSub sSub (e_def D__law_draw bp__law_draw (a_cons (nm 0) (a_cons (e_bin oAdd sAdd (e_bin oMul sMul e_int (nm 1)) e_int) a_nil))) (nm 1)) (a_cons (e_bin oSub sSub (e_def D__law_draw bp__law_draw (a_cons (nm 0) (a_cons (e_bin oAdd sAdd (e_bin oMul sMul e_int (nm 1)) e_int) a_nil))) (nm 1)) a_nil))))
    ss_nil), fun xs R hl h => ?_⟩, hm, Fu⟩
  · exact Nat.le_of_ble_eq_true rfl
  · obtain ⟨h, rfl, h0, h1, q⟩ := h
    have hb : Bd 8 h := Bd.of_lt (j := 100) (by omega) (by decide)
    have cm : CMulW 2 h := (Bd.lit (n := 2) (by decide)).ok hb (by decide) (by decide) (by decide)
    have db : Bd 8000 (2 * h + 1) := (Bd.of_lt (n := 10) (j := 201) (by omega) (by decide)).mono (by decide)
    try (walk_at "pz")
    refine ⟨cm, _, rfl, by omega, db, fun k k0 k1 => ?_⟩
    try (walk_at "pz")
    refine ⟨cm, _, rfl, by omega, db, fun k' k0' k1' => ?_⟩
    try (walk_at "pz")
    exact q (k - h, k' - h) ⟨⟨by omega, by omega⟩, by omega, by omega⟩
abbrev s__law_table : Stmt := topS 52
theorem sc__law_table : FnScope ["state_so", "acts_so", "most", "high", "count", "found", "step", "spot"] ["state_so", "acts_so", "most", "high"] (defScope s__law_table) := ⟨rfl, rfl, rfl, by decide +kernel, rfl, by decide +kernel, by decide +kernel⟩
theorem bp__law_table : BindP "_law_table" s__law_table ["state_so", "acts_so", "most", "high"] := fun _ _ _ _ _ _ us hl => match us, hl with | [_, _, _, _], _ => rfl
abbrev DD__law_table (P : Program) (w : World) (fg : Fg) (d c l : Addr) (nC : Nat) (tT : List (Addr × Str)) (mg : Str → Option Value) (base : Heap) : Prop := Df P w (stK fg d c l nC tT) mg base "_law_table" s__law_table ["state_so", "acts_so", "most", "high"] 4 42535295865117307932921825928971026433 fTab
theorem ok__law_table (Lf : Lo fg mg "_law_table" s__law_table) (m_tuple : mg "tuple" = none) (m_range : mg "range" = none) (D__law_draw : DD__law_draw P w fg d c l nC tT mg base) (D__law_cell : DD__law_cell P w fg d c l nC tT mg base) : DD__law_table P w fg d c l nC tT mg base := by
  obtain ⟨fa, fd, hm, Fu⟩ := Lf
  refine ⟨fa, fd, fn_make Fu sc__law_table (by decide) fun cd A outer s H E hr hg => ⟨_, _, ?_, (ss_cons (s_set 4 rfl (e_bin oAdd sAdd e_int (e_def D__law_draw bp__law_draw (a_cons (nm 0) (a_cons (nm 2) a_nil)))))
    (ss_cons (s_own 5 rfl (l_lst a_nil))
    (ss_cons (s_for (i_rng1 m_range (a_cons (nm 1) a_nil)) (tn 6) (ss_cons (s_app 5 rfl (e_callT cTuple sTuple m_tuple (by decide +kernel) (a_cons (e_l (l_lc [("spot", 7)] (i_rng1 m_range (a_cons (nm 4) a_nil)) (fun _ => blkOk_by (N := ["state_so", "acts_so", "most", "high", "count", "found", "step", "spot"]) (sc := defScope s__law_table) (by decide +kernel)) (tn 7) ts_nil (e_def D__law_cell bp__law_cell (a_cons (nm 0) (a_cons (nm 3) a_nil))))) a_nil)) (by intro _; first | exact .inl rfl | exact .inr (.inl rfl)) fun a b => ps_expr (pe_bm PySem.F.plainAttrs_list PySem.F.slot_list_append PySem.F.type_list_append mt_append a (pa_cons b pa_nil)))
    ss_nil))
    (ss_cons (s_ret (e_ownTuple m_tuple 5))
    ss_nil)))), fun xs R hl h => ?_⟩, hm, Fu⟩
  · exact Nat.le_of_ble_eq_true rfl
  · obtain ⟨n, m, h, rfl, n1, n4, m1, m4, h0, h1, q⟩ := h
    try (walk_at "pz")
    refine ⟨_, rfl, by omega, (Bd.of_lt (n := 10) (j := 4) (by omega) (by decide)).mono (by decide), fun k k0 k1 => ?_⟩
    obtain ⟨k, rfl⟩ := Int.eq_ofNat_of_zero_le k0
    try (walk_at "pz")
    refine ⟨by omega, by omega, .inr (le_big (by rw [irange_len]; omega)), loop_rng 0 _ (fun i ρ => ∃ T s6, ρ = [.v .st, .v (.d (.int (n : Nat))), .v (.d (.int (m : Nat))), .v (.d (.int h)), .v (.d (.int (1 + (k : Nat)))), .own (T.map rowD), s6, .non] ∧ T.length = i ∧ (∀ r ∈ T, r.length = 1 + k) ∧ ∀ r ∈ T, ∀ c ∈ r, CellOk c) ?_ ?_ _ ⟨[], _, rfl, rfl, by simp, by simp⟩⟩
    · rintro i ρ L hi hL ⟨T, s6, rfl, ht, hr, hc⟩
      try (walk_at "pz")
      refine ⟨by omega, by omega, by rw [irange_len]; omega, lc_draw (fun d => ∃ c, CellOk c ∧ d = cellD c) _ _ _ (fun x T1 T2 hT1 => ?_) fun ds hl2 hg => ?_⟩
      · try (walk_at "pz")
        exact ⟨h, rfl, h0, h1, fun c hc => hT1 _ ⟨c, hc, rfl⟩⟩
      obtain ⟨r, rfl, hrc⟩ := of_good cellD CellOk ds hg
      rw [List.length_map] at hl2
      refine ⟨by simp; omega, hL _ ⟨T ++ [r], _, by rw [List.map_append]; rfl, by simp; omega, fun r' h' => ?_, fun r' h' => ?_⟩⟩
      · rcases List.mem_append.mp h' with h' | h'
        · exact hr r' h'
        · rw [List.mem_singleton.mp h']; omega
      · rcases List.mem_append.mp h' with h' | h'
        · exact hc r' h'
        · rw [List.mem_singleton.mp h']; exact hrc
    · rintro ρ ⟨T, s6, rfl, ht, hr, hc⟩
      try (walk_at "pz")
      exact q (1 + k) T ⟨by omega, n1, n4, by omega, by omega, hr, hc⟩ (by omega)
abbrev s__law_shares : Stmt := topS 55
theorem sc__law_shares : FnScope ["state_so", "count", "parts", "whole", "step", "part"] ["state_so", "count"] (defScope s__law_shares) := ⟨rfl, rfl, rfl, by decide +kernel, rfl, by decide +kernel, by decide +kernel⟩
theorem bp__law_shares : BindP "_law_shares" s__law_shares ["state_so", "count"] := fun _ _ _ _ _ _ us hl => match us, hl with | [_, _], _ => rfl
abbrev DD__law_shares (P : Program) (w : World) (fg : Fg) (d c l : Addr) (nC : Nat) (tT : List (Addr × Str)) (mg : Str → Option Value) (base : Heap) : Prop := Df P w (stK fg d c l nC tT) mg base "_law_shares" s__law_shares ["state_so", "count"] 4 4611686018427387904 fShDraw
theorem ok__law_shares (Lf : Lo fg mg "_law_shares" s__law_shares) (m_tuple : mg "tuple" = none) (m_range : mg "range" = none) (m_sum : mg "sum" = none) (D__law_of : DD__law_of P w fg d c l nC tT mg base) (D__law_share : DD__law_share P w (stK fg d c l nC tT) mg base) : DD__law_shares P w fg d c l nC tT mg base := by
  obtain ⟨fa, fd, hm, Fu⟩ := Lf
  refine ⟨fa, fd, fn_make Fu sc__law_shares (by decide) fun cd A outer s H E hr hg => ⟨_, _, ?_, (ss_cons (s_lc (p_lc 2 rfl [("step", 4)] (i_rng1 m_range (a_cons (nm 1) a_nil)) (fun _ => blkOk_by (N := ["state_so", "count", "parts", "whole", "step", "part"]) (sc := defScope s__law_shares) (by decide +kernel)) (tn 4) ts_nil (e_def D__law_of bp__law_of (a_cons (nm 0) (a_cons (e_l (l_lst (a_cons e_int (a_cons e_int (a_cons e_int (a_cons e_int (a_cons e_int (a_cons e_int a_nil)))))))) a_nil))) (fun _ => rfl) (fun _ => sw_true rfl rfl rfl (by decide +kernel))))
    (ss_cons (s_set 3 rfl (e_callB cSum sSum m_sum (by decide +kernel) (a_cons (nm 2) a_nil)))
    (ss_cons (s_if (t_cmp oEq sEq (nm 3) e_int) (ss_cons (s_unp (g_tup (gs_cons (tn 2) (gs_cons (tn 3) gs_nil)) rfl fun c h => pg_tup c h) (e_tup (a_cons (e_bin oMul sMul (e_l (l_lst (a_cons e_int a_nil))) (nm 1)) (a_cons (nm 1) a_nil))))
    ss_nil) ss_nil)
    (ss_cons (s_ret (e_callT cTuple sTuple m_tuple (by decide +kernel) (a_cons (e_l (l_lc [("part", 5)] (i_seq (nm 2)) (fun _ => blkOk_by (N := ["state_so", "count", "parts", "whole", "step", "part"]) (sc := defScope s__law_shares) (by decide +kernel)) (tn 5) ts_nil (e_def D__law_share bp__law_share (a_cons (nm 5) (a_cons (nm 3) a_nil))))) a_nil)))
    ss_nil)))), fun xs R hl h => ?_⟩, hm, Fu⟩
  · exact Nat.le_of_ble_eq_true rfl
  · obtain ⟨n, rfl, n1, n4, q⟩ := h
    try (walk_at "pz")
    refine ⟨by omega, by omega, by rw [irange_len]; omega, lc_draw (fun d => ∃ c : Nat, c ≤ 7 ∧ d = .int (c : Nat)) _ _ _ (fun x T1 T2 hT1 => ?_) fun ds hl2 hg => ?_⟩
    · try (walk_at "pz")
      refine ⟨_, rfl, by decide, by decide, fun x hx => ?_⟩
      simp only [List.mem_cons, List.not_mem_nil, or_false] at hx
      rcases hx with rfl | rfl | rfl | rfl | rfl | rfl
      · exact hT1 _ ⟨0, by decide, rfl⟩
      · exact hT1 _ ⟨1, by decide, rfl⟩
      · exact hT1 _ ⟨1, by decide, rfl⟩
      · exact hT1 _ ⟨2, by decide, rfl⟩
      · exact hT1 _ ⟨3, by decide, rfl⟩
      · exact hT1 _ ⟨7, by decide, rfl⟩
    obtain ⟨ps, rfl, hp⟩ := of_good (fun c : Nat => PyData.int (c : Nat)) (fun c => c ≤ 7) ds hg
    rw [List.length_map] at hl2
    have key : ∀ (ps : List Nat) (w : Nat), ps.length = n → (∀ p ∈ ps, p ≤ 7) → ps.sum = w → 0 < w → ShOk n (ps.map fun (p : Nat) => Rat.divInt (p : Nat) (w : Nat)) := fun ps w h1 h2 h3 h4 => shOk_of n4 h1 h2 h3 h4
    have ea : ∀ l : List Nat, allI (l.map fun (c : Nat) => PyData.int (c : Nat)) = some (l.map fun (c : Nat) => ((c : Nat) : Int)) := fun l => by
      rw [← allI_map (l.map fun (c : Nat) => ((c : Nat) : Int)), List.map_map]
      rfl
    have go : ∀ (ps : List Nat) (w : Nat), ps.length = n → (∀ p ∈ ps, p ≤ 7) → ps.sum = w → 0 < w → ∀ (ρ : En), ρ[3]? = some (.v (.d (.int (w : Nat)))) → ρ.length = 6 → lcF (gNm 5) (fun x R => R true) (fun ρ R => match ρ[5]? with | some (Sl.v x) => (match ρ[3]? with | some (Sl.v x_1) => fRed [x, x_1] R | _ => False) | _ => False) ρ ((ps.map fun (c : Nat) => PyData.int (c : Nat)).map Vl.d) [] fun ds => R (.d (.tuple ds)) := fun ps w h1 h2 h3 h4 ρ e3 e5 => by
      have hw : w ≤ 28 := by have := sum_le h2; omega
      rw [map_d]
      refine lc_map (fun c : Nat => Vl.d (.int (c : Nat))) (fun c : Nat => fq (Rat.divInt (c : Nat) (w : Nat))) ps [] _ (fun c hc T1 T2 hT1 => ?_) ?_
      · refine ⟨by omega, ?_⟩
        simp only [if_true, set_self (show 5 < ρ.length by omega), set_oth (show (3 : Nat) ≠ 5 by decide), e3]
        show fRed [.d (.int (c : Nat)), .d (.int (w : Nat))] T1
        rw [fRed_eq (by omega) ((Bd.of_lt (n := 10) (j := 28) (by omega) (by decide)).mono (by decide))]
        exact hT1
      · have := q _ (key ps w h1 h2 h3 h4)
        rw [shD, List.map_map] at this
        rw [List.nil_append]
        exact this
    refine ⟨ps.map fun (c : Nat) => ((c : Nat) : Int), ea ps, ?_⟩
    rw [sum_cast]
    by_cases z : ps.sum = 0
    · rw [if_pos (by simp; omega)]
      have er : (List.replicate ((n : Nat) : Int).toNat [PyData.int 1]).flatten = (List.replicate n 1).map fun (c : Nat) => PyData.int (c : Nat) := by
        rw [show ((n : Nat) : Int).toNat = n by omega]
        simp
      rw [er]
      exact ⟨by omega, by omega, by simp; omega, go (List.replicate n 1) n (by simp) (fun p hp => by rw [List.eq_of_mem_replicate hp]; decide) (by simp) (by omega) _ (by rfl) (by rfl)⟩
    · rw [if_neg (by simp; omega)]
      exact ⟨by simp; omega, go ps ps.sum (by omega) hp rfl (by omega) _ (by rfl) (by rfl)⟩
abbrev s__law_spot : Stmt := topS 65
theorem sc__law_spot : FnScope ["cell"] ["cell"] (defScope s__law_spot) := ⟨rfl, rfl, rfl, by decide +kernel, rfl, by decide +kernel, by decide +kernel⟩
theorem bp__law_spot : BindP "_law_spot" s__law_spot ["cell"] := fun _ _ _ _ _ _ us hl => match us, hl with | [_], _ => rfl
abbrev DD__law_spot (P : Program) (w : World) (K : Kx) (mg : Str → Option Value) (base : Heap) : Prop := Df P w K mg base "_law_spot" s__law_spot ["cell"] 1 0 fWholePt
theorem ok__law_spot (Lf : Lo K mg "_law_spot" s__law_spot)  : DD__law_spot P w K mg base := by
  obtain ⟨fa, fd, hm, Fu⟩ := Lf
  refine ⟨fa, fd, fn_make Fu sc__law_spot (by decide) fun cd A outer s H E hr hg => ⟨_, _, ?_, (ss_cons (s_ret (e_tup (a_cons (e_tup (a_cons (e_ix oIx sIx (nm 0) e_int) (a_cons e_int a_nil))) (a_cons (e_tup (a_cons (e_ix oIx sIx (nm 0) e_int) (a_cons e_int a_nil))) a_nil))))
    ss_nil), fun xs R hl h => ?_⟩, hm, Fu⟩
  · exact Nat.le_of_ble_eq_true rfl
  · obtain ⟨c', rfl, q⟩ := h
    try (walk_at "pz")
    exact q
abbrev s__law_paid : Stmt := topS 66
theorem sc__law_paid : FnScope ["table_so", "parts", "count", "found", "cells", "part"] ["table_so", "parts", "count"] (defScope s__law_paid) := ⟨rfl, rfl, rfl, by decide +kernel, rfl, by decide +kernel, by decide +kernel⟩
theorem bp__law_paid : BindP "_law_paid" s__law_paid ["table_so", "parts", "count"] := fun _ _ _ _ _ _ us hl => match us, hl with | [_, _, _], _ => rfl
abbrev DD__law_paid (P : Program) (w : World) (K : Kx) (mg : Str → Option Value) (base : Heap) : Prop := Df P w K mg base "_law_paid" s__law_paid ["table_so", "parts", "count"] 5 0 fPay
theorem ok__law_paid (Lf : Lo K mg "_law_paid" s__law_paid) (m_zip : mg "zip" = none) (D__law_spot_plus : DD__law_spot_plus P w K mg base) (D__law_spot_times : DD__law_spot_times P w K mg base) (D__law_spot : DD__law_spot P w K mg base) : DD__law_paid P w K mg base := by
  obtain ⟨fa, fd, hm, Fu⟩ := Lf
  refine ⟨fa, fd, fn_make Fu sc__law_paid (by decide) fun cd A outer s H E hr hg => ⟨_, _, ?_, (ss_cons (s_set 3 rfl (e_tup (a_cons (e_tup (a_cons e_int (a_cons e_int a_nil))) (a_cons (e_tup (a_cons e_int (a_cons e_int a_nil))) a_nil))))
    (ss_cons (s_for (i_zipM m_zip (a_cons (nm 0) (a_cons (nm 1) a_nil))) (g_tup (gs_cons (tn 4) (gs_cons (tn 5) gs_nil)) rfl fun c h => pg_tup c h) (ss_cons (s_set 3 rfl (e_def D__law_spot_plus bp__law_spot_plus (a_cons (nm 3) (a_cons (e_def D__law_spot_times bp__law_spot_times (a_cons (e_def D__law_spot bp__law_spot (a_cons (e_ix oIx sIx (nm 4) (nm 2)) a_nil)) (a_cons (nm 5) a_nil))) a_nil))))
    ss_nil))
    (ss_cons (s_ret (nm 3))
    ss_nil))), fun xs R hl h => ?_⟩, hm, Fu⟩
  · exact Nat.le_of_ble_eq_true rfl
  · obtain ⟨n, w, T, qs, j, rfl, hT, hs, hj, q⟩ := h
    have l4 := hT.n4
    have ll := hT.len
    have hz : (T.zip qs).length ≤ 4 := by rw [List.length_zip]; omega
    try (walk_at "pz")
    refine loop_over' (fun p : List Cell × Rat => Vl.d (.tuple [rowD p.1, fq p.2])) (T.zip qs) (fun k ρ => ∃ t m s4 s5, ρ = [.v (.d (tabD T)), .v (.d (shD qs)), .v (.d (.int (j : Nat))), .v (.d (pt t)), s4, s5] ∧ pAdd t (sm ((T.zip qs).drop k) (fun p => (cq (nth p.1 j)).1 * p.2), sm ((T.zip qs).drop k) (fun p => (cq (nth p.1 j)).2 * p.2)) = payAt T qs j ∧ Pb m t ∧ m ≤ 1 + 13 * k) ?_ ?_ _ ⟨(0, 0), 1, _, _, rfl, ?_, ⟨fz 1 (by decide), fz 1 (by decide)⟩, by omega⟩
    · rintro k hk ρ L hL ⟨t, m, s4, s5, rfl, ht, hb, hm⟩
      have h1 : ((T.zip qs)[k]).1 ∈ T := (List.of_mem_zip (List.getElem_mem hk)).1
      have h2 : Fb 5 ((T.zip qs)[k]).2 := hs.bd _ (List.of_mem_zip (List.getElem_mem hk)).2
      rw [List.drop_eq_getElem_cons hk] at ht
      generalize (T.zip qs)[k] = pr at h1 h2 ht ⊢
      have hc := cq_b (nth_ok hT h1 hj)
      have b3 := Pb.mul hc h2
      try (walk_at "pz")
      rw [ix_row (by rw [hT.row _ h1]; exact hj)]
      refine ⟨_, rfl, ?_⟩
      try (walk_at "pz")
      rw [fPtTimes_eq hc h2, fPtPlus_eq hb b3]
      try (walk_at "pz")
      refine hL _ ⟨_, _, _, _, rfl, ?_, hb.add2 b3, by omega⟩
      rw [← ht]
      simp only [sm, pAdd, pMul]
      refine Prod.ext ?_ ?_
      · grind
      · grind
    · rintro ρ ⟨t, m, s4, s5, rfl, ht, hb, hm⟩
      have e1 : t = payAt T qs j := by
        rw [List.drop_length] at ht
        rw [← ht]
        simp only [sm, pAdd]
        refine Prod.ext ?_ ?_
        · grind
        · grind
      subst e1
      try (walk_at "pz")
      exact q
    · rw [List.drop_zero, payAt, dot, dot, zip_mapL, zip_mapL, sm_map, sm_map]
      simp only [pAdd]
      refine Prod.ext ?_ ?_
      · grind
      · grind

end
end K52

set_option Elab.async false
set_option linter.all false
set_option maxRecDepth 100000
set_option maxHeartbeats 4000000
set_option exponentiation.threshold 10000
namespace K52
local macro_rules | `(tactic| walk_at "px") => `(tactic| simp only [Px.rd, Px.ownAt, Px.frz, Px.fAdd, Px.fSub, Px.fMul, Px.fFdiv, Px.fMod, Px.fPow, Px.fRel, Px.fEq_int, Px.fEq_str, Px.fEq_bool, Px.fEq_fq, Px.fIs, Px.fIsTy, Px.fIx_l, Px.fIx_t, Px.ix0, Px.ix1, Px.at_0, Px.at_1, Px.at_2, Px.at_3, Px.at_4, Px.ex_some, Px.fSl, Px.gLen, Px.gAbs, Px.gInt, Px.gTuple, Px.gList, Px.gGcd, Px.gSum, Px.gMax, Px.gMin, Px.gAll, Px.gAny, Px.gRepr, Px.gTy, Px.tyOf, Px.asB, Px.asTru, Px.truD, Px.asNeg, Px.asI, Px.asL, Px.asT, Px.asS, Px.asR1, Px.asR2, Px.asZ, Px.asZM, Px.asRg, Px.asRgI, Px.blkE, Px.wipeE, Px.unown, Px.asS, Px.asE, Px.asTwo, Px.asApp, Px.allD, Px.gNm, Px.isNon, Px.isSt, Px.pick,
  List.map_cons, List.map_nil, List.length_cons, List.length_nil, List.length_set, List.replicate_succ, List.replicate_zero, List.cons_append, List.nil_append, List.append_nil, List.getElem?_cons_zero, List.getD_cons_zero, List.getD_cons_succ, List.getElem?_cons_succ, List.set_cons_zero, List.set_cons_succ, Nat.reduceAdd, Nat.reduceSub, Nat.reduceLT, Nat.reduceLeDiff, Nat.zero_add, Nat.mul_zero, Nat.add_zero, eq_self, Nat.sub_self, true_and, and_true, true_or, if_true, Bool.false_eq_true, if_false, ne_eq, not_false_eq_true, Nat.zero_lt_succ, Nat.lt_add_one, Nat.succ_lt_succ_iff])
local macro_rules | `(tactic| walk_at "pz") => `(tactic| simp only [Px.at_last, Px.fKind_eq, Px.fPair_eq, Px.fIsFr_eq, Px.fRow_eq, Px.fWithin_eq, Px.fmOf_mg, Px.isFr_fq, Px.isTy, decide_true, Bool.not_true, Bool.not_false, Bool.and_true, Bool.true_and, Bool.false_and, Bool.and_false, Bool.or_false, Bool.or_true, Px.px0, Px.px1, Px.fNeedPt_eq, Px.fNeedFr_eq, Px.isSt, List.length_append, List.getElem?_map, and_self, Px.map_d, Px.pairs_map, Px.enumD_map, Px.rd, Px.ownAt, Px.frz, Px.fAdd, Px.fSub, Px.fMul, Px.fFdiv, Px.fMod, Px.fPow, Px.fRel, Px.fEq_int, Px.fEq_str, Px.fEq_bool, Px.fEq_fq, Px.fIs, Px.fIsTy, Px.fIx_l, Px.fIx_t, Px.ix0, Px.ix1, Px.at_0, Px.at_1, Px.at_2, Px.at_3, Px.at_4, Px.ex_some, Px.fSl, Px.gLen_l, Px.gLen_t, Px.gLen_tab, Px.gLen_row, Px.gLen_sh, Px.asS_tab, Px.asS_row, Px.asS_sh, Px.asE_tab, Px.asE_row, Px.asE_sh, Px.asZ_tab, Px.asZ_row, Px.ix_tab0, Px.ix_c0, Px.ix_c1, Px.gAbs, Px.gInt, Px.gTuple_l, Px.gTuple_t, Px.gList_l, Px.gList_t, Px.gGcd, Px.gSum, Px.gMax, Px.gMin, Px.gAll, Px.gAny, Px.gRepr, Px.gTy, Px.tyOf, Px.asB, Px.asTru, Px.truD, Px.asNeg, Px.asI, Px.asL, Px.asT, Px.asS_l, Px.asS_t, Px.asR1, Px.asR2, Px.asZ, Px.asZ_ll, Px.asZ_tt, Px.asZ_lt, Px.asRg, Px.asRgI, Px.blkE, Px.wipeE, Px.unown, Px.asE_l, Px.asE_t, Px.asTwo, Px.asApp, Px.allD, Px.gNm, Px.isNon, Px.isSt, Px.pick,
  List.map_cons, List.map_nil, List.length_cons, List.length_nil, List.length_set, List.replicate_succ, List.replicate_zero, List.cons_append, List.nil_append, List.append_nil, List.getElem?_cons_zero, List.getD_cons_zero, List.getD_cons_succ, List.getElem?_cons_succ, List.set_cons_zero, List.set_cons_succ, Nat.reduceAdd, Nat.reduceSub, Nat.reduceLT, Nat.reduceLeDiff, Nat.zero_add, Nat.mul_zero, Nat.add_zero, eq_self, Nat.sub_self, true_and, and_true, true_or, if_true, Bool.false_eq_true, if_false, ne_eq, not_false_eq_true, Nat.zero_lt_succ, Nat.lt_add_one, Nat.succ_lt_succ_iff])
local macro_rules | `(tactic| walk_at "pu") => `(tactic| simp only [Px.rd, Px.ownAt, Px.frz, Px.asR1, Px.asR2, Px.asRg, Px.asRgI, Px.blkE, Px.wipeE, Px.unown, Px.asApp, Px.gNm, Px.isNon, Px.isSt,
  List.map_cons, List.map_nil, List.length_cons, List.length_nil, List.length_set, List.replicate_succ, List.replicate_zero, List.cons_append, List.nil_append, List.append_nil, List.getElem?_cons_zero, List.getD_cons_zero, List.getD_cons_succ, List.getElem?_cons_succ, List.set_cons_zero, List.set_cons_succ, Nat.reduceAdd, Nat.reduceSub, Nat.reduceLT, Nat.reduceLeDiff, Nat.zero_add, Nat.mul_zero, Nat.add_zero, eq_self, Nat.sub_self, true_and, and_true, true_or, if_true, Bool.false_eq_true, if_false, ne_eq, not_false_eq_true, Nat.zero_lt_succ, Nat.lt_add_one, Nat.succ_lt_succ_iff])
local macro_rules | `(tactic| walk_at "pl") => `(tactic| simp only [Px.asS_lnD, Px.gLen_lnD, Px.asE_lnD, Px.ix_l0, Px.ix_l1, Px.ix_l2])
open PySem PySem.Spec PyProof.Rows L2 Px
section
variable {P : Program} {w : World} {K : Kx} {fg : Fg} {d c l : Addr} {nC : Nat} {tT : List (Addr × Str)} {mg : Str → Option Value} {base : Heap}

abbrev s_least_of : Stmt := topS 24
theorem sc_least_of : FnScope ["values", "found", "value"] ["values"] (defScope s_least_of) := ⟨rfl, rfl, rfl, by decide +kernel, rfl, by decide +kernel, by decide +kernel⟩
theorem bp_least_of : BindP "least_of" s_least_of ["values"] := fun _ _ _ _ _ _ us hl => match us, hl with | [_], _ => rfl
abbrev DD_least_of (P : Program) (w : World) (K : Kx) (mg : Str → Option Value) (base : Heap) : Prop := Df P w K mg base "least_of" s_least_of ["values"] 7 0 fLeastOf
theorem ok_least_of (Lf : Lo K mg "least_of" s_least_of) (D_less : DD_less P w K mg base) : DD_least_of P w K mg base := by
  obtain ⟨fa, fd, hm, Fu⟩ := Lf
  refine ⟨fa, fd, fn_make Fu sc_least_of (by decide) fun cd A outer s H E hr hg => ⟨_, _, ?_, (ss_cons (s_set 1 rfl (e_ix oIx sIx (nm 0) e_int))
    (ss_cons (s_for (i_seq (nm 0)) (tn 2) (ss_cons (s_if (t_val (e_def D_less bp_less (a_cons (nm 2) (a_cons (nm 1) a_nil)))) (ss_cons (s_set 1 rfl (nm 2))
    ss_nil) ss_nil)
    ss_nil))
    (ss_cons (s_ret (nm 1))
    ss_nil))), fun xs R hl h => ?_⟩, hm, Fu⟩
  · exact Nat.le_of_ble_eq_true rfl
  · obtain ⟨qs, a, rfl, hne, hb, ha, q⟩ := h
    obtain ⟨q0, qs', rfl⟩ : ∃ q0 qs', qs = q0 :: qs' := by
      cases qs with
      | nil => exact absurd rfl hne
      | cons q0 qs' => exact ⟨_, _, rfl⟩
    try (walk_at "pz")
    have e : fq q0 :: qs'.map fq = (q0 :: qs').map fq := rfl
    rw [e]
    refine loop_over' (fun q : Rat => Vl.d (fq q)) (q0 :: qs') (fun k ρ => ∃ m s2, ρ = [.v (.d (.list ((q0 :: qs').map fq))), .v (.d (fq m)), s2] ∧ m ∈ q0 :: qs' ∧ ∀ x ∈ (q0 :: qs').take k, m ≤ x) ?_ ?_ _ ⟨q0, _, rfl, by simp, by simp⟩
    · rintro k hk ρ L hL ⟨m, s2, rfl, hm, hx⟩
      have tk := List.take_succ_eq_append_getElem hk
      have hv := List.getElem_mem hk
      generalize (q0 :: qs')[k] = v at tk hv ⊢
      try (walk_at "pz")
      rw [fLess_eq (hb v hv) (hb m hm) (by omega)]
      try (walk_at "pz")
      by_cases z : v < m
      · rw [if_pos (by simpa using z)]
        refine hL _ ⟨v, _, rfl, hv, fun x hx' => ?_⟩
        rw [tk] at hx'
        rcases List.mem_append.mp hx' with hx' | hx'
        · exact Rat.le_trans (Rat.le_of_lt z) (hx x hx')
        · rw [List.mem_singleton.mp hx']; exact Rat.le_refl
      · rw [if_neg (by simpa using z)]
        refine hL _ ⟨m, _, rfl, hm, fun x hx' => ?_⟩
        rw [tk] at hx'
        rcases List.mem_append.mp hx' with hx' | hx'
        · exact hx x hx'
        · rw [List.mem_singleton.mp hx']; exact Rat.not_lt.mp z
    · rintro ρ ⟨m, s2, rfl, hm, hx⟩
      try (walk_at "pz")
      rw [List.take_length] at hx
      exact q m ⟨hm, hx⟩
abbrev s_beyond : Stmt := topS 36
theorem sc_beyond : FnScope ["line", "point", "across", "across_below", "up", "up_below", "along"] ["line", "point"] (defScope s_beyond) := ⟨rfl, rfl, rfl, by decide +kernel, rfl, by decide +kernel, by decide +kernel⟩
theorem bp_beyond : BindP "beyond" s_beyond ["line", "point"] := fun _ _ _ _ _ _ us hl => match us, hl with | [_, _], _ => rfl
abbrev DD_beyond (P : Program) (w : World) (K : Kx) (mg : Str → Option Value) (base : Heap) : Prop := Df P w K mg base "beyond" s_beyond ["line", "point"] 1 0 fBey
theorem ok_beyond (Lf : Lo K mg "beyond" s_beyond)  : DD_beyond P w K mg base := by
  obtain ⟨fa, fd, hm, Fu⟩ := Lf
  refine ⟨fa, fd, fn_make Fu sc_beyond (by decide) fun cd A outer s H E hr hg => ⟨_, _, ?_, (ss_cons (s_unp (g_tup (gs_cons (g_tup (gs_cons (tn 2) (gs_cons (tn 3) gs_nil)) rfl fun c h => pg_tup c h) (gs_cons (g_tup (gs_cons (tn 4) (gs_cons (tn 5) gs_nil)) rfl fun c h => pg_tup c h) gs_nil)) rfl fun c h => pg_tup c h) (nm 1))
    (ss_cons (s_set 6 rfl (e_bin oAdd sAdd (e_bin oMul sMul (e_bin oMul sMul (e_ix oIx sIx (nm 0) e_int) (nm 2)) (nm 5)) (e_bin oMul sMul (e_bin oMul sMul (e_ix oIx sIx (nm 0) e_int) (nm 4)) (nm 3))))
    (ss_cons (s_ret (e_bin oSub sSub (nm 6) (e_bin oMul sMul (e_bin oMul sMul (e_ix oIx sIx (nm 0) e_int) (nm 3)) (nm 5))))
    ss_nil))), fun xs R hl h => ?_⟩, hm, Fu⟩
  · exact Nat.le_of_ble_eq_true rfl
  · obtain ⟨s, p, n, m, rfl, ⟨b1, b2, b3⟩, hp, n0, nm, q⟩ := h
    have m0 := hp.1.pos
    have x1 := hp.1.1
    have x2 := hp.1.den
    have y1 := hp.2.1
    have y2 := hp.2.den
    unfold lineD pt
    have e : ∀ r : Rat, fq r = .tuple [.int r.num, .int r.den] := fun _ => rfl
    rw [e, e]
    try (walk_at "pz")
    exact ⟨b1.ok x1 n0 m0 (by omega), (b1.mul x1).ok y2 (by omega) m0 (by omega), b2.ok y1 n0 m0 (by omega), (b2.mul y1).ok x2 (by omega) m0 (by omega), b3.ok x2 n0 m0 (by omega), (b3.mul x2).ok y2 (by omega) m0 (by omega), q⟩
abbrev s_is_wall : Stmt := topS 38
theorem sc_is_wall : FnScope ["value", "number"] ["value"] (defScope s_is_wall) := ⟨rfl, rfl, rfl, by decide +kernel, rfl, by decide +kernel, by decide +kernel⟩
theorem bp_is_wall : BindP "is_wall" s_is_wall ["value"] := fun _ _ _ _ _ _ us hl => match us, hl with | [_], _ => rfl
abbrev DD_is_wall (P : Program) (w : World) (K : Kx) (mg : Str → Option Value) (base : Heap) : Prop := Df P w K mg base "is_wall" s_is_wall ["value"] 3 0 fIsWall
theorem ok_is_wall (Lf : Lo K mg "is_wall" s_is_wall) (m_all : mg "all" = none) (D_is_row : DD_is_row P w K mg base) (D_is_int : DD_is_int P w K mg base) : DD_is_wall P w K mg base := by
  obtain ⟨fa, fd, hm, Fu⟩ := Lf
  refine ⟨fa, fd, fn_make Fu sc_is_wall (by decide) fun cd A outer s H E hr hg => ⟨_, _, ?_, (ss_cons (s_if (t_w (w_or (t_not (t_val (e_def D_is_row bp_is_row (a_cons (nm 0) (a_cons e_int (a_cons e_int a_nil)))))) (w_one2 (t_not (t_val (e_callB cAll sAll m_all (by decide +kernel) (a_cons (e_l (l_lc [("number", 1)] (i_seq (nm 0)) (fun _ => blkOk_by (N := ["value", "number"]) (sc := defScope s_is_wall) (by decide +kernel)) (tn 1) ts_nil (e_def D_is_int bp_is_int (a_cons (nm 1) a_nil)))) a_nil))))))) (ss_cons (s_ret e_bool)
    ss_nil) ss_nil)
    (ss_cons (s_ret (e_or (e_cmp oNe sNe (e_ix oIx sIx (nm 0) e_int) e_int) (e_one (e_cmp oNe sNe (e_ix oIx sIx (nm 0) e_int) e_int))))
    ss_nil)), fun xs R hl h => ?_⟩, hm, Fu⟩
  · exact Nat.le_of_ble_eq_true rfl
  · obtain ⟨s, rfl, hs, q⟩ := h
    have e : isRow (lineD s) 3 3 = true := rfl
    try (walk_at "pz")
    simp only [e]
    unfold lineD
    try (walk_at "pz")
    simp only [lcF]
    try (walk_at "pz")
    refine ⟨[_, _, _], rfl, ?_⟩
    by_cases z : s.1 = 0
    · have z2 : s.2.1 ≠ 0 := hs.resolve_left (fun k => k z)
      simpa [z, z2] using q
    · simpa [z] using q
abbrev s_act_means : Stmt := topS 39
theorem sc_act_means : FnScope ["pays", "odds", "act", "pay"] ["pays", "odds"] (defScope s_act_means) := ⟨rfl, rfl, rfl, by decide +kernel, rfl, by decide +kernel, by decide +kernel⟩
theorem bp_act_means : BindP "act_means" s_act_means ["pays", "odds"] := fun _ _ _ _ _ _ us hl => match us, hl with | [_, _], _ => rfl
abbrev DD_act_means (P : Program) (w : World) (K : Kx) (mg : Str → Option Value) (base : Heap) : Prop := Df P w K mg base "act_means" s_act_means ["pays", "odds"] 9 0 fActMeans
theorem ok_act_means (Lf : Lo K mg "act_means" s_act_means) (D_weighed_points : DD_weighed_points P w K mg base) (D_whole_point : DD_whole_point P w K mg base) : DD_act_means P w K mg base := by
  obtain ⟨fa, fd, hm, Fu⟩ := Lf
  refine ⟨fa, fd, fn_make Fu sc_act_means (by decide) fun cd A outer s H E hr hg => ⟨_, _, ?_, (ss_cons (s_ret (e_l (l_lc [("act", 2)] (i_seq (nm 0)) (fun _ => blkOk_by (N := ["pays", "odds", "act", "pay"]) (sc := defScope s_act_means) (by decide +kernel)) (tn 2) ts_nil (e_def D_weighed_points bp_weighed_points (a_cons (e_l (l_lc [("pay", 3)] (i_seq (nm 2)) (fun _ => by rw [blk_scope]; exact blkOk_in (N := ["pays", "odds", "act", "pay"]) (by decide +kernel)) (tn 3) ts_nil (e_def D_whole_point bp_whole_point (a_cons (nm 3) a_nil)))) (a_cons (nm 1) a_nil))))))
    ss_nil), fun xs R hl h => ?_⟩, hm, Fu⟩
  · exact Nat.le_of_ble_eq_true rfl
  · obtain ⟨n, w, T, os, rfl, hT, ho, q⟩ := h
    have l4 := hT.n4
    have ll := hT.len
    have w4 := hT.w4
    try (walk_at "pz")
    refine ⟨by rw [List.length_map]; omega, lc_map (fun r => Vl.d (rowD r)) (fun r => pt (rowMean r os)) T [] _ (fun r hr T1 T2 hT1 => ?_) ?_⟩
    · have hl3 := hT.row r hr
      try (walk_at "pz")
      refine ⟨by rw [List.length_map]; omega, lc_map (fun c => Vl.d (cellD c)) (fun c => pt (cq c)) r [] _ (fun c hc T3 T4 hT3 => ?_) ?_⟩
      · try (walk_at "pz")
        exact ⟨_, rfl, hT3⟩
      try (walk_at "pz")
      refine ⟨r.map cq, os, 7, 5, by rw [List.map_map]; rfl, fun p hp => ?_, ho.bd, by rw [List.length_map]; omega, by rw [List.length_map]; omega, hT1⟩
      obtain ⟨c, hc, rfl⟩ := List.mem_map.mp hp
      exact cq_b (hT.cell r hr c hc)
    · exact q
abbrev s_above_wall : Stmt := topS 40
theorem sc_above_wall : FnScope ["wall", "point"] ["wall", "point"] (defScope s_above_wall) := ⟨rfl, rfl, rfl, by decide +kernel, rfl, by decide +kernel, by decide +kernel⟩
theorem bp_above_wall : BindP "above_wall" s_above_wall ["wall", "point"] := fun _ _ _ _ _ _ us hl => match us, hl with | [_, _], _ => rfl
abbrev DD_above_wall (P : Program) (w : World) (K : Kx) (mg : Str → Option Value) (base : Heap) : Prop := Df P w K mg base "above_wall" s_above_wall ["wall", "point"] 2 0 fAbove
theorem ok_above_wall (Lf : Lo K mg "above_wall" s_above_wall) (D_least_terms : DD_least_terms P w K mg base) (D_beyond : DD_beyond P w K mg base) : DD_above_wall P w K mg base := by
  obtain ⟨fa, fd, hm, Fu⟩ := Lf
  refine ⟨fa, fd, fn_make Fu sc_above_wall (by decide) fun cd A outer s H E hr hg => ⟨_, _, ?_, (ss_cons (s_ret (e_def D_least_terms bp_least_terms (a_cons (e_def D_beyond bp_beyond (a_cons (nm 0) (a_cons (nm 1) a_nil))) (a_cons (e_bin oMul sMul (e_ix oIx sIx (e_ix oIx sIx (nm 1) e_int) e_int) (e_ix oIx sIx (e_ix oIx sIx (nm 1) e_int) e_int)) a_nil))))
    ss_nil), fun xs R hl h => ?_⟩, hm, Fu⟩
  · exact Nat.le_of_ble_eq_true rfl
  · obtain ⟨s, p, n, m, rfl, hs, hp, n0, nm, q⟩ := h
    try (walk_at "pz")
    refine ⟨s, p, n, m, rfl, hs, hp, n0, nm, ?_⟩
    have m0 := hp.1.pos
    have d1 := hp.1.den
    have d2 := hp.2.den
    refine ⟨d1.ok d2 m0 m0 (by omega), ?_⟩
    rw [fRed_eq (Int.mul_ne_zero (den_ne _) (den_ne _)) ((d1.mul d2).mono (by omega)), bey_q]
    exact q
abbrev s_margin_of : Stmt := topS 41
theorem sc_margin_of : FnScope ["pays", "paper", "wall", "odds", "mean"] ["pays", "paper"] (defScope s_margin_of) := ⟨rfl, rfl, rfl, by decide +kernel, rfl, by decide +kernel, by decide +kernel⟩
theorem bp_margin_of : BindP "margin_of" s_margin_of ["pays", "paper"] := fun _ _ _ _ _ _ us hl => match us, hl with | [_, _], _ => rfl
abbrev DD_margin_of (P : Program) (w : World) (K : Kx) (mg : Str → Option Value) (base : Heap) : Prop := Df P w K mg base "margin_of" s_margin_of ["pays", "paper"] 10 0 fMargin
theorem ok_margin_of (Lf : Lo K mg "margin_of" s_margin_of) (D_least_of : DD_least_of P w K mg base) (D_act_means : DD_act_means P w K mg base) (D_above_wall : DD_above_wall P w K mg base) : DD_margin_of P w K mg base := by
  obtain ⟨fa, fd, hm, Fu⟩ := Lf
  refine ⟨fa, fd, fn_make Fu sc_margin_of (by decide) fun cd A outer s H E hr hg => ⟨_, _, ?_, (ss_cons (s_unp (g_tup (gs_cons (tn 2) (gs_cons (tn 3) gs_nil)) rfl fun c h => pg_tup c h) (nm 1))
    (ss_cons (s_ret (e_def D_least_of bp_least_of (a_cons (e_l (l_lc [("mean", 4)] (i_seq (e_def D_act_means bp_act_means (a_cons (nm 0) (a_cons (nm 3) a_nil)))) (fun _ => blkOk_by (N := ["pays", "paper", "wall", "odds", "mean"]) (sc := defScope s_margin_of) (by decide +kernel)) (tn 4) ts_nil (e_def D_above_wall bp_above_wall (a_cons (nm 2) (a_cons (nm 4) a_nil))))) a_nil)))
    ss_nil)), fun xs R hl h => ?_⟩, hm, Fu⟩
  · exact Nat.le_of_ble_eq_true rfl
  · obtain ⟨n, w, T, s, os, rfl, hT, hb, ho, q⟩ := h
    have l4 := hT.n4
    have l1 := hT.n1
    have ll := hT.len
    unfold paperD
    try (walk_at "pz")
    refine ⟨n, w, T, os, rfl, hT, ho, ?_⟩
    try (walk_at "pz")
    refine ⟨by rw [List.length_map]; omega, lc_map (fun r => Vl.d (pt (rowMean r os))) (fun r => fq (abv s (rowMean r os))) T [] _ (fun r hr T1 T2 hT1 => ?_) ?_⟩
    · try (walk_at "pz")
      exact ⟨s, _, 300, 60, rfl, hb, rowMean_b (hT.rowOk hr) ho, by decide, by decide, hT1⟩
    · try (walk_at "pz")
      refine ⟨T.map fun r => abv s (rowMean r os), 1100, by rw [List.map_map]; rfl, fun z => ?_, fun x hx => ?_, by decide, q⟩
      · have := congrArg List.length z
        simp only [List.length_map, List.length_nil] at this
        omega
      · obtain ⟨r, hr, rfl⟩ := List.mem_map.mp hx
        exact (fb_abv hb (rowMean_b (hT.rowOk hr) ho) (by decide)).mono (by decide)
abbrev s_is_paper : Stmt := topS 42
theorem sc_is_paper : FnScope ["pays", "value"] ["pays", "value"] (defScope s_is_paper) := ⟨rfl, rfl, rfl, by decide +kernel, rfl, by decide +kernel, by decide +kernel⟩
theorem bp_is_paper : BindP "is_paper" s_is_paper ["pays", "value"] := fun _ _ _ _ _ _ us hl => match us, hl with | [_, _], _ => rfl
abbrev DD_is_paper (P : Program) (w : World) (K : Kx) (mg : Str → Option Value) (base : Heap) : Prop := Df P w K mg base "is_paper" s_is_paper ["pays", "value"] 11 0 fIsPaperG
theorem ok_is_paper (Lf : Lo K mg "is_paper" s_is_paper) (m_len : mg "len" = none) (D_is_pair : DD_is_pair P w K mg base) (D_is_wall : DD_is_wall P w K mg base) (D_are_shares : DD_are_shares P w K mg base) (D_margin_of : DD_margin_of P w K mg base) : DD_is_paper P w K mg base := by
  obtain ⟨fa, fd, hm, Fu⟩ := Lf
  refine ⟨fa, fd, fn_make Fu sc_is_paper (by decide) fun cd A outer s H E hr hg => ⟨_, _, ?_, (ss_cons (s_if (t_w (w_or (t_not (t_val (e_def D_is_pair bp_is_pair (a_cons (nm 1) a_nil)))) (w_or (t_not (t_val (e_def D_is_wall bp_is_wall (a_cons (e_ix oIx sIx (nm 1) e_int) a_nil)))) (w_one2 (t_not (t_val (e_def D_are_shares bp_are_shares (a_cons (e_ix oIx sIx (nm 1) e_int) (a_cons (e_callB cLen sLen m_len (by decide +kernel) (a_cons (e_ix oIx sIx (nm 0) e_int) a_nil)) a_nil))))))))) (ss_cons (s_ret e_bool)
    ss_nil) ss_nil)
    (ss_cons (s_ret (e_cmp oGt sRel (e_ix oIx sIx (e_def D_margin_of bp_margin_of (a_cons (nm 0) (a_cons (nm 1) a_nil))) e_int) e_int))
    ss_nil)), fun xs R hl h => ?_⟩, hm, Fu⟩
  · exact Nat.le_of_ble_eq_true rfl
  · obtain ⟨n, w, T, s, os, rfl, hP, q⟩ := h
    have hT := hP.tab
    obtain ⟨r0, T', rfl⟩ : ∃ r0 T', T = r0 :: T' := by
      cases T with
      | nil => have := hT.len; have := hT.n1; simp at *; omega
      | cons r0 T' => exact ⟨_, _, rfl⟩
    have e : isRow (.tuple [lineD s, shD os]) 2 2 = true := rfl
    unfold paperD
    try (walk_at "pz")
    simp only [e]
    try (walk_at "pz")
    refine ⟨s, rfl, hP.nz, ?_⟩
    try (walk_at "pz")
    refine ⟨w, os, by rw [hT.row r0 (by simp)], hT.w4, hP.sh, ?_⟩
    try (walk_at "pz")
    refine ⟨n, w, _, s, os, rfl, hT, hP.lb, hP.sh, fun m hm => ?_⟩
    try (walk_at "pz")
    exact q m hm
abbrev s_check_paper : Stmt := topS 43
theorem sc_check_paper : FnScope ["pays", "paper"] ["pays", "paper"] (defScope s_check_paper) := ⟨rfl, rfl, rfl, by decide +kernel, rfl, by decide +kernel, by decide +kernel⟩
theorem bp_check_paper : BindP "check_paper" s_check_paper ["pays", "paper"] := fun _ _ _ _ _ _ us hl => match us, hl with | [_, _], _ => rfl
abbrev DD_check_paper (P : Program) (w : World) (K : Kx) (mg : Str → Option Value) (base : Heap) : Prop := Df P w K mg base "check_paper" s_check_paper ["pays", "paper"] 12 0 fCheckPaper
theorem ok_check_paper (Lf : Lo K mg "check_paper" s_check_paper) (D_need_pays : DD_need_pays P w K mg base) (D_is_paper : DD_is_paper P w K mg base) : DD_check_paper P w K mg base := by
  obtain ⟨fa, fd, hm, Fu⟩ := Lf
  refine ⟨fa, fd, fn_make Fu sc_check_paper (by decide) fun cd A outer s H E hr hg => ⟨_, _, ?_, (ss_cons (s_expr (e_def D_need_pays bp_need_pays (a_cons (nm 0) a_nil)))
    (ss_cons (s_if (t_not (t_val (e_def D_is_paper bp_is_paper (a_cons (nm 0) (a_cons (nm 1) a_nil))))) (ss_cons s_never
    ss_nil) ss_nil)
    ss_nil)), fun xs R hl h => ?_⟩, hm, Fu⟩
  · exact Nat.le_of_ble_eq_true rfl
  · obtain ⟨n, w, T, s, os, rfl, hP, q⟩ := h
    try (walk_at "pz")
    refine ⟨n, w, T, rfl, hP.tab, ?_⟩
    refine ⟨n, w, T, s, os, rfl, hP.g, fun m hm => ?_⟩
    have := hP.pos hm
    rw [decide_eq_true this]
    try (walk_at "pz")
    exact q
abbrev s_paper_margin : Stmt := topS 44
theorem sc_paper_margin : FnScope ["pays", "paper"] ["pays", "paper"] (defScope s_paper_margin) := ⟨rfl, rfl, rfl, by decide +kernel, rfl, by decide +kernel, by decide +kernel⟩
theorem bp_paper_margin : BindP "paper_margin" s_paper_margin ["pays", "paper"] := fun _ _ _ _ _ _ us hl => match us, hl with | [_, _], _ => rfl
abbrev DD_paper_margin (P : Program) (w : World) (K : Kx) (mg : Str → Option Value) (base : Heap) : Prop := Df P w K mg base "paper_margin" s_paper_margin ["pays", "paper"] 13 0 fPaperMargin
theorem ok_paper_margin (Lf : Lo K mg "paper_margin" s_paper_margin) (D_check_paper : DD_check_paper P w K mg base) (D_margin_of : DD_margin_of P w K mg base) : DD_paper_margin P w K mg base := by
  obtain ⟨fa, fd, hm, Fu⟩ := Lf
  refine ⟨fa, fd, fn_make Fu sc_paper_margin (by decide) fun cd A outer s H E hr hg => ⟨_, _, ?_, (ss_cons (s_expr (e_def D_check_paper bp_check_paper (a_cons (nm 0) (a_cons (nm 1) a_nil))))
    (ss_cons (s_ret (e_def D_margin_of bp_margin_of (a_cons (nm 0) (a_cons (nm 1) a_nil))))
    ss_nil)), fun xs R hl h => ?_⟩, hm, Fu⟩
  · exact Nat.le_of_ble_eq_true rfl
  · obtain ⟨n, w, T, s, os, rfl, hP, q⟩ := h
    try (walk_at "pz")
    refine ⟨n, w, T, s, os, rfl, hP, ?_⟩
    exact ⟨n, w, T, s, os, rfl, hP.tab, hP.lb, hP.sh, q⟩
abbrev DDX_check_paper (P : Program) (w : World) (K : Kx) (mg : Str → Option Value) (base : Heap) : Prop := DfX P w K mg base "check_paper" s_check_paper ["pays", "paper"] 12 0 fCheckX
theorem okx_check_paper (Lf : Lo K mg "check_paper" s_check_paper) (D_need_pays : DD_need_pays P w K mg base) (D_is_paper : DD_is_paper P w K mg base) (C_BadParameter : Px.Cl P w K mg base "BadParameter" "value") : DDX_check_paper P w K mg base := by
  obtain ⟨fa, fd, hm, Fu⟩ := Lf
  refine ⟨fa, fd, fnX_make Fu sc_check_paper (by decide) fun cd A outer s H E hr hg => ⟨_, _, ?_, (xs_cons (x_of (s_expr (e_def D_need_pays bp_need_pays (a_cons (nm 0) a_nil))))
    (xs_cons (x_if (t_not (t_val (e_def D_is_paper bp_is_paper (a_cons (nm 0) (a_cons (nm 1) a_nil))))) (xs_cons (x_raise C_BadParameter (a_cons (nm 1) a_nil))
    xs_nil) xs_nil)
    xs_nil)), fun xs R EX hl h => ?_⟩, hm, Fu⟩
  · exact Nat.le_of_ble_eq_true rfl
  · obtain ⟨n, w, T, s, os, rfl, hP, q⟩ := h
    refine ⟨rfl, n, w, T, rfl, hP.tab, ?_⟩
    refine ⟨rfl, n, w, T, s, os, rfl, hP, fun m hm => ?_⟩
    by_cases z : 0 < m.num
    · rw [decide_eq_true z]
      exact (q m hm).1 z
    · rw [decide_eq_false z]
      exact ⟨_, rfl, (q m hm).2 z⟩
abbrev DDX_paper_margin (P : Program) (w : World) (K : Kx) (mg : Str → Option Value) (base : Heap) : Prop := DfX P w K mg base "paper_margin" s_paper_margin ["pays", "paper"] 13 0 fMarginX
theorem okx_paper_margin (Lf : Lo K mg "paper_margin" s_paper_margin) (D_margin_of : DD_margin_of P w K mg base) (DX_check_paper : DDX_check_paper P w K mg base) : DDX_paper_margin P w K mg base := by
  obtain ⟨fa, fd, hm, Fu⟩ := Lf
  refine ⟨fa, fd, fnX_make Fu sc_paper_margin (by decide) fun cd A outer s H E hr hg => ⟨_, _, ?_, (xs_cons (x_expr (e_defX DX_check_paper bp_check_paper (a_cons (nm 0) (a_cons (nm 1) a_nil))))
    (xs_cons (x_of (s_ret (e_def D_margin_of bp_margin_of (a_cons (nm 0) (a_cons (nm 1) a_nil)))))
    xs_nil)), fun xs R EX hl h => ?_⟩, hm, Fu⟩
  · exact Nat.le_of_ble_eq_true rfl
  · obtain ⟨n, w, T, s, os, rfl, hP, q⟩ := h
    refine ⟨rfl, n, w, T, s, os, rfl, hP, fun m hm => ⟨fun z => ?_, fun z => (q m hm).2 z⟩⟩
    refine ⟨rfl, n, w, T, s, os, rfl, hP.tab, hP.lb, hP.sh, fun m' hm' => ?_⟩
    cases isLeast_eq hm' hm
    exact (q m hm).1 z

end
end K52

set_option Elab.async false
set_option linter.all false
set_option maxRecDepth 100000
set_option maxHeartbeats 4000000
set_option exponentiation.threshold 10000
namespace K52
local macro_rules | `(tactic| walk_at "px") => `(tactic| simp only [Px.rd, Px.ownAt, Px.frz, Px.fAdd, Px.fSub, Px.fMul, Px.fFdiv, Px.fMod, Px.fPow, Px.fRel, Px.fEq_int, Px.fEq_str, Px.fEq_bool, Px.fEq_fq, Px.fIs, Px.fIsTy, Px.fIx_l, Px.fIx_t, Px.ix0, Px.ix1, Px.at_0, Px.at_1, Px.at_2, Px.at_3, Px.at_4, Px.ex_some, Px.fSl, Px.gLen, Px.gAbs, Px.gInt, Px.gTuple, Px.gList, Px.gGcd, Px.gSum, Px.gMax, Px.gMin, Px.gAll, Px.gAny, Px.gRepr, Px.gTy, Px.tyOf, Px.asB, Px.asTru, Px.truD, Px.asNeg, Px.asI, Px.asL, Px.asT, Px.asS, Px.asR1, Px.asR2, Px.asZ, Px.asZM, Px.asRg, Px.asRgI, Px.blkE, Px.wipeE, Px.unown, Px.asS, Px.asE, Px.asTwo, Px.asApp, Px.allD, Px.gNm, Px.isNon, Px.isSt, Px.pick,
  List.map_cons, List.map_nil, List.length_cons, List.length_nil, List.length_set, List.replicate_succ, List.replicate_zero, List.cons_append, List.nil_append, List.append_nil, List.getElem?_cons_zero, List.getD_cons_zero, List.getD_cons_succ, List.getElem?_cons_succ, List.set_cons_zero, List.set_cons_succ, Nat.reduceAdd, Nat.reduceSub, Nat.reduceLT, Nat.reduceLeDiff, Nat.zero_add, Nat.mul_zero, Nat.add_zero, eq_self, Nat.sub_self, true_and, and_true, true_or, if_true, Bool.false_eq_true, if_false, ne_eq, not_false_eq_true, Nat.zero_lt_succ, Nat.lt_add_one, Nat.succ_lt_succ_iff])
local macro_rules | `(tactic| walk_at "pz") => `(tactic| simp only [Px.at_last, Px.fKind_eq, Px.fPair_eq, Px.fIsFr_eq, Px.fRow_eq, Px.fWithin_eq, Px.fmOf_mg, Px.isFr_fq, Px.isTy, decide_true, Bool.not_true, Bool.not_false, Bool.and_true, Bool.true_and, Bool.false_and, Bool.and_false, Bool.or_false, Bool.or_true, Px.px0, Px.px1, Px.fNeedPt_eq, Px.fNeedFr_eq, Px.isSt, List.length_append, List.getElem?_map, and_self, Px.map_d, Px.pairs_map, Px.enumD_map, Px.rd, Px.ownAt, Px.frz, Px.fAdd, Px.fSub, Px.fMul, Px.fFdiv, Px.fMod, Px.fPow, Px.fRel, Px.fEq_int, Px.fEq_str, Px.fEq_bool, Px.fEq_fq, Px.fIs, Px.fIsTy, Px.fIx_l, Px.fIx_t, Px.ix0, Px.ix1, Px.at_0, Px.at_1, Px.at_2, Px.at_3, Px.at_4, Px.ex_some, Px.fSl, Px.gLen_l, Px.gLen_t, Px.gLen_tab, Px.gLen_row, Px.gLen_sh, Px.asS_tab, Px.asS_row, Px.asS_sh, Px.asE_tab, Px.asE_row, Px.asE_sh, Px.asZ_tab, Px.asZ_row, Px.ix_tab0, Px.ix_c0, Px.ix_c1, Px.gAbs, Px.gInt, Px.gTuple_l, Px.gTuple_t, Px.gList_l, Px.gList_t, Px.gGcd, Px.gSum, Px.gMax, Px.gMin, Px.gAll, Px.gAny, Px.gRepr, Px.gTy, Px.tyOf, Px.asB, Px.asTru, Px.truD, Px.asNeg, Px.asI, Px.asL, Px.asT, Px.asS_l, Px.asS_t, Px.asR1, Px.asR2, Px.asZ, Px.asZ_ll, Px.asZ_tt, Px.asZ_lt, Px.asRg, Px.asRgI, Px.blkE, Px.wipeE, Px.unown, Px.asE_l, Px.asE_t, Px.asTwo, Px.asApp, Px.allD, Px.gNm, Px.isNon, Px.isSt, Px.pick,
  List.map_cons, List.map_nil, List.length_cons, List.length_nil, List.length_set, List.replicate_succ, List.replicate_zero, List.cons_append, List.nil_append, List.append_nil, List.getElem?_cons_zero, List.getD_cons_zero, List.getD_cons_succ, List.getElem?_cons_succ, List.set_cons_zero, List.set_cons_succ, Nat.reduceAdd, Nat.reduceSub, Nat.reduceLT, Nat.reduceLeDiff, Nat.zero_add, Nat.mul_zero, Nat.add_zero, eq_self, Nat.sub_self, true_and, and_true, true_or, if_true, Bool.false_eq_true, if_false, ne_eq, not_false_eq_true, Nat.zero_lt_succ, Nat.lt_add_one, Nat.succ_lt_succ_iff])
local macro_rules | `(tactic| walk_at "pu") => `(tactic| simp only [Px.rd, Px.ownAt, Px.frz, Px.asR1, Px.asR2, Px.asRg, Px.asRgI, Px.blkE, Px.wipeE, Px.unown, Px.asApp, Px.gNm, Px.isNon, Px.isSt,
  List.map_cons, List.map_nil, List.length_cons, List.length_nil, List.length_set, List.replicate_succ, List.replicate_zero, List.cons_append, List.nil_append, List.append_nil, List.getElem?_cons_zero, List.getD_cons_zero, List.getD_cons_succ, List.getElem?_cons_succ, List.set_cons_zero, List.set_cons_succ, Nat.reduceAdd, Nat.reduceSub, Nat.reduceLT, Nat.reduceLeDiff, Nat.zero_add, Nat.mul_zero, Nat.add_zero, eq_self, Nat.sub_self, true_and, and_true, true_or, if_true, Bool.false_eq_true, if_false, ne_eq, not_false_eq_true, Nat.zero_lt_succ, Nat.lt_add_one, Nat.succ_lt_succ_iff])
local macro_rules | `(tactic| walk_at "pl") => `(tactic| simp only [Px.asS_lnD, Px.gLen_lnD, Px.asE_lnD, Px.ix_l0, Px.ix_l1, Px.ix_l2])
open PySem PySem.Spec PyProof.Rows L2 Px
section
variable {P : Program} {w : World} {K : Kx} {fg : Fg} {d c l : Addr} {nC : Nat} {tT : List (Addr × Str)} {mg : Str → Option Value} {base : Heap}

abbrev s__law_side : Stmt := topS 54
theorem sc__law_side : FnScope ["state_so", "middle", "side", "step", "room"] ["state_so", "middle"] (defScope s__law_side) := ⟨rfl, rfl, rfl, by decide +kernel, rfl, by decide +kernel, by decide +kernel⟩
theorem bp__law_side : BindP "_law_side" s__law_side ["state_so", "middle"] := fun _ _ _ _ _ _ us hl => match us, hl with | [_, _], _ => rfl
abbrev DD__law_side (P : Program) (w : World) (fg : Fg) (d c l : Addr) (nC : Nat) (tT : List (Addr × Str)) (mg : Str → Option Value) (base : Heap) : Prop := Df P w (stK fg d c l nC tT) mg base "_law_side" s__law_side ["state_so", "middle"] 4 9223372036854775809 fSide
theorem ok__law_side (Lf : Lo fg mg "_law_side" s__law_side) (m_range : mg "range" = none) (D__law_draw : DD__law_draw P w fg d c l nC tT mg base) (D__law_of : DD__law_of P w fg d c l nC tT mg base) : DD__law_side P w fg d c l nC tT mg base := by
  obtain ⟨fa, fd, hm, Fu⟩ := Lf
  refine ⟨fa, fd, fn_make Fu sc__law_side (by decide) fun cd A outer s H E hr hg => ⟨_, _, ?_, (ss_cons (s_set 2 rfl (e_tup (a_cons e_int (a_cons e_int a_nil))))
    (ss_cons (s_for (i_rng1 m_range (a_cons e_int a_nil)) (tn 3) (ss_cons (s_if (t_cmp oEq sEq (nm 2) (e_tup (a_cons e_int (a_cons e_int a_nil)))) (ss_cons (s_set 2 rfl (e_tup (a_cons (e_bin oSub sSub (e_def D__law_draw bp__law_draw (a_cons (nm 0) (a_cons e_int a_nil))) e_int) (a_cons (e_bin oSub sSub (e_def D__law_draw bp__law_draw (a_cons (nm 0) (a_cons e_int a_nil))) e_int) a_nil))))
    ss_nil) ss_nil)
    ss_nil))
    (ss_cons (s_set 2 rfl (e_if (t_cmp oNe sNe (nm 2) (e_tup (a_cons e_int (a_cons e_int a_nil)))) (nm 2) (e_tup (a_cons e_int (a_cons e_int a_nil)))))
    (ss_cons (s_set 4 rfl (e_def D__law_of bp__law_of (a_cons (nm 0) (a_cons (e_l (l_lst (a_cons e_int (a_cons e_int (a_cons e_int (a_cons e_int (a_cons e_int (a_cons e_int a_nil)))))))) a_nil))))
    (ss_cons (s_ret (e_bin oAdd sAdd (nm 2) (e_tup (a_cons (e_bin oAdd sAdd (e_bin oAdd sAdd (e_bin oMul sMul (e_ix oIx sIx (nm 2) e_int) (e_ix oIx sIx (nm 1) e_int)) (e_bin oMul sMul (e_ix oIx sIx (nm 2) e_int) (e_ix oIx sIx (nm 1) e_int))) (nm 4)) a_nil))))
    ss_nil))))), fun xs R hl h => ?_⟩, hm, Fu⟩
  · exact Nat.le_of_ble_eq_true rfl
  · obtain ⟨c', rfl, hc, q⟩ := h
    obtain ⟨⟨c1, c2⟩, c3, c4⟩ := hc
    try (walk_at "pz")
    refine ⟨by decide, by decide, .inr (le_big (by rw [irange_len]; decide)), loop_rng 0 _ (fun i ρ => ∃ (a b : Int) (s3 : Sl), ρ = [.v .st, .v (.d (cellD c')), .v (.d (.tuple [.int a, .int b])), s3, .non] ∧ -3 ≤ a ∧ a ≤ 3 ∧ -3 ≤ b ∧ b ≤ 3) ?_ ?_ _ ⟨0, 0, _, rfl, by decide, by decide, by decide, by decide⟩⟩
    · rintro i ρ L hi hL ⟨a, b, s3, rfl, a1, a2, b1, b2⟩
      try (walk_at "pz")
      simp only [fEq_ii]
      try (walk_at "pz")
      by_cases z : a = 0 ∧ b = 0
      · rw [if_pos (by simp [z])]
        refine ⟨_, rfl, by decide, Bd.lit (by decide), fun k k0 k1 => ?_⟩
        try (walk_at "pz")
        refine ⟨_, rfl, by decide, Bd.lit (by decide), fun j j0 j1 => ?_⟩
        try (walk_at "pz")
        exact hL _ ⟨_, _, _, rfl, by omega, by omega, by omega, by omega⟩
      · rw [if_neg (by simp; omega)]
        exact hL _ ⟨_, _, _, rfl, a1, a2, b1, b2⟩
    · rintro ρ ⟨a, b, s3, rfl, a1, a2, b1, b2⟩
      try (walk_at "pz")
      simp only [fEq_ii]
      try (walk_at "pz")
      have fin : ∀ a b : Int, (a ≠ 0 ∨ b ≠ 0) → -3 ≤ a → a ≤ 3 → -3 ≤ b → b ≤ 3 → ∀ r : Int, 0 ≤ r → r ≤ 9 → CMulW a c'.1 ∧ CMulW b c'.2 ∧ R (.d (.tuple [.int a, .int b, .int (a * c'.1 + b * c'.2 + r)])) := fun a b h0 h1 h2 h3 h4 r r0 r1 =>
        ⟨(Bd.of_lt (n := 4) (j := 3) (by omega) (by decide)).ok (Bd.of_lt (n := 10) (j := 100) (by omega) (by decide)) (by decide) (by decide) (by decide), (Bd.of_lt (n := 4) (j := 3) (by omega) (by decide)).ok (Bd.of_lt (n := 10) (j := 100) (by omega) (by decide)) (by decide) (by decide) (by decide), q a b r h0 h1 h2 h3 h4 r0 r1⟩
      have room : ∀ x ∈ [PyData.int 0, .int 0, .int 1, .int 2, .int 5, .int 9], ∃ r : Int, x = .int r ∧ 0 ≤ r ∧ r ≤ 9 := fun x hx => by
        simp only [List.mem_cons, List.not_mem_nil, or_false] at hx
        rcases hx with rfl | rfl | rfl | rfl | rfl | rfl
        · exact ⟨_, rfl, by decide, by decide⟩
        · exact ⟨_, rfl, by decide, by decide⟩
        · exact ⟨_, rfl, by decide, by decide⟩
        · exact ⟨_, rfl, by decide, by decide⟩
        · exact ⟨_, rfl, by decide, by decide⟩
        · exact ⟨_, rfl, by decide, by decide⟩
      by_cases z : a = 0 ∧ b = 0
      · rw [if_neg (by simp [z])]
        try (walk_at "pz")
        refine ⟨_, rfl, by decide, by decide, fun x hx => ?_⟩
        obtain ⟨r, rfl, r0, r1⟩ := room x hx
        obtain ⟨m1, m2, fq'⟩ := fin 1 0 (by decide) (by decide) (by decide) (by decide) (by decide) r r0 r1
        try (walk_at "pz")
        exact ⟨m1, m2, fq'⟩
      · rw [if_pos (by simp; omega)]
        try (walk_at "pz")
        refine ⟨_, rfl, by decide, by decide, fun x hx => ?_⟩
        obtain ⟨r, rfl, r0, r1⟩ := room x hx
        obtain ⟨m1, m2, fq'⟩ := fin a b (by omega) a1 a2 b1 b2 r r0 r1
        try (walk_at "pz")
        exact ⟨m1, m2, fq'⟩
abbrev s__law_sum : Stmt := topS 62
theorem sc__law_sum : FnScope ["some", "found", "one"] ["some"] (defScope s__law_sum) := ⟨rfl, rfl, rfl, by decide +kernel, rfl, by decide +kernel, by decide +kernel⟩
theorem bp__law_sum : BindP "_law_sum" s__law_sum ["some"] := fun _ _ _ _ _ _ us hl => match us, hl with | [_], _ => rfl
abbrev DD__law_sum (P : Program) (w : World) (K : Kx) (mg : Str → Option Value) (base : Heap) : Prop := Df P w K mg base "_law_sum" s__law_sum ["some"] 4 0 fSum
theorem ok__law_sum (Lf : Lo K mg "_law_sum" s__law_sum) (D__law_plus : DD__law_plus P w K mg base) : DD__law_sum P w K mg base := by
  obtain ⟨fa, fd, hm, Fu⟩ := Lf
  refine ⟨fa, fd, fn_make Fu sc__law_sum (by decide) fun cd A outer s H E hr hg => ⟨_, _, ?_, (ss_cons (s_set 1 rfl (e_tup (a_cons e_int (a_cons e_int a_nil))))
    (ss_cons (s_for (i_seq (nm 0)) (tn 2) (ss_cons (s_set 1 rfl (e_def D__law_plus bp__law_plus (a_cons (nm 1) (a_cons (nm 2) a_nil))))
    ss_nil))
    (ss_cons (s_ret (nm 1))
    ss_nil))), fun xs R hl h => ?_⟩, hm, Fu⟩
  · exact Nat.le_of_ble_eq_true rfl
  · obtain ⟨qs, a, rfl, hq, hn, q⟩ := h
    try (walk_at "pz")
    refine loop_over' (fun q : Rat => Vl.d (fq q)) qs (fun k ρ => ∃ (t : Rat) (m : Nat) (s2 : Sl), ρ = [.v (.d (.list (qs.map fq))), .v (.d (fq t)), s2] ∧ t + sm (qs.drop k) id = sm qs id ∧ Fb m t ∧ m ≤ 1 + (a + 1) * k) ?_ ?_ _ ⟨0, 1, _, rfl, by rw [List.drop_zero]; grind, fz 1 (by decide), by omega⟩
    · rintro k hk ρ L hL ⟨t, m, s2, rfl, ht, hb, hm⟩
      have h1 := hq _ (List.getElem_mem hk)
      rw [List.drop_eq_getElem_cons hk] at ht
      generalize qs[k] = v at h1 ht ⊢
      have hk' : (a + 1) * (k + 1) ≤ (a + 1) * qs.length := Nat.mul_le_mul_left _ hk
      rw [Nat.mul_succ] at hk'
      try (walk_at "pz")
      rw [fPlus_eq hb h1 (by omega)]
      try (walk_at "pz")
      refine hL _ ⟨_, _, _, rfl, ?_, add2 hb h1, by rw [Nat.mul_succ]; omega⟩
      simp only [sm, id] at ht ⊢
      rw [← ht]
      grind
    · rintro ρ ⟨t, m, s2, rfl, ht, hb, hm⟩
      have e1 : t = sm qs id := by
        rw [List.drop_length] at ht
        simp only [sm] at ht
        grind
      subst e1
      try (walk_at "pz")
      exact q
abbrev s__law_above : Stmt := topS 68
theorem sc__law_above : FnScope ["side", "one"] ["side", "one"] (defScope s__law_above) := ⟨rfl, rfl, rfl, by decide +kernel, rfl, by decide +kernel, by decide +kernel⟩
theorem bp__law_above : BindP "_law_above" s__law_above ["side", "one"] := fun _ _ _ _ _ _ us hl => match us, hl with | [_, _], _ => rfl
abbrev DD__law_above (P : Program) (w : World) (K : Kx) (mg : Str → Option Value) (base : Heap) : Prop := Df P w K mg base "_law_above" s__law_above ["side", "one"] 5 0 fAbove
theorem ok__law_above (Lf : Lo K mg "_law_above" s__law_above) (D__law_sum : DD__law_sum P w K mg base) (D__law_times : DD__law_times P w K mg base) : DD__law_above P w K mg base := by
  obtain ⟨fa, fd, hm, Fu⟩ := Lf
  refine ⟨fa, fd, fn_make Fu sc__law_above (by decide) fun cd A outer s H E hr hg => ⟨_, _, ?_, (ss_cons (s_ret (e_def D__law_sum bp__law_sum (a_cons (e_l (l_lst (a_cons (e_def D__law_times bp__law_times (a_cons (e_tup (a_cons (e_ix oIx sIx (nm 0) e_int) (a_cons e_int a_nil))) (a_cons (e_ix oIx sIx (nm 1) e_int) a_nil))) (a_cons (e_def D__law_times bp__law_times (a_cons (e_tup (a_cons (e_ix oIx sIx (nm 0) e_int) (a_cons e_int a_nil))) (a_cons (e_ix oIx sIx (nm 1) e_int) a_nil))) (a_cons (e_tup (a_cons (e_neg (e_ix oIx sIx (nm 0) e_int)) (a_cons e_int a_nil))) a_nil))))) a_nil)))
    ss_nil), fun xs R hl h => ?_⟩, hm, Fu⟩
  · exact Nat.le_of_ble_eq_true rfl
  · obtain ⟨s, p, n, m, rfl, ⟨b1, b2, b3⟩, hp, n0, nm, q⟩ := h
    have f1 := fb_int b1 n0
    have f2 := fb_int b2 n0
    have f3 := fb_int b3.neg n0
    have g1 := f1.mul hp.1
    have g2 := f2.mul hp.2
    unfold lineD
    try (walk_at "pz")
    rw [iq, fTimes_eq f1 hp.1 (by omega)]
    try (walk_at "pz")
    rw [iq, fTimes_eq f2 hp.2 (by omega)]
    try (walk_at "pz")
    rw [iq]
    refine ⟨[_, _, _], n + m, rfl, fun x hx => ?_, by simp; omega, ?_⟩
    · simp only [List.mem_cons, List.not_mem_nil, or_false] at hx
      rcases hx with rfl | rfl | rfl
      · exact g1
      · exact g2
      · exact f3.mono (by omega)
    · have e : sm [(s.1 : Rat) * p.1, (s.2.1 : Rat) * p.2, ((-s.2.2 : Int) : Rat)] id = abv s p := by
        simp only [sm, id, abv, Rat.intCast_neg]
        grind
      rw [e]
      exact q

end
end K52

set_option Elab.async false
set_option linter.all false
set_option maxRecDepth 100000
set_option maxHeartbeats 4000000
set_option exponentiation.threshold 10000
namespace K52
local macro_rules | `(tactic| walk_at "px") => `(tactic| simp only [Px.rd, Px.ownAt, Px.frz, Px.fAdd, Px.fSub, Px.fMul, Px.fFdiv, Px.fMod, Px.fPow, Px.fRel, Px.fEq_int, Px.fEq_str, Px.fEq_bool, Px.fEq_fq, Px.fIs, Px.fIsTy, Px.fIx_l, Px.fIx_t, Px.ix0, Px.ix1, Px.at_0, Px.at_1, Px.at_2, Px.at_3, Px.at_4, Px.ex_some, Px.fSl, Px.gLen, Px.gAbs, Px.gInt, Px.gTuple, Px.gList, Px.gGcd, Px.gSum, Px.gMax, Px.gMin, Px.gAll, Px.gAny, Px.gRepr, Px.gTy, Px.tyOf, Px.asB, Px.asTru, Px.truD, Px.asNeg, Px.asI, Px.asL, Px.asT, Px.asS, Px.asR1, Px.asR2, Px.asZ, Px.asZM, Px.asRg, Px.asRgI, Px.blkE, Px.wipeE, Px.unown, Px.asS, Px.asE, Px.asTwo, Px.asApp, Px.allD, Px.gNm, Px.isNon, Px.isSt, Px.pick,
  List.map_cons, List.map_nil, List.length_cons, List.length_nil, List.length_set, List.replicate_succ, List.replicate_zero, List.cons_append, List.nil_append, List.append_nil, List.getElem?_cons_zero, List.getD_cons_zero, List.getD_cons_succ, List.getElem?_cons_succ, List.set_cons_zero, List.set_cons_succ, Nat.reduceAdd, Nat.reduceSub, Nat.reduceLT, Nat.reduceLeDiff, Nat.zero_add, Nat.mul_zero, Nat.add_zero, eq_self, Nat.sub_self, true_and, and_true, true_or, if_true, Bool.false_eq_true, if_false, ne_eq, not_false_eq_true, Nat.zero_lt_succ, Nat.lt_add_one, Nat.succ_lt_succ_iff])
local macro_rules | `(tactic| walk_at "pz") => `(tactic| simp only [Px.at_last, Px.fKind_eq, Px.fPair_eq, Px.fIsFr_eq, Px.fRow_eq, Px.fWithin_eq, Px.fmOf_mg, Px.isFr_fq, Px.isTy, decide_true, Bool.not_true, Bool.not_false, Bool.and_true, Bool.true_and, Bool.false_and, Bool.and_false, Bool.or_false, Bool.or_true, Px.px0, Px.px1, Px.fNeedPt_eq, Px.fNeedFr_eq, Px.isSt, List.length_append, List.getElem?_map, and_self, Px.map_d, Px.pairs_map, Px.enumD_map, Px.rd, Px.ownAt, Px.frz, Px.fAdd, Px.fSub, Px.fMul, Px.fFdiv, Px.fMod, Px.fPow, Px.fRel, Px.fEq_int, Px.fEq_str, Px.fEq_bool, Px.fEq_fq, Px.fIs, Px.fIsTy, Px.fIx_l, Px.fIx_t, Px.ix0, Px.ix1, Px.at_0, Px.at_1, Px.at_2, Px.at_3, Px.at_4, Px.ex_some, Px.fSl, Px.gLen_l, Px.gLen_t, Px.gLen_tab, Px.gLen_row, Px.gLen_sh, Px.asS_tab, Px.asS_row, Px.asS_sh, Px.asE_tab, Px.asE_row, Px.asE_sh, Px.asZ_tab, Px.asZ_row, Px.ix_tab0, Px.ix_c0, Px.ix_c1, Px.gAbs, Px.gInt, Px.gTuple_l, Px.gTuple_t, Px.gList_l, Px.gList_t, Px.gGcd, Px.gSum, Px.gMax, Px.gMin, Px.gAll, Px.gAny, Px.gRepr, Px.gTy, Px.tyOf, Px.asB, Px.asTru, Px.truD, Px.asNeg, Px.asI, Px.asL, Px.asT, Px.asS_l, Px.asS_t, Px.asR1, Px.asR2, Px.asZ, Px.asZ_ll, Px.asZ_tt, Px.asZ_lt, Px.asRg, Px.asRgI, Px.blkE, Px.wipeE, Px.unown, Px.asE_l, Px.asE_t, Px.asTwo, Px.asApp, Px.allD, Px.gNm, Px.isNon, Px.isSt, Px.pick,
  List.map_cons, List.map_nil, List.length_cons, List.length_nil, List.length_set, List.replicate_succ, List.replicate_zero, List.cons_append, List.nil_append, List.append_nil, List.getElem?_cons_zero, List.getD_cons_zero, List.getD_cons_succ, List.getElem?_cons_succ, List.set_cons_zero, List.set_cons_succ, Nat.reduceAdd, Nat.reduceSub, Nat.reduceLT, Nat.reduceLeDiff, Nat.zero_add, Nat.mul_zero, Nat.add_zero, eq_self, Nat.sub_self, true_and, and_true, true_or, if_true, Bool.false_eq_true, if_false, ne_eq, not_false_eq_true, Nat.zero_lt_succ, Nat.lt_add_one, Nat.succ_lt_succ_iff])
local macro_rules | `(tactic| walk_at "pu") => `(tactic| simp only [Px.rd, Px.ownAt, Px.frz, Px.asR1, Px.asR2, Px.asRg, Px.asRgI, Px.blkE, Px.wipeE, Px.unown, Px.asApp, Px.gNm, Px.isNon, Px.isSt,
  List.map_cons, List.map_nil, List.length_cons, List.length_nil, List.length_set, List.replicate_succ, List.replicate_zero, List.cons_append, List.nil_append, List.append_nil, List.getElem?_cons_zero, List.getD_cons_zero, List.getD_cons_succ, List.getElem?_cons_succ, List.set_cons_zero, List.set_cons_succ, Nat.reduceAdd, Nat.reduceSub, Nat.reduceLT, Nat.reduceLeDiff, Nat.zero_add, Nat.mul_zero, Nat.add_zero, eq_self, Nat.sub_self, true_and, and_true, true_or, if_true, Bool.false_eq_true, if_false, ne_eq, not_false_eq_true, Nat.zero_lt_succ, Nat.lt_add_one, Nat.succ_lt_succ_iff])
local macro_rules | `(tactic| walk_at "pl") => `(tactic| simp only [Px.asS_lnD, Px.gLen_lnD, Px.asE_lnD, Px.ix_l0, Px.ix_l1, Px.ix_l2])
open PySem PySem.Spec PyProof.Rows L2 Px
section
variable {P : Program} {w : World} {K : Kx} {fg : Fg} {d c l : Addr} {nC : Nat} {tT : List (Addr × Str)} {mg : Str → Option Value} {base : Heap}

abbrev s__law_paid_over : Stmt := topS 67
theorem sc__law_paid_over : FnScope ["cells", "parts", "found", "cell", "part"] ["cells", "parts"] (defScope s__law_paid_over) := ⟨rfl, rfl, rfl, by decide +kernel, rfl, by decide +kernel, by decide +kernel⟩
theorem bp__law_paid_over : BindP "_law_paid_over" s__law_paid_over ["cells", "parts"] := fun _ _ _ _ _ _ us hl => match us, hl with | [_, _], _ => rfl
abbrev DD__law_paid_over (P : Program) (w : World) (K : Kx) (mg : Str → Option Value) (base : Heap) : Prop := Df P w K mg base "_law_paid_over" s__law_paid_over ["cells", "parts"] 5 0 fRowMean
theorem ok__law_paid_over (Lf : Lo K mg "_law_paid_over" s__law_paid_over) (m_zip : mg "zip" = none) (D__law_spot_plus : DD__law_spot_plus P w K mg base) (D__law_spot_times : DD__law_spot_times P w K mg base) (D__law_spot : DD__law_spot P w K mg base) : DD__law_paid_over P w K mg base := by
  obtain ⟨fa, fd, hm, Fu⟩ := Lf
  refine ⟨fa, fd, fn_make Fu sc__law_paid_over (by decide) fun cd A outer s H E hr hg => ⟨_, _, ?_, (ss_cons (s_set 2 rfl (e_tup (a_cons (e_tup (a_cons e_int (a_cons e_int a_nil))) (a_cons (e_tup (a_cons e_int (a_cons e_int a_nil))) a_nil))))
    (ss_cons (s_for (i_zipM m_zip (a_cons (nm 0) (a_cons (nm 1) a_nil))) (g_tup (gs_cons (tn 3) (gs_cons (tn 4) gs_nil)) rfl fun c h => pg_tup c h) (ss_cons (s_set 2 rfl (e_def D__law_spot_plus bp__law_spot_plus (a_cons (nm 2) (a_cons (e_def D__law_spot_times bp__law_spot_times (a_cons (e_def D__law_spot bp__law_spot (a_cons (nm 3) a_nil)) (a_cons (nm 4) a_nil))) a_nil))))
    ss_nil))
    (ss_cons (s_ret (nm 2))
    ss_nil))), fun xs R hl h => ?_⟩, hm, Fu⟩
  · exact Nat.le_of_ble_eq_true rfl
  · obtain ⟨w, r, os, rfl, hr, ho, q⟩ := h
    have hz : (r.zip os).length ≤ 4 := by rw [List.length_zip]; have := hr.1; have := hr.2.1; omega
    try (walk_at "pz")
    refine loop_over' (fun p : Cell × Rat => Vl.d (.tuple [cellD p.1, fq p.2])) (r.zip os) (fun k ρ => ∃ t m s3 s4, ρ = [.v (.d (rowD r)), .v (.d (shD os)), .v (.d (pt t)), s3, s4] ∧ pAdd t (sm ((r.zip os).drop k) (fun p => (cq p.1).1 * p.2), sm ((r.zip os).drop k) (fun p => (cq p.1).2 * p.2)) = rowMean r os ∧ Pb m t ∧ m ≤ 1 + 13 * k) ?_ ?_ _ ⟨(0, 0), 1, _, _, rfl, ?_, ⟨fz 1 (by decide), fz 1 (by decide)⟩, by omega⟩
    · rintro k hk ρ L hL ⟨t, m, s3, s4, rfl, ht, hb, hm⟩
      have h1 : ((r.zip os)[k]).1 ∈ r := (List.of_mem_zip (List.getElem_mem hk)).1
      have h2 : Fb 5 ((r.zip os)[k]).2 := ho.bd _ (List.of_mem_zip (List.getElem_mem hk)).2
      rw [List.drop_eq_getElem_cons hk] at ht
      generalize (r.zip os)[k] = pr at h1 h2 ht ⊢
      have hc := cq_b (hr.2.2 _ h1)
      have b3 := Pb.mul hc h2
      try (walk_at "pz")
      refine ⟨_, rfl, ?_⟩
      try (walk_at "pz")
      rw [fPtTimes_eq hc h2, fPtPlus_eq hb b3]
      try (walk_at "pz")
      refine hL _ ⟨_, _, _, _, rfl, ?_, hb.add2 b3, by omega⟩
      rw [← ht]
      simp only [sm, pAdd, pMul]
      refine Prod.ext ?_ ?_
      · grind
      · grind
    · rintro ρ ⟨t, m, s3, s4, rfl, ht, hb, hm⟩
      have e1 : t = rowMean r os := by
        rw [List.drop_length] at ht
        rw [← ht]
        simp only [sm, pAdd]
        refine Prod.ext ?_ ?_
        · grind
        · grind
      subst e1
      try (walk_at "pz")
      exact q
    · rw [List.drop_zero, rowMean_zip]
      simp only [pAdd]
      refine Prod.ext ?_ ?_
      · grind
      · grind
abbrev s__law_floor : Stmt := topS 70
theorem sc__law_floor : FnScope ["one"] ["one"] (defScope s__law_floor) := ⟨rfl, rfl, rfl, by decide +kernel, rfl, by decide +kernel, by decide +kernel⟩
theorem bp__law_floor : BindP "_law_floor" s__law_floor ["one"] := fun _ _ _ _ _ _ us hl => match us, hl with | [_], _ => rfl
abbrev DD__law_floor (P : Program) (w : World) (K : Kx) (mg : Str → Option Value) (base : Heap) : Prop := Df P w K mg base "_law_floor" s__law_floor ["one"] 1 0 fFloor
theorem ok__law_floor (Lf : Lo K mg "_law_floor" s__law_floor)  : DD__law_floor P w K mg base := by
  obtain ⟨fa, fd, hm, Fu⟩ := Lf
  refine ⟨fa, fd, fn_make Fu sc__law_floor (by decide) fun cd A outer s H E hr hg => ⟨_, _, ?_, (ss_cons (s_ret (e_bin oFdiv sFdiv (e_ix oIx sIx (nm 0) e_int) (e_ix oIx sIx (nm 0) e_int)))
    ss_nil), fun xs R hl h => ?_⟩, hm, Fu⟩
  · exact Nat.le_of_ble_eq_true rfl
  · obtain ⟨r, n, rfl, hb, hn, q⟩ := h
    try (walk_at "pz")
    exact ⟨⟨den_ne r, Nat.lt_trans ((hb.den.mono hn).log (by decide)) (by decide)⟩, q⟩
abbrev s__law_low : Stmt := topS 71
theorem sc__law_low : FnScope ["table_so", "side", "chances", "found", "cells", "here"] ["table_so", "side", "chances"] (defScope s__law_low) := ⟨rfl, rfl, rfl, by decide +kernel, rfl, by decide +kernel, by decide +kernel⟩
theorem bp__law_low : BindP "_law_low" s__law_low ["table_so", "side", "chances"] := fun _ _ _ _ _ _ us hl => match us, hl with | [_, _, _], _ => rfl
abbrev DD__law_low (P : Program) (w : World) (K : Kx) (mg : Str → Option Value) (base : Heap) : Prop := Df P w K mg base "_law_low" s__law_low ["table_so", "side", "chances"] 6 0 fLow
theorem ok__law_low (Lf : Lo K mg "_law_low" s__law_low) (D__law_above : DD__law_above P w K mg base) (D__law_paid_over : DD__law_paid_over P w K mg base) (D__law_below : DD__law_below P w K mg base) : DD__law_low P w K mg base := by
  obtain ⟨fa, fd, hm, Fu⟩ := Lf
  refine ⟨fa, fd, fn_make Fu sc__law_low (by decide) fun cd A outer s H E hr hg => ⟨_, _, ?_, (ss_cons (s_set 3 rfl e_none)
    (ss_cons (s_for (i_seq (nm 0)) (tn 4) (ss_cons (s_set 5 rfl (e_def D__law_above bp__law_above (a_cons (e_bin oAdd sAdd (e_slice (nm 1) o_none (o_some e_int)) (e_tup (a_cons e_int a_nil))) (a_cons (e_def D__law_paid_over bp__law_paid_over (a_cons (nm 4) (a_cons (nm 2) a_nil))) a_nil))))
    (ss_cons (s_set 3 rfl (e_if (t_w (w_or (t_cmp oIs sIs (nm 3) e_none) (w_one2 (t_val (e_def D__law_below bp__law_below (a_cons (nm 5) (a_cons (nm 3) a_nil))))))) (nm 5) (nm 3)))
    ss_nil)))
    (ss_cons (s_ret (nm 3))
    ss_nil))), fun xs R hl h => ?_⟩, hm, Fu⟩
  · exact Nat.le_of_ble_eq_true rfl
  · obtain ⟨n, w, T, s, os, rfl, hT, ho, hb, q⟩ := h
    have l4 := hT.n4
    have ll := hT.len
    have l1 := hT.n1
    have e : ∀ r : Rat, fq r = .tuple [.int r.num, .int r.den] := fun _ => rfl
    have lb : LineB 300 (s.1, s.2.1, 0) := ⟨hb.1, hb.2.1, show Bd 300 (0 : Int) from Bd.lit (by decide)⟩
    have ea := abv_zero s.1 s.2.1
    have fb : ∀ r ∈ T, Fb 1100 (linQ s.1 s.2.1 (rowMean r os)) := fun r hr => by
      rw [← ea]
      exact (fb_abv lb (rowMean_b (hT.rowOk hr) ho) (by decide)).mono (by decide)
    unfold lineD
    try (walk_at "pz")
    refine loop_over' (fun r => Vl.d (rowD r)) T (fun k ρ => ∃ f s4 s5, ρ = [.v (.d (tabD T)), .v (.d (.tuple [.int s.1, .int s.2.1, .int s.2.2])), .v (.d (shD os)), .v (.d f), s4, s5] ∧ ((k = 0 ∧ f = .none) ∨ ∃ m, f = fq m ∧ IsLeast ((T.take k).map fun r => linQ s.1 s.2.1 (rowMean r os)) m)) ?_ ?_ _ ⟨_, _, _, rfl, .inl ⟨rfl, rfl⟩⟩
    · rintro k hk ρ L hL ⟨f, s4, s5, rfl, hf⟩
      have tk := List.take_succ_eq_append_getElem hk
      have hr := List.getElem_mem hk
      generalize T[k] = r at tk hr ⊢
      have fbr := fb r hr
      try (walk_at "pz")
      simp only [cut2]
      try (walk_at "pz")
      refine ⟨w, r, os, rfl, hT.rowOk hr, ho, ?_⟩
      refine ⟨(s.1, s.2.1, 0), _, 300, 60, rfl, lb, rowMean_b (hT.rowOk hr) ho, by decide, by decide, ?_⟩
      rw [ea]
      generalize hx : linQ s.1 s.2.1 (rowMean r os) = x at fbr
      have tm : (T.take (k + 1)).map (fun r => linQ s.1 s.2.1 (rowMean r os)) = (T.take k).map (fun r => linQ s.1 s.2.1 (rowMean r os)) ++ [x] := by rw [tk, List.map_append, ← hx]; rfl
      rcases hf with ⟨rfl, rfl⟩ | ⟨m, rfl, hm⟩
      · try (walk_at "pz")
        refine hL _ ⟨_, _, _, rfl, .inr ⟨x, rfl, ?_⟩⟩
        rw [tm]
        exact ⟨by simp, fun y hy => by simp at hy; rw [hy]; exact Rat.le_refl⟩
      · have fbm : Fb 1100 m := by
          obtain ⟨r', hr', rfl⟩ := List.mem_map.mp hm.1
          exact fb r' (List.mem_of_mem_take hr')
        rw [e m]
        try (walk_at "pz")
        rw [if_neg (by decide), ← e m, fLess_eq fbr fbm (by decide)]
        try (walk_at "pz")
        by_cases z : x < m
        · rw [if_pos (by simpa using z)]
          refine hL _ ⟨_, _, _, rfl, .inr ⟨x, rfl, ?_⟩⟩
          rw [tm]
          refine ⟨by simp, fun y hy => ?_⟩
          rcases List.mem_append.mp hy with hy | hy
          · exact Rat.le_trans (Rat.le_of_lt z) (hm.2 y hy)
          · rw [List.mem_singleton.mp hy]; exact Rat.le_refl
        · rw [if_neg (by simpa using z)]
          refine hL _ ⟨_, _, _, rfl, .inr ⟨m, rfl, ?_⟩⟩
          rw [tm]
          refine ⟨List.mem_append_left _ hm.1, fun y hy => ?_⟩
          rcases List.mem_append.mp hy with hy | hy
          · exact hm.2 y hy
          · rw [List.mem_singleton.mp hy]; exact Rat.not_lt.mp z
    · rintro ρ ⟨f, s4, s5, rfl, hf⟩
      rcases hf with ⟨z, _⟩ | ⟨m, rfl, hm⟩
      · omega
      · rw [List.take_length] at hm
        try (walk_at "pz")
        exact q m hm
abbrev s__law_paper : Stmt := topS 72
theorem sc__law_paper : FnScope ["state_so", "table_so", "chances", "side", "scale", "low", "deep"] ["state_so"] (defScope s__law_paper) := ⟨rfl, rfl, rfl, by decide +kernel, rfl, by decide +kernel, by decide +kernel⟩
theorem bp__law_paper : BindP "_law_paper" s__law_paper ["state_so"] := fun _ _ _ _ _ _ us hl => match us, hl with | [_], _ => rfl
abbrev DD__law_paper (P : Program) (w : World) (fg : Fg) (d c l : Addr) (nC : Nat) (tT : List (Addr × Str)) (mg : Str → Option Value) (base : Heap) : Prop := Df P w (stK fg d c l nC tT) mg base "_law_paper" s__law_paper ["state_so"] 7 42535295865117307946756883984253190150 fPaperDraw2
theorem ok__law_paper (Lf : Lo fg mg "_law_paper" s__law_paper) (m_len : mg "len" = none) (D__law_table : DD__law_table P w fg d c l nC tT mg base) (D__law_draw : DD__law_draw P w fg d c l nC tT mg base) (D__law_of : DD__law_of P w fg d c l nC tT mg base) (D__law_shares : DD__law_shares P w fg d c l nC tT mg base) (D__law_side : DD__law_side P w fg d c l nC tT mg base) (D__law_low : DD__law_low P w (stK fg d c l nC tT) mg base) (D__law_floor : DD__law_floor P w (stK fg d c l nC tT) mg base) : DD__law_paper P w fg d c l nC tT mg base := by
  obtain ⟨fa, fd, hm, Fu⟩ := Lf
  refine ⟨fa, fd, fn_make Fu sc__law_paper (by decide) fun cd A outer s H E hr hg => ⟨_, _, ?_, (ss_cons (s_set 1 rfl (e_def D__law_table bp__law_table (a_cons (nm 0) (a_cons (e_bin oAdd sAdd e_int (e_def D__law_draw bp__law_draw (a_cons (nm 0) (a_cons e_int a_nil)))) (a_cons e_int (a_cons (e_def D__law_of bp__law_of (a_cons (nm 0) (a_cons (e_l (l_lst (a_cons e_int (a_cons e_int (a_cons e_int a_nil))))) a_nil))) a_nil))))))
    (ss_cons (s_par 2 3 rfl rfl (by decide) (a_cons (e_def D__law_shares bp__law_shares (a_cons (nm 0) (a_cons (e_callB cLen sLen m_len (by decide +kernel) (a_cons (e_ix oIx sIx (nm 1) e_int) a_nil)) a_nil))) (a_cons (e_def D__law_side bp__law_side (a_cons (nm 0) (a_cons (e_tup (a_cons e_int (a_cons e_int a_nil))) a_nil))) a_nil)) fun pa => ps_par (by rfl) sc__law_paper.nd rfl rfl (by decide) rfl rfl pa (by rfl))
    (ss_cons (s_set 4 rfl (e_def D__law_of bp__law_of (a_cons (nm 0) (a_cons (e_l (l_lst (a_cons e_int (a_cons e_int (a_cons e_int (a_cons (e_bin oPow sPow e_int e_int) a_nil)))))) a_nil))))
    (ss_cons (s_set 3 rfl (e_tup (a_cons (e_bin oMul sMul (e_ix oIx sIx (nm 3) e_int) (nm 4)) (a_cons (e_bin oMul sMul (e_ix oIx sIx (nm 3) e_int) (nm 4)) (a_cons e_int a_nil)))))
    (ss_cons (s_set 5 rfl (e_def D__law_low bp__law_low (a_cons (nm 1) (a_cons (nm 3) (a_cons (nm 2) a_nil)))))
    (ss_cons (s_set 6 rfl (e_def D__law_floor bp__law_floor (a_cons (nm 5) a_nil)))
    (ss_cons (s_set 6 rfl (e_if (t_cmp oEq sEq (e_tup (a_cons (nm 6) (a_cons e_int a_nil))) (nm 5)) (e_bin oSub sSub (nm 6) e_int) (nm 6)))
    (ss_cons (s_ret (e_tup (a_cons (nm 1) (a_cons (e_tup (a_cons (e_bin oAdd sAdd (e_slice (nm 3) o_none (o_some e_int)) (e_tup (a_cons (e_bin oSub sSub (nm 6) (e_def D__law_of bp__law_of (a_cons (nm 0) (a_cons (e_l (l_lst (a_cons e_int (a_cons e_int (a_cons e_int (a_cons e_int (a_cons e_int a_nil))))))) a_nil)))) a_nil))) (a_cons (nm 2) a_nil))) a_nil))))
    ss_nil)))))))), fun xs R hl h => ?_⟩, hm, Fu⟩
  · exact Nat.le_of_ble_eq_true rfl
  · obtain ⟨rfl, q⟩ := h
    try (walk_at "pz")
    refine ⟨_, rfl, by decide, Bd.lit (by decide), fun k k0 k1 => ?_⟩
    obtain ⟨k, rfl⟩ := Int.eq_ofNat_of_zero_le k0
    try (walk_at "pz")
    refine ⟨_, rfl, by decide, by decide, fun x hx => ?_⟩
    obtain ⟨h, rfl, h0, h1⟩ : ∃ h : Int, x = .int h ∧ 0 ≤ h ∧ h ≤ 100 := by
      simp only [List.mem_cons, List.not_mem_nil, or_false] at hx
      rcases hx with rfl | rfl | rfl
      · exact ⟨_, rfl, by decide, by decide⟩
      · exact ⟨_, rfl, by decide, by decide⟩
      · exact ⟨_, rfl, by decide, by decide⟩
    refine ⟨1 + k, 3, h, by rw [Int.natCast_add]; rfl, by omega, by omega, by decide, by decide, h0, h1, fun w T hT hw3 => ?_⟩
    obtain ⟨r0, T', rfl⟩ : ∃ r0 T', T = r0 :: T' := by
      cases T with
      | nil => have := hT.len; have := hT.n1; simp at *; omega
      | cons r0 T' => exact ⟨_, _, rfl⟩
    have hw := hT.row r0 (by simp)
    subst hw
    try (walk_at "pz")
    refine ⟨_, rfl, hT.w1, hT.w4, fun cs hc => ?_⟩
    try (walk_at "pz")
    refine ⟨(0, 0), rfl, by decide, fun a b r ab a1 a2 b1 b2 r1 r2 => ?_⟩
    refine ⟨⟨by decide, by decide, by decide⟩, ?_⟩
    refine ⟨_, rfl, by decide, by decide, fun x hx => ?_⟩
    obtain ⟨c, rfl, c0, c1⟩ : ∃ c : Int, x = .int c ∧ 1 ≤ c ∧ c ≤ 1000000000 := by
      simp only [List.mem_cons, List.not_mem_nil, or_false] at hx
      rcases hx with rfl | rfl | rfl | rfl
      · exact ⟨_, rfl, by decide, by decide⟩
      · exact ⟨_, rfl, by decide, by decide⟩
      · exact ⟨_, rfl, by decide, by decide⟩
      · exact ⟨_, rfl, by decide, by decide⟩
    have ba : Bd 3 a := Bd.of_lt (j := 3) (by omega) (by decide)
    have bb : Bd 3 b := Bd.of_lt (j := 3) (by omega) (by decide)
    have bc : Bd 31 c := Bd.of_lt (j := 1000000000) (by omega) (by decide)
    unfold lineD
    try (walk_at "pz")
    refine ⟨ba.ok bc (by decide) (by decide) (by decide), bb.ok bc (by decide) (by decide) (by decide), ?_⟩
    have lb : LineB 40 (a * c, b * c, 0) := ⟨(ba.mul bc).mono (by decide), (bb.mul bc).mono (by decide), show Bd 40 (0 : Int) from Bd.lit (by decide)⟩
    have nz : a * c ≠ 0 ∨ b * c ≠ 0 := ab.imp (fun z => Int.mul_ne_zero z (by omega)) (fun z => Int.mul_ne_zero z (by omega))
    generalize a * c = A at lb nz ⊢
    generalize b * c = B at lb nz ⊢
    refine ⟨_, _, _, (A, B, 0), cs, rfl, hT, hc, ⟨lb.1.mono (by decide), lb.2.1.mono (by decide), lb.2.2.mono (by decide)⟩, fun m hm => ?_⟩
    have ea := abv_zero A B
    have fm : Fb 250 m := by
      obtain ⟨r', hr', rfl⟩ := List.mem_map.mp hm.1
      rw [← ea]
      exact (fb_abv lb (rowMean_b (hT.rowOk hr') hc) (by decide)).mono (by decide)
    refine ⟨m, 250, rfl, fm, by decide, ?_⟩
    have fl := floor_le m
    have fb := floor_b fm
    generalize m.num.fdiv m.den = f at fl fb ⊢
    have five : ∀ x ∈ [PyData.int 0, .int 0, .int 0, .int 1, .int 7], ∃ r : Int, x = .int r ∧ 0 ≤ r ∧ r ≤ 7 := fun x hx => by
      simp only [List.mem_cons, List.not_mem_nil, or_false] at hx
      rcases hx with rfl | rfl | rfl | rfl | rfl
      · exact ⟨_, rfl, by decide, by decide⟩
      · exact ⟨_, rfl, by decide, by decide⟩
      · exact ⟨_, rfl, by decide, by decide⟩
      · exact ⟨_, rfl, by decide, by decide⟩
      · exact ⟨_, rfl, by decide, by decide⟩
    have key : ∀ (dp : Int), ((dp : Int) : Rat) < m → Bd 251 dp → ∀ r : Int, 0 ≤ r → r ≤ 7 → R (.d (.tuple [tabD (r0 :: T'), .tuple [.tuple [.int A, .int B, .int (dp - r)], shD cs]])) := fun dp dl db r q1 q2 => by
      refine q _ _ _ (A, B, dp - r) cs ⟨hT, hc, ⟨lb.1.mono (by decide), lb.2.1.mono (by decide), ?_⟩, nz, fun x hx => ?_⟩ (by omega) (by omega) lb
      · have : Bd 251 r := Bd.of_lt (j := 7) (by omega) (Nat.lt_of_lt_of_le (by decide : 7 < 2 ^ 3) (Nat.pow_le_pow_right (by decide) (by decide)))
        exact (db.sub this).mono (by decide)
      · have h2 := hm.2 _ (List.mem_map.mpr ⟨x, hx, rfl⟩)
        have h3 : (((dp - r : Int)) : Rat) ≤ (dp : Rat) := Rat.intCast_le_intCast.mpr (by omega)
        rw [abv_lin]
        have h4 : (((dp - r : Int)) : Rat) < linQ A B (rowMean x cs) := by grind
        show 0 < linQ A B (rowMean x cs) - (((dp - r : Int)) : Rat)
        grind
    try (walk_at "pz")
    rw [iq, fEq_fq]
    try (walk_at "pz")
    simp only [cut2]
    by_cases z : ((f : Int) : Rat) = m
    · rw [if_pos (by simpa using z)]
      refine ⟨_, rfl, by decide, by decide, fun x hx => ?_⟩
      obtain ⟨r, rfl, q1, q2⟩ := five x hx
      try (walk_at "pz")
      refine key (f - 1) ?_ ?_ r q1 q2
      · rw [← z]
        exact Rat.intCast_lt_intCast.mpr (by omega)
      · exact (fb.sub (Bd.lit (by decide)))
    · rw [if_neg (by simpa using z)]
      refine ⟨_, rfl, by decide, by decide, fun x hx => ?_⟩
      obtain ⟨r, rfl, q1, q2⟩ := five x hx
      try (walk_at "pz")
      exact key f (by grind) (fb.mono (by decide)) r q1 q2

end
end K52

set_option Elab.async false
set_option linter.all false
set_option maxRecDepth 100000
set_option maxHeartbeats 4000000
set_option exponentiation.threshold 10000
namespace K52
local macro_rules | `(tactic| walk_at "px") => `(tactic| simp only [Px.rd, Px.ownAt, Px.frz, Px.fAdd, Px.fSub, Px.fMul, Px.fFdiv, Px.fMod, Px.fPow, Px.fRel, Px.fEq_int, Px.fEq_str, Px.fEq_bool, Px.fEq_fq, Px.fIs, Px.fIsTy, Px.fIx_l, Px.fIx_t, Px.ix0, Px.ix1, Px.at_0, Px.at_1, Px.at_2, Px.at_3, Px.at_4, Px.ex_some, Px.fSl, Px.gLen, Px.gAbs, Px.gInt, Px.gTuple, Px.gList, Px.gGcd, Px.gSum, Px.gMax, Px.gMin, Px.gAll, Px.gAny, Px.gRepr, Px.gTy, Px.tyOf, Px.asB, Px.asTru, Px.truD, Px.asNeg, Px.asI, Px.asL, Px.asT, Px.asS, Px.asR1, Px.asR2, Px.asZ, Px.asZM, Px.asRg, Px.asRgI, Px.blkE, Px.wipeE, Px.unown, Px.asS, Px.asE, Px.asTwo, Px.asApp, Px.allD, Px.gNm, Px.isNon, Px.isSt, Px.pick,
  List.map_cons, List.map_nil, List.length_cons, List.length_nil, List.length_set, List.replicate_succ, List.replicate_zero, List.cons_append, List.nil_append, List.append_nil, List.getElem?_cons_zero, List.getD_cons_zero, List.getD_cons_succ, List.getElem?_cons_succ, List.set_cons_zero, List.set_cons_succ, Nat.reduceAdd, Nat.reduceSub, Nat.reduceLT, Nat.reduceLeDiff, Nat.zero_add, Nat.mul_zero, Nat.add_zero, eq_self, Nat.sub_self, true_and, and_true, true_or, if_true, Bool.false_eq_true, if_false, ne_eq, not_false_eq_true, Nat.zero_lt_succ, Nat.lt_add_one, Nat.succ_lt_succ_iff])
local macro_rules | `(tactic| walk_at "pz") => `(tactic| simp only [Px.at_last, Px.fKind_eq, Px.fPair_eq, Px.fIsFr_eq, Px.fRow_eq, Px.fWithin_eq, Px.fmOf_mg, Px.isFr_fq, Px.isTy, decide_true, Bool.not_true, Bool.not_false, Bool.and_true, Bool.true_and, Bool.false_and, Bool.and_false, Bool.or_false, Bool.or_true, Px.px0, Px.px1, Px.fNeedPt_eq, Px.fNeedFr_eq, Px.isSt, List.length_append, List.getElem?_map, and_self, Px.map_d, Px.pairs_map, Px.enumD_map, Px.rd, Px.ownAt, Px.frz, Px.fAdd, Px.fSub, Px.fMul, Px.fFdiv, Px.fMod, Px.fPow, Px.fRel, Px.fEq_int, Px.fEq_str, Px.fEq_bool, Px.fEq_fq, Px.fIs, Px.fIsTy, Px.fIx_l, Px.fIx_t, Px.ix0, Px.ix1, Px.at_0, Px.at_1, Px.at_2, Px.at_3, Px.at_4, Px.ex_some, Px.fSl, Px.gLen_l, Px.gLen_t, Px.gLen_tab, Px.gLen_row, Px.gLen_sh, Px.asS_tab, Px.asS_row, Px.asS_sh, Px.asE_tab, Px.asE_row, Px.asE_sh, Px.asZ_tab, Px.asZ_row, Px.ix_tab0, Px.ix_c0, Px.ix_c1, Px.gAbs, Px.gInt, Px.gTuple_l, Px.gTuple_t, Px.gList_l, Px.gList_t, Px.gGcd, Px.gSum, Px.gMax, Px.gMin, Px.gAll, Px.gAny, Px.gRepr, Px.gTy, Px.tyOf, Px.asB, Px.asTru, Px.truD, Px.asNeg, Px.asI, Px.asL, Px.asT, Px.asS_l, Px.asS_t, Px.asR1, Px.asR2, Px.asZ, Px.asZ_ll, Px.asZ_tt, Px.asZ_lt, Px.asRg, Px.asRgI, Px.blkE, Px.wipeE, Px.unown, Px.asE_l, Px.asE_t, Px.asTwo, Px.asApp, Px.allD, Px.gNm, Px.isNon, Px.isSt, Px.pick,
  List.map_cons, List.map_nil, List.length_cons, List.length_nil, List.length_set, List.replicate_succ, List.replicate_zero, List.cons_append, List.nil_append, List.append_nil, List.getElem?_cons_zero, List.getD_cons_zero, List.getD_cons_succ, List.getElem?_cons_succ, List.set_cons_zero, List.set_cons_succ, Nat.reduceAdd, Nat.reduceSub, Nat.reduceLT, Nat.reduceLeDiff, Nat.zero_add, Nat.mul_zero, Nat.add_zero, eq_self, Nat.sub_self, true_and, and_true, true_or, if_true, Bool.false_eq_true, if_false, ne_eq, not_false_eq_true, Nat.zero_lt_succ, Nat.lt_add_one, Nat.succ_lt_succ_iff])
local macro_rules | `(tactic| walk_at "pu") => `(tactic| simp only [Px.rd, Px.ownAt, Px.frz, Px.asR1, Px.asR2, Px.asRg, Px.asRgI, Px.blkE, Px.wipeE, Px.unown, Px.asApp, Px.gNm, Px.isNon, Px.isSt,
  List.map_cons, List.map_nil, List.length_cons, List.length_nil, List.length_set, List.replicate_succ, List.replicate_zero, List.cons_append, List.nil_append, List.append_nil, List.getElem?_cons_zero, List.getD_cons_zero, List.getD_cons_succ, List.getElem?_cons_succ, List.set_cons_zero, List.set_cons_succ, Nat.reduceAdd, Nat.reduceSub, Nat.reduceLT, Nat.reduceLeDiff, Nat.zero_add, Nat.mul_zero, Nat.add_zero, eq_self, Nat.sub_self, true_and, and_true, true_or, if_true, Bool.false_eq_true, if_false, ne_eq, not_false_eq_true, Nat.zero_lt_succ, Nat.lt_add_one, Nat.succ_lt_succ_iff])
local macro_rules | `(tactic| walk_at "pl") => `(tactic| simp only [Px.asS_lnD, Px.gLen_lnD, Px.asE_lnD, Px.ix_l0, Px.ix_l1, Px.ix_l2])
open PySem PySem.Spec PyProof.Rows L2 Px
section
variable {P : Program} {w : World} {K : Kx} {fg : Fg} {d c l : Addr} {nC : Nat} {tT : List (Addr × Str)} {mg : Str → Option Value} {base : Heap}

abbrev s_answer_against : Stmt := topS 45
theorem sc_answer_against : FnScope ["pays", "wall", "dice", "found", "farthest", "answer", "far"] ["pays", "wall", "dice"] (defScope s_answer_against) := ⟨rfl, rfl, rfl, by decide +kernel, rfl, by decide +kernel, by decide +kernel⟩
theorem bp_answer_against : BindP "answer_against" s_answer_against ["pays", "wall", "dice"] := fun _ _ _ _ _ _ us hl => match us, hl with | [_, _, _], _ => rfl
abbrev DD_answer_against (P : Program) (w : World) (K : Kx) (mg : Str → Option Value) (base : Heap) : Prop := Df P w K mg base "answer_against" s_answer_against ["pays", "wall", "dice"] 10 0 fAnsAgainst
theorem ok_answer_against (Lf : Lo K mg "answer_against" s_answer_against) (m_len : mg "len" = none) (m_range : mg "range" = none) (D_above_wall : DD_above_wall P w K mg base) (D_pay_at : DD_pay_at P w K mg base) (D_less : DD_less P w K mg base) : DD_answer_against P w K mg base := by
  obtain ⟨fa, fd, hm, Fu⟩ := Lf
  refine ⟨fa, fd, fn_make Fu sc_answer_against (by decide) fun cd A outer s H E hr hg => ⟨_, _, ?_, (ss_cons (s_set 3 rfl e_int)
    (ss_cons (s_set 4 rfl e_none)
    (ss_cons (s_for (i_rng1 m_range (a_cons (e_callB cLen sLen m_len (by decide +kernel) (a_cons (e_ix oIx sIx (nm 0) e_int) a_nil)) a_nil)) (tn 5) (ss_cons (s_set 6 rfl (e_def D_above_wall bp_above_wall (a_cons (nm 1) (a_cons (e_def D_pay_at bp_pay_at (a_cons (nm 0) (a_cons (nm 2) (a_cons (nm 5) a_nil)))) a_nil))))
    (ss_cons (s_if (t_w (w_or (t_cmp oIs sIs (nm 4) e_none) (w_one2 (t_val (e_def D_less bp_less (a_cons (nm 4) (a_cons (nm 6) a_nil))))))) (ss_cons (s_par 3 4 rfl rfl (by decide) (a_cons (nm 5) (a_cons (nm 6) a_nil)) fun pa => ps_par (by rfl) sc_answer_against.nd rfl rfl (by decide) rfl rfl pa (by rfl))
    ss_nil) ss_nil)
    ss_nil)))
    (ss_cons (s_ret (nm 3))
    ss_nil)))), fun xs R hl h => ?_⟩, hm, Fu⟩
  · exact Nat.le_of_ble_eq_true rfl
  · obtain ⟨n, w, T, s, qs, rfl, hT, hb, hq, q⟩ := h
    obtain ⟨r0, T', rfl⟩ : ∃ r0 T', T = r0 :: T' := by
      cases T with
      | nil => have := hT.len; have := hT.n1; simp at *; omega
      | cons r0 T' => exact ⟨_, _, rfl⟩
    have hw := hT.row r0 (by simp)
    subst hw
    have w1 := hT.w1
    have w4 := hT.w4
    have e : ∀ r : Rat, fq r = .tuple [.int r.num, .int r.den] := fun _ => rfl
    obtain ⟨g, hg'⟩ : ∃ g : Nat → Rat, g = fun j => abv s (payAt (r0 :: T') qs j) := ⟨_, rfl⟩
    have fg : ∀ j < r0.length, Fb 1100 (g j) := fun j hj => by
      rw [hg']
      exact (fb_abv hb (payAt_b hT hq hj) (by decide)).mono (by decide)
    have ga : ∀ j, abv s (payAt (r0 :: T') qs j) = g j := fun j => by rw [hg']
    have q' : R (.d (.int (argF g r0.length : Nat))) := by rw [hg']; exact q
    have al : ∀ i, 0 < i → i ≤ r0.length → argF g i < r0.length := fun i i0 i1 => by
      obtain ⟨k, rfl⟩ : ∃ k, i = k + 1 := ⟨i - 1, by omega⟩
      exact Nat.lt_of_lt_of_le (argF_lt g k) i1
    try (walk_at "pz")
    rw [show ((r0.length : Nat) : Int).toNat = r0.length by omega]
    refine ⟨by omega, by omega, loop_rng 0 _ (fun i ρ => ∃ f s5 s6, ρ = [.v (.d (tabD (r0 :: T'))), .v (.d (lineD s)), .v (.d (shD qs)), .v (.d (.int (argF g i : Nat))), .v (.d f), s5, s6] ∧ ((i = 0 ∧ f = .none) ∨ (0 < i ∧ f = fq (g (argF g i))))) ?_ ?_ _ ⟨_, _, _, rfl, .inl ⟨rfl, rfl⟩⟩⟩
    · rintro i ρ L hi hL ⟨f, s5, s6, rfl, hf⟩
      rw [show (0 : Int) + (i : Nat) = ((i : Nat) : Int) by omega]
      try (walk_at "pz")
      refine ⟨_, _, _, qs, i, rfl, hT, hq, hi, ?_⟩
      refine ⟨s, _, 300, 60, rfl, hb, payAt_b hT hq hi, by decide, by decide, ?_⟩
      rw [ga]
      rcases hf with ⟨rfl, rfl⟩ | ⟨i0, rfl⟩
      · try (walk_at "pz")
        exact hL _ ⟨_, _, _, rfl, .inr ⟨by omega, rfl⟩⟩
      · obtain ⟨k, rfl⟩ : ∃ k, i = k + 1 := ⟨i - 1, by omega⟩
        rw [e (g (argF g (k + 1)))]
        try (walk_at "pz")
        rw [if_neg (by decide), ← e (g (argF g (k + 1))), fLess_eq (fg _ (al _ i0 (by omega))) (fg _ hi) (by decide)]
        try (walk_at "pz")
        by_cases z : g (argF g (k + 1)) < g (k + 1)
        · rw [if_pos (by simpa using z)]
          exact hL _ ⟨_, _, _, by rw [argF_up z], .inr ⟨by omega, by rw [argF_up z]⟩⟩
        · rw [if_neg (by simpa using z)]
          exact hL _ ⟨_, _, _, by rw [argF_stay z], .inr ⟨by omega, by rw [argF_stay z]⟩⟩
    · rintro ρ ⟨f, s5, s6, rfl, hf⟩
      try (walk_at "pz")
      exact q'
abbrev s_kept_answer : Stmt := topS 46
theorem sc_kept_answer : FnScope ["pays", "paper", "dice"] ["pays", "paper", "dice"] (defScope s_kept_answer) := ⟨rfl, rfl, rfl, by decide +kernel, rfl, by decide +kernel, by decide +kernel⟩
theorem bp_kept_answer : BindP "kept_answer" s_kept_answer ["pays", "paper", "dice"] := fun _ _ _ _ _ _ us hl => match us, hl with | [_, _, _], _ => rfl
abbrev DD_kept_answer (P : Program) (w : World) (K : Kx) (mg : Str → Option Value) (base : Heap) : Prop := Df P w K mg base "kept_answer" s_kept_answer ["pays", "paper", "dice"] 13 0 fKeptAns
theorem ok_kept_answer (Lf : Lo K mg "kept_answer" s_kept_answer) (D_check_paper : DD_check_paper P w K mg base) (D_need_dice : DD_need_dice P w K mg base) (D_answer_against : DD_answer_against P w K mg base) : DD_kept_answer P w K mg base := by
  obtain ⟨fa, fd, hm, Fu⟩ := Lf
  refine ⟨fa, fd, fn_make Fu sc_kept_answer (by decide) fun cd A outer s H E hr hg => ⟨_, _, ?_, (ss_cons (s_expr (e_def D_check_paper bp_check_paper (a_cons (nm 0) (a_cons (nm 1) a_nil))))
    (ss_cons (s_expr (e_def D_need_dice bp_need_dice (a_cons (nm 0) (a_cons (nm 2) a_nil))))
    (ss_cons (s_ret (e_def D_answer_against bp_answer_against (a_cons (nm 0) (a_cons (e_ix oIx sIx (nm 1) e_int) (a_cons (nm 2) a_nil)))))
    ss_nil))), fun xs R hl h => ?_⟩, hm, Fu⟩
  · exact Nat.le_of_ble_eq_true rfl
  · obtain ⟨n, w, T, s, os, qs, rfl, hP, hq, q⟩ := h
    try (walk_at "pz")
    refine ⟨n, w, T, s, os, rfl, hP, ?_⟩
    refine ⟨n, w, T, qs, rfl, hP.tab, hq, ?_⟩
    exact ⟨_, at_0, n, w, T, s, qs, rfl, hP.tab, hP.lb, hq, q⟩
abbrev s__law_refused : Stmt := topS 73
theorem sc__law_refused : FnScope ["call", "told", "error_so"] ["call"] (defScope s__law_refused) := ⟨rfl, rfl, rfl, by decide +kernel, rfl, by decide +kernel, by decide +kernel⟩
theorem bp__law_refused : BindP "_law_refused" s__law_refused ["call"] := fun _ _ _ _ _ _ us hl => match us, hl with | [_], _ => rfl
abbrev DDL__law_refused (P : Program) (w : World) (K : Kx) (mg : Str → Option Value) (base : Heap) : Prop := DfL P w K mg base "_law_refused" s__law_refused "call" 0 fRefused52
theorem okl__law_refused (Lf : Lo K mg "_law_refused" s__law_refused) (m_isinstance : mg "isinstance" = none) (H_BadParameter : Px.ClH K mg "BadParameter") (F_BadParameter : Px.ClF K mg "BadParameter" "value" "ShapeError") : DDL__law_refused P w K mg base := by
  obtain ⟨fa, fd, hm, Fu⟩ := Lf
  refine heardE (j := 1) (n := 2) (c2 := 0) Fu hm sc__law_refused rfl rfl (by decide) rfl rfl (fun cd A outer s H hr hg => (hx_cons [] H_BadParameter 2 rfl (hd_setT 1 rfl (by decide) (ha_cons (he_fld F_BadParameter rfl) (ha_cons (he_is F_BadParameter rfl m_isinstance) ha_nil)))
    hx_nil (fun y hy => by simp only [List.mem_cons, List.not_mem_nil, or_false] at hy))) (.inl rfl) rfl (fun env he => by unfold swapsWith; rfl) (hf := fun f R => ⟨_, _, fun L h => h, fun x h => ?_, fun b h => ?_⟩)
  · exact h
  · obtain ⟨e1, e2, d, e3, q⟩ := h
    refine .inl ⟨e1, e1, ⟨Nat.lt_of_lt_of_le (by decide : 2 < 3) (Nat.le_of_ble_eq_true rfl), Nat.lt_of_lt_of_le (by decide : 1 < 3) (Nat.le_of_ble_eq_true rfl)⟩, e2, ?_⟩
    rw [e3]
    exact ⟨Nat.le_of_ble_eq_true rfl, q⟩
abbrev s__law_right : Stmt := topS 74
theorem sc__law_right : FnScope ["state_so", "table_so", "told", "side", "chances", "due", "step", "hand_so", "best", "far", "count", "here", "low", "just"] ["state_so"] (defScope s__law_right) := ⟨rfl, rfl, rfl, by decide +kernel, rfl, by decide +kernel, by decide +kernel⟩
theorem bp__law_right : BindP "_law_right" s__law_right ["state_so"] := fun _ _ _ _ _ _ us hl => match us, hl with | [_], _ => rfl
abbrev DD__law_right (P : Program) (w : World) (fg : Fg) (d c l : Addr) (nC : Nat) (tT : List (Addr × Str)) (mg : Str → Option Value) (base : Heap) : Prop := Df P w (stK fg d c l nC tT) mg base "_law_right" s__law_right ["state_so"] 17 63802943797675961913217796948738703366 fRight
theorem ok__law_right (Lf : Lo fg mg "_law_right" s__law_right) (m_len : mg "len" = none) (m_range : mg "range" = none) (D__law_paper : DD__law_paper P w fg d c l nC tT mg base) (D__law_minus : DD__law_minus P w (stK fg d c l nC tT) mg base) (D__law_low : DD__law_low P w (stK fg d c l nC tT) mg base) (D__law_like : DD__law_like P w (stK fg d c l nC tT) mg base) (D_paper_margin : DD_paper_margin P w (stK fg d c l nC tT) mg base) (D__law_shares : DD__law_shares P w fg d c l nC tT mg base) (D__law_above : DD__law_above P w (stK fg d c l nC tT) mg base) (D__law_paid : DD__law_paid P w (stK fg d c l nC tT) mg base) (D__law_below : DD__law_below P w (stK fg d c l nC tT) mg base) (D_kept_answer : DD_kept_answer P w (stK fg d c l nC tT) mg base) (DX_paper_margin : DDX_paper_margin P w (stK fg d c l nC tT) mg base) (DL__law_refused : DDL__law_refused P w (stK fg d c l nC tT) mg base) (LT__law_right : Px.LamT fg mg base tT "_law_right" s__law_right (("_law_right" : Str) ++ ".<locals>.")) : DD__law_right P w fg d c l nC tT mg base := by
  obtain ⟨fa, fd, hm, Fu⟩ := Lf
  refine ⟨fa, fd, fn_makeC Fu sc__law_right (by decide) fun cd A outer s H E hr hg hcd => ⟨_, _, ?_, (ss_cons (s_unp (g_tup (gs_cons (tn 1) (gs_cons (tn 2) gs_nil)) rfl fun c h => pg_tup c h) (e_def D__law_paper bp__law_paper (a_cons (nm 0) a_nil)))
    (ss_cons (s_unp (g_tup (gs_cons (tn 3) (gs_cons (tn 4) gs_nil)) rfl fun c h => pg_tup c h) (nm 2))
    (ss_cons (s_set 5 rfl (e_def D__law_minus bp__law_minus (a_cons (e_def D__law_low bp__law_low (a_cons (nm 1) (a_cons (nm 3) (a_cons (nm 4) a_nil)))) (a_cons (e_tup (a_cons (e_ix oIx sIx (nm 3) e_int) (a_cons e_int a_nil))) a_nil))))
    (ss_cons (s_if (t_w (w_or (t_not (t_val (e_def D__law_like bp__law_like (a_cons (e_def D_paper_margin bp_paper_margin (a_cons (nm 1) (a_cons (nm 2) a_nil))) (a_cons (nm 5) a_nil))))) (w_one2 (t_cmp oLe sRel (e_ix oIx sIx (nm 5) e_int) e_int)))) (ss_cons (s_ret e_bool)
    ss_nil) ss_nil)
    (ss_cons (s_for (i_rng1 m_range (a_cons e_int a_nil)) (tn 6) (ss_cons (s_set 7 rfl (e_def D__law_shares bp__law_shares (a_cons (nm 0) (a_cons (e_callB cLen sLen m_len (by decide +kernel) (a_cons (nm 1) a_nil)) a_nil))))
    (ss_cons (s_unp (g_tup (gs_cons (tn 8) (gs_cons (tn 9) gs_nil)) rfl fun c h => pg_tup c h) (e_tup (a_cons e_none (a_cons e_none a_nil))))
    (ss_cons (s_for (i_rng1 m_range (a_cons (e_callB cLen sLen m_len (by decide +kernel) (a_cons (nm 4) a_nil)) a_nil)) (tn 10) (ss_cons (s_set 11 rfl (e_def D__law_above bp__law_above (a_cons (nm 3) (a_cons (e_def D__law_paid bp__law_paid (a_cons (nm 1) (a_cons (nm 7) (a_cons (nm 10) a_nil)))) a_nil))))
    (ss_cons (s_if (t_w (w_or (t_cmp oIs sIs (nm 9) e_none) (w_one2 (t_val (e_def D__law_below bp__law_below (a_cons (nm 9) (a_cons (nm 11) a_nil))))))) (ss_cons (s_par 8 9 rfl rfl (by decide) (a_cons (nm 10) (a_cons (nm 11) a_nil)) fun pa => ps_par (by rfl) sc__law_right.nd rfl rfl (by decide) rfl rfl pa (by rfl))
    ss_nil) ss_nil)
    ss_nil)))
    (ss_cons (s_if (t_w (w_or (t_not (t_val (e_def D__law_like bp__law_like (a_cons (e_def D_kept_answer bp_kept_answer (a_cons (nm 1) (a_cons (nm 2) (a_cons (nm 7) a_nil)))) (a_cons (nm 8) a_nil))))) (w_one2 (t_val (e_def D__law_below bp__law_below (a_cons (nm 9) (a_cons (nm 5) a_nil))))))) (ss_cons (s_ret e_bool)
    ss_nil) ss_nil)
    ss_nil)))))
    (ss_cons (s_set 12 rfl (e_def D__law_low bp__law_low (a_cons (nm 1) (a_cons (nm 3) (a_cons (nm 4) a_nil)))))
    (ss_cons (s_set 13 rfl (e_tup (a_cons (e_tup (a_cons (e_bin oMul sMul (e_ix oIx sIx (nm 3) e_int) (e_ix oIx sIx (nm 12) e_int)) (a_cons (e_bin oMul sMul (e_ix oIx sIx (nm 3) e_int) (e_ix oIx sIx (nm 12) e_int)) (a_cons (e_ix oIx sIx (nm 12) e_int) a_nil)))) (a_cons (nm 4) a_nil))))
    (ss_cons (s_ret (e_def D__law_like bp__law_like (a_cons (e_lam (k := 13) (sc := defScope s__law_right) DL__law_refused bp__law_refused (Px.lamIn_of LT__law_right hm Fu hcd) Px.lamK_st (fun _ => (xy_def DX_paper_margin bp_paper_margin (a_cons (nm 1) (a_cons (nm 13) a_nil))))) (a_cons (e_tup (a_cons (nm 13) (a_cons e_bool a_nil))) a_nil))))
    ss_nil)))))))), fun xs R hl h => ?_⟩, hm, Fu⟩
  · exact Nat.le_of_ble_eq_true rfl
  · obtain ⟨rfl, q⟩ := h
    have lt : ∀ {a b : Nat}, Nat.ble (a + 1) b = true → a < b := fun h => Nat.le_of_ble_eq_true h
    have le : ∀ {a b : Nat}, Nat.ble a b = true → a ≤ b := fun h => Nat.le_of_ble_eq_true h
    refine ⟨rfl, rfl, fun n w T s os hP n3 w3 lb => ?_⟩
    refine ⟨rfl, lt rfl, lt rfl, rfl, ?_⟩
    refine ⟨rfl, lt rfl, lt rfl, rfl, ?_⟩
    refine ⟨rfl, n, w, T, s, os, rfl, hP.tab, hP.sh, hP.lb, fun m hm => ?_⟩
    have hT := hP.tab
    have fm := low_fb hP.tab hP.sh lb hm
    have fc : Fb 300 (s.2.2 : Rat) := fb_int hP.lb.2.2 (by decide)
    have hd := least_abv hm
    have fd' := (sub2 fm fc).mono (show _ ≤ 1000 by decide)
    have pd := hP.pos hd
    refine ⟨_, at_2, le rfl, rfl, m, (s.2.2 : Rat), rfl, ⟨250, 300, fm, fc, by decide⟩, trivial, ?_⟩
    refine ⟨lt rfl, ?_⟩
    show SEn.nx _ [.v .st, .v (.d (tabD T)), .v (.d (paperD s os)), .v (.d (lineD s)), .v (.d (shD os)), .v (.d (fq (m - (s.2.2 : Rat)))), .non, .non, .non, .non, .non, .non, .non, .non]
    generalize m - (s.2.2 : Rat) = dd at *
    refine ⟨rfl, n, w, T, s, os, rfl, hP, fun d2 hd2 => ?_⟩
    cases isLeast_eq hd2 hd
    refine ⟨rfl, _, rfl, (Sz.fq (fd'.mono (by decide))).shw, ?_⟩
    refine ⟨_, at_0, ?_⟩
    show fRel _ (.d (.int dd.num)) (.d (.int 0)) _
    rw [fRel_int, decide_eq_false (by omega)]
    refine ⟨by decide, by decide, .inr (le_big (by rw [irange_len]; decide)), loop_rng 0 _ (fun k ρ => ∃ s6 s7 s8 s9 s10 s11 : Sl, ρ = [.v .st, .v (.d (tabD T)), .v (.d (paperD s os)), .v (.d (lineD s)), .v (.d (shD os)), .v (.d (fq dd)), s6, s7, s8, s9, s10, s11, .non, .non]) ?_ ?_ _ ⟨_, _, _, _, _, _, rfl⟩⟩
    · rintro k ρ L hk hL ⟨s6, s7, s8, s9, s10, s11, rfl⟩
      refine ⟨lt rfl, ?_⟩
      refine ⟨rfl, n, ?_, hT.n1, hT.n4, fun qs hq => ?_⟩
      · show [Vl.st, Vl.d (.int ((T.map rowD).length : Nat))] = _
        rw [List.length_map, hT.len]
      refine ⟨lt rfl, le rfl, rfl, lt rfl, lt rfl, rfl, ?_⟩
      show SEn.nx _ [.v .st, .v (.d (tabD T)), .v (.d (paperD s os)), .v (.d (lineD s)), .v (.d (shD os)), .v (.d (fq dd)), .v (.d (.int (0 + (k : Nat)))), .v (.d (shD qs)), .v (.d .none), .v (.d .none), s10, s11, .non, .non]
      have og : ((os.map fq).length : Int) = w := by rw [List.length_map, hP.sh.len]
      have ogn : ((os.map fq).length : Int).toNat = w := by omega
      have w4 := hT.w4
      have w1 := hT.w1
      have fg : ∀ j < w, Fb 1100 (abv s (payAt T qs j)) := fun j hj => (fb_abv hP.lb (payAt_b hT hq hj) (by decide)).mono (by decide)
      have al : ∀ i, 0 < i → i ≤ w → argF (fun j => abv s (payAt T qs j)) i < w := fun i i0 i1 => by
        obtain ⟨k, rfl⟩ : ∃ k, i = k + 1 := ⟨i - 1, by omega⟩
        exact Nat.lt_of_lt_of_le (argF_lt _ k) i1
      refine ⟨by omega, by omega, .inr (le_big (by rw [irange_len]; omega)), ?_⟩
      show loopF _ _ _ (irange 0 (((os.map fq).length : Int)).toNat) _
      rw [ogn]
      refine loop_rng 0 _ (fun i ρ => ∃ s10 s11 : Sl, ∃ b f, ρ = [.v .st, .v (.d (tabD T)), .v (.d (paperD s os)), .v (.d (lineD s)), .v (.d (shD os)), .v (.d (fq dd)), .v (.d (.int (0 + (k : Nat)))), .v (.d (shD qs)), .v (.d b), .v (.d f), s10, s11, .non, .non] ∧ farS s T qs i b f) ?_ ?_ _ ⟨_, _, _, _, rfl, .inl ⟨rfl, rfl, rfl⟩⟩
      · rintro i ρ L' hi hL' ⟨s10, s11, b, f, rfl, hbf⟩
        rw [show (0 : Int) + (i : Nat) = ((i : Nat) : Int) by omega]
        refine ⟨lt rfl, ?_⟩
        dsimp only [List.set]
        refine rd_go rfl (rd_go rfl (rd_go rfl (rd_go rfl ?_)))
        refine ⟨rfl, n, w, T, qs, i, rfl, hT, hq, hi, ?_⟩
        refine ⟨rfl, s, _, 300, 60, rfl, hP.lb, payAt_b hT hq hi, by decide, by decide, ?_⟩
        refine ⟨lt rfl, ?_⟩
        have e : ∀ r : Rat, fq r = .tuple [.int r.num, .int r.den] := fun _ => rfl
        rcases hbf with ⟨rfl, rfl, rfl⟩ | ⟨i0, rfl, rfl⟩
        · try (walk_at "pz")
          exact hL' _ ⟨_, _, _, _, rfl, .inr ⟨by omega, rfl, rfl⟩⟩
        · obtain ⟨i', rfl⟩ : ∃ i', i = i' + 1 := ⟨i - 1, by omega⟩
          have f1 := fg _ (al _ i0 (by omega))
          have f2 := fg _ hi
          rw [e (abv s (payAt T qs (argF (fun j => abv s (payAt T qs j)) (i' + 1))))]
          try (walk_at "pz")
          rw [if_neg (by decide), ← e, fLess_eq f1 f2 (by decide)]
          try (walk_at "pz")
          by_cases z : abv s (payAt T qs (argF (fun j => abv s (payAt T qs j)) (i' + 1))) < abv s (payAt T qs (i' + 1))
          · rw [if_pos (by simpa using z)]
            have eu := argF_up (f := fun j => abv s (payAt T qs j)) (k := i') z
            exact hL' _ ⟨_, _, _, _, rfl, .inr ⟨by omega, by rw [eu], by rw [eu]⟩⟩
          · rw [if_neg (by simpa using z)]
            have eu := argF_stay (f := fun j => abv s (payAt T qs j)) (k := i') z
            exact hL' _ ⟨_, _, _, _, rfl, .inr ⟨by omega, by rw [eu], by rw [eu]⟩⟩
      · rintro ρ ⟨s10, s11, b, f, rfl, hbf⟩
        rcases hbf with ⟨i0, _⟩ | ⟨i0, rfl, rfl⟩
        · omega
        refine ⟨rfl, n, w, T, s, os, qs, rfl, hP, hq, ?_⟩
        refine ⟨rfl, _, rfl, small_shw (Nat.lt_of_lt_of_le (bestJ_lt s qs hT) w4), ?_⟩
        have bl : dd ≤ abv s (payAt T qs (argF (fun j => abv s (payAt T qs j)) w)) := best_least hP hq hd
        refine ⟨rfl, _, dd, rfl, ⟨1100, 1000, fg _ (al _ w1 (Nat.le_refl _)), fd', by decide⟩, trivial, ?_⟩
        show asTru _ (.d (.bool (decide (abv s (payAt T qs (argF (fun j => abv s (payAt T qs j)) w)) < dd))))
        rw [decide_eq_false (Rat.not_lt.mpr bl)]
        exact hL _ ⟨_, _, _, _, _, _, rfl⟩
    · rintro ρ ⟨s6, s7, s8, s9, s10, s11, rfl⟩
      refine ⟨rfl, n, w, T, s, os, rfl, hT, hP.sh, hP.lb, fun m2 hm2 => ?_⟩
      cases isLeast_eq hm2 hm
      refine ⟨lt rfl, ?_⟩
      show SEn.nx _ [.v .st, .v (.d (tabD T)), .v (.d (paperD s os)), .v (.d (lineD s)), .v (.d (shD os)), .v (.d (fq dd)), s6, s7, s8, s9, s10, s11, .v (.d (fq m)), .non]
      refine ⟨_, at_0, _, at_1, Bd.ok (n := 40) (m := 250) lb.1 fm.den (by decide) (by decide) (by decide), ?_⟩
      refine ⟨_, at_1, _, at_1, Bd.ok (n := 40) (m := 250) lb.2.1 fm.den (by decide) (by decide) (by decide), ?_⟩
      refine ⟨_, at_0, le rfl, le rfl, lt rfl, ?_⟩
      have eJ : PyData.tuple [.tuple [.int (s.1 * (m.den : Int)), .int (s.2.1 * (m.den : Int)), .int m.num], shD os] = paperD (justW s m) os := rfl
      show SEn.nx _ [.v .st, .v (.d (tabD T)), .v (.d (paperD s os)), .v (.d (lineD s)), .v (.d (shD os)), .v (.d (fq dd)), s6, s7, s8, s9, s10, s11, .v (.d (fq m)), .v (.d (paperD (justW s m) os))]
      refine ⟨rfl, n, w, T, justW s m, os, rfl, just_g hP lb fm, fun m0 hm0 => ⟨fun z => ?_, fun _ => ?_⟩⟩
      · cases isLeast_eq hm0 (just_zero hm)
        exact absurd z (by decide)
      · refine ⟨rfl, rfl, _, rfl, ?_⟩
        exact ⟨le rfl, rfl, _, rfl, shw_ref (sz_paper (just_g hP lb fm).lb hP.sh hT.w4) (by decide) (by decide), q⟩
abbrev s_law : Stmt := topS 75
theorem sc_law : FnScope ["script", "state_so", "turn_so", "table_so", "told", "got"] ["script"] (defScope s_law) := ⟨rfl, rfl, rfl, by decide +kernel, rfl, by decide +kernel, by decide +kernel⟩
theorem bp_law : BindP "law" s_law ["script"] := fun _ _ _ _ _ _ us hl => match us, hl with | [_], _ => rfl
theorem law_rest {fa : Addr} (m_range : mg "range" = none) (D__law_right : DD__law_right P w fg d c l nC tT mg base) (D_paper_margin : DD_paper_margin P w (stK fg d c l nC tT) mg base) (D_kept_answer : DD_kept_answer P w (stK fg d c l nC tT) mg base) (D__law_like : DD__law_like P w (stK fg d c l nC tT) mg base)
    (cd : Value) (A : Around) (outer : List PySem.Env) (s : Shared) (H : Hp) (E : XK) (hr : Room 17 (A.deeper (envOfC "law" (defScope s_law) s.heap.objs.size fa cd))) (hg : A.guards = some []) :
    ∃ k g, k ≤ lim ∧ Es (fmOf P w (stK fg d c l nC tT) mg base ["script", "state_so", "turn_so", "table_so", "told", "got"] "law" s_law fa cd A outer s H E 17 sc_law.nd hr hg) (defBody s_law).tail k g ∧
      ∀ a : Addr, g [.v (.o (.ref a)), .v .st, .non, .non, .non, .non] { nx := fun _ => False, rt := fun x => x = .d (.bool true) } := by
  refine ⟨_, _, ?_, (ss_cons (s_for (i_rng1 m_range (a_cons e_int a_nil)) (tn 2) (ss_cons (s_if (t_not (t_val (e_def D__law_right bp__law_right (a_cons (nm 1) a_nil)))) (ss_cons (s_ret e_bool)
    ss_nil) ss_nil)
    ss_nil))
    (ss_cons (s_unp (g_tup (gs_cons (tn 3) (gs_cons (tn 4) gs_nil)) rfl fun c h => pg_tup c h) (e_tup (a_cons (e_tup (a_cons (e_tup (a_cons (e_tup (a_cons e_int (a_cons e_int a_nil))) (a_cons (e_tup (a_cons e_int (a_cons e_int a_nil))) a_nil))) (a_cons (e_tup (a_cons (e_tup (a_cons e_int (a_cons e_int a_nil))) (a_cons (e_tup (a_cons e_int (a_cons e_int a_nil))) a_nil))) a_nil))) (a_cons (e_tup (a_cons (e_tup (a_cons e_int (a_cons e_int (a_cons e_int a_nil)))) (a_cons (e_tup (a_cons (e_tup (a_cons e_int (a_cons e_int a_nil))) (a_cons (e_tup (a_cons e_int (a_cons e_int a_nil))) a_nil))) a_nil))) a_nil))))
    (ss_cons (s_set 5 rfl (e_l (l_lst (a_cons (e_defK0 [1, 0] ["paper", "pays"] D_paper_margin (by decide) (fun _ _ _ _ _ _ us ws h1 h2 => match us, ws, h1, h2 with | [], [_, _], _, _ => rfl) (k_cons (nm 4) (k_cons (nm 3) k_nil))) (a_cons (e_defK0 [2, 1, 0] ["dice", "paper", "pays"] D_kept_answer (by decide) (fun _ _ _ _ _ _ us ws h1 h2 => match us, ws, h1, h2 with | [], [_, _, _], _, _ => rfl) (k_cons (e_tup (a_cons (e_tup (a_cons e_int (a_cons e_int a_nil))) (a_cons (e_tup (a_cons e_int (a_cons e_int a_nil))) a_nil))) (k_cons (nm 4) (k_cons (nm 3) k_nil)))) a_nil)))))
    (ss_cons (s_ret (e_def D__law_like bp__law_like (a_cons (e_bin oAdd sAdd (nm 5) (e_l (l_lst (a_cons (e_def D_kept_answer bp_kept_answer (a_cons (nm 3) (a_cons (nm 4) (a_cons (e_tup (a_cons (e_tup (a_cons e_int (a_cons e_int a_nil))) (a_cons (e_tup (a_cons e_int (a_cons e_int a_nil))) a_nil))) a_nil)))) a_nil)))) (a_cons (e_l (l_lst (a_cons (e_tup (a_cons e_int (a_cons e_int a_nil))) (a_cons e_int (a_cons e_int a_nil))))) a_nil))))
    ss_nil)))), fun a => ?_⟩
  · exact Nat.le_of_ble_eq_true rfl
  · have lt : ∀ {a b : Nat}, Nat.ble (a + 1) b = true → a < b := fun h => Nat.le_of_ble_eq_true h
    have le : ∀ {a b : Nat}, Nat.ble a b = true → a ≤ b := fun h => Nat.le_of_ble_eq_true h
    try (walk_at "pz")
    refine ⟨by decide, by decide, .inr (le_big (by rw [irange_len]; decide)), loop_rng 0 _ (fun i ρ => ∃ (s2 : Sl), ρ = [.v (.o (.ref a)), .v .st, s2, .non, .non, .non]) ?_ ?_ _ ⟨_, rfl⟩⟩
    · rintro i ρ L hi hL ⟨s2, rfl⟩
      try (walk_at "pz")
      exact ⟨rfl, hL _ ⟨_, rfl⟩⟩
    · rintro ρ ⟨s2, rfl⟩
      have T2 : TabOk 2 2 [[(0, 1), (1, 0)], [(1, 0), (0, 1)]] := ⟨rfl, by decide, by decide, by decide, by decide, by decide, by decide⟩
      have S2 : ShOk 2 [Rat.divInt 1 1, Rat.divInt 0 1] := ⟨rfl, by decide +kernel, by decide +kernel, by decide +kernel⟩
      have S3 : ShOk 2 [Rat.divInt 1 2, Rat.divInt 1 2] := ⟨rfl, by decide +kernel, by decide +kernel, by decide +kernel⟩
      have P2 : PaperOk 2 2 [[(0, 1), (1, 0)], [(1, 0), (0, 1)]] (1, 0, 0) [Rat.divInt 1 2, Rat.divInt 1 2] := ⟨T2, S3, ⟨show Bd 300 (1 : Int) from Bd.lit (by decide), show Bd 300 (0 : Int) from Bd.lit (by decide), show Bd 300 (0 : Int) from Bd.lit (by decide)⟩, .inl (by decide), by decide +kernel⟩
      have w3 : PyData.tuple [.int 1, .int 1] = fq (Rat.divInt 1 1) := lit2 (by decide +kernel) (by decide +kernel)
      have w4 : PyData.tuple [.int 0, .int 1] = fq (Rat.divInt 0 1) := lit2 (by decide +kernel) (by decide +kernel)
      have w5 : PyData.tuple [.int 1, .int 2] = fq (Rat.divInt 1 2) := lit2 (by decide +kernel) (by decide +kernel)
      have m1 : IsLeast ([[(0, 1), (1, 0)], [(1, 0), (0, 1)]].map fun r => abv (1, 0, 0) (rowMean r [Rat.divInt 1 2, Rat.divInt 1 2])) (Rat.divInt 1 2) := ⟨by decide +kernel, by decide +kernel⟩
      have j1 : bestJ (1, 0, 0) [[(0, 1), (1, 0)], [(1, 0), (0, 1)]] 2 [Rat.divInt 1 1, Rat.divInt 0 1] = 1 := by decide +kernel
      have j0 : bestJ (1, 0, 0) [[(0, 1), (1, 0)], [(1, 0), (0, 1)]] 2 [Rat.divInt 1 2, Rat.divInt 1 2] = 0 := by decide +kernel
      refine ⟨lt rfl, lt rfl, ?_⟩
      refine ⟨2, 2, [[(0, 1), (1, 0)], [(1, 0), (0, 1)]], (1, 0, 0), [Rat.divInt 1 2, Rat.divInt 1 2], by rw [w5]; rfl, P2, fun m hm => ?_⟩
      cases isLeast_eq hm m1
      refine ⟨2, 2, [[(0, 1), (1, 0)], [(1, 0), (0, 1)]], (1, 0, 0), [Rat.divInt 1 2, Rat.divInt 1 2], [Rat.divInt 1 1, Rat.divInt 0 1], ?_, P2, S2, ?_⟩
      · rw [← show PyData.tuple [.tuple [.int 1, .int 1], .tuple [.int 0, .int 1]] = shD [Rat.divInt 1 1, Rat.divInt 0 1] by rw [w3, w4]; rfl]
        rw [w5]; rfl
      rw [j1]
      refine ⟨lt rfl, ?_⟩
      refine ⟨2, 2, [[(0, 1), (1, 0)], [(1, 0), (0, 1)]], (1, 0, 0), [Rat.divInt 1 2, Rat.divInt 1 2], [Rat.divInt 1 2, Rat.divInt 1 2], ?_, P2, S3, ?_⟩
      · rw [w5]; rfl
      rw [j0, ← w5]
      try (walk_at "pz")
      rw [fLike_eq]
      exact ⟨rfl, ⟨by decide +kernel, by decide +kernel, by decide +kernel⟩, rfl⟩

end
end K52

set_option Elab.async false
set_option linter.all false
set_option maxRecDepth 100000
set_option maxHeartbeats 4000000
set_option exponentiation.threshold 10000
namespace K52
local macro_rules | `(tactic| walk_at "px") => `(tactic| simp only [Px.rd, Px.ownAt, Px.frz, Px.fAdd, Px.fSub, Px.fMul, Px.fFdiv, Px.fMod, Px.fPow, Px.fRel, Px.fEq_int, Px.fEq_str, Px.fEq_bool, Px.fEq_fq, Px.fIs, Px.fIsTy, Px.fIx_l, Px.fIx_t, Px.ix0, Px.ix1, Px.at_0, Px.at_1, Px.at_2, Px.at_3, Px.at_4, Px.ex_some, Px.fSl, Px.gLen, Px.gAbs, Px.gInt, Px.gTuple, Px.gList, Px.gGcd, Px.gSum, Px.gMax, Px.gMin, Px.gAll, Px.gAny, Px.gRepr, Px.gTy, Px.tyOf, Px.asB, Px.asTru, Px.truD, Px.asNeg, Px.asI, Px.asL, Px.asT, Px.asS, Px.asR1, Px.asR2, Px.asZ, Px.asZM, Px.asRg, Px.asRgI, Px.blkE, Px.wipeE, Px.unown, Px.asS, Px.asE, Px.asTwo, Px.asApp, Px.allD, Px.gNm, Px.isNon, Px.isSt, Px.pick,
  List.map_cons, List.map_nil, List.length_cons, List.length_nil, List.length_set, List.replicate_succ, List.replicate_zero, List.cons_append, List.nil_append, List.append_nil, List.getElem?_cons_zero, List.getD_cons_zero, List.getD_cons_succ, List.getElem?_cons_succ, List.set_cons_zero, List.set_cons_succ, Nat.reduceAdd, Nat.reduceSub, Nat.reduceLT, Nat.reduceLeDiff, Nat.zero_add, Nat.mul_zero, Nat.add_zero, eq_self, Nat.sub_self, true_and, and_true, true_or, if_true, Bool.false_eq_true, if_false, ne_eq, not_false_eq_true, Nat.zero_lt_succ, Nat.lt_add_one, Nat.succ_lt_succ_iff])
local macro_rules | `(tactic| walk_at "pz") => `(tactic| simp only [Px.at_last, Px.fKind_eq, Px.fPair_eq, Px.fIsFr_eq, Px.fRow_eq, Px.fWithin_eq, Px.fmOf_mg, Px.isFr_fq, Px.isTy, decide_true, Bool.not_true, Bool.not_false, Bool.and_true, Bool.true_and, Bool.false_and, Bool.and_false, Bool.or_false, Bool.or_true, Px.px0, Px.px1, Px.fNeedPt_eq, Px.fNeedFr_eq, Px.isSt, List.length_append, List.getElem?_map, and_self, Px.map_d, Px.pairs_map, Px.enumD_map, Px.rd, Px.ownAt, Px.frz, Px.fAdd, Px.fSub, Px.fMul, Px.fFdiv, Px.fMod, Px.fPow, Px.fRel, Px.fEq_int, Px.fEq_str, Px.fEq_bool, Px.fEq_fq, Px.fIs, Px.fIsTy, Px.fIx_l, Px.fIx_t, Px.ix0, Px.ix1, Px.at_0, Px.at_1, Px.at_2, Px.at_3, Px.at_4, Px.ex_some, Px.fSl, Px.gLen_l, Px.gLen_t, Px.gLen_tab, Px.gLen_row, Px.gLen_sh, Px.asS_tab, Px.asS_row, Px.asS_sh, Px.asE_tab, Px.asE_row, Px.asE_sh, Px.asZ_tab, Px.asZ_row, Px.ix_tab0, Px.ix_c0, Px.ix_c1, Px.gAbs, Px.gInt, Px.gTuple_l, Px.gTuple_t, Px.gList_l, Px.gList_t, Px.gGcd, Px.gSum, Px.gMax, Px.gMin, Px.gAll, Px.gAny, Px.gRepr, Px.gTy, Px.tyOf, Px.asB, Px.asTru, Px.truD, Px.asNeg, Px.asI, Px.asL, Px.asT, Px.asS_l, Px.asS_t, Px.asR1, Px.asR2, Px.asZ, Px.asZ_ll, Px.asZ_tt, Px.asZ_lt, Px.asRg, Px.asRgI, Px.blkE, Px.wipeE, Px.unown, Px.asE_l, Px.asE_t, Px.asTwo, Px.asApp, Px.allD, Px.gNm, Px.isNon, Px.isSt, Px.pick,
  List.map_cons, List.map_nil, List.length_cons, List.length_nil, List.length_set, List.replicate_succ, List.replicate_zero, List.cons_append, List.nil_append, List.append_nil, List.getElem?_cons_zero, List.getD_cons_zero, List.getD_cons_succ, List.getElem?_cons_succ, List.set_cons_zero, List.set_cons_succ, Nat.reduceAdd, Nat.reduceSub, Nat.reduceLT, Nat.reduceLeDiff, Nat.zero_add, Nat.mul_zero, Nat.add_zero, eq_self, Nat.sub_self, true_and, and_true, true_or, if_true, Bool.false_eq_true, if_false, ne_eq, not_false_eq_true, Nat.zero_lt_succ, Nat.lt_add_one, Nat.succ_lt_succ_iff])
local macro_rules | `(tactic| walk_at "pu") => `(tactic| simp only [Px.rd, Px.ownAt, Px.frz, Px.asR1, Px.asR2, Px.asRg, Px.asRgI, Px.blkE, Px.wipeE, Px.unown, Px.asApp, Px.gNm, Px.isNon, Px.isSt,
  List.map_cons, List.map_nil, List.length_cons, List.length_nil, List.length_set, List.replicate_succ, List.replicate_zero, List.cons_append, List.nil_append, List.append_nil, List.getElem?_cons_zero, List.getD_cons_zero, List.getD_cons_succ, List.getElem?_cons_succ, List.set_cons_zero, List.set_cons_succ, Nat.reduceAdd, Nat.reduceSub, Nat.reduceLT, Nat.reduceLeDiff, Nat.zero_add, Nat.mul_zero, Nat.add_zero, eq_self, Nat.sub_self, true_and, and_true, true_or, if_true, Bool.false_eq_true, if_false, ne_eq, not_false_eq_true, Nat.zero_lt_succ, Nat.lt_add_one, Nat.succ_lt_succ_iff])
local macro_rules | `(tactic| walk_at "pl") => `(tactic| simp only [Px.asS_lnD, Px.gLen_lnD, Px.asE_lnD, Px.ix_l0, Px.ix_l1, Px.ix_l2])
open PySem PySem.Spec PyProof.Rows L2 Px

abbrev s__law_begin : Stmt := topS 49
theorem sc__law_begin : FnScope ["script", "cells_so", "cell"] ["script"] (defScope s__law_begin) := ⟨rfl, rfl, rfl, by decide +kernel, rfl, by decide +kernel, by decide +kernel⟩
theorem bp__law_begin : BindP "_law_begin" s__law_begin ["script"] := fun _ _ _ _ _ _ us hl => match us, hl with | [_], _ => rfl
structure Tops (fg : Fg) (mg : Str → Option Value) (cs : List (Addr × Addr)) (tT : List (Addr × Str)) : Prop where
  t__law_mixed : Lo fg mg "_law_mixed" s__law_mixed
  t__law_draw : Lo fg mg "_law_draw" s__law_draw
  t__law_cell : Lo fg mg "_law_cell" s__law_cell
  t__law_table : Lo fg mg "_law_table" s__law_table
  t__law_of : Lo fg mg "_law_of" s__law_of
  t__law_divisor : Lo fg mg "_law_divisor" s__law_divisor
  t__law_share : Lo fg mg "_law_share" s__law_share
  t__law_shares : Lo fg mg "_law_shares" s__law_shares
  t__law_side : Lo fg mg "_law_side" s__law_side
  t__law_plus : Lo fg mg "_law_plus" s__law_plus
  t__law_sum : Lo fg mg "_law_sum" s__law_sum
  t__law_times : Lo fg mg "_law_times" s__law_times
  t__law_above : Lo fg mg "_law_above" s__law_above
  t__law_spot_plus : Lo fg mg "_law_spot_plus" s__law_spot_plus
  t__law_spot_times : Lo fg mg "_law_spot_times" s__law_spot_times
  t__law_spot : Lo fg mg "_law_spot" s__law_spot
  t__law_paid_over : Lo fg mg "_law_paid_over" s__law_paid_over
  t__law_below : Lo fg mg "_law_below" s__law_below
  t__law_low : Lo fg mg "_law_low" s__law_low
  t__law_floor : Lo fg mg "_law_floor" s__law_floor
  t__law_paper : Lo fg mg "_law_paper" s__law_paper
  t__law_minus : Lo fg mg "_law_minus" s__law_minus
  t__law_like : Lo fg mg "_law_like" s__law_like
  t_is_tuple : Lo fg mg "is_tuple" s_is_tuple
  t_is_row : Lo fg mg "is_row" s_is_row
  t_is_pair : Lo fg mg "is_pair" s_is_pair
  t_is_int : Lo fg mg "is_int" s_is_int
  t_is_int_within : Lo fg mg "is_int_within" s_is_int_within
  t_is_pay : Lo fg mg "is_pay" s_is_pay
  t_wrong_place : Lo fg mg "wrong_place" s_wrong_place
  t_need_pays : Lo fg mg "need_pays" s_need_pays
  t_is_wall : Lo fg mg "is_wall" s_is_wall
  t_is_fraction : Lo fg mg "is_fraction" s_is_fraction
  t_need_fraction : Lo fg mg "need_fraction" s_need_fraction
  t_least_terms : Lo fg mg "least_terms" s_least_terms
  t_plus : Lo fg mg "plus" s_plus
  t_are_shares : Lo fg mg "are_shares" s_are_shares
  t_less : Lo fg mg "less" s_less
  t_least_of : Lo fg mg "least_of" s_least_of
  t_times : Lo fg mg "times" s_times
  t_weighed : Lo fg mg "weighed" s_weighed
  t_weighed_points : Lo fg mg "weighed_points" s_weighed_points
  t_whole_point : Lo fg mg "whole_point" s_whole_point
  t_act_means : Lo fg mg "act_means" s_act_means
  t_beyond : Lo fg mg "beyond" s_beyond
  t_above_wall : Lo fg mg "above_wall" s_above_wall
  t_margin_of : Lo fg mg "margin_of" s_margin_of
  t_is_paper : Lo fg mg "is_paper" s_is_paper
  t_check_paper : Lo fg mg "check_paper" s_check_paper
  t_paper_margin : Lo fg mg "paper_margin" s_paper_margin
  t__law_paid : Lo fg mg "_law_paid" s__law_paid
  t_need_dice : Lo fg mg "need_dice" s_need_dice
  t_pay_at : Lo fg mg "pay_at" s_pay_at
  t_answer_against : Lo fg mg "answer_against" s_answer_against
  t_kept_answer : Lo fg mg "kept_answer" s_kept_answer
  t__law_refused : Lo fg mg "_law_refused" s__law_refused
  t__law_right : Lo fg mg "_law_right" s__law_right
  t__law_begin : Lo fg mg "_law_begin" s__law_begin
  m_list : mg "list" = none
  m_int : mg "int" = none
  m_len : mg "len" = none
  m_tuple : mg "tuple" = none
  m_range : mg "range" = none
  m_abs : mg "abs" = none
  m_sum : mg "sum" = none
  m_zip : mg "zip" = none
  m_repr : mg "repr" = none
  m_type : mg "type" = none
  m_all : mg "all" = none
  m_enumerate : mg "enumerate" = none
  m_isinstance : mg "isinstance" = none
  m_gcd : mg "gcd" = some (.builtin "math.gcd")
  c_MOST_PAID : Cn fg mg "MOST_PAID" (.int 100)
  c_MOST_ACTS : Cn fg mg "MOST_ACTS" (.int 4)
  c_MOST_ANSWERS : Cn fg mg "MOST_ANSWERS" (.int 4)
  c_NOUGHT : Cn fg mg "NOUGHT" (fq 0)
  c_UNIT : Cn fg mg "UNIT" (fq 1)
  k_BadParameter : Px.ClT fg mg "BadParameter" "value" "ShapeError"
  lc__law_right : Px.LamC fg mg cs tT "_law_right" s__law_right (("_law_right" : Str) ++ ".<locals>.")
section
variable {P : Program} {w : World} {fg : Fg} {mg : Str → Option Value} {base : Heap}
theorem beg_fn {fa : Addr} {fd : FuncData} (Fu : Fun fg "_law_begin" "_law_begin" s__law_begin fa fd) (m_list : mg "list" = none) : FnG P w fg mg base CX0 1 fa fd ["script"] (spBeg fg) := by
  refine FnG.make Fu sc__law_begin (fun vs H Q E h => by obtain ⟨a, ns, rfl, _⟩ := h; rfl) fun cd A outer s H vs Q E hg hr h => ?_
  obtain ⟨a, ns, rfl, hs, hn, k⟩ := h
  have key : ∃ t, (∀ i, PSs ((fmOf P w (K0 fg) mg base ["script", "cells_so", "cell"] "_law_begin" s__law_begin fa cd A outer s H E 0 sc__law_begin.nd hr hg).X i) (defBody s__law_begin) t) ∧
    ∀ (D : Ends) (H : Hp) (a : Addr) (ns : List Int), SqL fg H a (ns.map V.int) → ns.length ≤ 1000 →
      (∀ (d c l : Addr) (H' : Hp) (nC : Nat), H d = none → H c = none → H l = none → (∀ b o, H b = some o → H' b = some o) → stI d c l nC 0 H' → 0 < nC → nC ≤ 1000 → D.rt (.ref d) H') → t D [some (.ref a), none, none] H := ss_begin rfl m_list
    (l_lc [("cell", 2)] (i_seq (nm 1)) (fun _ => blkOk_by (N := ["script", "cells_so", "cell"]) (sc := defScope s__law_begin) (by decide +kernel)) (tn 2) ts_nil (e_if (t_cmp oGe sRel (nm 2) (e_bin oPow sPow e_int e_int)) (nm 2) e_int)) (Nat.zero_le _) rfl rfl
    (fun a ns hn => by
      try (walk_at "px")
      refine ⟨by simp; omega, lc_all (fun d => ∃ i : Int, d = .int i) _ _ _ (fun x hx T T' hT => ?_) fun ds hl hg => ?_⟩
      · simp only [List.mem_map] at hx
        obtain ⟨_, ⟨i, _, rfl⟩, rfl⟩ := hx
        have e : blkE [Sl.v (Vl.o (V.ref a)), Sl.v (Vl.d (PyData.list (List.map PyData.int ns))), Sl.non] [2] = [Sl.v (Vl.o (V.ref a)), Sl.v (Vl.d (PyData.list (List.map PyData.int ns))), Sl.non] := rfl
        try rw [e]
        try (walk_at "px")
        refine ⟨⟨by decide, by decide, by decide⟩, ?_⟩
        split
        · exact hT _ ⟨_, rfl⟩
        · exact hT _ ⟨_, rfl⟩
      · obtain ⟨ls, rfl⟩ := ints_of ds hg
        exact ⟨ls, by simp, by simpa using hl⟩)
  obtain ⟨t, pt, ht⟩ := key
  exact ⟨t, PSs.nox (pt ()), ht _ H a ns hs hn k⟩
theorem law_fn {fa : Addr} {fd : FuncData} {cs : List (Addr × Addr)} {tT : List (Addr × Str)} (T : Tops fg mg cs tT) (TB : ∀ p ∈ cs, LamX.TabB base mg p.1 p.2) (eT : tT.map (·.1) = cs.map (·.2)) (Fu : Fun fg "law" "law" s_law fa fd) : FnG P w fg mg base CX0 18 fa fd ["script"] (spLaw fg (cs.map (·.2))) := by
  refine FnG.make Fu sc_law (fun vs H Q E h => by obtain ⟨a, ns, rfl, _⟩ := h; rfl) fun cd A outer s H vs Q E hg hr h => ?_
  obtain ⟨a, ns, rfl, hs, hn, h0, k⟩ := h
  have rest : ∀ i : Addr × Addr × Addr × {n : Nat // 0 < n ∧ n ≤ 1000}, ∃ c g, c ≤ lim ∧ Es (fmOf P w (stK fg i.1 i.2.1 i.2.2.1 i.2.2.2.1 tT) mg base ["script", "state_so", "turn_so", "table_so", "told", "got"] "law" s_law fa cd A outer s H E 17 sc_law.nd hr hg) (defBody s_law).tail c g ∧
      ∀ a : Addr, g [.v (.o (.ref a)), .v .st, .non, .non, .non, .non] { nx := fun _ => False, rt := fun x => x = .d (.bool true) } := fun ⟨d, c, l, nC, hC⟩ => by
    have b__law_mixed := ok__law_mixed (P := P) (w := w) (base := base) (K := stK fg d c l nC tT) T.t__law_mixed  T.m_int
    have b__law_draw := ok__law_draw (P := P) (w := w) (base := base) (fg := fg) (d := d) (c := c) (l := l) (nC := nC) (tT := tT) T.t__law_draw hC T.m_int T.m_len b__law_mixed
    have b__law_cell := ok__law_cell (P := P) (w := w) (base := base) (fg := fg) (d := d) (c := c) (l := l) (nC := nC) (tT := tT) T.t__law_cell  b__law_draw
    have b__law_table := ok__law_table (P := P) (w := w) (base := base) (fg := fg) (d := d) (c := c) (l := l) (nC := nC) (tT := tT) T.t__law_table  T.m_tuple T.m_range b__law_draw b__law_cell
    have b__law_of := ok__law_of (P := P) (w := w) (base := base) (fg := fg) (d := d) (c := c) (l := l) (nC := nC) (tT := tT) T.t__law_of  T.m_len b__law_draw
    have b__law_divisor := ok__law_divisor (P := P) (w := w) (base := base) (K := stK fg d c l nC tT) T.t__law_divisor  T.m_abs T.m_range
    have b__law_share := ok__law_share (P := P) (w := w) (base := base) (K := stK fg d c l nC tT) T.t__law_share  b__law_divisor
    have b__law_shares := ok__law_shares (P := P) (w := w) (base := base) (fg := fg) (d := d) (c := c) (l := l) (nC := nC) (tT := tT) T.t__law_shares  T.m_tuple T.m_range T.m_sum b__law_of b__law_share
    have b__law_side := ok__law_side (P := P) (w := w) (base := base) (fg := fg) (d := d) (c := c) (l := l) (nC := nC) (tT := tT) T.t__law_side  T.m_range b__law_draw b__law_of
    have b__law_plus := ok__law_plus (P := P) (w := w) (base := base) (K := stK fg d c l nC tT) T.t__law_plus  b__law_share
    have b__law_sum := ok__law_sum (P := P) (w := w) (base := base) (K := stK fg d c l nC tT) T.t__law_sum  b__law_plus
    have b__law_times := ok__law_times (P := P) (w := w) (base := base) (K := stK fg d c l nC tT) T.t__law_times  b__law_share
    have b__law_above := ok__law_above (P := P) (w := w) (base := base) (K := stK fg d c l nC tT) T.t__law_above  b__law_sum b__law_times
    have b__law_spot_plus := ok__law_spot_plus (P := P) (w := w) (base := base) (K := stK fg d c l nC tT) T.t__law_spot_plus  b__law_plus
    have b__law_spot_times := ok__law_spot_times (P := P) (w := w) (base := base) (K := stK fg d c l nC tT) T.t__law_spot_times  b__law_times
    have b__law_spot := ok__law_spot (P := P) (w := w) (base := base) (K := stK fg d c l nC tT) T.t__law_spot  
    have b__law_paid_over := ok__law_paid_over (P := P) (w := w) (base := base) (K := stK fg d c l nC tT) T.t__law_paid_over  T.m_zip b__law_spot_plus b__law_spot_times b__law_spot
    have b__law_below := ok__law_below (P := P) (w := w) (base := base) (K := stK fg d c l nC tT) T.t__law_below  
    have b__law_low := ok__law_low (P := P) (w := w) (base := base) (K := stK fg d c l nC tT) T.t__law_low  b__law_above b__law_paid_over b__law_below
    have b__law_floor := ok__law_floor (P := P) (w := w) (base := base) (K := stK fg d c l nC tT) T.t__law_floor  
    have b__law_paper := ok__law_paper (P := P) (w := w) (base := base) (fg := fg) (d := d) (c := c) (l := l) (nC := nC) (tT := tT) T.t__law_paper  T.m_len b__law_table b__law_draw b__law_of b__law_shares b__law_side b__law_low b__law_floor
    have b__law_minus := ok__law_minus (P := P) (w := w) (base := base) (K := stK fg d c l nC tT) T.t__law_minus  b__law_share
    have b__law_like := ok__law_like (P := P) (w := w) (base := base) (K := stK fg d c l nC tT) T.t__law_like  T.m_repr
    have b_is_tuple := ok_is_tuple (P := P) (w := w) (base := base) (K := stK fg d c l nC tT) T.t_is_tuple  T.m_type T.m_tuple
    have b_is_row := ok_is_row (P := P) (w := w) (base := base) (K := stK fg d c l nC tT) T.t_is_row  T.m_len b_is_tuple
    have b_is_pair := ok_is_pair (P := P) (w := w) (base := base) (K := stK fg d c l nC tT) T.t_is_pair  b_is_row
    have b_is_int := ok_is_int (P := P) (w := w) (base := base) (K := stK fg d c l nC tT) T.t_is_int  T.m_type T.m_int
    have b_is_int_within := ok_is_int_within (P := P) (w := w) (base := base) (K := stK fg d c l nC tT) T.t_is_int_within  b_is_int
    have b_is_pay := ok_is_pay (P := P) (w := w) (base := base) (K := stK fg d c l nC tT) T.t_is_pay  T.m_all T.c_MOST_PAID b_is_pair b_is_int_within
    have b_wrong_place__is_pay := ok_wrong_place__is_pay (P := P) (w := w) (base := base) (K := stK fg d c l nC tT) T.t_wrong_place  T.m_len T.m_enumerate T.c_MOST_ACTS T.c_MOST_ANSWERS b_is_row b_is_pay
    have b_need_pays := ok_need_pays (P := P) (w := w) (base := base) (K := stK fg d c l nC tT) T.t_need_pays  b_wrong_place__is_pay b_is_pay
    have b_is_wall := ok_is_wall (P := P) (w := w) (base := base) (K := stK fg d c l nC tT) T.t_is_wall  T.m_all b_is_row b_is_int
    have b_is_fraction := ok_is_fraction (P := P) (w := w) (base := base) (K := stK fg d c l nC tT) T.t_is_fraction  T.m_gcd b_is_pair b_is_int
    have b_need_fraction := ok_need_fraction (P := P) (w := w) (base := base) (K := stK fg d c l nC tT) T.t_need_fraction  b_is_fraction
    have b_least_terms := ok_least_terms (P := P) (w := w) (base := base) (K := stK fg d c l nC tT) T.t_least_terms  T.m_gcd
    have b_plus := ok_plus (P := P) (w := w) (base := base) (K := stK fg d c l nC tT) T.t_plus  b_need_fraction b_least_terms
    have b_are_shares := ok_are_shares (P := P) (w := w) (base := base) (K := stK fg d c l nC tT) T.t_are_shares  T.c_NOUGHT T.c_UNIT b_is_row b_is_fraction b_plus
    have b_less := ok_less (P := P) (w := w) (base := base) (K := stK fg d c l nC tT) T.t_less  b_need_fraction
    have b_least_of := ok_least_of (P := P) (w := w) (base := base) (K := stK fg d c l nC tT) T.t_least_of  b_less
    have b_times := ok_times (P := P) (w := w) (base := base) (K := stK fg d c l nC tT) T.t_times  b_need_fraction b_least_terms
    have b_weighed := ok_weighed (P := P) (w := w) (base := base) (K := stK fg d c l nC tT) T.t_weighed  T.m_zip T.c_NOUGHT b_plus b_times
    have b_weighed_points := ok_weighed_points (P := P) (w := w) (base := base) (K := stK fg d c l nC tT) T.t_weighed_points  b_weighed
    have b_whole_point := ok_whole_point (P := P) (w := w) (base := base) (K := stK fg d c l nC tT) T.t_whole_point  
    have b_act_means := ok_act_means (P := P) (w := w) (base := base) (K := stK fg d c l nC tT) T.t_act_means  b_weighed_points b_whole_point
    have b_beyond := ok_beyond (P := P) (w := w) (base := base) (K := stK fg d c l nC tT) T.t_beyond  
    have b_above_wall := ok_above_wall (P := P) (w := w) (base := base) (K := stK fg d c l nC tT) T.t_above_wall  b_least_terms b_beyond
    have b_margin_of := ok_margin_of (P := P) (w := w) (base := base) (K := stK fg d c l nC tT) T.t_margin_of  b_least_of b_act_means b_above_wall
    have b_is_paper := ok_is_paper (P := P) (w := w) (base := base) (K := stK fg d c l nC tT) T.t_is_paper  T.m_len b_is_pair b_is_wall b_are_shares b_margin_of
    have b_check_paper := ok_check_paper (P := P) (w := w) (base := base) (K := stK fg d c l nC tT) T.t_check_paper  b_need_pays b_is_paper
    have b_paper_margin := ok_paper_margin (P := P) (w := w) (base := base) (K := stK fg d c l nC tT) T.t_paper_margin  b_check_paper b_margin_of
    have b__law_paid := ok__law_paid (P := P) (w := w) (base := base) (K := stK fg d c l nC tT) T.t__law_paid  T.m_zip b__law_spot_plus b__law_spot_times b__law_spot
    have b_need_dice := ok_need_dice (P := P) (w := w) (base := base) (K := stK fg d c l nC tT) T.t_need_dice  T.m_len b_need_pays b_are_shares
    have b_pay_at := ok_pay_at (P := P) (w := w) (base := base) (K := stK fg d c l nC tT) T.t_pay_at  b_weighed_points b_whole_point
    have b_answer_against := ok_answer_against (P := P) (w := w) (base := base) (K := stK fg d c l nC tT) T.t_answer_against  T.m_len T.m_range b_above_wall b_pay_at b_less
    have b_kept_answer := ok_kept_answer (P := P) (w := w) (base := base) (K := stK fg d c l nC tT) T.t_kept_answer  b_check_paper b_need_dice b_answer_against
    have bX_check_paper := okx_check_paper (P := P) (w := w) (base := base) (K := stK fg d c l nC tT) T.t_check_paper b_need_pays b_is_paper (ClT.cl T.k_BadParameter)
    have bX_paper_margin := okx_paper_margin (P := P) (w := w) (base := base) (K := stK fg d c l nC tT) T.t_paper_margin b_margin_of bX_check_paper
    have bL__law_refused := okl__law_refused (P := P) (w := w) (base := base) (K := stK fg d c l nC tT) T.t__law_refused T.m_isinstance (ClT.clh T.k_BadParameter) (ClT.clf T.k_BadParameter)
    have b__law_right := ok__law_right (P := P) (w := w) (base := base) (fg := fg) (d := d) (c := c) (l := l) (nC := nC) (tT := tT) T.t__law_right  T.m_len T.m_range b__law_paper b__law_minus b__law_low b__law_like b_paper_margin b__law_shares b__law_above b__law_paid b__law_below b_kept_answer bX_paper_margin bL__law_refused (Px.LamC.t T.lc__law_right TB)
    exact law_rest T.m_range b__law_right b_paper_margin b_kept_answer b__law_like cd A outer s H E hr hg
  obtain ⟨fb, fdb, hmb, Fub⟩ := T.t__law_begin
  have key : ∃ t, (∀ i, PSs ((fmOf P w (K0 fg) mg base ["script", "state_so", "turn_so", "table_so", "told", "got"] "law" s_law fa cd A outer s H E 17 sc_law.nd hr hg).X i) (defBody s_law) t) ∧
      ∀ (D : Ends) (H : Hp) (a : Addr) (ns : List Int) (σr : Sg), SqL (K0 fg) H a (ns.map V.int) → ns.length ≤ 1000 →
      (∀ (d c l : Addr) (H' : Hp) (nC : Nat), H d = none → H c = none → H l = none → (∀ b o, H b = some o → H' b = some o) → stI d c l nC 0 H' → 0 < nC → nC ≤ 1000 → ∃ i, (rest i).choose_spec.choose_spec.2.1.ex.choose D (some (.ref a) :: some (.ref d) :: σr) H') → t D (some (.ref a) :: none :: σr) H :=
    ss_first (F := fmOf P w (K0 fg) mg base ["script", "state_so", "turn_so", "table_so", "told", "got"] "law" s_law fa cd A outer s H E 17 sc_law.nd hr hg) (beg_fn Fub T.m_list) hmb Fub bp__law_begin (show 1 ≤ 17 from by decide) rfl rfl fun i r => (rest i).choose_spec.choose_spec.2.1.ex.choose_spec.1 r
  obtain ⟨t, pt, ht⟩ := key
  refine ⟨t, PSs.nox (pt ()), ht _ H a ns [none, none, none, none] hs hn fun d c l H' nC _ _ _ kp si c0 c1 => ⟨(d, c, l, ⟨nC, c0, c1⟩), ?_⟩⟩
  have R := rest (d, c, l, ⟨nC, c0, c1⟩)
  refine (rest (d, c, l, ⟨nC, c0, c1⟩)).choose_spec.choose_spec.2.1.ex.choose_spec.2 _ _ _ H' { nx := fun _ => False, rt := fun x => x = .d (.bool true) } _ (by show 0 + _ ≤ lim; rw [Nat.zero_add]; exact (rest (d, c, l, ⟨nC, c0, c1⟩)).choose_spec.choose_spec.1) (good_st 4 si (tabs_nil eT h0 kp)) ((rest (d, c, l, ⟨nC, c0, c1⟩)).choose_spec.choose_spec.2.2 a)
    ⟨fun _ _ _ _ _ _ _ _ h => h.elim, fun _ _ _ _ _ _ _ _ h => h.elim, fun _ _ _ _ _ _ _ _ h => h.elim, fun v H2 x m _ _ _ _ o e => ?_⟩
  subst e
  cases Rd.inv_bool o
  exact k H2
end
end K52

set_option Elab.async false
set_option linter.all false
set_option maxRecDepth 100000
set_option maxHeartbeats 4000000
set_option exponentiation.threshold 10000
namespace K52
local macro_rules | `(tactic| walk_at "px") => `(tactic| simp only [Px.rd, Px.ownAt, Px.frz, Px.fAdd, Px.fSub, Px.fMul, Px.fFdiv, Px.fMod, Px.fPow, Px.fRel, Px.fEq_int, Px.fEq_str, Px.fEq_bool, Px.fEq_fq, Px.fIs, Px.fIsTy, Px.fIx_l, Px.fIx_t, Px.ix0, Px.ix1, Px.at_0, Px.at_1, Px.at_2, Px.at_3, Px.at_4, Px.ex_some, Px.fSl, Px.gLen, Px.gAbs, Px.gInt, Px.gTuple, Px.gList, Px.gGcd, Px.gSum, Px.gMax, Px.gMin, Px.gAll, Px.gAny, Px.gRepr, Px.gTy, Px.tyOf, Px.asB, Px.asTru, Px.truD, Px.asNeg, Px.asI, Px.asL, Px.asT, Px.asS, Px.asR1, Px.asR2, Px.asZ, Px.asZM, Px.asRg, Px.asRgI, Px.blkE, Px.wipeE, Px.unown, Px.asS, Px.asE, Px.asTwo, Px.asApp, Px.allD, Px.gNm, Px.isNon, Px.isSt, Px.pick,
  List.map_cons, List.map_nil, List.length_cons, List.length_nil, List.length_set, List.replicate_succ, List.replicate_zero, List.cons_append, List.nil_append, List.append_nil, List.getElem?_cons_zero, List.getD_cons_zero, List.getD_cons_succ, List.getElem?_cons_succ, List.set_cons_zero, List.set_cons_succ, Nat.reduceAdd, Nat.reduceSub, Nat.reduceLT, Nat.reduceLeDiff, Nat.zero_add, Nat.mul_zero, Nat.add_zero, eq_self, Nat.sub_self, true_and, and_true, true_or, if_true, Bool.false_eq_true, if_false, ne_eq, not_false_eq_true, Nat.zero_lt_succ, Nat.lt_add_one, Nat.succ_lt_succ_iff])
local macro_rules | `(tactic| walk_at "pz") => `(tactic| simp only [Px.at_last, Px.fKind_eq, Px.fPair_eq, Px.fIsFr_eq, Px.fRow_eq, Px.fWithin_eq, Px.fmOf_mg, Px.isFr_fq, Px.isTy, decide_true, Bool.not_true, Bool.not_false, Bool.and_true, Bool.true_and, Bool.false_and, Bool.and_false, Bool.or_false, Bool.or_true, Px.px0, Px.px1, Px.fNeedPt_eq, Px.fNeedFr_eq, Px.isSt, List.length_append, List.getElem?_map, and_self, Px.map_d, Px.pairs_map, Px.enumD_map, Px.rd, Px.ownAt, Px.frz, Px.fAdd, Px.fSub, Px.fMul, Px.fFdiv, Px.fMod, Px.fPow, Px.fRel, Px.fEq_int, Px.fEq_str, Px.fEq_bool, Px.fEq_fq, Px.fIs, Px.fIsTy, Px.fIx_l, Px.fIx_t, Px.ix0, Px.ix1, Px.at_0, Px.at_1, Px.at_2, Px.at_3, Px.at_4, Px.ex_some, Px.fSl, Px.gLen_l, Px.gLen_t, Px.gLen_tab, Px.gLen_row, Px.gLen_sh, Px.asS_tab, Px.asS_row, Px.asS_sh, Px.asE_tab, Px.asE_row, Px.asE_sh, Px.asZ_tab, Px.asZ_row, Px.ix_tab0, Px.ix_c0, Px.ix_c1, Px.gAbs, Px.gInt, Px.gTuple_l, Px.gTuple_t, Px.gList_l, Px.gList_t, Px.gGcd, Px.gSum, Px.gMax, Px.gMin, Px.gAll, Px.gAny, Px.gRepr, Px.gTy, Px.tyOf, Px.asB, Px.asTru, Px.truD, Px.asNeg, Px.asI, Px.asL, Px.asT, Px.asS_l, Px.asS_t, Px.asR1, Px.asR2, Px.asZ, Px.asZ_ll, Px.asZ_tt, Px.asZ_lt, Px.asRg, Px.asRgI, Px.blkE, Px.wipeE, Px.unown, Px.asE_l, Px.asE_t, Px.asTwo, Px.asApp, Px.allD, Px.gNm, Px.isNon, Px.isSt, Px.pick,
  List.map_cons, List.map_nil, List.length_cons, List.length_nil, List.length_set, List.replicate_succ, List.replicate_zero, List.cons_append, List.nil_append, List.append_nil, List.getElem?_cons_zero, List.getD_cons_zero, List.getD_cons_succ, List.getElem?_cons_succ, List.set_cons_zero, List.set_cons_succ, Nat.reduceAdd, Nat.reduceSub, Nat.reduceLT, Nat.reduceLeDiff, Nat.zero_add, Nat.mul_zero, Nat.add_zero, eq_self, Nat.sub_self, true_and, and_true, true_or, if_true, Bool.false_eq_true, if_false, ne_eq, not_false_eq_true, Nat.zero_lt_succ, Nat.lt_add_one, Nat.succ_lt_succ_iff])
local macro_rules | `(tactic| walk_at "pu") => `(tactic| simp only [Px.rd, Px.ownAt, Px.frz, Px.asR1, Px.asR2, Px.asRg, Px.asRgI, Px.blkE, Px.wipeE, Px.unown, Px.asApp, Px.gNm, Px.isNon, Px.isSt,
  List.map_cons, List.map_nil, List.length_cons, List.length_nil, List.length_set, List.replicate_succ, List.replicate_zero, List.cons_append, List.nil_append, List.append_nil, List.getElem?_cons_zero, List.getD_cons_zero, List.getD_cons_succ, List.getElem?_cons_succ, List.set_cons_zero, List.set_cons_succ, Nat.reduceAdd, Nat.reduceSub, Nat.reduceLT, Nat.reduceLeDiff, Nat.zero_add, Nat.mul_zero, Nat.add_zero, eq_self, Nat.sub_self, true_and, and_true, true_or, if_true, Bool.false_eq_true, if_false, ne_eq, not_false_eq_true, Nat.zero_lt_succ, Nat.lt_add_one, Nat.succ_lt_succ_iff])
local macro_rules | `(tactic| walk_at "pl") => `(tactic| simp only [Px.asS_lnD, Px.gLen_lnD, Px.asE_lnD, Px.ix_l0, Px.ix_l1, Px.ix_l2])
open PySem PySem.Spec PyProof.Rows L2 Px

theorem all_mk {l : PySem.W.OpenLaw} {w : World} {K : PySem.W.Frag} {h : Heap} {mg mb : Str → Option Value} {q : Program} {loq : List Str} {mean : ExcName → Option Value} {fa : Addr} {f0 f1 f2 f3 f4 f5 f6 f7 f8 f9 f10 f11 f12 f13 f14 f15 f16 f17 f18 f19 f20 f21 f22 f23 f24 f25 f26 f27 f28 f29 f30 f31 f32 f33 f34 f35 f36 f37 f38 f39 f40 f41 f42 f43 f44 f45 f46 f47 f48 f49 f50 f51 f52 f53 f54 f55 f56 f57 f58 : Addr} {od0 an0 od1 an1 od2 an2 od3 an3 od4 an4 od5 an5 od6 an6 od7 an7 od8 an8 od9 an9 od10 an10 od11 an11 od12 an12 od13 an13 od14 an14 od15 an15 od16 an16 od17 an17 od18 an18 od19 an19 od20 an20 od21 an21 od22 an22 od23 an23 od24 an24 od25 an25 od26 an26 od27 an27 od28 an28 od29 an29 od30 an30 od31 an31 od32 an32 od33 an33 od34 an34 od35 an35 od36 an36 od37 an37 od38 an38 od39 an39 od40 an40 od41 an41 od42 an42 od43 an43 od44 an44 od45 an45 od46 an46 od47 an47 od48 an48 od49 an49 od50 an50 od51 an51 od52 an52 od53 an53 od54 an54 od55 an55 od56 an56 od57 an57 od58 an58 : Option Addr} {sl0 sl1 sl2 sl3 sl4 sl5 sl6 sl7 sl8 sl9 sl10 sl11 sl12 sl13 sl14 sl15 sl16 sl17 sl18 sl19 sl20 sl21 sl22 sl23 sl24 sl25 sl26 sl27 sl28 sl29 sl30 sl31 sl32 sl33 sl34 sl35 sl36 sl37 sl38 sl39 sl40 sl41 sl42 sl43 sl44 sl45 sl46 sl47 sl48 sl49 sl50 sl51 sl52 sl53 sl54 sl55 sl56 sl57 sl58 : Array (Option Value)} {oc0 kV0 dc0 pm0 cd0 ct0 oc1 kV1 dc1 pm1 cd1 ct1 oc2 kV2 dc2 pm2 cd2 ct2 oc3 kV3 dc3 pm3 cd3 ct3 oc4 kV4 dc4 pm4 cd4 ct4 oc5 kV5 dc5 pm5 cd5 ct5 oc6 kV6 dc6 pm6 cd6 ct6 oc7 kV7 dc7 pm7 cd7 ct7 oc8 kV8 dc8 pm8 cd8 ct8 oc9 kV9 dc9 pm9 cd9 ct9 oc10 kV10 dc10 pm10 cd10 ct10 oc11 kV11 dc11 pm11 cd11 ct11 oc12 kV12 dc12 pm12 cd12 ct12 oc13 kV13 dc13 pm13 cd13 ct13 oc14 kV14 dc14 pm14 cd14 ct14 oc15 kV15 dc15 pm15 cd15 ct15 oc16 kV16 dc16 pm16 cd16 ct16 oc17 kV17 dc17 pm17 cd17 ct17 oc18 kV18 dc18 pm18 cd18 ct18 oc19 kV19 dc19 pm19 cd19 ct19 oc20 kV20 dc20 pm20 cd20 ct20 oc21 kV21 dc21 pm21 cd21 ct21 oc22 kV22 dc22 pm22 cd22 ct22 oc23 kV23 dc23 pm23 cd23 ct23 oc24 kV24 dc24 pm24 cd24 ct24 oc25 kV25 dc25 pm25 cd25 ct25 oc26 kV26 dc26 pm26 cd26 ct26 oc27 kV27 dc27 pm27 cd27 ct27 oc28 kV28 dc28 pm28 cd28 ct28 oc29 kV29 dc29 pm29 cd29 ct29 oc30 kV30 dc30 pm30 cd30 ct30 oc31 kV31 dc31 pm31 cd31 ct31 oc32 kV32 dc32 pm32 cd32 ct32 oc33 kV33 dc33 pm33 cd33 ct33 oc34 kV34 dc34 pm34 cd34 ct34 oc35 kV35 dc35 pm35 cd35 ct35 oc36 kV36 dc36 pm36 cd36 ct36 oc37 kV37 dc37 pm37 cd37 ct37 oc38 kV38 dc38 pm38 cd38 ct38 oc39 kV39 dc39 pm39 cd39 ct39 oc40 kV40 dc40 pm40 cd40 ct40 oc41 kV41 dc41 pm41 cd41 ct41 oc42 kV42 dc42 pm42 cd42 ct42 oc43 kV43 dc43 pm43 cd43 ct43 oc44 kV44 dc44 pm44 cd44 ct44 oc45 kV45 dc45 pm45 cd45 ct45 oc46 kV46 dc46 pm46 cd46 ct46 oc47 kV47 dc47 pm47 cd47 ct47 oc48 kV48 dc48 pm48 cd48 ct48 oc49 kV49 dc49 pm49 cd49 ct49 oc50 kV50 dc50 pm50 cd50 ct50 oc51 kV51 dc51 pm51 cd51 ct51 oc52 kV52 dc52 pm52 cd52 ct52 oc53 kV53 dc53 pm53 cd53 ct53 oc54 kV54 dc54 pm54 cd54 ct54 oc55 kV55 dc55 pm55 cd55 ct55 oc56 kV56 dc56 pm56 cd56 ct56 oc57 kV57 dc57 pm57 cd57 ct57 oc58 kV58 dc58 pm58 cd58 ct58 : Value} {tk0 : Tok} {tk1 : Tok} {tk2 : Tok} {g3 : Addr} {og3 : Obj} {g4 : Addr} {og4 : Obj} {aS : Addr} {cC0 cI0 cN0 : Addr} {cnm0 cq0 : Str} {cbs0 cbm0 csub0 : List Value} {csn0 : List Str} {cab0 : Bool} {ccol0 : Option Bool} {cm00 cm10 cm20 cm30 cm50 : Option Value} {cdd0 cod0 can0 : Option Addr} {csl0 : Array (Option Value)} {coc0 ckV0 cdc0 cpm0 ccd0 cct0 : Value} {dr0 : DefRec} (X : K.In h) (Tp : Top q loq mean mg mb h) (hfa : mg "law" = some (.ref fa))
    (a0 : PySem.W.nsIn K mainGlobals "_law_mixed" = some (some (.ref f0))) (l0 : K.lookup f0 = some ⟨oc0, od0, .func (PySem.W.fnOf "_law_mixed" "_law_mixed" (defArgs s__law_mixed) (defBody s__law_mixed) (defScope s__law_mixed) .none kV0 dc0 pm0 an0 cd0 ct0), sl0⟩) (c0 : PySem.W.codeIn K cd0 "_law_mixed" = true) (k0 : PySem.W.keepIn K (.ref f0) = true)
    (a1 : PySem.W.nsIn K mainGlobals "_law_draw" = some (some (.ref f1))) (l1 : K.lookup f1 = some ⟨oc1, od1, .func (PySem.W.fnOf "_law_draw" "_law_draw" (defArgs s__law_draw) (defBody s__law_draw) (defScope s__law_draw) .none kV1 dc1 pm1 an1 cd1 ct1), sl1⟩) (c1 : PySem.W.codeIn K cd1 "_law_draw" = true) (k1 : PySem.W.keepIn K (.ref f1) = true)
    (a2 : PySem.W.nsIn K mainGlobals "_law_cell" = some (some (.ref f2))) (l2 : K.lookup f2 = some ⟨oc2, od2, .func (PySem.W.fnOf "_law_cell" "_law_cell" (defArgs s__law_cell) (defBody s__law_cell) (defScope s__law_cell) .none kV2 dc2 pm2 an2 cd2 ct2), sl2⟩) (c2 : PySem.W.codeIn K cd2 "_law_cell" = true) (k2 : PySem.W.keepIn K (.ref f2) = true)
    (a3 : PySem.W.nsIn K mainGlobals "_law_table" = some (some (.ref f3))) (l3 : K.lookup f3 = some ⟨oc3, od3, .func (PySem.W.fnOf "_law_table" "_law_table" (defArgs s__law_table) (defBody s__law_table) (defScope s__law_table) .none kV3 dc3 pm3 an3 cd3 ct3), sl3⟩) (c3 : PySem.W.codeIn K cd3 "_law_table" = true) (k3 : PySem.W.keepIn K (.ref f3) = true)
    (a4 : PySem.W.nsIn K mainGlobals "_law_of" = some (some (.ref f4))) (l4 : K.lookup f4 = some ⟨oc4, od4, .func (PySem.W.fnOf "_law_of" "_law_of" (defArgs s__law_of) (defBody s__law_of) (defScope s__law_of) .none kV4 dc4 pm4 an4 cd4 ct4), sl4⟩) (c4 : PySem.W.codeIn K cd4 "_law_of" = true) (k4 : PySem.W.keepIn K (.ref f4) = true)
    (a5 : PySem.W.nsIn K mainGlobals "_law_divisor" = some (some (.ref f5))) (l5 : K.lookup f5 = some ⟨oc5, od5, .func (PySem.W.fnOf "_law_divisor" "_law_divisor" (defArgs s__law_divisor) (defBody s__law_divisor) (defScope s__law_divisor) .none kV5 dc5 pm5 an5 cd5 ct5), sl5⟩) (c5 : PySem.W.codeIn K cd5 "_law_divisor" = true) (k5 : PySem.W.keepIn K (.ref f5) = true)
    (a6 : PySem.W.nsIn K mainGlobals "_law_share" = some (some (.ref f6))) (l6 : K.lookup f6 = some ⟨oc6, od6, .func (PySem.W.fnOf "_law_share" "_law_share" (defArgs s__law_share) (defBody s__law_share) (defScope s__law_share) .none kV6 dc6 pm6 an6 cd6 ct6), sl6⟩) (c6 : PySem.W.codeIn K cd6 "_law_share" = true) (k6 : PySem.W.keepIn K (.ref f6) = true)
    (a7 : PySem.W.nsIn K mainGlobals "_law_shares" = some (some (.ref f7))) (l7 : K.lookup f7 = some ⟨oc7, od7, .func (PySem.W.fnOf "_law_shares" "_law_shares" (defArgs s__law_shares) (defBody s__law_shares) (defScope s__law_shares) .none kV7 dc7 pm7 an7 cd7 ct7), sl7⟩) (c7 : PySem.W.codeIn K cd7 "_law_shares" = true) (k7 : PySem.W.keepIn K (.ref f7) = true)
    (a8 : PySem.W.nsIn K mainGlobals "_law_side" = some (some (.ref f8))) (l8 : K.lookup f8 = some ⟨oc8, od8, .func (PySem.W.fnOf "_law_side" "_law_side" (defArgs s__law_side) (defBody s__law_side) (defScope s__law_side) .none kV8 dc8 pm8 an8 cd8 ct8), sl8⟩) (c8 : PySem.W.codeIn K cd8 "_law_side" = true) (k8 : PySem.W.keepIn K (.ref f8) = true)
    (a9 : PySem.W.nsIn K mainGlobals "_law_plus" = some (some (.ref f9))) (l9 : K.lookup f9 = some ⟨oc9, od9, .func (PySem.W.fnOf "_law_plus" "_law_plus" (defArgs s__law_plus) (defBody s__law_plus) (defScope s__law_plus) .none kV9 dc9 pm9 an9 cd9 ct9), sl9⟩) (c9 : PySem.W.codeIn K cd9 "_law_plus" = true) (k9 : PySem.W.keepIn K (.ref f9) = true)
    (a10 : PySem.W.nsIn K mainGlobals "_law_sum" = some (some (.ref f10))) (l10 : K.lookup f10 = some ⟨oc10, od10, .func (PySem.W.fnOf "_law_sum" "_law_sum" (defArgs s__law_sum) (defBody s__law_sum) (defScope s__law_sum) .none kV10 dc10 pm10 an10 cd10 ct10), sl10⟩) (c10 : PySem.W.codeIn K cd10 "_law_sum" = true) (k10 : PySem.W.keepIn K (.ref f10) = true)
    (a11 : PySem.W.nsIn K mainGlobals "_law_times" = some (some (.ref f11))) (l11 : K.lookup f11 = some ⟨oc11, od11, .func (PySem.W.fnOf "_law_times" "_law_times" (defArgs s__law_times) (defBody s__law_times) (defScope s__law_times) .none kV11 dc11 pm11 an11 cd11 ct11), sl11⟩) (c11 : PySem.W.codeIn K cd11 "_law_times" = true) (k11 : PySem.W.keepIn K (.ref f11) = true)
    (a12 : PySem.W.nsIn K mainGlobals "_law_above" = some (some (.ref f12))) (l12 : K.lookup f12 = some ⟨oc12, od12, .func (PySem.W.fnOf "_law_above" "_law_above" (defArgs s__law_above) (defBody s__law_above) (defScope s__law_above) .none kV12 dc12 pm12 an12 cd12 ct12), sl12⟩) (c12 : PySem.W.codeIn K cd12 "_law_above" = true) (k12 : PySem.W.keepIn K (.ref f12) = true)
    (a13 : PySem.W.nsIn K mainGlobals "_law_spot_plus" = some (some (.ref f13))) (l13 : K.lookup f13 = some ⟨oc13, od13, .func (PySem.W.fnOf "_law_spot_plus" "_law_spot_plus" (defArgs s__law_spot_plus) (defBody s__law_spot_plus) (defScope s__law_spot_plus) .none kV13 dc13 pm13 an13 cd13 ct13), sl13⟩) (c13 : PySem.W.codeIn K cd13 "_law_spot_plus" = true) (k13 : PySem.W.keepIn K (.ref f13) = true)
    (a14 : PySem.W.nsIn K mainGlobals "_law_spot_times" = some (some (.ref f14))) (l14 : K.lookup f14 = some ⟨oc14, od14, .func (PySem.W.fnOf "_law_spot_times" "_law_spot_times" (defArgs s__law_spot_times) (defBody s__law_spot_times) (defScope s__law_spot_times) .none kV14 dc14 pm14 an14 cd14 ct14), sl14⟩) (c14 : PySem.W.codeIn K cd14 "_law_spot_times" = true) (k14 : PySem.W.keepIn K (.ref f14) = true)
    (a15 : PySem.W.nsIn K mainGlobals "_law_spot" = some (some (.ref f15))) (l15 : K.lookup f15 = some ⟨oc15, od15, .func (PySem.W.fnOf "_law_spot" "_law_spot" (defArgs s__law_spot) (defBody s__law_spot) (defScope s__law_spot) .none kV15 dc15 pm15 an15 cd15 ct15), sl15⟩) (c15 : PySem.W.codeIn K cd15 "_law_spot" = true) (k15 : PySem.W.keepIn K (.ref f15) = true)
    (a16 : PySem.W.nsIn K mainGlobals "_law_paid_over" = some (some (.ref f16))) (l16 : K.lookup f16 = some ⟨oc16, od16, .func (PySem.W.fnOf "_law_paid_over" "_law_paid_over" (defArgs s__law_paid_over) (defBody s__law_paid_over) (defScope s__law_paid_over) .none kV16 dc16 pm16 an16 cd16 ct16), sl16⟩) (c16 : PySem.W.codeIn K cd16 "_law_paid_over" = true) (k16 : PySem.W.keepIn K (.ref f16) = true)
    (a17 : PySem.W.nsIn K mainGlobals "_law_below" = some (some (.ref f17))) (l17 : K.lookup f17 = some ⟨oc17, od17, .func (PySem.W.fnOf "_law_below" "_law_below" (defArgs s__law_below) (defBody s__law_below) (defScope s__law_below) .none kV17 dc17 pm17 an17 cd17 ct17), sl17⟩) (c17 : PySem.W.codeIn K cd17 "_law_below" = true) (k17 : PySem.W.keepIn K (.ref f17) = true)
    (a18 : PySem.W.nsIn K mainGlobals "_law_low" = some (some (.ref f18))) (l18 : K.lookup f18 = some ⟨oc18, od18, .func (PySem.W.fnOf "_law_low" "_law_low" (defArgs s__law_low) (defBody s__law_low) (defScope s__law_low) .none kV18 dc18 pm18 an18 cd18 ct18), sl18⟩) (c18 : PySem.W.codeIn K cd18 "_law_low" = true) (k18 : PySem.W.keepIn K (.ref f18) = true)
    (a19 : PySem.W.nsIn K mainGlobals "_law_floor" = some (some (.ref f19))) (l19 : K.lookup f19 = some ⟨oc19, od19, .func (PySem.W.fnOf "_law_floor" "_law_floor" (defArgs s__law_floor) (defBody s__law_floor) (defScope s__law_floor) .none kV19 dc19 pm19 an19 cd19 ct19), sl19⟩) (c19 : PySem.W.codeIn K cd19 "_law_floor" = true) (k19 : PySem.W.keepIn K (.ref f19) = true)
    (a20 : PySem.W.nsIn K mainGlobals "_law_paper" = some (some (.ref f20))) (l20 : K.lookup f20 = some ⟨oc20, od20, .func (PySem.W.fnOf "_law_paper" "_law_paper" (defArgs s__law_paper) (defBody s__law_paper) (defScope s__law_paper) .none kV20 dc20 pm20 an20 cd20 ct20), sl20⟩) (c20 : PySem.W.codeIn K cd20 "_law_paper" = true) (k20 : PySem.W.keepIn K (.ref f20) = true)
    (a21 : PySem.W.nsIn K mainGlobals "_law_minus" = some (some (.ref f21))) (l21 : K.lookup f21 = some ⟨oc21, od21, .func (PySem.W.fnOf "_law_minus" "_law_minus" (defArgs s__law_minus) (defBody s__law_minus) (defScope s__law_minus) .none kV21 dc21 pm21 an21 cd21 ct21), sl21⟩) (c21 : PySem.W.codeIn K cd21 "_law_minus" = true) (k21 : PySem.W.keepIn K (.ref f21) = true)
    (a22 : PySem.W.nsIn K mainGlobals "_law_like" = some (some (.ref f22))) (l22 : K.lookup f22 = some ⟨oc22, od22, .func (PySem.W.fnOf "_law_like" "_law_like" (defArgs s__law_like) (defBody s__law_like) (defScope s__law_like) .none kV22 dc22 pm22 an22 cd22 ct22), sl22⟩) (c22 : PySem.W.codeIn K cd22 "_law_like" = true) (k22 : PySem.W.keepIn K (.ref f22) = true)
    (a23 : PySem.W.nsIn K mainGlobals "is_tuple" = some (some (.ref f23))) (l23 : K.lookup f23 = some ⟨oc23, od23, .func (PySem.W.fnOf "is_tuple" "is_tuple" (defArgs s_is_tuple) (defBody s_is_tuple) (defScope s_is_tuple) .none kV23 dc23 pm23 an23 cd23 ct23), sl23⟩) (c23 : PySem.W.codeIn K cd23 "is_tuple" = true) (k23 : PySem.W.keepIn K (.ref f23) = true)
    (a24 : PySem.W.nsIn K mainGlobals "is_row" = some (some (.ref f24))) (l24 : K.lookup f24 = some ⟨oc24, od24, .func (PySem.W.fnOf "is_row" "is_row" (defArgs s_is_row) (defBody s_is_row) (defScope s_is_row) .none kV24 dc24 pm24 an24 cd24 ct24), sl24⟩) (c24 : PySem.W.codeIn K cd24 "is_row" = true) (k24 : PySem.W.keepIn K (.ref f24) = true)
    (a25 : PySem.W.nsIn K mainGlobals "is_pair" = some (some (.ref f25))) (l25 : K.lookup f25 = some ⟨oc25, od25, .func (PySem.W.fnOf "is_pair" "is_pair" (defArgs s_is_pair) (defBody s_is_pair) (defScope s_is_pair) .none kV25 dc25 pm25 an25 cd25 ct25), sl25⟩) (c25 : PySem.W.codeIn K cd25 "is_pair" = true) (k25 : PySem.W.keepIn K (.ref f25) = true)
    (a26 : PySem.W.nsIn K mainGlobals "is_int" = some (some (.ref f26))) (l26 : K.lookup f26 = some ⟨oc26, od26, .func (PySem.W.fnOf "is_int" "is_int" (defArgs s_is_int) (defBody s_is_int) (defScope s_is_int) .none kV26 dc26 pm26 an26 cd26 ct26), sl26⟩) (c26 : PySem.W.codeIn K cd26 "is_int" = true) (k26 : PySem.W.keepIn K (.ref f26) = true)
    (a27 : PySem.W.nsIn K mainGlobals "is_int_within" = some (some (.ref f27))) (l27 : K.lookup f27 = some ⟨oc27, od27, .func (PySem.W.fnOf "is_int_within" "is_int_within" (defArgs s_is_int_within) (defBody s_is_int_within) (defScope s_is_int_within) .none kV27 dc27 pm27 an27 cd27 ct27), sl27⟩) (c27 : PySem.W.codeIn K cd27 "is_int_within" = true) (k27 : PySem.W.keepIn K (.ref f27) = true)
    (a28 : PySem.W.nsIn K mainGlobals "is_pay" = some (some (.ref f28))) (l28 : K.lookup f28 = some ⟨oc28, od28, .func (PySem.W.fnOf "is_pay" "is_pay" (defArgs s_is_pay) (defBody s_is_pay) (defScope s_is_pay) .none kV28 dc28 pm28 an28 cd28 ct28), sl28⟩) (c28 : PySem.W.codeIn K cd28 "is_pay" = true) (k28 : PySem.W.keepIn K (.ref f28) = true)
    (a29 : PySem.W.nsIn K mainGlobals "wrong_place" = some (some (.ref f29))) (l29 : K.lookup f29 = some ⟨oc29, od29, .func (PySem.W.fnOf "wrong_place" "wrong_place" (defArgs s_wrong_place) (defBody s_wrong_place) (defScope s_wrong_place) .none kV29 dc29 pm29 an29 cd29 ct29), sl29⟩) (c29 : PySem.W.codeIn K cd29 "wrong_place" = true) (k29 : PySem.W.keepIn K (.ref f29) = true)
    (a30 : PySem.W.nsIn K mainGlobals "need_pays" = some (some (.ref f30))) (l30 : K.lookup f30 = some ⟨oc30, od30, .func (PySem.W.fnOf "need_pays" "need_pays" (defArgs s_need_pays) (defBody s_need_pays) (defScope s_need_pays) .none kV30 dc30 pm30 an30 cd30 ct30), sl30⟩) (c30 : PySem.W.codeIn K cd30 "need_pays" = true) (k30 : PySem.W.keepIn K (.ref f30) = true)
    (a31 : PySem.W.nsIn K mainGlobals "is_wall" = some (some (.ref f31))) (l31 : K.lookup f31 = some ⟨oc31, od31, .func (PySem.W.fnOf "is_wall" "is_wall" (defArgs s_is_wall) (defBody s_is_wall) (defScope s_is_wall) .none kV31 dc31 pm31 an31 cd31 ct31), sl31⟩) (c31 : PySem.W.codeIn K cd31 "is_wall" = true) (k31 : PySem.W.keepIn K (.ref f31) = true)
    (a32 : PySem.W.nsIn K mainGlobals "is_fraction" = some (some (.ref f32))) (l32 : K.lookup f32 = some ⟨oc32, od32, .func (PySem.W.fnOf "is_fraction" "is_fraction" (defArgs s_is_fraction) (defBody s_is_fraction) (defScope s_is_fraction) .none kV32 dc32 pm32 an32 cd32 ct32), sl32⟩) (c32 : PySem.W.codeIn K cd32 "is_fraction" = true) (k32 : PySem.W.keepIn K (.ref f32) = true)
    (a33 : PySem.W.nsIn K mainGlobals "need_fraction" = some (some (.ref f33))) (l33 : K.lookup f33 = some ⟨oc33, od33, .func (PySem.W.fnOf "need_fraction" "need_fraction" (defArgs s_need_fraction) (defBody s_need_fraction) (defScope s_need_fraction) .none kV33 dc33 pm33 an33 cd33 ct33), sl33⟩) (c33 : PySem.W.codeIn K cd33 "need_fraction" = true) (k33 : PySem.W.keepIn K (.ref f33) = true)
    (a34 : PySem.W.nsIn K mainGlobals "least_terms" = some (some (.ref f34))) (l34 : K.lookup f34 = some ⟨oc34, od34, .func (PySem.W.fnOf "least_terms" "least_terms" (defArgs s_least_terms) (defBody s_least_terms) (defScope s_least_terms) .none kV34 dc34 pm34 an34 cd34 ct34), sl34⟩) (c34 : PySem.W.codeIn K cd34 "least_terms" = true) (k34 : PySem.W.keepIn K (.ref f34) = true)
    (a35 : PySem.W.nsIn K mainGlobals "plus" = some (some (.ref f35))) (l35 : K.lookup f35 = some ⟨oc35, od35, .func (PySem.W.fnOf "plus" "plus" (defArgs s_plus) (defBody s_plus) (defScope s_plus) .none kV35 dc35 pm35 an35 cd35 ct35), sl35⟩) (c35 : PySem.W.codeIn K cd35 "plus" = true) (k35 : PySem.W.keepIn K (.ref f35) = true)
    (a36 : PySem.W.nsIn K mainGlobals "are_shares" = some (some (.ref f36))) (l36 : K.lookup f36 = some ⟨oc36, od36, .func (PySem.W.fnOf "are_shares" "are_shares" (defArgs s_are_shares) (defBody s_are_shares) (defScope s_are_shares) .none kV36 dc36 pm36 an36 cd36 ct36), sl36⟩) (c36 : PySem.W.codeIn K cd36 "are_shares" = true) (k36 : PySem.W.keepIn K (.ref f36) = true)
    (a37 : PySem.W.nsIn K mainGlobals "less" = some (some (.ref f37))) (l37 : K.lookup f37 = some ⟨oc37, od37, .func (PySem.W.fnOf "less" "less" (defArgs s_less) (defBody s_less) (defScope s_less) .none kV37 dc37 pm37 an37 cd37 ct37), sl37⟩) (c37 : PySem.W.codeIn K cd37 "less" = true) (k37 : PySem.W.keepIn K (.ref f37) = true)
    (a38 : PySem.W.nsIn K mainGlobals "least_of" = some (some (.ref f38))) (l38 : K.lookup f38 = some ⟨oc38, od38, .func (PySem.W.fnOf "least_of" "least_of" (defArgs s_least_of) (defBody s_least_of) (defScope s_least_of) .none kV38 dc38 pm38 an38 cd38 ct38), sl38⟩) (c38 : PySem.W.codeIn K cd38 "least_of" = true) (k38 : PySem.W.keepIn K (.ref f38) = true)
    (a39 : PySem.W.nsIn K mainGlobals "times" = some (some (.ref f39))) (l39 : K.lookup f39 = some ⟨oc39, od39, .func (PySem.W.fnOf "times" "times" (defArgs s_times) (defBody s_times) (defScope s_times) .none kV39 dc39 pm39 an39 cd39 ct39), sl39⟩) (c39 : PySem.W.codeIn K cd39 "times" = true) (k39 : PySem.W.keepIn K (.ref f39) = true)
    (a40 : PySem.W.nsIn K mainGlobals "weighed" = some (some (.ref f40))) (l40 : K.lookup f40 = some ⟨oc40, od40, .func (PySem.W.fnOf "weighed" "weighed" (defArgs s_weighed) (defBody s_weighed) (defScope s_weighed) .none kV40 dc40 pm40 an40 cd40 ct40), sl40⟩) (c40 : PySem.W.codeIn K cd40 "weighed" = true) (k40 : PySem.W.keepIn K (.ref f40) = true)
    (a41 : PySem.W.nsIn K mainGlobals "weighed_points" = some (some (.ref f41))) (l41 : K.lookup f41 = some ⟨oc41, od41, .func (PySem.W.fnOf "weighed_points" "weighed_points" (defArgs s_weighed_points) (defBody s_weighed_points) (defScope s_weighed_points) .none kV41 dc41 pm41 an41 cd41 ct41), sl41⟩) (c41 : PySem.W.codeIn K cd41 "weighed_points" = true) (k41 : PySem.W.keepIn K (.ref f41) = true)
    (a42 : PySem.W.nsIn K mainGlobals "whole_point" = some (some (.ref f42))) (l42 : K.lookup f42 = some ⟨oc42, od42, .func (PySem.W.fnOf "whole_point" "whole_point" (defArgs s_whole_point) (defBody s_whole_point) (defScope s_whole_point) .none kV42 dc42 pm42 an42 cd42 ct42), sl42⟩) (c42 : PySem.W.codeIn K cd42 "whole_point" = true) (k42 : PySem.W.keepIn K (.ref f42) = true)
    (a43 : PySem.W.nsIn K mainGlobals "act_means" = some (some (.ref f43))) (l43 : K.lookup f43 = some ⟨oc43, od43, .func (PySem.W.fnOf "act_means" "act_means" (defArgs s_act_means) (defBody s_act_means) (defScope s_act_means) .none kV43 dc43 pm43 an43 cd43 ct43), sl43⟩) (c43 : PySem.W.codeIn K cd43 "act_means" = true) (k43 : PySem.W.keepIn K (.ref f43) = true)
    (a44 : PySem.W.nsIn K mainGlobals "beyond" = some (some (.ref f44))) (l44 : K.lookup f44 = some ⟨oc44, od44, .func (PySem.W.fnOf "beyond" "beyond" (defArgs s_beyond) (defBody s_beyond) (defScope s_beyond) .none kV44 dc44 pm44 an44 cd44 ct44), sl44⟩) (c44 : PySem.W.codeIn K cd44 "beyond" = true) (k44 : PySem.W.keepIn K (.ref f44) = true)
    (a45 : PySem.W.nsIn K mainGlobals "above_wall" = some (some (.ref f45))) (l45 : K.lookup f45 = some ⟨oc45, od45, .func (PySem.W.fnOf "above_wall" "above_wall" (defArgs s_above_wall) (defBody s_above_wall) (defScope s_above_wall) .none kV45 dc45 pm45 an45 cd45 ct45), sl45⟩) (c45 : PySem.W.codeIn K cd45 "above_wall" = true) (k45 : PySem.W.keepIn K (.ref f45) = true)
    (a46 : PySem.W.nsIn K mainGlobals "margin_of" = some (some (.ref f46))) (l46 : K.lookup f46 = some ⟨oc46, od46, .func (PySem.W.fnOf "margin_of" "margin_of" (defArgs s_margin_of) (defBody s_margin_of) (defScope s_margin_of) .none kV46 dc46 pm46 an46 cd46 ct46), sl46⟩) (c46 : PySem.W.codeIn K cd46 "margin_of" = true) (k46 : PySem.W.keepIn K (.ref f46) = true)
    (a47 : PySem.W.nsIn K mainGlobals "is_paper" = some (some (.ref f47))) (l47 : K.lookup f47 = some ⟨oc47, od47, .func (PySem.W.fnOf "is_paper" "is_paper" (defArgs s_is_paper) (defBody s_is_paper) (defScope s_is_paper) .none kV47 dc47 pm47 an47 cd47 ct47), sl47⟩) (c47 : PySem.W.codeIn K cd47 "is_paper" = true) (k47 : PySem.W.keepIn K (.ref f47) = true)
    (a48 : PySem.W.nsIn K mainGlobals "check_paper" = some (some (.ref f48))) (l48 : K.lookup f48 = some ⟨oc48, od48, .func (PySem.W.fnOf "check_paper" "check_paper" (defArgs s_check_paper) (defBody s_check_paper) (defScope s_check_paper) .none kV48 dc48 pm48 an48 cd48 ct48), sl48⟩) (c48 : PySem.W.codeIn K cd48 "check_paper" = true) (k48 : PySem.W.keepIn K (.ref f48) = true)
    (a49 : PySem.W.nsIn K mainGlobals "paper_margin" = some (some (.ref f49))) (l49 : K.lookup f49 = some ⟨oc49, od49, .func (PySem.W.fnOf "paper_margin" "paper_margin" (defArgs s_paper_margin) (defBody s_paper_margin) (defScope s_paper_margin) .none kV49 dc49 pm49 an49 cd49 ct49), sl49⟩) (c49 : PySem.W.codeIn K cd49 "paper_margin" = true) (k49 : PySem.W.keepIn K (.ref f49) = true)
    (a50 : PySem.W.nsIn K mainGlobals "_law_paid" = some (some (.ref f50))) (l50 : K.lookup f50 = some ⟨oc50, od50, .func (PySem.W.fnOf "_law_paid" "_law_paid" (defArgs s__law_paid) (defBody s__law_paid) (defScope s__law_paid) .none kV50 dc50 pm50 an50 cd50 ct50), sl50⟩) (c50 : PySem.W.codeIn K cd50 "_law_paid" = true) (k50 : PySem.W.keepIn K (.ref f50) = true)
    (a51 : PySem.W.nsIn K mainGlobals "need_dice" = some (some (.ref f51))) (l51 : K.lookup f51 = some ⟨oc51, od51, .func (PySem.W.fnOf "need_dice" "need_dice" (defArgs s_need_dice) (defBody s_need_dice) (defScope s_need_dice) .none kV51 dc51 pm51 an51 cd51 ct51), sl51⟩) (c51 : PySem.W.codeIn K cd51 "need_dice" = true) (k51 : PySem.W.keepIn K (.ref f51) = true)
    (a52 : PySem.W.nsIn K mainGlobals "pay_at" = some (some (.ref f52))) (l52 : K.lookup f52 = some ⟨oc52, od52, .func (PySem.W.fnOf "pay_at" "pay_at" (defArgs s_pay_at) (defBody s_pay_at) (defScope s_pay_at) .none kV52 dc52 pm52 an52 cd52 ct52), sl52⟩) (c52 : PySem.W.codeIn K cd52 "pay_at" = true) (k52 : PySem.W.keepIn K (.ref f52) = true)
    (a53 : PySem.W.nsIn K mainGlobals "answer_against" = some (some (.ref f53))) (l53 : K.lookup f53 = some ⟨oc53, od53, .func (PySem.W.fnOf "answer_against" "answer_against" (defArgs s_answer_against) (defBody s_answer_against) (defScope s_answer_against) .none kV53 dc53 pm53 an53 cd53 ct53), sl53⟩) (c53 : PySem.W.codeIn K cd53 "answer_against" = true) (k53 : PySem.W.keepIn K (.ref f53) = true)
    (a54 : PySem.W.nsIn K mainGlobals "kept_answer" = some (some (.ref f54))) (l54 : K.lookup f54 = some ⟨oc54, od54, .func (PySem.W.fnOf "kept_answer" "kept_answer" (defArgs s_kept_answer) (defBody s_kept_answer) (defScope s_kept_answer) .none kV54 dc54 pm54 an54 cd54 ct54), sl54⟩) (c54 : PySem.W.codeIn K cd54 "kept_answer" = true) (k54 : PySem.W.keepIn K (.ref f54) = true)
    (a55 : PySem.W.nsIn K mainGlobals "_law_refused" = some (some (.ref f55))) (l55 : K.lookup f55 = some ⟨oc55, od55, .func (PySem.W.fnOf "_law_refused" "_law_refused" (defArgs s__law_refused) (defBody s__law_refused) (defScope s__law_refused) .none kV55 dc55 pm55 an55 cd55 ct55), sl55⟩) (c55 : PySem.W.codeIn K cd55 "_law_refused" = true) (k55 : PySem.W.keepIn K (.ref f55) = true)
    (a56 : PySem.W.nsIn K mainGlobals "_law_right" = some (some (.ref f56))) (l56 : K.lookup f56 = some ⟨oc56, od56, .func (PySem.W.fnOf "_law_right" "_law_right" (defArgs s__law_right) (defBody s__law_right) (defScope s__law_right) .none kV56 dc56 pm56 an56 cd56 ct56), sl56⟩) (c56 : PySem.W.codeIn K cd56 "_law_right" = true) (k56 : PySem.W.keepIn K (.ref f56) = true)
    (a57 : PySem.W.nsIn K mainGlobals "_law_begin" = some (some (.ref f57))) (l57 : K.lookup f57 = some ⟨oc57, od57, .func (PySem.W.fnOf "_law_begin" "_law_begin" (defArgs s__law_begin) (defBody s__law_begin) (defScope s__law_begin) .none kV57 dc57 pm57 an57 cd57 ct57), sl57⟩) (c57 : PySem.W.codeIn K cd57 "_law_begin" = true) (k57 : PySem.W.keepIn K (.ref f57) = true)
    (a58 : PySem.W.nsIn K mainGlobals "law" = some (some (.ref f58))) (l58 : K.lookup f58 = some ⟨oc58, od58, .func (PySem.W.fnOf "law" "law" (defArgs s_law) (defBody s_law) (defScope s_law) .none kV58 dc58 pm58 an58 cd58 ct58), sl58⟩) (c58 : PySem.W.codeIn K cd58 "law" = true) (k58 : PySem.W.keepIn K (.ref f58) = true)
    (z_list : PySem.W.nsIn K mainGlobals "list" = some none)
    (z_int : PySem.W.nsIn K mainGlobals "int" = some none)
    (z_len : PySem.W.nsIn K mainGlobals "len" = some none)
    (z_tuple : PySem.W.nsIn K mainGlobals "tuple" = some none)
    (z_range : PySem.W.nsIn K mainGlobals "range" = some none)
    (z_abs : PySem.W.nsIn K mainGlobals "abs" = some none)
    (z_sum : PySem.W.nsIn K mainGlobals "sum" = some none)
    (z_zip : PySem.W.nsIn K mainGlobals "zip" = some none)
    (z_repr : PySem.W.nsIn K mainGlobals "repr" = some none)
    (z_type : PySem.W.nsIn K mainGlobals "type" = some none)
    (z_all : PySem.W.nsIn K mainGlobals "all" = some none)
    (z_enumerate : PySem.W.nsIn K mainGlobals "enumerate" = some none)
    (z_isinstance : PySem.W.nsIn K mainGlobals "isinstance" = some none)
    (z_gcd : PySem.W.nsIn K mainGlobals "gcd" = some (some (.builtin "math.gcd")))
    (y0 : PySem.W.nsIn K mainGlobals "MOST_PAID" = some (some (.int 100 tk0)))
    (y1 : PySem.W.nsIn K mainGlobals "MOST_ACTS" = some (some (.int 4 tk1)))
    (y2 : PySem.W.nsIn K mainGlobals "MOST_ANSWERS" = some (some (.int 4 tk2)))
    (y3 : PySem.W.nsIn K mainGlobals "NOUGHT" = some (some (.ref g3))) (yl3 : K.lookup g3 = some og3) (yo3 : IsInts og3 [0, 1])
    (y4 : PySem.W.nsIn K mainGlobals "UNIT" = some (some (.ref g4))) (yl4 : K.lookup g4 = some og4) (yo4 : IsInts og4 [1, 1])
    (zS : PySem.W.nsIn K mainGlobals "ShapeError" = some (some (.ref aS)))
    (ac0 : PySem.W.nsIn K mainGlobals "BadParameter" = some (some (.ref cC0))) (xl0 : K.lookup cC0 = some (excClassObj cnm0 cq0 cC0 cN0 cbs0 cbm0 true csn0 csub0 cab0 ccol0 cdd0 cm00 cm10 cm20 cm30 cm50 "ValueError.__new__")) (rv0 : PySem.HandSPX.refsVE cbm0 = true) (sa0 : PySem.W.findIn K (.ref cC0) "__setattr__" = some (some (.builtin "object.__setattr__"))) (ga0 : PySem.W.findIn K (.ref cC0) "__getattribute__" = some (some (.builtin "BaseException.__getattribute__"))) (gg0 : PySem.W.findIn K (.ref cC0) "__getattr__" = some none) (nf0 : PySem.W.findIn K (.ref cC0) "value" = some none) (ni0 : PySem.W.findIn K (.ref cC0) "__init__" = some (some (.ref cI0))) (ti0 : PySem.W.typeIn K (.ref cI0) = some (.type "function")) (kc0 : PySem.W.keepIn K (.ref cC0) = true) (ec0 : PySem.W.subIn K (.ref cC0) (.type "BaseException") = some true) (tc0 : PySem.W.typeIn K (.ref cC0) = some (.type "type")) (hc0 : PySem.W.hasDictIn K cC0 = true) (sc0 : PySem.W.subIn K (.ref cC0) (.ref cC0) = some true) (dc0 : PySem.W.findIn K (.ref cC0) "__class__" = some (some (.builtin "object.__class__"))) (dg0 : PySem.W.specialIn K (.builtin "object.__class__") "__get__" = some (some (.builtin "getset_descriptor.__get__"))) (dt0 : PySem.W.takesIn K (.builtin "object.__class__") = some true) (mo0 : PySem.W.mroIn K cC0 (.type "object") = some true) (li0 : K.lookup cI0 = some ⟨coc0, cod0, .func (PySem.W.fnOf "__init__" "BadParameter.__init__" (defArgs (Px.clsInit (topS 5))) (defBody (Px.clsInit (topS 5))) (defScope (Px.clsInit (topS 5))) .none ckV0 cdc0 cpm0 can0 ccd0 cct0), csl0⟩) (ci0 : PySem.W.codeIn K ccd0 "BadParameter.__init__" = true) (kt0 : PySem.W.kitOne K (.ref cC0) (.ref aS) = some true)
    (tb0 : (PySem.W.tabIn K "_law_right").isSome = true) (np0 : ((PySem.W.tabIn K "_law_right").bind fun e => K.lookup e.2) = none) (rr0 : (recsOf q).find? (fun e => e.name == ("_law_right" : Str)) = some dr0) :
    ∃ (fd : FuncData) (cs : List (Addr × Addr)), (∀ p ∈ cs, PySem.W.CodeHd h p.1 p.2 ∧ h.get? p.2 = some (PySem.W.tabObj #[])) ∧ (∀ p ∈ cs, K.lookup p.2 = none) ∧ (∀ (s : Shared) (v : Value), BindsTo s fd ⟨[v], []⟩ [("script", v)]) ∧
      ∀ base : Heap, K.In base → base.Ns mainGlobals mg → (∀ p ∈ cs, LamX.TabB base mg p.1 p.2) → FnG l.prog w K mg base CX0 18 fa fd ["script"] (spLaw K (cs.map (·.2))) := by
  have G := Tp.g
  have e := hfa.symm.trans (PySem.W.mg_of X G a58)
  cases e
  obtain ⟨⟨cc0, pp0⟩, tb0⟩ := Option.isSome_iff_exists.mp tb0
  rw [tb0] at np0
  replace np0 : K.lookup pp0 = none := np0
  exact ⟨_, [(cc0, pp0)], fun p hp => by
      simp only [List.mem_cons, List.not_mem_nil, or_false] at hp
      rcases hp with rfl
      · exact PySem.W.tab_of Tp X rr0 tb0, fun p hp => by
      simp only [List.mem_cons, List.not_mem_nil, or_false] at hp
      rcases hp with rfl
      · exact np0, fun s v => .of_eq rfl, fun base _ _ TB => law_fn (tT := [(pp0, ("_law_right" : Str) ++ ".<locals>." ++ "<lambda>")]) ⟨lo_mkD X G a0 l0 c0 k0, lo_mkD X G a1 l1 c1 k1, lo_mkD X G a2 l2 c2 k2, lo_mkD X G a3 l3 c3 k3, lo_mkD X G a4 l4 c4 k4, lo_mkD X G a5 l5 c5 k5, lo_mkD X G a6 l6 c6 k6, lo_mkD X G a7 l7 c7 k7, lo_mkD X G a8 l8 c8 k8, lo_mkD X G a9 l9 c9 k9, lo_mkD X G a10 l10 c10 k10, lo_mkD X G a11 l11 c11 k11, lo_mkD X G a12 l12 c12 k12, lo_mkD X G a13 l13 c13 k13, lo_mkD X G a14 l14 c14 k14, lo_mkD X G a15 l15 c15 k15, lo_mkD X G a16 l16 c16 k16, lo_mkD X G a17 l17 c17 k17, lo_mkD X G a18 l18 c18 k18, lo_mkD X G a19 l19 c19 k19, lo_mkD X G a20 l20 c20 k20, lo_mkD X G a21 l21 c21 k21, lo_mkD X G a22 l22 c22 k22, lo_mkD X G a23 l23 c23 k23, lo_mkD X G a24 l24 c24 k24, lo_mkD X G a25 l25 c25 k25, lo_mkD X G a26 l26 c26 k26, lo_mkD X G a27 l27 c27 k27, lo_mkD X G a28 l28 c28 k28, lo_mkD X G a29 l29 c29 k29, lo_mkD X G a30 l30 c30 k30, lo_mkD X G a31 l31 c31 k31, lo_mkD X G a32 l32 c32 k32, lo_mkD X G a33 l33 c33 k33, lo_mkD X G a34 l34 c34 k34, lo_mkD X G a35 l35 c35 k35, lo_mkD X G a36 l36 c36 k36, lo_mkD X G a37 l37 c37 k37, lo_mkD X G a38 l38 c38 k38, lo_mkD X G a39 l39 c39 k39, lo_mkD X G a40 l40 c40 k40, lo_mkD X G a41 l41 c41 k41, lo_mkD X G a42 l42 c42 k42, lo_mkD X G a43 l43 c43 k43, lo_mkD X G a44 l44 c44 k44, lo_mkD X G a45 l45 c45 k45, lo_mkD X G a46 l46 c46 k46, lo_mkD X G a47 l47 c47 k47, lo_mkD X G a48 l48 c48 k48, lo_mkD X G a49 l49 c49 k49, lo_mkD X G a50 l50 c50 k50, lo_mkD X G a51 l51 c51 k51, lo_mkD X G a52 l52 c52 k52, lo_mkD X G a53 l53 c53 k53, lo_mkD X G a54 l54 c54 k54, lo_mkD X G a55 l55 c55 k55, lo_mkD X G a56 l56 c56 k56, lo_mkD X G a57 l57 c57 k57, PySem.W.mg_none_of X G z_list, PySem.W.mg_none_of X G z_int, PySem.W.mg_none_of X G z_len, PySem.W.mg_none_of X G z_tuple, PySem.W.mg_none_of X G z_range, PySem.W.mg_none_of X G z_abs, PySem.W.mg_none_of X G z_sum, PySem.W.mg_none_of X G z_zip, PySem.W.mg_none_of X G z_repr, PySem.W.mg_none_of X G z_type, PySem.W.mg_none_of X G z_all, PySem.W.mg_none_of X G z_enumerate, PySem.W.mg_none_of X G z_isinstance, PySem.W.mg_of X G z_gcd, int_mk X G y0, int_mk X G y1, int_mk X G y2, ints_mk X G y3 yl3 yo3, ints_mk X G y4 yl4 yo4, ⟨cC0, cI0, aS, _, ["self", "value"], PySem.W.mg_of X G ac0, ⟨⟨_, _, _, _, _, _, _, _, _, _, _, _, _, _, _, xl0, rv0⟩, sa0, ga0, gg0, nf0, ni0, ti0, kc0, ec0, tc0, hc0, sc0, dc0, dg0, dt0, mo0⟩, fun P w base => Px.init_ok li0 ci0 ⟨rfl, rfl, rfl, by decide +kernel, rfl, by decide +kernel, by decide +kernel⟩ rfl, Binds.all (fun us hl => match us, hl with | [_, _], _ => rfl), PySem.W.mg_of X G zS, kt0⟩, lamC_mk X G a56 tb0 (.head _) (.head _) (fun p hp e => by
      simp only [List.mem_cons, List.not_mem_nil, or_false] at hp
      rcases hp with rfl
      · exact rfl)⟩ TB rfl (fun_mk l58 c58 k58)⟩
end K52
open PySem PySem.W PyProof.Rows
set_option maxRecDepth 100000 in
set_option maxHeartbeats 0 in
theorem PySem.Challenge.cw_withinshapes_k52_whole_margins_and_told_holds : PySem.Challenge.rw_withinshapes_k52_whole_margins_and_told.Holds := by
  w_on; o_law; k_head; (case hw => w_witness2)
  k_fill
  refine Px.walkT (l := PySem.Challenge.rw_withinshapes_k52_whole_margins_and_told) (n := 63) (k := 18) (x := "script") (sp := fun K Ps => Px.spLaw K Ps) rfl (by decide) rfl ⟨rfl, by decide, by decide⟩ (fun w h Y => PySem.W.km_in_of Y) ?F (fun _ _ _ a ns hl hP hS => ⟨a, ns, rfl, hS, Nat.le_trans hl (by decide), hP, fun _ => rfl⟩)
  case F =>
    intro w mg mb mean fa h KX Tp hmg
    refine' K52.all_mk KX Tp hmg ?a0 ?l0 ?c0 ?k0 ?a1 ?l1 ?c1 ?k1 ?a2 ?l2 ?c2 ?k2 ?a3 ?l3 ?c3 ?k3 ?a4 ?l4 ?c4 ?k4 ?a5 ?l5 ?c5 ?k5 ?a6 ?l6 ?c6 ?k6 ?a7 ?l7 ?c7 ?k7 ?a8 ?l8 ?c8 ?k8 ?a9 ?l9 ?c9 ?k9 ?a10 ?l10 ?c10 ?k10 ?a11 ?l11 ?c11 ?k11 ?a12 ?l12 ?c12 ?k12 ?a13 ?l13 ?c13 ?k13 ?a14 ?l14 ?c14 ?k14 ?a15 ?l15 ?c15 ?k15 ?a16 ?l16 ?c16 ?k16 ?a17 ?l17 ?c17 ?k17 ?a18 ?l18 ?c18 ?k18 ?a19 ?l19 ?c19 ?k19 ?a20 ?l20 ?c20 ?k20 ?a21 ?l21 ?c21 ?k21 ?a22 ?l22 ?c22 ?k22 ?a23 ?l23 ?c23 ?k23 ?a24 ?l24 ?c24 ?k24 ?a25 ?l25 ?c25 ?k25 ?a26 ?l26 ?c26 ?k26 ?a27 ?l27 ?c27 ?k27 ?a28 ?l28 ?c28 ?k28 ?a29 ?l29 ?c29 ?k29 ?a30 ?l30 ?c30 ?k30 ?a31 ?l31 ?c31 ?k31 ?a32 ?l32 ?c32 ?k32 ?a33 ?l33 ?c33 ?k33 ?a34 ?l34 ?c34 ?k34 ?a35 ?l35 ?c35 ?k35 ?a36 ?l36 ?c36 ?k36 ?a37 ?l37 ?c37 ?k37 ?a38 ?l38 ?c38 ?k38 ?a39 ?l39 ?c39 ?k39 ?a40 ?l40 ?c40 ?k40 ?a41 ?l41 ?c41 ?k41 ?a42 ?l42 ?c42 ?k42 ?a43 ?l43 ?c43 ?k43 ?a44 ?l44 ?c44 ?k44 ?a45 ?l45 ?c45 ?k45 ?a46 ?l46 ?c46 ?k46 ?a47 ?l47 ?c47 ?k47 ?a48 ?l48 ?c48 ?k48 ?a49 ?l49 ?c49 ?k49 ?a50 ?l50 ?c50 ?k50 ?a51 ?l51 ?c51 ?k51 ?a52 ?l52 ?c52 ?k52 ?a53 ?l53 ?c53 ?k53 ?a54 ?l54 ?c54 ?k54 ?a55 ?l55 ?c55 ?k55 ?a56 ?l56 ?c56 ?k56 ?a57 ?l57 ?c57 ?k57 ?a58 ?l58 ?c58 ?k58 ?z_list ?z_int ?z_len ?z_tuple ?z_range ?z_abs ?z_sum ?z_zip ?z_repr ?z_type ?z_all ?z_enumerate ?z_isinstance ?z_gcd ?y0 ?y1 ?y2 ?y3 ?yl3 ?yo3 ?y4 ?yl4 ?yo4 ?zS ?ac0 ?xl0 ?rv0 ?sa0 ?ga0 ?gg0 ?nf0 ?ni0 ?ti0 ?kc0 ?ec0 ?tc0 ?hc0 ?sc0 ?dc0 ?dg0 ?dt0 ?mo0 ?li0 ?ci0 ?kt0 ?tb0 ?np0 ?rr0
    (case a0 => k_is)
    (case l0 => k_is)
    (case c0 => k_is)
    (case k0 => k_is)
    (case a1 => k_is)
    (case l1 => k_is)
    (case c1 => k_is)
    (case k1 => k_is)
    (case a2 => k_is)
    (case l2 => k_is)
    (case c2 => k_is)
    (case k2 => k_is)
    (case a3 => k_is)
    (case l3 => k_is)
    (case c3 => k_is)
    (case k3 => k_is)
    (case a4 => k_is)
    (case l4 => k_is)
    (case c4 => k_is)
    (case k4 => k_is)
    (case a5 => k_is)
    (case l5 => k_is)
    (case c5 => k_is)
    (case k5 => k_is)
    (case a6 => k_is)
    (case l6 => k_is)
    (case c6 => k_is)
    (case k6 => k_is)
    (case a7 => k_is)
    (case l7 => k_is)
    (case c7 => k_is)
    (case k7 => k_is)
    (case a8 => k_is)
    (case l8 => k_is)
    (case c8 => k_is)
    (case k8 => k_is)
    (case a9 => k_is)
    (case l9 => k_is)
    (case c9 => k_is)
    (case k9 => k_is)
    (case a10 => k_is)
    (case l10 => k_is)
    (case c10 => k_is)
    (case k10 => k_is)
    (case a11 => k_is)
    (case l11 => k_is)
    (case c11 => k_is)
    (case k11 => k_is)
    (case a12 => k_is)
    (case l12 => k_is)
    (case c12 => k_is)
    (case k12 => k_is)
    (case a13 => k_is)
    (case l13 => k_is)
    (case c13 => k_is)
    (case k13 => k_is)
    (case a14 => k_is)
    (case l14 => k_is)
    (case c14 => k_is)
    (case k14 => k_is)
    (case a15 => k_is)
    (case l15 => k_is)
    (case c15 => k_is)
    (case k15 => k_is)
    (case a16 => k_is)
    (case l16 => k_is)
    (case c16 => k_is)
    (case k16 => k_is)
    (case a17 => k_is)
    (case l17 => k_is)
    (case c17 => k_is)
    (case k17 => k_is)
    (case a18 => k_is)
    (case l18 => k_is)
    (case c18 => k_is)
    (case k18 => k_is)
    (case a19 => k_is)
    (case l19 => k_is)
    (case c19 => k_is)
    (case k19 => k_is)
    (case a20 => k_is)
    (case l20 => k_is)
    (case c20 => k_is)
    (case k20 => k_is)
    (case a21 => k_is)
    (case l21 => k_is)
    (case c21 => k_is)
    (case k21 => k_is)
    (case a22 => k_is)
    (case l22 => k_is)
    (case c22 => k_is)
    (case k22 => k_is)
    (case a23 => k_is)
    (case l23 => k_is)
    (case c23 => k_is)
    (case k23 => k_is)
    (case a24 => k_is)
    (case l24 => k_is)
    (case c24 => k_is)
    (case k24 => k_is)
    (case a25 => k_is)
    (case l25 => k_is)
    (case c25 => k_is)
    (case k25 => k_is)
    (case a26 => k_is)
    (case l26 => k_is)
    (case c26 => k_is)
    (case k26 => k_is)
    (case a27 => k_is)
    (case l27 => k_is)
    (case c27 => k_is)
    (case k27 => k_is)
    (case a28 => k_is)
    (case l28 => k_is)
    (case c28 => k_is)
    (case k28 => k_is)
    (case a29 => k_is)
    (case l29 => k_is)
    (case c29 => k_is)
    (case k29 => k_is)
    (case a30 => k_is)
    (case l30 => k_is)
    (case c30 => k_is)
    (case k30 => k_is)
    (case a31 => k_is)
    (case l31 => k_is)
    (case c31 => k_is)
    (case k31 => k_is)
    (case a32 => k_is)
    (case l32 => k_is)
    (case c32 => k_is)
    (case k32 => k_is)
    (case a33 => k_is)
    (case l33 => k_is)
    (case c33 => k_is)
    (case k33 => k_is)
    (case a34 => k_is)
    (case l34 => k_is)
    (case c34 => k_is)
    (case k34 => k_is)
    (case a35 => k_is)
    (case l35 => k_is)
    (case c35 => k_is)
    (case k35 => k_is)
    (case a36 => k_is)
    (case l36 => k_is)
    (case c36 => k_is)
    (case k36 => k_is)
    (case a37 => k_is)
    (case l37 => k_is)
    (case c37 => k_is)
    (case k37 => k_is)
    (case a38 => k_is)
    (case l38 => k_is)
    (case c38 => k_is)
    (case k38 => k_is)
    (case a39 => k_is)
    (case l39 => k_is)
    (case c39 => k_is)
    (case k39 => k_is)
    (case a40 => k_is)
    (case l40 => k_is)
    (case c40 => k_is)
    (case k40 => k_is)
    (case a41 => k_is)
    (case l41 => k_is)
    (case c41 => k_is)
    (case k41 => k_is)
    (case a42 => k_is)
    (case l42 => k_is)
    (case c42 => k_is)
    (case k42 => k_is)
    (case a43 => k_is)
    (case l43 => k_is)
    (case c43 => k_is)
    (case k43 => k_is)
    (case a44 => k_is)
    (case l44 => k_is)
    (case c44 => k_is)
    (case k44 => k_is)
    (case a45 => k_is)
    (case l45 => k_is)
    (case c45 => k_is)
    (case k45 => k_is)
    (case a46 => k_is)
    (case l46 => k_is)
    (case c46 => k_is)
    (case k46 => k_is)
    (case a47 => k_is)
    (case l47 => k_is)
    (case c47 => k_is)
    (case k47 => k_is)
    (case a48 => k_is)
    (case l48 => k_is)
    (case c48 => k_is)
    (case k48 => k_is)
    (case a49 => k_is)
    (case l49 => k_is)
    (case c49 => k_is)
    (case k49 => k_is)
    (case a50 => k_is)
    (case l50 => k_is)
    (case c50 => k_is)
    (case k50 => k_is)
    (case a51 => k_is)
    (case l51 => k_is)
    (case c51 => k_is)
    (case k51 => k_is)
    (case a52 => k_is)
    (case l52 => k_is)
    (case c52 => k_is)
    (case k52 => k_is)
    (case a53 => k_is)
    (case l53 => k_is)
    (case c53 => k_is)
    (case k53 => k_is)
    (case a54 => k_is)
    (case l54 => k_is)
    (case c54 => k_is)
    (case k54 => k_is)
    (case a55 => k_is)
    (case l55 => k_is)
    (case c55 => k_is)
    (case k55 => k_is)
    (case a56 => k_is)
    (case l56 => k_is)
    (case c56 => k_is)
    (case k56 => k_is)
    (case a57 => k_is)
    (case l57 => k_is)
    (case c57 => k_is)
    (case k57 => k_is)
    (case a58 => k_is)
    (case l58 => k_is)
    (case c58 => k_is)
    (case k58 => k_is)
    (case z_list => k_is)
    (case z_int => k_is)
    (case z_len => k_is)
    (case z_tuple => k_is)
    (case z_range => k_is)
    (case z_abs => k_is)
    (case z_sum => k_is)
    (case z_zip => k_is)
    (case z_repr => k_is)
    (case z_type => k_is)
    (case z_all => k_is)
    (case z_enumerate => k_is)
    (case z_isinstance => k_is)
    (case z_gcd => k_is)
    (case y0 => k_is)
    (case y1 => k_is)
    (case y2 => k_is)
    (case y3 => k_is)
    (case yl3 => k_is)
    (case yo3 => exact ⟨rfl, _, _, rfl, by decide, (.cons ⟨_, rfl⟩ (.cons ⟨_, rfl⟩ .nil))⟩)
    (case y4 => k_is)
    (case yl4 => k_is)
    (case yo4 => exact ⟨rfl, _, _, rfl, by decide, (.cons ⟨_, rfl⟩ (.cons ⟨_, rfl⟩ .nil))⟩)
    (case zS => k_is)
    (case ac0 => k_is)
    (case xl0 => k_is)
    (case rv0 => decide +kernel)
    (case sa0 => k_is)
    (case ga0 => k_is)
    (case gg0 => k_is)
    (case nf0 => k_is)
    (case ni0 => k_is)
    (case ti0 => k_is)
    (case kc0 => k_is)
    (case ec0 => k_is)
    (case tc0 => k_is)
    (case hc0 => k_is)
    (case sc0 => first | rfl | k_is)
    (case dc0 => k_is)
    (case dg0 => first | k_is | decide +kernel)
    (case dt0 => first | k_is | decide +kernel)
    (case mo0 => k_is)
    (case li0 => k_is)
    (case ci0 => k_is)
    (case kt0 => first | rfl | k_is | decide +kernel)
    (case tb0 => kernel_rfl)
    (case np0 => kernel_rfl)
    (case rr0 => rfl)

