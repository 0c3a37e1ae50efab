import PyProof.Rows.All
import Wide.All
import OpenK.AllK
import Wide.FinOn
import HandS.ForMost
import HandS.Wide
import HandS.Gcd
import HandS.Zip
import HandS.TupAny
import HandS.TupMul
import HandS.Walk
import HandS.TupLe
import PyProof.ReprRoads
import PyProof.ReprLen
import PyProof.StrLawsRepr
import KE.GoesEnum
import KE.GoesNew
import HandS.CallLocal
import HandS.Style
import KE.GoesZip
import KE.GoesMore
import KE.KStar
import HandS.Star
import HandS.ExcInit
import HandS.TryMany
import HandS.ExcOwn
import HandS.ExcField
import HandS.ExcIs
import KE.KExcIs
import HandS.Conv
import KE.DataMinMax
import HandS.RevRange
import HandS.Iter
import KE.DatumOrd
import HandS.Deep
import PySem.Challenge.RW_withinshapes_k06_whole_shapes_and_what_t
set_option Elab.async false
set_option linter.all false
set_option maxRecDepth 100000
set_option maxHeartbeats 2000000
/-! Px: a pure layer over the hand layer: values as data, the environment as data, what a piece of the program asks as a plain predicate. -/
namespace Px
open PySem PySem.Spec PyProof.Rows L2

abbrev Fg := PySem.W.Frag

mutual
/-- the value reads as the datum in the (unmoving part of the) heap -/
inductive Rd (K : Fg) (M : Hp) : V → PyData → Prop
  | non : Rd K M .non .none
  | bl (b : Bool) : Rd K M (.bl b) (.bool b)
  | int (i : Int) : Rd K M (.int i) (.int i)
  | str (x : Str) : Rd K M (.str x) (.str x)
  | lst {a : Addr} {xs : List V} {ds : List PyData} : M a = some (.lst xs) → RdA K M xs ds → Rd K M (.ref a) (.list ds)
  | tup {a : Addr} {xs : List V} {ds : List PyData} : SqT K M a xs → RdA K M xs ds → Rd K M (.ref a) (.tuple ds)
inductive RdA (K : Fg) (M : Hp) : List V → List PyData → Prop
  | nil : RdA K M [] []
  | cons {v : V} {vs : List V} {d : PyData} {ds : List PyData} : Rd K M v d → RdA K M vs ds → RdA K M (v :: vs) (d :: ds)
end

/-- one heap holds all of the other -/
def Ex (H H' : Hp) : Prop := ∀ a o, H a = some o → H' a = some o
theorem Ex.refl (H : Hp) : Ex H H := fun _ _ h => h
theorem Ex.trans {H H1 H2 : Hp} (a : Ex H H1) (b : Ex H1 H2) : Ex H H2 := fun x o h => b x o (a x o h)
theorem Ex.sqt {K : Fg} {H H' : Hp} {a : Addr} {xs : List V} (e : Ex H H') (h : SqT K H a xs) : SqT K H' a xs := by
  rcases h with (h | ⟨o, h⟩) | h
  · exact .inl (.inl (e _ _ h))
  · exact .inl (.inr ⟨o, e _ _ h⟩)
  · exact .inr h

mutual
theorem Rd.mono {K : Fg} {M M' : Hp} (e : Ex M M') : ∀ {v : V} {d : PyData}, Rd K M v d → Rd K M' v d
  | _, _, .non => .non
  | _, _, .bl b => .bl b
  | _, _, .int i => .int i
  | _, _, .str x => .str x
  | _, _, .lst h r => .lst (e _ _ h) (RdA.mono e r)
  | _, _, .tup h r => .tup (e.sqt h) (RdA.mono e r)
theorem RdA.mono {K : Fg} {M M' : Hp} (e : Ex M M') : ∀ {vs : List V} {ds : List PyData}, RdA K M vs ds → RdA K M' vs ds
  | _, _, .nil => .nil
  | _, _, .cons h r => .cons (Rd.mono e h) (RdA.mono e r)
end
mutual
theorem Rd.dp {K : Fg} {M : Hp} : ∀ {v : V} {d : PyData}, Rd K M v d → Dp K M v d
  | _, _, .non => .non
  | _, _, .bl b => .bl b
  | _, _, .int i => .int i
  | _, _, .str x => .str x
  | _, _, .lst h r => .lst (SqL.of h) (RdA.dp r)
  | _, _, .tup h r => .tup h (RdA.dp r)
theorem RdA.dp {K : Fg} {M : Hp} : ∀ {vs : List V} {ds : List PyData}, RdA K M vs ds → DpAll K M vs ds
  | _, _, .nil => .nil
  | _, _, .cons h r => .cons (Rd.dp h) (RdA.dp r)
end
theorem RdA.length {K : Fg} {M : Hp} : ∀ {vs : List V} {ds : List PyData}, RdA K M vs ds → vs.length = ds.length
  | _, _, .nil => rfl
  | _, _, .cons _ r => by simp only [List.length_cons, RdA.length r]
theorem RdA.append {K : Fg} {M : Hp} : ∀ {vs ws : List V} {ds es : List PyData}, RdA K M vs ds → RdA K M ws es → RdA K M (vs ++ ws) (ds ++ es)
  | _, _, _, _, .nil, s => s
  | _, _, _, _, .cons h r, s => .cons h (RdA.append r s)
theorem RdA.get {K : Fg} {M : Hp} : ∀ {vs : List V} {ds : List PyData} {i : Nat} {d : PyData}, RdA K M vs ds → ds[i]? = some d → ∃ v, vs[i]? = some v ∧ Rd K M v d
  | _, _, _, _, .nil, e => by simp at e
  | _, _, 0, _, .cons h _, e => by simp at e; subst e; exact ⟨_, rfl, h⟩
  | _, _, i + 1, d, .cons _ r, e => by
    obtain ⟨v, h1, h2⟩ := RdA.get (i := i) (d := d) r (by simpa using e)
    exact ⟨v, by simpa using h1, h2⟩
theorem RdA.get' {K : Fg} {M : Hp} : ∀ {vs : List V} {ds : List PyData} {i : Nat} {v : V}, RdA K M vs ds → vs[i]? = some v → ∃ d, ds[i]? = some d ∧ Rd K M v d
  | _, _, _, _, .nil, e => by simp at e
  | _, _, 0, _, .cons h _, e => by simp at e; subst e; exact ⟨_, rfl, h⟩
  | _, _, i + 1, d, .cons _ r, e => by
    obtain ⟨v, h1, h2⟩ := RdA.get' (i := i) (v := d) r (by simpa using e)
    exact ⟨v, by simpa using h1, h2⟩
theorem RdA.take {K : Fg} {M : Hp} : ∀ {vs : List V} {ds : List PyData} (n : Nat), RdA K M vs ds → RdA K M (vs.take n) (ds.take n)
  | _, _, 0, _ => .nil
  | _, _, _ + 1, .nil => .nil
  | _, _, n + 1, .cons h r => .cons h (RdA.take n r)
theorem RdA.drop {K : Fg} {M : Hp} : ∀ {vs : List V} {ds : List PyData} (n : Nat), RdA K M vs ds → RdA K M (vs.drop n) (ds.drop n)
  | _, _, 0, r => r
  | _, _, _ + 1, .nil => .nil
  | _, _, n + 1, .cons _ r => RdA.drop n r
theorem RdA.set {K : Fg} {M : Hp} {v : V} {d : PyData} (q : Rd K M v d) : ∀ {vs : List V} {ds : List PyData} (n : Nat), RdA K M vs ds → RdA K M (vs.set n v) (ds.set n d)
  | _, _, _, .nil => .nil
  | _, _, 0, .cons _ r => .cons q r
  | _, _, n + 1, .cons h r => .cons h (RdA.set q n r)
/-- shapes of values by their data -/
theorem Rd.inv_int {K : Fg} {M : Hp} {v : V} {i : Int} (h : Rd K M v (.int i)) : v = .int i := by cases h; rfl
theorem Rd.inv_bool {K : Fg} {M : Hp} {v : V} {b : Bool} (h : Rd K M v (.bool b)) : v = .bl b := by cases h; rfl
theorem Rd.inv_none {K : Fg} {M : Hp} {v : V} (h : Rd K M v .none) : v = .non := by cases h; rfl
theorem Rd.inv_str {K : Fg} {M : Hp} {v : V} {x : Str} (h : Rd K M v (.str x)) : v = .str x := by cases h; rfl
theorem Rd.inv_list {K : Fg} {M : Hp} {v : V} {ds : List PyData} (h : Rd K M v (.list ds)) : ∃ a xs, v = .ref a ∧ M a = some (.lst xs) ∧ RdA K M xs ds := by
  cases h with
  | lst h r => exact ⟨_, _, rfl, h, r⟩
theorem Rd.inv_tuple {K : Fg} {M : Hp} {v : V} {ds : List PyData} (h : Rd K M v (.tuple ds)) : ∃ a xs, v = .ref a ∧ SqT K M a xs ∧ RdA K M xs ds := by
  cases h with
  | tup h r => exact ⟨_, _, rfl, h, r⟩
theorem RdA.ints {K : Fg} {M : Hp} : ∀ {vs : List V} {ns : List Int}, RdA K M vs (ns.map PyData.int) → vs = ns.map V.int
  | _, [], h => by cases h; rfl
  | _, n :: ns, h => by
    cases h with
    | cons h r => rw [Rd.inv_int h, RdA.ints r]; rfl
theorem RdA.bools {K : Fg} {M : Hp} : ∀ {vs : List V} {ns : List Bool}, RdA K M vs (ns.map PyData.bool) → vs = ns.map V.bl
  | _, [], h => by cases h; rfl
  | _, n :: ns, h => by
    cases h with
    | cons h r => rw [Rd.inv_bool h, RdA.bools r]; rfl

/-- a value of the pure layer: a datum, or a thing that is known by its place alone -/
inductive Vl where
  | d (x : PyData) | o (v : V) | st | rg (lo hi : Int)
/-- what the whole run has fixed: the written part; the moving state's value, its addresses, what is held of them -/
structure Kx where
  fg : Fg
  sd : V
  S : Addr → Prop
  SI : Nat → Hp → Prop
/-- so many draws there are in all at most -/
def lim : Nat := 2 ^ 4000
instance : Coe Kx Fg := ⟨Kx.fg⟩
def VlOk (K : Kx) (M : Hp) (v : V) : Vl → Prop
  | .d x => Rd K M v x
  | .o w => v = w
  | .st => v = K.sd
  | .rg lo hi => ∃ p, v = .ref p ∧ M p = some (.rng lo hi)
theorem VlOk.mono {K : Kx} {M M' : Hp} (e : Ex M M') {v : V} {x : Vl} (h : VlOk K M v x) : VlOk K M' v x := by
  cases x with
  | d x => exact Rd.mono e h
  | o w => exact h
  | st => exact h
  | rg lo hi => obtain ⟨p, e1, e2⟩ := h; exact ⟨p, e1, e _ _ e2⟩
inductive VlA (K : Kx) (M : Hp) : List V → List Vl → Prop
  | nil : VlA K M [] []
  | cons {v : V} {vs : List V} {d : Vl} {ds : List Vl} : VlOk K M v d → VlA K M vs ds → VlA K M (v :: vs) (d :: ds)
theorem VlA.mono {K : Kx} {M M' : Hp} (e : Ex M M') : ∀ {vs : List V} {ds : List Vl}, VlA K M vs ds → VlA K M' vs ds
  | _, _, .nil => .nil
  | _, _, .cons h r => .cons (h.mono e) (VlA.mono e r)
theorem VlA.length {K : Kx} {M : Hp} : ∀ {vs : List V} {ds : List Vl}, VlA K M vs ds → vs.length = ds.length
  | _, _, .nil => rfl
  | _, _, .cons _ r => by simp only [List.length_cons, VlA.length r]
theorem VlA.get {K : Kx} {M : Hp} : ∀ {vs : List V} {ds : List Vl} {i : Nat} {d : Vl}, VlA K M vs ds → ds[i]? = some d → ∃ v, vs[i]? = some v ∧ VlOk K M v d
  | _, _, _, _, .nil, e => by simp at e
  | _, _, 0, _, .cons h _, e => by simp at e; subst e; exact ⟨_, rfl, h⟩
  | _, _, i + 1, d, .cons _ r, e => by
    obtain ⟨v, h1, h2⟩ := VlA.get (i := i) (d := d) r (by simpa using e)
    exact ⟨v, by simpa using h1, h2⟩
theorem VlA.data {K : Kx} {M : Hp} : ∀ {vs : List V} {ds : List PyData}, VlA K M vs (ds.map Vl.d) → RdA K M vs ds
  | _, [], h => by cases h; exact .nil
  | _, d :: ds, h => by
    cases h with
    | cons h r => exact .cons h (VlA.data r)

/-- a slot -/
inductive Sl where
  | non | v (x : Vl) | own (xs : List PyData)
abbrev En := List Sl
abbrev Sg := L2.St

open Classical in
/-- the heap without what is barred -/
noncomputable def mask (B : Addr → Prop) (H : Hp) : Hp := fun a => if B a then none else H a
theorem mask_of {B : Addr → Prop} {H : Hp} {a : Addr} {o : HO} (h : mask B H a = some o) : ¬ B a ∧ H a = some o := by
  unfold mask at h
  by_cases hb : B a
  · rw [if_pos hb] at h; cases h
  · rw [if_neg hb] at h; exact ⟨hb, h⟩
theorem mask_at {B : Addr → Prop} {H : Hp} {a : Addr} {o : HO} (hb : ¬ B a) (h : H a = some o) : mask B H a = some o := by
  unfold mask; rw [if_neg hb]; exact h
theorem mask_le {B : Addr → Prop} {H : Hp} : Ex (mask B H) H := fun _ _ h => (mask_of h).2

/-- what a def's body stands in: the barred addresses ahead (the callers' and the state's), the moving state's, the heap at the entry, how often was drawn at most -/
structure Ct where
  B : Addr → Prop
  S : Addr → Prop
  H0 : Hp
  m : Nat
@[reducible] def Ct.up (C : Ct) (m : Nat) : Ct := ⟨C.B, C.S, C.H0, m⟩
structure CtOk (B S : Addr → Prop) (SI : Nat → Hp → Prop) : Prop where
  sb : ∀ a, S a → B a
  st : ∀ m H H', (∀ a, S a → H a = H' a) → SI m H → SI m H'
  th : ∀ m H, SI m H → ∀ a, S a → H a ≠ none
  up : ∀ m m' H, m ≤ m' → SI m H → SI m' H

def bar (B : Addr → Prop) (σ : Sg) (ρ : En) (a : Addr) : Prop := B a ∨ ∃ (i : Nat) (xs : List PyData), ρ[i]? = some (Sl.own xs) ∧ σ[i]? = some (some (V.ref a))
noncomputable abbrev mq (C : Ct) (σ : Sg) (ρ : En) (H : Hp) : Hp := mask (bar C.B σ ρ) H

structure Good (K : Kx) (C : Ct) (σ : Sg) (ρ : En) (H : Hp) : Prop where
  eS : C.S = K.S
  ct : CtOk C.B C.S K.SI
  si : K.SI C.m H
  bd : ∀ a, C.B a → H a ≠ none
  fr : ∀ a o, ¬ C.S a → C.H0 a = some o → H a = some o
  len : ρ.length = σ.length
  sl : ∀ (i : Nat) (x : Vl), ρ[i]? = some (.v x) → ∃ v, σ[i]? = some (some v) ∧ VlOk K (mq C σ ρ H) v x
  ow : ∀ (i : Nat) (xs : List PyData), ρ[i]? = some (.own xs) → ∃ p vs, σ[i]? = some (some (.ref p)) ∧ H p = some (.lst vs) ∧ RdA K (mq C σ ρ H) vs xs ∧ C.H0 p = none ∧ ¬ C.B p
  inj : ∀ (i j : Nat) (xs ys : List PyData) (p : Addr), ρ[i]? = some (.own xs) → ρ[j]? = some (.own ys) → σ[i]? = some (some (.ref p)) → σ[j]? = some (some (.ref p)) → i = j

/-- what an expression may do to the heap -/
def Tr (S : Addr → Prop) (SI : Hp → Prop) (H H' : Hp) : Prop := (∀ a o, ¬ S a → H a = some o → H' a = some o) ∧ SI H'
theorem Tr.refl {S : Addr → Prop} {SI : Hp → Prop} {H : Hp} (h : SI H) : Tr S SI H H := ⟨fun _ _ _ e => e, h⟩
theorem Tr.trans {S : Addr → Prop} {SI SI' : Hp → Prop} {H H1 H2 : Hp} (a : Tr S SI H H1) (b : Tr S SI' H1 H2) : Tr S SI' H H2 := ⟨fun x o n e => b.1 x o n (a.1 x o n e), b.2⟩
section
variable {K : Kx} {C : Ct} {σ : Sg} {ρ : En} {H H' : Hp}
theorem Tr.ex {B S : Addr → Prop} {SI : Hp → Prop} (sb : ∀ a, S a → B a) (t : Tr S SI H H') : Ex (mask B H) (mask B H') := fun a o e => by
  obtain ⟨nb, e⟩ := mask_of e
  exact mask_at nb (t.1 a o (fun s => nb (sb a s)) e)
theorem Good.ex (G : Good K C σ ρ H) {m : Nat} (t : Tr C.S (K.SI m) H H') : Ex (mq C σ ρ H) (mq C σ ρ H') := t.ex fun a s => .inl (G.ct.sb a s)
theorem Good.tr (G : Good K C σ ρ H) {m : Nat} (t : Tr C.S (K.SI m) H H') : Good K (C.up m) σ ρ H' where
  eS := G.eS
  ct := G.ct
  si := t.2
  bd := fun a b e => by
    by_cases hs : C.S a
    · exact G.ct.th _ _ t.2 a hs e
    · cases q : H a with
      | none => exact G.bd a b q
      | some o => rw [t.1 a o hs q] at e; cases e
  fr := fun a o n e => t.1 a o n (G.fr a o n e)
  len := G.len
  sl := fun i x e => by
    obtain ⟨v, h1, h2⟩ := G.sl i x e
    exact ⟨v, h1, h2.mono (G.ex t)⟩
  ow := fun i xs e => by
    obtain ⟨p, vs, h1, h2, h3, h4, h5⟩ := G.ow i xs e
    exact ⟨p, vs, h1, t.1 p _ (fun s => h5 (G.ct.sb p s)) h2, h3.mono (G.ex t), h4, h5⟩
  inj := G.inj
/-- a new object -/
theorem Good.new (G : Good K C σ ρ H) {p : Addr} {o : HO} (n : H p = none)  : Tr C.S (K.SI C.m) H (upd H p o) :=
  ⟨fun a u _ e => by rw [upd_ne (ne_of_none e n)]; exact e, G.ct.st _ H _ (fun a s => by
    have : a ≠ p := fun z => G.ct.th _ H G.si a s (by rw [z]; exact n)
    rw [upd_ne this]) G.si⟩
theorem Good.nbar (G : Good K C σ ρ H) {p : Addr} (n : H p = none) : ¬ bar C.B σ ρ p := by
  rintro (b | ⟨i, xs, h1, h2⟩)
  · exact G.bd p b n
  · obtain ⟨q, vs, e1, e2, _⟩ := G.ow i xs h1
    rw [h2] at e1
    cases e1
    rw [n] at e2
    cases e2
theorem Good.mq_new (G : Good K C σ ρ H) {p : Addr} {o : HO} (n : H p = none) : mq C σ ρ (upd H p o) p = some o := mask_at (G.nbar n) upd_same
end
end Px

set_option Elab.async false
set_option linter.all false
set_option maxRecDepth 100000
set_option maxHeartbeats 2000000
/-! Px: a def's promise where no guard of a repr is up (so that repr may be asked within). -/
namespace Px
open PySem PySem.Spec PyProof.Rows L2

variable {P : Program} {w : World} {K : Fg} {mg : Str → Option Value} {base : Heap} {CX : CXT}

structure FnG (P : Program) (w : World) (K : Fg) (mg : Str → Option Value) (base : Heap) (CX : CXT) (k : Nat) (f : Addr) (fd : FuncData) (ps : List Str) (sp : Sp) : Prop where
  arity : ∀ vs H Q E, sp vs H Q E → vs.length = ps.length
  runs : ∀ (A : Around) (outer : List PySem.Env) (s : Shared) (H : Hp) (args : Args) (us : List Value) (vs : List V) (Q : VK) (E : XK), A.guards = some [] → Room k A →
    Env0 P w K mg base A outer s H → BindsTo s fd args (ps.zip us) → Vals vs us → sp vs H Q E → codeAny (model P w) A (.call (.ref f) args) (CR CX outer P w H s Q E) s
theorem FnG.up {j k : Nat} {f : Addr} {fd : FuncData} {ps : List Str} {sp : Sp} (F : FnG P w K mg base CX j f fd ps sp) (h : j ≤ k) : FnG P w K mg base CX k f fd ps sp :=
  ⟨F.arity, fun A outer s H args us vs Q E hg hr => F.runs A outer s H args us vs Q E hg (hr.mono h)⟩
theorem FnG.weak {k : Nat} {f : Addr} {fd : FuncData} {ps : List Str} {sp sp' : Sp} (F : FnG P w K mg base CX k f fd ps sp) (h : ∀ vs H Q E, sp' vs H Q E → sp vs H Q E) : FnG P w K mg base CX k f fd ps sp' :=
  ⟨fun vs H Q E q => F.arity vs H Q E (h _ _ _ _ q), fun A outer s H args us vs Q E hg hr he hb hv q => F.runs A outer s H args us vs Q E hg hr he hb hv (h _ _ _ _ q)⟩
theorem FnG.of {k : Nat} {f : Addr} {fd : FuncData} {ps : List Str} {sp : Sp} (F : FnOk P w K mg base CX k f fd ps sp) : FnG P w K mg base CX k f fd ps sp :=
  ⟨F.len, fun A outer s H args us vs Q E _ hr => F.run A outer s H args us vs Q E hr⟩

/-- a def by its body -/
theorem FnG.make {k : Nat} {f : Addr} {x qual : Str} {st : Stmt} {fd : FuncData} {N ps : List Str} {sp : Sp} (F : Fun K x qual st f fd) (S : FnScope N ps (defScope st))
    (len : ∀ vs H Q E, sp vs H Q E → vs.length = ps.length)
    (body : ∀ (cd : Value) (A : Around) (outer : List PySem.Env) (s : Shared) (H : Hp) (vs : List V) (Q : VK) (E : XK), A.guards = some [] → Room k (A.deeper (envOfC qual (defScope st) s.heap.objs.size f cd)) → sp vs H Q E →
      ∃ t, PSs (cxOf CX P w K mg base N qual (defScope st) f cd A outer s H E) (defBody st) t ∧ t { nx := fun _ H' => Q .non H', rt := Q } (start N vs) H) : FnG P w K mg base CX (k + 1) f fd ps sp := by
  obtain ⟨oc, od, kV, doc, pm, an, cd, ct, osl, rfl, lk, hcd⟩ := F.ex
  refine ⟨len, fun A outer s H args us vs Q E hg hr e0 hb r q => ?_⟩
  have hl := len _ _ _ _ q
  have KX := e0.mod.kin.keeps fun b o e => (e0.bs b o e).1
  have nolim := e0.mod.nolimit.keeps fun b o e => (e0.bs b o e).1
  refine codeAny_call_function hr.depth (KX _ _ lk) rfl S.co S.gen rfl (PySem.W.codeRec_of KX hcd) (hb _ _ _ _ ?_)
  refine wpAny_newFunctionEnv_cells S.kind (fun ⟨n, v⟩ hy => ?_) fun env he s1 hx => ?_
  · rcases S.par n (List.of_mem_zip hy).1 with z | z
    · exact .inl z
    · exact .inr ⟨z, PySem.W.cellsFrom_some _ _ _ (.inl z)⟩
  subst he
  refine ⟨nolim.keeps hx.toInCall.keep, codeAny_func ?_⟩
  obtain ⟨t, ht, hq⟩ := body cd A outer s H vs Q E hg (hr.deeper _) q
  have I := inv_start (CX := CX) (E := E) S hr.hd e0 hl r hx
  refine wpAny_mono (ht.run [] s1 (start N vs) H _ I hq) (fun fl s' hs => ?_) fun e s' hs => hs
  cases fl with
  | ret u => exact let ⟨v, σ', H', J, rv, q⟩ := hs; ⟨v, H', J.os, J.bare, J.base, J.hok, rv, q⟩
  | next => exact let ⟨σ', H', J, q⟩ := hs; ⟨.non, H', J.os, J.bare, J.base, J.hok, rfl, q⟩
  | brk => exact let ⟨_, _, _, q⟩ := hs; False.elim q
  | cont => exact let ⟨_, _, _, q⟩ := hs; False.elim q

section
variable {X : Cx} {k : Nat} {f : Addr} {fd : FuncData} {ps ks : List Str} {sp : Sp} {dvs : List V} {ds : List Value} {E : XK} {x : Str} {p pos : Pos} {e : Expr} {es : List Expr} {kws : List Keyword} {t tk : TA}
theorem goG {pins : List (Addr × Obj)} {σ : L2.St} {H : Hp} {s : Shared} {Q : VK} {us : List Value} {kw : List (Str × Value)} {zs : List Value} {vs : List V} (F : FnG X.prog X.w X.K X.mg X.base CX k f fd ps sp)
    (hg : X.A.guards = some []) (hr : Room k X.A) (hx : Passes CX X E) (I : Inv X pins σ H s) (hb : zs.length = ps.length → BindsTo s fd ⟨us, kw⟩ (ps.zip zs)) (r : Vals vs zs) (q : sp vs H Q E) :
    wpAny (model X.prog X.w) X.A (call (.ref f) us kw) (EP X pins σ Q) X.xe s := by
  have hl : zs.length = ps.length := by rw [← r.length]; exact F.arity _ _ _ _ q
  refine wpAny_call (codeAny_mono (F.runs X.A X.stack s H ⟨us, kw⟩ zs vs Q E hg hr I.env0 (hb hl) r q) fun r s' hq => ?_)
  cases r with
  | error e => exact hx pins σ H s e s' I hq
  | ok fl =>
    cases fl with
    | ret u => exact I.after hq
    | next => exact hq.elim
    | brk => exact hq.elim
    | cont => exact hq.elim
/-- f(a, ..) -/
theorem peG_call (F : FnG X.prog X.w X.K X.mg X.base CX k f fd ps sp) (hg : X.A.guards = some []) (hr : Room k X.A) (hx : Passes CX X E) (gl : Gl X x) (hm : X.mg x = some (.ref f)) (hk : PySem.W.keepIn X.K (.ref f) = true)
    (hb : Binds X.K fd ps []) (ha : PA X (e :: es) t) (hdb : (x == ("__debug__" : Str)) = false := by decide) (he : starEach (e :: es) X.env = (false, eval e X.env) :: starEach es X.env := by rfl)
    (hpl : (backTo pos (starEach es X.env)).any (·.1) = false := by rfl) : PE X (.Call (.Name x p) (e :: es) [] pos) (tCall sp [] E t) := by
  refine ⟨fun pins s σ H Q I h => wpAny_Call_Name_kw (ld_glob I gl hm ?_ hdb)⟩
  refine PySem.W.callWith_K (h₀ := X.base) I.ok.mod.kin hk (thn (ha.run pos pins s σ H _ I h) fun us s1 ⟨vs, H1, I1, r, q⟩ => ⟨I1.kIn, ?_⟩) he hpl
  have q' : sp vs H1 Q E := by simpa using q
  exact goG F hg hr hx I1 (zs := us) (fun hl => by have := hb s1 us I1.kIn (by simpa using hl); simpa using this) r q'
/-- f() -/
theorem peG_call0 (F : FnG X.prog X.w X.K X.mg X.base CX k f fd ps sp) (hg : X.A.guards = some []) (hr : Room k X.A) (hx : Passes CX X E) (gl : Gl X x) (hm : X.mg x = some (.ref f)) (hk : PySem.W.keepIn X.K (.ref f) = true)
    (hb : Binds X.K fd ps []) (hdb : (x == ("__debug__" : Str)) = false := by decide) : PE X (.Call (.Name x p) [] [] pos) (tCall sp [] E tNil) := by
  refine ⟨fun pins s σ H Q I h => wpAny_Call_Name_kw (ld_glob I gl hm ?_ hdb)⟩
  have q' : sp [] H Q E := h
  exact PySem.W.callWith_K0 I.kIn hk (goG F hg hr hx I (us := []) (zs := []) (fun hl => by have := hb s [] I.kIn (by simpa using hl); simpa using this) .nil q')
/-- f(a, .., k = v, ..) -/
theorem peG_callK {g : List Value → List Value → List Value} {gV : List V → List V → List V} (F : FnG X.prog X.w X.K X.mg X.base CX k f fd ps sp) (hg : X.A.guards = some []) (hr : Room k X.A) (hx : Passes CX X E) (gl : Gl X x)
    (hm : X.mg x = some (.ref f)) (hk : PySem.W.keepIn X.K (.ref f) = true) (hb : KBinds X.K fd ps ks g gV) (ha : PA X (e :: es) t) (hkw : PK X kws tk)
    (hall : (backToKw pos (keywordEach kws X.env)).all (·.1.isSome) = true := by rfl) (hks : (backToKw pos (keywordEach kws X.env)).filterMap (·.1) = ks := by rfl) (hdb : (x == ("__debug__" : Str)) = false := by decide)
    (he : starEach (e :: es) X.env = (false, eval e X.env) :: starEach es X.env := by rfl)
    (hpl : ((backTo pos (starEach (e :: es) X.env)).any (·.1) || (backToKw pos (keywordEach kws X.env)).any (·.1.isNone)) = false := by rfl) : PE X (.Call (.Name x p) (e :: es) kws pos) (tCallK sp gV E t tk) := by
  refine ⟨fun pins s σ H Q I h => wpAny_Call_Name_kw (ld_glob I gl hm ?_ hdb)⟩
  refine PySem.W.callWith_KW (h₀ := X.base) I.ok.mod.kin hk hall (thn (ha.run pos pins s σ H _ I h) fun us s1 ⟨vs, H1, I1, r, q⟩ => ?_) hpl he
  refine thn (hkw.run pos pins s1 σ H1 _ I1 q) fun ws s2 ⟨zs, H2, I2, rz, q2⟩ => ⟨I2.kIn, ?_⟩
  rw [hks]
  exact goG F hg hr hx I2 (zs := g us ws) (fun hl => hb.to s2 us ws I2.kIn hl) (hb.rel r rz) q2
end

/-- the law's call, from its promise -/
theorem walkG {l : PySem.W.OpenLaw} {n k : Nat} {q : Program} {loose : List Str} {XP : (Str → Option Value) → Heap → Prop} {YP : World → Heap → Prop} {d : DefRec} {K : Params → Fg} {sp : Fg → Sp} {x : Str}
    (hn : l.most = some n) (hn2 : n ≤ sizeLine) (hdf : d.params.defaults = []) (hr : Room k callerA) (hY : ∀ (w : World) (h : Heap), YP w h → (K w.params).In h)
    (F : ∀ (w : World) (mg : Str → Option Value) (fa : Addr) (h : Heap), (K w.params).In h → h.Ns mainGlobals mg → mg d.name = some (.ref fa) →
      ∃ fd : FuncData, (∀ (s : Shared) (u : Value), BindsTo s fd ⟨[u], []⟩ [(x, u)]) ∧ ∀ base : Heap, (K w.params).In base → base.Ns mainGlobals mg → FnG l.prog w (K w.params) mg base CX0 k fa fd [x] (sp (K w.params)))
    (hsp : ∀ (K : Fg) (H : Hp) (a : Addr) (ns : List Int), ns.length ≤ n → Only H → SqL K H a (ns.map V.int) → sp K [.ref a] H (fun v _ => v = .bl true) fun _ _ _ => False) :
    PySem.W.WalkO q loose XP YP l.row.toRowW d [] (fun f vs => PySem.call f vs) := by
  refine Att.attach_call hn hdf fun w s₀ s₁ mg mb fa o pm cd doc a vs ns G Y ho hd hcd hmg hobj hints hlen hgens => ?_
  have KX := hY w _ Y
  obtain ⟨fd, hb, hF⟩ := F w mg fa _ KX G.T.g hmg
  -- the layer's own head, for a promise that is had at the caller's own around alone
  have core : ∀ base : Heap, (K w.params).In base → base.Ns mainGlobals mg → ∀ (s : Shared) (H : Hp) (args : Args) (us : List Value) (vs : List V) (Q : VK) (E : XK),
      Env0 l.prog w (K w.params) mg base callerA [] s H → BindsTo s fd args ([x].zip us) → Vals vs us → sp (K w.params) vs H Q E → codeAny (model l.prog w) callerA (.call (.ref fa) args) (CR CX0 [] l.prog w H s Q E) s :=
    fun base h1 h2 s H args us vs Q E e0 hb' hv hs => (hF base h1 h2).runs callerA [] s H args us vs Q E rfl hr e0 hb' hv hs
  have rv := vals_ints hints
  have lenV := hints.length
  have lift : ∀ H : Hp, Only H → SqL (K w.params) H a (ns.map V.int) → HOk l.prog w H s₁.heap → (∀ b, H b ≠ none → b = a) → (H a ≠ none → (K w.params).lookup a = none) →
      codeAny (model l.prog w) callerA (.call (.ref fa) ⟨[.ref a], []⟩) (fun r s' => r = .ok (.ret (.bool true)) ∧ OldK s₁.heap s'.heap ∧ s'.os = s₁.os ∧ AllBare s'.gens) s₁ := by
    intro H hO hS hok hA hKa
    have at0 : ∀ {b : Addr} {ob : Obj} {es : Array DictEntry} {ep : Nat}, s₁.heap.get? b = some ob → ob.data = .dict es ep → H b = none := by
      intro b ob es ep e dd
      cases qq : H b with
      | none => rfl
      | some u =>
        obtain rfl : b = a := hA b (by rw [qq]; simp)
        rw [hobj] at e
        cases e
        exact absurd dd (by intro z; cases z)
    have nsK : ∀ {b : Addr} {m : Str → Option Value}, s₁.heap.Ns b m → (hidT s₁.heap H).Ns b m := fun ⟨ob, es, ep, e, dd, r⟩ => ⟨ob, es, ep, hidT_get e (at0 e dd), dd, r⟩
    have hKb : (K w.params).In (hidT s₁.heap H) := by
      intro b ob e
      refine hidT_get (KX b ob e) ?_
      cases qq : H b with
      | none => rfl
      | some u =>
        obtain rfl : b = a := hA b (by rw [qq]; simp)
        rw [hKa (by rw [qq]; simp)] at e
        cases e
    have hM : Mod (K w.params) mg (hidT s₁.heap H) := ⟨hKb, nsK G.T.g, ⟨mb, nsK G.T.b, G.T.builtins⟩, let ⟨mc, h1, h2⟩ := G.T.nolimit; ⟨mc, nsK h1, h2⟩⟩
    have e0 : Env0 l.prog w (K w.params) mg (hidT s₁.heap H) callerA [] s₁ H :=
      ⟨rfl, hM, fun b ob e => of_hidT e, Nat.le_of_eq (hidT_size _ _), trivial, fun b hb => absurd (show b ∈ ([] : List Addr) from hb) (by simp), hok, .of_eq hgens⟩
    refine codeAny_mono (core _ hKb (nsK G.T.g) s₁ H ⟨[.ref a], []⟩ [.ref a] [.ref a] _ _ e0 (hb s₁ (.ref a)) (.cons rfl .nil) (hsp _ H a ns hlen hO hS)) fun r s' h => ?_
    cases r with
    | error e => exact h.elim
    | ok fl =>
      cases fl with
      | next => exact h.elim
      | brk => exact h.elim
      | cont => exact h.elim
      | ret u =>
        obtain ⟨v, H', os, bare, un, hok', r', vq⟩ := h
        obtain rfl : v = .bl true := vq
        obtain rfl : u = Value.bool true := r'
        refine ⟨rfl, OldK.of_keep fun b ob e => ?_, os, bare⟩
        cases qq : H b with
        | none => exact un.keep b ob e qq (fun z => absurd (show b ∈ ([] : List Addr) from z) (by simp)) (by simp)
        | some u =>
          rcases hO b with z | ⟨ob2, xs, z⟩
          · rw [qq] at z; cases z
          · obtain ⟨e1, _⟩ := hok b _ z
            obtain ⟨e2, _⟩ := hok' b _ (un.frzs b ob2 _ z)
            rw [e] at e1
            cases e1
            exact e2
  cases hk : (K w.params).lookup a with
  | some ob =>
    have e := KX a ob hk
    rw [hobj] at e
    cases e
    refine lift (fun _ => none) (fun _ => .inl rfl) (.inr ⟨_, vs.toArray, _, hk, rfl, rfl, rfl, by rw [List.size_toArray, lenV]; exact Nat.le_trans hlen hn2, by simpa using rv⟩)
      (fun b u z => by cases (show (none : Option HO) = some u from z)) (fun b z => absurd rfl z) fun z => absurd rfl z
  | none =>
    have at1 : ∀ b, (if b = a then some (HO.frz { cls := .type "list", data := .seq vs.toArray } (.lst (ns.map V.int))) else none) ≠ none → b = a := fun b z => by
      by_cases hb : b = a
      · exact hb
      · exact absurd (if_neg hb) z
    refine lift (fun b => if b = a then some (.frz { cls := .type "list", data := .seq vs.toArray } (.lst (ns.map V.int))) else none) (fun b => ?_)
      (.inl (.inr ⟨{ cls := .type "list", data := .seq vs.toArray }, if_pos rfl⟩)) (fun b u z => ?_) at1 fun _ => hk
    · by_cases hb : b = a
      · exact .inr ⟨_, _, if_pos hb⟩
      · exact .inl (if_neg hb)
    · obtain rfl : b = a := at1 b (fun y => by cases y.symm.trans z)
      have z' := (if_pos rfl).symm.trans z
      cases z'
      exact ⟨hobj, by rw [List.length_map]; exact Nat.le_trans hlen hn2, vs, _, rv, hobj⟩
end Px

set_option Elab.async false
set_option linter.all false
set_option maxRecDepth 100000
set_option maxHeartbeats 2000000
/-! Px: expressions and tests. -/
namespace Px
open PySem PySem.Spec PyProof.Rows L2

/-- one context, or those of a comprehension's blocks -/
structure Fm where
  I : Type
  X : I → Cx
  K : Kx
  mg : Str → Option Value
  N : List Str
  P : Program
  w : World
  base : Heap
  k : Nat
  eK : ∀ i, (X i).K = K.fg
  eM : ∀ i, (X i).mg = mg
  eN : ∀ i, (X i).N = N
  eP : ∀ i, (X i).prog = P
  eW : ∀ i, (X i).w = w
  eB : ∀ i, (X i).base = base
  nd : N.Nodup
  calm : ∀ i, (X i).calm = true
  room : ∀ i, Room k (X i).A
  gu : ∀ i, (X i).A.guards = some []
  own : ∀ i, PassesOwn (model (X i).prog (X i).w) (X i).A (X i).env (X i).xe
def Fm.one (X : Cx) (K : Kx) (eK : X.K = K.fg) (k : Nat) (nd : X.N.Nodup) (calm : X.calm = true) (room : Room k X.A) (gu : X.A.guards = some []) (own : PassesOwn (model X.prog X.w) X.A X.env X.xe) : Fm :=
  ⟨Unit, fun _ => X, K, X.mg, X.N, X.prog, X.w, X.base, k, fun _ => eK, fun _ => rfl, fun _ => rfl, fun _ => rfl, fun _ => rfl, fun _ => rfl, nd, fun _ => calm, fun _ => room, fun _ => gu, fun _ => own⟩
def Fm.blk (F : Fm) (scope : Scope) : Fm :=
  ⟨F.I × Shared × Hp × Addr × List (Str × Addr) × List Addr, fun p => (F.X p.1).blk p.2.1 p.2.2.1 scope (compEnvC scope p.2.2.2.2.1 p.2.2.2.1 (F.X p.1).env) p.2.2.2.2.2,
    F.K, F.mg, F.N, F.P, F.w, F.base, F.k, fun p => F.eK p.1, fun p => F.eM p.1, fun p => F.eN p.1, fun p => F.eP p.1, fun p => F.eW p.1, fun p => F.eB p.1, F.nd, fun p => F.calm p.1, fun p => F.room p.1, fun p => F.gu p.1, fun _ => PassesOwn.never⟩

abbrev FE := En → (Vl → Prop) → Prop
abbrev FT := En → (Bool → Prop) → Prop
abbrev FA := En → (List Vl → Prop) → Prop
abbrev FL := En → (List PyData → Prop) → Prop

def SE (K : Kx) (t : TE) (c : Nat) (f : FE) : Prop := ∀ (C : Ct) (σ : Sg) (ρ : En) (H : Hp) (R : Vl → Prop) (Q : VK), C.m + c ≤ lim → Good K C σ ρ H → f ρ R →
  (∀ v H' x m, C.m ≤ m → m ≤ C.m + c → Tr C.S (K.SI m) H H' → VlOk K (mq C σ ρ H') v x → R x → Q v H') → t σ H Q
def ST (K : Kx) (t : TT) (c : Nat) (f : FT) : Prop := ∀ (C : Ct) (σ : Sg) (ρ : En) (H : Hp) (R : Bool → Prop) (Q : Bool → Hp → Prop), C.m + c ≤ lim → Good K C σ ρ H → f ρ R →
  (∀ b H' m, C.m ≤ m → m ≤ C.m + c → Tr C.S (K.SI m) H H' → R b → Q b H') → t σ H Q
def SA (K : Kx) (t : TA) (c : Nat) (f : FA) : Prop := ∀ (C : Ct) (σ : Sg) (ρ : En) (H : Hp) (R : List Vl → Prop) (Q : List V → Hp → Prop), C.m + c ≤ lim → Good K C σ ρ H → f ρ R →
  (∀ vs H' xs m, C.m ≤ m → m ≤ C.m + c → Tr C.S (K.SI m) H H' → VlA K (mq C σ ρ H') vs xs → R xs → Q vs H') → t σ H Q
/-- a new list, nobody else's -/
def SL (K : Kx) (t : TE) (c : Nat) (f : FL) : Prop := ∀ (C : Ct) (σ : Sg) (ρ : En) (H : Hp) (R : List PyData → Prop) (Q : VK), C.m + c ≤ lim → Good K C σ ρ H → f ρ R →
  (∀ p H' vs ds m, C.m ≤ m → m ≤ C.m + c → H p = none → Tr C.S (K.SI m) H H' → H' p = some (.lst vs) → RdA K (mask (fun a => bar C.B σ ρ a ∨ a = p) H') vs ds → R ds → Q (.ref p) H') → t σ H Q
/-- two values in, one out -/
abbrev G2 := Vl → Vl → (Vl → Prop) → Prop
def S2 (K : Kx) (r : R2) (g : G2) : Prop := ∀ (C : Ct) (σ : Sg) (ρ : En) (H : Hp) (v w : V) (x y : Vl) (R : Vl → Prop) (Q : VK), Good K C σ ρ H → VlOk K (mq C σ ρ H) v x → VlOk K (mq C σ ρ H) w y → g x y R →
  (∀ u H' z, Tr C.S (K.SI C.m) H H' → VlOk K (mq C σ ρ H') u z → R z → Q u H') → r v w H Q
abbrev GC := List Vl → (Vl → Prop) → Prop
def SC (K : Kx) (r : List V → Hp → VK → Prop) (g : GC) : Prop := ∀ (C : Ct) (σ : Sg) (ρ : En) (H : Hp) (vs : List V) (xs : List Vl) (R : Vl → Prop) (Q : VK), Good K C σ ρ H → VlA K (mq C σ ρ H) vs xs → g xs R →
  (∀ u H' z, Tr C.S (K.SI C.m) H H' → VlOk K (mq C σ ρ H') u z → R z → Q u H') → r vs H Q

structure Ee (F : Fm) (e : Expr) (c : Nat) (f : FE) : Prop where
  ex : ∃ t, (∀ i, PE (F.X i) e t) ∧ SE F.K t c f
structure Et (F : Fm) (e : Expr) (c : Nat) (f : FT) : Prop where
  ex : ∃ t, (∀ i, PT (F.X i) e t) ∧ ST F.K t c f
structure Ew (F : Fm) (e : Expr) (c : Nat) (f : FT) : Prop where
  ex : ∃ t, (∀ i, PW (F.X i) e t) ∧ ST F.K t c f
structure Ea (F : Fm) (es : List Expr) (c : Nat) (f : FA) : Prop where
  ex : ∃ t, (∀ i, PA (F.X i) es t) ∧ SA F.K t c f
structure El (F : Fm) (e : Expr) (c : Nat) (f : FL) : Prop where
  ex : ∃ t, (∀ i, PE (F.X i) e t) ∧ SL F.K t c f

section
variable {F : Fm} {e a b c : Expr} {es : List Expr} {pos p : Pos} {fa fb fc : FE} {n na nb nc : Nat}

/-! ### names, constants -/
def rd (ρ : En) (i : Nat) (R : Vl → Prop) : Prop := match ρ[i]? with
  | some (.v x) => R x
  | _ => False
theorem le0 {n : Nat} : n ≤ n + 0 := Nat.le_refl _
theorem se_var {K : Kx} (i : Nat) : SE K (tVar i) 0 (fun ρ R => rd ρ i R) := fun C σ ρ H R Q _ G h k => by
  have h : rd ρ i R := h
  unfold rd at h
  split at h
  · rename_i x e
    obtain ⟨v, h1, h2⟩ := G.sl i x e
    exact ⟨v, h1, k v H x C.m (Nat.le_refl _) le0 (Tr.refl G.si) h2 h⟩
  · exact h.elim
theorem e_var (i : Nat) {x : Str} (hN : F.N[i]? = some x) (hv : ∀ j, Vis (F.X j).env.scope x) (hd : (x == ("__debug__" : Str)) = false := by decide) (hcd : (x == ("__classdict__" : Str)) = false := by decide) :
    Ee F (.Name x p) 0 (fun ρ R => rd ρ i R) := ⟨_, fun j => pe_var (by rw [F.eN]; exact hN) (hv j) hd hcd, se_var i⟩
theorem se_c {K : Kx} {v : V} {x : PyData} (h : ∀ M, Rd K M v x) : SE K (tC v) 0 (fun _ R => R (.d x)) := fun C _ _ H _ _ _ G hr k => k v H (.d x) C.m (Nat.le_refl _) le0 (Tr.refl G.si) (h _) hr
theorem e_int {i : Int} {j : Nat} : Ee F (.Constant (.int i) j p) 0 (fun _ R => R (.d (.int i))) := ⟨_, fun _ => pe_int, se_c fun _ => .int i⟩
theorem e_bool {i : Bool} {j : Nat} : Ee F (.Constant (.bool i) j p) 0 (fun _ R => R (.d (.bool i))) := ⟨_, fun _ => pe_bl, se_c fun _ => .bl i⟩
theorem e_none {j : Nat} : Ee F (.Constant .none j p) 0 (fun _ R => R (.d .none)) := ⟨_, fun _ => pe_non, se_c fun _ => .non⟩
theorem e_str {i : Str} {j : Nat} : Ee F (.Constant (.str i) j p) 0 (fun _ R => R (.d (.str i))) := ⟨_, fun _ => pe_str, se_c fun _ => .str i⟩
/-- a constant of the module -/
theorem e_glob {x : Str} {v : V} {u : Value} {d : PyData} (hm : F.mg x = some u) (r : RelV v u) (h : ∀ M, Rd F.K M v d) (hg : ∀ i, Gl (F.X i) x := by intro _; rfl) (hd : (x == ("__debug__" : Str)) = false := by decide) :
    Ee F (.Name x p) 0 (fun _ R => R (.d d)) := ⟨_, fun i => pe_glob (hg i) (by rw [F.eM]; exact hm) r hd, se_c h⟩
/-- a thing of the module that is handed on as it is -/
theorem e_globO {x : Str} {v : V} {u : Value} (hm : F.mg x = some u) (r : RelV v u) (hg : ∀ i, Gl (F.X i) x := by intro _; rfl) (hd : (x == ("__debug__" : Str)) = false := by decide) :
    Ee F (.Name x p) 0 (fun _ R => R (.o v)) := ⟨_, fun i => pe_glob (hg i) (by rw [F.eM]; exact hm) r hd, fun C _ _ H _ _ _ G hr k => k v H (.o v) C.m (Nat.le_refl _) le0 (Tr.refl G.si) rfl hr⟩

/-! ### operators -/
theorem OpR.or {X : Cx} {f : Value → Value → Sem Value} {r r' : R2} (h : OpR X f r) (h' : OpR X f r') : OpR X f (fun x y H Q => r x y H Q ∨ r' x y H Q) := fun pins s σ H x y v u Q I rx ry q => by
  rcases q with q | q
  · exact h pins s σ H x y v u Q I rx ry q
  · exact h' pins s σ H x y v u Q I rx ry q
theorem CallR.or {X : Cx} {f : Value} {r r' : List V → Hp → VK → Prop} (h : CallR X f r) (h' : CallR X f r') : CallR X f (fun x H Q => r x H Q ∨ r' x H Q) := fun pins s σ H xs us Q I rx q => by
  rcases q with q | q
  · exact h pins s σ H xs us Q I rx q
  · exact h' pins s σ H xs us Q I rx q
theorem se_op {K : Kx} {r : R2} {ta tb : TE} {g : G2} (ha : SE K ta na fa) (hb : SE K tb nb fb) (hr : S2 K r g) : SE K (tOp r ta tb) (na + nb) (fun ρ R => fa ρ fun x => fb ρ fun y => g x y R) := fun C σ ρ H R Q hm G h k =>
  ha C σ ρ H _ _ (by omega) G h fun v H1 x m1 l1 u1 t1 ox h1 => hb (C.up m1) σ ρ H1 _ _ (by show m1 + nb ≤ lim; omega) (G.tr t1) h1 fun w H2 y m2 l2 u2 t2 oy h2 =>
    hr (C.up m2) σ ρ H2 v w x y R Q ((G.tr t1).tr t2) (ox.mono ((G.tr t1).ex t2)) oy h2 fun u H3 z t3 oz h3 => k u H3 z m2 (Nat.le_trans l1 l2) (by have : m2 ≤ m1 + nb := u2; omega) ((t1.trans t2).trans t3) oz h3
theorem e_bin {op : Operator} {r : R2} {g : G2} (ho : ∀ i, OpR (F.X i) (binaryOp op) r) (hr : S2 F.K r g) (ha : Ee F a na fa) (hb : Ee F b nb fb) : Ee F (.BinOp a op b pos) (na + nb) (fun ρ R => fa ρ fun x => fb ρ fun y => g x y R) := by
  obtain ⟨ta, pa, sa⟩ := ha
  obtain ⟨tb, pb, sb⟩ := hb
  exact ⟨_, fun i => pe_op (ho i) (pa i) (pb i), se_op sa sb hr⟩
theorem e_cmp {op : CmpOp} {r : R2} {g : G2} (ho : ∀ i, OpR (F.X i) (compareOp op) r) (hr : S2 F.K r g) (ha : Ee F a na fa) (hb : Ee F b nb fb) (hm : behindInMarks op b = false := by first | exact nomark _ | rfl) :
    Ee F (.Compare a [op] [b] pos) (na + nb) (fun ρ R => fa ρ fun x => fb ρ fun y => g x y R) := by
  obtain ⟨ta, pa, sa⟩ := ha
  obtain ⟨tb, pb, sb⟩ := hb
  exact ⟨_, fun i => pe_cmpR (ho i) (pa i) (pb i) hm, se_op sa sb hr⟩
/-- a value that is a bool, told on -/
def asB (R : Bool → Prop) : Vl → Prop
  | .d (.bool b) => R b
  | _ => False
theorem st_test {K : Kx} {t : TE} {f : FE} (h : SE K t n f) : ST K (tTest t) n (fun ρ R => f ρ (asB R)) := fun C σ ρ H R Q hm G hf k =>
  h C σ ρ H _ _ hm G hf fun v H1 x m l u t1 ox h1 => by
    match x, h1, ox with
    | .d (.bool b), h1, ox => exact ⟨b, Rd.inv_bool ox, k b H1 m l u t1 h1⟩
theorem t_cmp {op : CmpOp} {r : R2} {g : G2} (ho : ∀ i, OpR (F.X i) (compareOp op) r) (hr : S2 F.K r g) (ha : Ee F a na fa) (hb : Ee F b nb fb) (hm : behindInMarks op b = false := by first | exact nomark _ | rfl) :
    Et F (.Compare a [op] [b] pos) (na + nb) (fun ρ R => fa ρ fun x => fb ρ fun y => g x y (asB R)) := by
  obtain ⟨ta, pa, sa⟩ := ha
  obtain ⟨tb, pb, sb⟩ := hb
  exact ⟨_, fun i => pt_cmpR (ho i) (pa i) (pb i) hm, st_test (se_op sa sb hr)⟩
theorem se_chain {K : Kx} {r r' : R2} {ta tb tc : TE} {g g' : G2} (ha : SE K ta na fa) (hb : SE K tb nb fb) (hc : SE K tc nc fc) (hr : S2 K r g) (hr' : S2 K r' g') :
    SE K (tChain r r' ta tb tc) (na + nb + nc) (fun ρ R => fa ρ fun x => fb ρ fun y => g x y (asB fun k => if k = true then fc ρ fun z => g' y z R else R (.d (.bool false)))) := fun C σ ρ H R Q hm G h k =>
  ha C σ ρ H _ _ (by omega) G h fun v H1 x m1 l1 u1 t1 ox h1 => hb (C.up m1) σ ρ H1 _ _ (by show m1 + nb ≤ lim; omega) (G.tr t1) h1 fun w H2 y m2 l2 u2 t2 oy h2 =>
    hr (C.up m2) σ ρ H2 v w x y _ _ ((G.tr t1).tr t2) (ox.mono ((G.tr t1).ex t2)) oy h2 fun u H3 z t3 oz h3 => by
      have G3 := ((G.tr t1).tr t2).tr t3
      have v2 : m2 ≤ m1 + nb := u2
      have w2 : m1 ≤ m2 := l2
      match z, h3, oz with
      | .d (.bool d), h3, oz =>
        refine ⟨d, Rd.inv_bool oz, ?_⟩
        cases d with
        | true =>
          exact iteT (hc (C.up m2) σ ρ H3 _ _ (by show m2 + nc ≤ lim; omega) G3 (by simpa [asB] using h3) fun w' H4 z' m4 l4 u4 t4 oz' h4 => hr' (C.up m4) σ ρ H4 w w' y z' R Q (G3.tr t4) (oy.mono (((G.tr t1).tr t2).ex (t3.trans t4))) oz' h4 fun u' H5 y' t5 oy' h5 =>
            k u' H5 y' m4 (by have : m2 ≤ m4 := l4; omega) (by have : m4 ≤ m2 + nc := u4; omega) ((((t1.trans t2).trans t3).trans t4).trans t5) oy' h5)
        | false => exact iteF (k _ H3 (.d (.bool false)) m2 (by omega) (by omega) ((t1.trans t2).trans t3) (Rd.bl false) (by simpa [asB] using h3))
theorem e_chain {op op' : CmpOp} {r r' : R2} {g g' : G2} (ho : ∀ i, OpR (F.X i) (compareOp op) r) (hr : S2 F.K r g) (ho' : ∀ i, OpR (F.X i) (compareOp op') r') (hr' : S2 F.K r' g') (ha : Ee F a na fa) (hb : Ee F b nb fb) (hc : Ee F c nc fc)
    (hm : lastMarks [op, op'] [b, c] = false := by with_unfolding_all rfl) :
    Ee F (.Compare a [op, op'] [b, c] pos) (na + nb + nc) (fun ρ R => fa ρ fun x => fb ρ fun y => g x y (asB fun k => if k = true then fc ρ fun z => g' y z R else R (.d (.bool false)))) := by
  obtain ⟨ta, pa, sa⟩ := ha
  obtain ⟨tb, pb, sb⟩ := hb
  obtain ⟨tc, pc, sc⟩ := hc
  exact ⟨_, fun i => pe_chain (ho i) (ho' i) (pa i) (pb i) (pc i) hm, se_chain sa sb sc hr hr'⟩
theorem t_chain {op op' : CmpOp} {r r' : R2} {g g' : G2} (ho : ∀ i, OpR (F.X i) (compareOp op) r) (hr : S2 F.K r g) (ho' : ∀ i, OpR (F.X i) (compareOp op') r') (hr' : S2 F.K r' g') (ha : Ee F a na fa) (hb : Ee F b nb fb) (hc : Ee F c nc fc)
    (hm : lastMarks [op, op'] [b, c] = false := by with_unfolding_all rfl) :
    Et F (.Compare a [op, op'] [b, c] pos) (na + nb + nc) (fun ρ R => fa ρ fun x => fb ρ fun y => g x y (asB fun k => if k = true then fc ρ fun z => g' y z (asB R) else R false)) := by
  obtain ⟨ta, pa, sa⟩ := ha
  obtain ⟨tb, pb, sb⟩ := hb
  obtain ⟨tc, pc, sc⟩ := hc
  exact ⟨_, fun i => pt_chain (ho i) (ho' i) (pa i) (pb i) (pc i) hm, st_test (se_chain sa sb sc hr hr')⟩

/-! ### truth -/
def truD : PyData → Option Bool
  | .none => some false
  | .bool b => some b
  | .int i => some (i != 0)
  | .list xs => some (!xs.isEmpty)
  | .tuple xs => some (!xs.isEmpty)
  | _ => none
def asTru (R : Bool → Prop) : Vl → Prop
  | .d x => match truD x with
    | some b => R b
    | none => False
  | _ => False
theorem isEmptyRd {K : Kx} {M : Hp} {vs : List V} {ds : List PyData} (h : RdA K M vs ds) : (!ds.isEmpty) = !vs.isEmpty := by cases h <;> rfl
theorem t_val {f : FE} (h : Ee F e n f) (he : ∀ i whole, isTrue e (F.X i).env whole = (do let v ← whole; standAt e.pos; holding [v] (truthy v)) := by intro _ _; rfl) : Et F e n (fun ρ R => f ρ (asTru R)) := by
  obtain ⟨t, pt, st⟩ := h
  refine ⟨_, fun i => by have := pt_truth (pt i) (he i); rw [F.eK i] at this; exact this, fun C σ ρ H R Q hm G hf k => st C σ ρ H _ _ hm G hf fun v H1 x m l u t1 ox h1 => ?_⟩
  match x, h1, ox with
  | .d .none, h1, ox => cases Rd.inv_none ox; exact ⟨false, rfl, k _ _ m l u t1 h1⟩
  | .d (.bool b), h1, ox => cases Rd.inv_bool ox; exact ⟨b, rfl, k _ _ m l u t1 h1⟩
  | .d (.int n), h1, ox => cases Rd.inv_int ox; exact ⟨n != 0, rfl, k _ _ m l u t1 h1⟩
  | .d (.list xs), h1, ox =>
    obtain ⟨p, vs, rfl, hp, hr⟩ := Rd.inv_list ox
    exact ⟨!xs.isEmpty, .inl ⟨vs, SqL.of (mask_le _ _ hp), isEmptyRd hr⟩, k _ _ m l u t1 h1⟩
  | .d (.tuple xs), h1, ox =>
    obtain ⟨p, vs, rfl, hp, hr⟩ := Rd.inv_tuple ox
    exact ⟨!xs.isEmpty, .inr (.inl ⟨vs, Ex.sqt mask_le hp, isEmptyRd hr⟩), k _ _ m l u t1 h1⟩
theorem t_not {f : FT} (h : Et F a n f) : Et F (.UnaryOp .Not a pos) n (fun ρ R => f ρ fun b => R (!b)) := by
  obtain ⟨t, pt, st⟩ := h
  exact ⟨_, fun i => pt_not (pt i), fun C σ ρ H R Q hm G hf k => st C σ ρ H _ _ hm G hf fun b H1 m l u t1 h1 => k _ H1 m l u t1 h1⟩
theorem t_w {f : FT} (h : Ew F a n f) : Et F a n f := by
  obtain ⟨t, pt, st⟩ := h
  exact ⟨_, fun i => (pt i).pt, st⟩
theorem w_one1 {f : FT} (h : Et F a n f) : Ew F (.BoolOp .And [a] pos) n f := by
  obtain ⟨t, pt, st⟩ := h
  exact ⟨_, fun i => pw_and1 (pt i), st⟩
theorem w_one2 {f : FT} (h : Et F a n f) : Ew F (.BoolOp .Or [a] pos) n f := by
  obtain ⟨t, pt, st⟩ := h
  exact ⟨_, fun i => pw_or1 (pt i), st⟩
theorem w_and {f g : FT} (h : Et F a na f) (h2 : Ew F (.BoolOp .And (b :: es) pos) nb g) : Ew F (.BoolOp .And (a :: b :: es) pos) (na + nb) (fun ρ R => f ρ fun k => if k = true then g ρ R else R false) := by
  obtain ⟨t, pt, st⟩ := h
  obtain ⟨u, pu, su⟩ := h2
  refine ⟨_, fun i => pw_and (pt i) (pu i), fun C σ ρ H R Q hm G hf k => st C σ ρ H _ _ (by omega) G hf fun b H1 m1 l1 u1 t1 h1 => ?_⟩
  cases b with
  | true => exact iteT (su (C.up m1) σ ρ H1 _ _ (by show m1 + nb ≤ lim; omega) (G.tr t1) (by simpa using h1) fun b H2 m2 l2 u2 t2 h2 => k b H2 m2 (Nat.le_trans l1 l2) (by have : m2 ≤ m1 + nb := u2; omega) (t1.trans t2) h2)
  | false => exact iteF (k false H1 m1 l1 (by omega) t1 (by simpa using h1))
theorem w_or {f g : FT} (h : Et F a na f) (h2 : Ew F (.BoolOp .Or (b :: es) pos) nb g) : Ew F (.BoolOp .Or (a :: b :: es) pos) (na + nb) (fun ρ R => f ρ fun k => if k = true then R true else g ρ R) := by
  obtain ⟨t, pt, st⟩ := h
  obtain ⟨u, pu, su⟩ := h2
  refine ⟨_, fun i => pw_or (pt i) (pu i), fun C σ ρ H R Q hm G hf k => st C σ ρ H _ _ (by omega) G hf fun b H1 m1 l1 u1 t1 h1 => ?_⟩
  cases b with
  | false => exact iteF (su (C.up m1) σ ρ H1 _ _ (by show m1 + nb ≤ lim; omega) (G.tr t1) (by simpa using h1) fun b H2 m2 l2 u2 t2 h2 => k b H2 m2 (Nat.le_trans l1 l2) (by have : m2 ≤ m1 + nb := u2; omega) (t1.trans t2) h2)
  | true => exact iteT (k true H1 m1 l1 (by omega) t1 (by simpa using h1))
/-! ### and, or, not as values (bools but for the last) -/
theorem e_one {op : BoolOp} (h : Ee F a na fa) : Ee F (.BoolOp op [a] pos) na fa := by
  obtain ⟨t, pt, st⟩ := h
  exact ⟨_, fun i => pe_one (pt i), st⟩
theorem e_and (h : Ee F a na fa) (h2 : Ee F (.BoolOp .And (b :: es) pos) nb fb) : Ee F (.BoolOp .And (a :: b :: es) pos) (na + nb) (fun ρ R => fa ρ (asB fun k => if k = true then fb ρ R else R (.d (.bool false)))) := by
  obtain ⟨t, pt, st⟩ := h
  obtain ⟨u, pu, su⟩ := h2
  refine ⟨_, fun i => pe_and (pt i) (pu i), fun C σ ρ H R Q hm G hf k => st C σ ρ H _ _ (by omega) G hf fun v H1 x m1 l1 u1 t1 ox h1 => ?_⟩
  match x, h1, ox with
  | .d (.bool true), h1, ox => exact ⟨true, Rd.inv_bool ox, iteT (su (C.up m1) σ ρ H1 _ _ (by show m1 + nb ≤ lim; omega) (G.tr t1) (by simpa [asB] using h1) fun b H2 x m2 l2 u2 t2 ox h2 => k b H2 x m2 (Nat.le_trans l1 l2) (by have : m2 ≤ m1 + nb := u2; omega) (t1.trans t2) ox h2)⟩
  | .d (.bool false), h1, ox => exact ⟨false, Rd.inv_bool ox, iteF (k _ H1 (.d (.bool false)) m1 l1 (by omega) t1 (Rd.bl false) (by simpa [asB] using h1))⟩
theorem e_or (h : Ee F a na fa) (h2 : Ee F (.BoolOp .Or (b :: es) pos) nb fb) : Ee F (.BoolOp .Or (a :: b :: es) pos) (na + nb) (fun ρ R => fa ρ (asB fun k => if k = true then R (.d (.bool true)) else fb ρ R)) := by
  obtain ⟨t, pt, st⟩ := h
  obtain ⟨u, pu, su⟩ := h2
  refine ⟨_, fun i => pe_or (pt i) (pu i), fun C σ ρ H R Q hm G hf k => st C σ ρ H _ _ (by omega) G hf fun v H1 x m1 l1 u1 t1 ox h1 => ?_⟩
  match x, h1, ox with
  | .d (.bool false), h1, ox => exact ⟨false, Rd.inv_bool ox, iteF (su (C.up m1) σ ρ H1 _ _ (by show m1 + nb ≤ lim; omega) (G.tr t1) (by simpa [asB] using h1) fun b H2 x m2 l2 u2 t2 ox h2 => k b H2 x m2 (Nat.le_trans l1 l2) (by have : m2 ≤ m1 + nb := u2; omega) (t1.trans t2) ox h2)⟩
  | .d (.bool true), h1, ox => exact ⟨true, Rd.inv_bool ox, iteT (k _ H1 (.d (.bool true)) m1 l1 (by omega) t1 (Rd.bl true) (by simpa [asB] using h1))⟩
theorem e_not (h : Ee F a na fa) : Ee F (.UnaryOp .Not a pos) na (fun ρ R => fa ρ (asB fun k => R (.d (.bool (!k))))) := by
  obtain ⟨t, pt, st⟩ := h
  refine ⟨_, fun i => pe_not (pt i), fun C σ ρ H R Q hm G hf k => st C σ ρ H _ _ hm G hf fun v H1 x m l u t1 ox h1 => ?_⟩
  match x, h1, ox with
  | .d (.bool c), h1, ox => exact ⟨c, Rd.inv_bool ox, k _ H1 (.d (.bool (!c))) m l u t1 (Rd.bl _) h1⟩
theorem e_if {ft : FT} (ht : Et F c nc ft) (ha : Ee F a na fa) (hb : Ee F b nb fb) : Ee F (.IfExp c a b pos) (nc + (na + nb)) (fun ρ R => ft ρ fun k => if k = true then fa ρ R else fb ρ R) := by
  obtain ⟨t, pt, st⟩ := ht
  obtain ⟨ta, pa, sa⟩ := ha
  obtain ⟨tb, pb, sb⟩ := hb
  refine ⟨_, fun i => pe_ifExp (pt i) (pa i) (pb i), fun C σ ρ H R Q hm G hf k => st C σ ρ H _ _ (by omega) G hf fun d H1 m1 l1 u1 t1 h1 => ?_⟩
  cases d with
  | true => exact iteT (sa (C.up m1) σ ρ H1 _ _ (by show m1 + na ≤ lim; omega) (G.tr t1) (by simpa using h1) fun v H2 x m2 l2 u2 t2 ox h2 => k v H2 x m2 (Nat.le_trans l1 l2) (by have : m2 ≤ m1 + na := u2; omega) (t1.trans t2) ox h2)
  | false => exact iteF (sb (C.up m1) σ ρ H1 _ _ (by show m1 + nb ≤ lim; omega) (G.tr t1) (by simpa using h1) fun v H2 x m2 l2 u2 t2 ox h2 => k v H2 x m2 (Nat.le_trans l1 l2) (by have : m2 ≤ m1 + nb := u2; omega) (t1.trans t2) ox h2)
def asNeg (R : Vl → Prop) : Vl → Prop
  | .d (.int i) => R (.d (.int (-i)))
  | _ => False
theorem e_neg (h : Ee F a na fa) : Ee F (.UnaryOp .USub a pos) na (fun ρ R => fa ρ (asNeg R)) := by
  obtain ⟨t, pt, st⟩ := h
  refine ⟨_, fun i => pe_un un_neg (pt i), fun C σ ρ H R Q hm G hf k => st C σ ρ H _ _ hm G hf fun v H1 x m l u t1 ox h1 => ?_⟩
  match x, h1, ox with
  | .d (.int n), h1, ox => exact ⟨n, Rd.inv_int ox, k _ H1 (.d (.int (-n))) m l u t1 (Rd.int _) h1⟩

/-! ### argument lists, displays -/
theorem a_nil : Ea F [] 0 (fun _ R => R []) := ⟨_, fun _ => pa_nil, fun C _ _ H _ _ _ G hf k => k [] H [] C.m (Nat.le_refl _) le0 (Tr.refl G.si) .nil hf⟩
theorem a_cons {f : FA} (h : Ee F e na fa) (hr : Ea F es nb f) (hs : ∀ i, starEach (e :: es) (F.X i).env = (false, eval e (F.X i).env) :: starEach es (F.X i).env := by intro _; rfl) :
    Ea F (e :: es) (na + nb) (fun ρ R => fa ρ fun x => f ρ fun xs => R (x :: xs)) := by
  obtain ⟨t, pt, st⟩ := h
  obtain ⟨u, pu, su⟩ := hr
  exact ⟨_, fun i => pa_cons (pt i) (pu i) (hs i), fun C σ ρ H R Q hm G hf k => st C σ ρ H _ _ (by omega) G hf fun v H1 x m1 l1 u1 t1 ox h1 => su (C.up m1) σ ρ H1 _ _ (by show m1 + nb ≤ lim; omega) (G.tr t1) h1 fun vs H2 xs m2 l2 u2 t2 oxs h2 =>
    k _ H2 _ m2 (Nat.le_trans l1 l2) (by have : m2 ≤ m1 + nb := u2; omega) (t1.trans t2) (.cons (ox.mono ((G.tr t1).ex t2)) oxs) h2⟩
/-- all of them data -/
def allD : List Vl → (List PyData → Prop) → Prop
  | [], R => R []
  | .d x :: r, R => allD r fun ds => R (x :: ds)
  | .o _ :: _, _ => False
  | .st :: _, _ => False
  | .rg _ _ :: _, _ => False
theorem allD_of : ∀ {xs : List Vl} {R : List PyData → Prop}, allD xs R → ∃ ds, xs = ds.map Vl.d ∧ R ds
  | [], _, h => ⟨[], rfl, h⟩
  | .d x :: r, R, h => by
    obtain ⟨ds, e, q⟩ := allD_of (xs := r) h
    exact ⟨x :: ds, by rw [e]; rfl, q⟩
theorem small_le {n : Nat} (h : n ≤ 1000000) : n ≤ sizeLine := Nat.le_trans h (by rw [sizeLine_eq]; decide)
theorem small_lt {n : Nat} (h : n < 1000000) : n < sizeLine := Nat.lt_of_lt_of_le h (small_le (Nat.le_refl _))
theorem e_tup {f : FA} {x1 : Nat} (h : Ea F es n f) : Ee F (.Tuple es x1 pos) n (fun ρ R => f ρ fun xs => xs.length ≤ 1000000 ∧ allD xs fun ds => R (.d (.tuple ds))) := by
  obtain ⟨t, pt, st⟩ := h
  refine ⟨_, fun i => pe_tup (pt i), fun C σ ρ H R Q hm G hf k => st C σ ρ H _ _ hm G hf fun vs H1 xs m l u t1 oxs h1 => ?_⟩
  obtain ⟨hl, h1⟩ := h1
  obtain ⟨ds, rfl, h2⟩ := allD_of h1
  have G1 := G.tr t1
  refine ⟨small_le (by rw [oxs.length]; exact hl), fun p hp => k _ _ (.d (.tuple ds)) m l u (t1.trans (G1.new hp)) ?_ h2⟩
  exact .tup (.inl (.inl (G1.mq_new hp))) (oxs.data.mono (G1.ex (G1.new hp)))
theorem Good.back {K : Kx} {C : Ct} {σ : Sg} {ρ : En} {H H1 : Hp} {m : Nat} (G : Good K C σ ρ H) (t1 : Tr C.S (K.SI m) H H1) {p : Addr} (hp : H1 p = none) : H p = none := by
  cases q : H p with
  | none => rfl
  | some o =>
    by_cases hs : C.S p
    · exact absurd hp (G.ct.th _ _ t1.2 p hs)
    · rw [t1.1 p o hs q] at hp; cases hp
theorem l_lst {f : FA} (h : Ea F es n f) : El F (.List es pos) n (fun ρ R => f ρ fun xs => xs.length ≤ 1000000 ∧ allD xs R) := by
  obtain ⟨t, pt, st⟩ := h
  refine ⟨_, fun i => pe_lst (pt i), fun C σ ρ H R Q hm G hf k => st C σ ρ H _ _ hm G hf fun vs H1 xs m l u t1 oxs h1 => ?_⟩
  obtain ⟨hl, h1⟩ := h1
  obtain ⟨ds, rfl, h2⟩ := allD_of h1
  have G1 := G.tr t1
  refine ⟨small_le (by rw [oxs.length]; exact hl), fun p hp => k p _ vs ds m l u (G.back t1 hp) (t1.trans (G1.new hp)) upd_same ?_ h2⟩
  refine oxs.data.mono fun a o ha => ?_
  obtain ⟨nb, ha⟩ := mask_of ha
  have ne : a ≠ p := ne_of_none ha hp
  refine mask_at (fun z => z.elim nb ne) ?_
  rw [upd_ne ne]
  exact ha
/-- a new list as a value -/
theorem se_l {K : Kx} {t : TE} {f : FL} (h : SL K t n f) : SE K t n (fun ρ R => f ρ fun ds => R (.d (.list ds))) := fun C σ ρ H R Q hm G hf k =>
  h C σ ρ H _ _ hm G hf fun p H' vs ds m l u hp t1 hv hr h1 => k _ H' (.d (.list ds)) m l u t1 (.lst (mask_at (G.nbar hp) hv) (hr.mono fun a o ha => by
    obtain ⟨nb, ha⟩ := mask_of ha
    exact mask_at (fun z => nb (.inl z)) ha)) h1
theorem e_l {f : FL} (h : El F e n f) : Ee F e n (fun ρ R => f ρ fun ds => R (.d (.list ds))) := by
  obtain ⟨t, pt, st⟩ := h
  exact ⟨t, pt, se_l st⟩

/-! ### calls of built-ins -/
theorem se_cb {K : Kx} {r : List V → Hp → VK → Prop} {t : TA} {f : FA} {g : GC} (h : SA K t n f) (hr : SC K r g) : SE K (tCB r t) n (fun ρ R => f ρ fun xs => g xs R) := fun C σ ρ H R Q hm G hf k =>
  h C σ ρ H _ _ hm G hf fun vs H1 xs m l u t1 oxs h1 => hr (C.up m) σ ρ H1 vs xs R Q (G.tr t1) oxs h1 fun u' H2 z t2 oz h2 => k u' H2 z m l u (t1.trans t2) oz h2
section
variable {x : Str} {r : List V → Hp → VK → Prop} {f : FA} {g : GC} {id T : String}
theorem e_callB (hc : ∀ i, CallR (F.X i) (.builtin id) r) (hr : SC F.K r g) (hm : F.mg x = none) (hv : bootBuiltins x = some (.builtin id)) (ha : Ea F (e :: es) n f) (hg : ∀ i, Gl (F.X i) x := by intro _; rfl) (hn : x ≠ "__name__" := by decide)
    (hdb : (x == ("__debug__" : Str)) = false := by decide) (he : ∀ i, starEach (e :: es) (F.X i).env = (false, eval e (F.X i).env) :: starEach es (F.X i).env := by intro _; rfl)
    (hpl : ∀ i, (backTo pos (starEach es (F.X i).env)).any (·.1) = false := by intro _; rfl) : Ee F (.Call (.Name x p) (e :: es) [] pos) n (fun ρ R => f ρ fun xs => g xs R) := by
  obtain ⟨t, pt, st⟩ := ha
  exact ⟨_, fun i => pe_callB (hc i) (hg i) (by rw [F.eM]; exact hm) hv (pt i) hn hdb (he i) (hpl i), se_cb st hr⟩
theorem e_callT (hc : ∀ i, CallR (F.X i) (.type T) r) (hr : SC F.K r g) (hm : F.mg x = none) (hv : bootBuiltins x = some (.type T)) (ha : Ea F (e :: es) n f) (hg : ∀ i, Gl (F.X i) x := by intro _; rfl) (hn : x ≠ "__name__" := by decide)
    (hdb : (x == ("__debug__" : Str)) = false := by decide) (he : ∀ i, starEach (e :: es) (F.X i).env = (false, eval e (F.X i).env) :: starEach es (F.X i).env := by intro _; rfl)
    (hpl : ∀ i, (backTo pos (starEach es (F.X i).env)).any (·.1) = false := by intro _; rfl) : Ee F (.Call (.Name x p) (e :: es) [] pos) n (fun ρ R => f ρ fun xs => g xs R) := by
  obtain ⟨t, pt, st⟩ := ha
  exact ⟨_, fun i => pe_callTy (hc i) (hg i) (by rw [F.eM]; exact hm) hv (pt i) hn hdb (he i) (hpl i), se_cb st hr⟩
/-- a library function of the module's (gcd) -/
theorem e_callL (hc : ∀ i, CallR (F.X i) (.builtin id) r) (hr : SC F.K r g) (hm : F.mg x = some (.builtin id)) (ha : Ea F (e :: es) n f) (hg : ∀ i, Gl (F.X i) x := by intro _; rfl)
    (hdb : (x == ("__debug__" : Str)) = false := by decide) (he : ∀ i, starEach (e :: es) (F.X i).env = (false, eval e (F.X i).env) :: starEach es (F.X i).env := by intro _; rfl)
    (hpl : ∀ i, (backTo pos (starEach es (F.X i).env)).any (·.1) = false := by intro _; rfl) : Ee F (.Call (.Name x p) (e :: es) [] pos) n (fun ρ R => f ρ fun xs => g xs R) := by
  obtain ⟨t, pt, st⟩ := ha
  exact ⟨_, fun i => pe_callBfun (hc i) (hg i) (by rw [F.eM]; exact hm) (pt i) hdb (he i) (hpl i), se_cb st hr⟩
/-- a subscript -/
theorem e_ix {r : R2} {g : G2} (hr : ∀ i, IxR (F.X i) r) (s : S2 F.K r g) (ha : Ee F a na fa) (hb : Ee F b nb fb) (hs : PlainIx b := by intro _ _; rfl) : Ee F (.Subscript a b pos) (na + nb) (fun ρ R => fa ρ fun x => fb ρ fun y => g x y R) := by
  obtain ⟨ta, pa, sa⟩ := ha
  obtain ⟨tb, pb, sb⟩ := hb
  exact ⟨_, fun i => pe_ix (hr i) (pa i) (pb i) hs, se_op sa sb s⟩
end

/-! ### calls of defs -/
/-- what a def asks of its arguments and of what is wanted of its answer -/
abbrev FS := List Vl → (Vl → Prop) → Prop
/-- the promise: at most so many draws, c -/
def spF (K : Kx) (n c : Nat) (f : FS) : Sp := fun vs H Q _ => ∃ (B : Addr → Prop) (m : Nat) (xs : List Vl) (R : Vl → Prop), CtOk B K.S K.SI ∧ K.SI m H ∧ m + c ≤ lim ∧ (∀ a, B a → H a ≠ none) ∧ xs.length = n ∧ VlA K (mask B H) vs xs ∧ f xs R ∧
  ∀ v H' x m', m ≤ m' → m' ≤ m + c → Tr K.S (K.SI m') H H' → VlOk K (mask B H') v x → R x → Q v H'
theorem Good.bdAll {K : Kx} {C : Ct} {σ : Sg} {ρ : En} {H : Hp} (G : Good K C σ ρ H) : ∀ a, bar C.B σ ρ a → H a ≠ none := fun a h e => G.nbar e h
theorem Good.ctAll {K : Kx} {C : Ct} {σ : Sg} {ρ : En} {H : Hp} (G : Good K C σ ρ H) : CtOk (bar C.B σ ρ) K.S K.SI := ⟨fun a s => .inl (G.ct.sb a (by rw [G.eS]; exact s)), fun m H H' h => G.ct.st m H H' (by rw [G.eS]; exact h), fun m H h a s => G.ct.th m H h a (by rw [G.eS]; exact s), G.ct.up⟩
/-- a call's promise from where one stands -/
theorem sp_ok {K : Kx} {C : Ct} {σ : Sg} {ρ : En} {H : Hp} {R : Vl → Prop} {Q : VK} {vs : List V} {xs : List Vl} {E : XK} {n c : Nat} {fs : FS} (hm : C.m + c ≤ lim) (G : Good K C σ ρ H) (o : VlA K (mq C σ ρ H) vs xs) (h : xs.length = n ∧ fs xs R)
    (kk : ∀ v H' z m, C.m ≤ m → m ≤ C.m + c → Tr C.S (K.SI m) H H' → VlOk K (mq C σ ρ H') v z → R z → Q v H') : spF K n c fs vs H Q E :=
  ⟨bar C.B σ ρ, C.m, xs, R, G.ctAll, G.si, hm, G.bdAll, h.1, o, h.2, fun v H' z m l u t => kk v H' z m l u (by rw [G.eS]; exact t)⟩
section
variable {x : Str} {f : Addr} {fd : FuncData} {ps ks : List Str} {fs : FS} {ff fk : FA} {kws : List Keyword} {k cf : Nat}
theorem e_call (Fn : FnG F.P F.w F.K F.mg F.base CX0 k f fd ps (spF F.K ps.length cf fs)) (hk : k ≤ F.k) (hm : F.mg x = some (.ref f)) (hkp : PySem.W.keepIn F.K (.ref f) = true) (hb : Binds F.K fd ps []) (ha : Ea F (e :: es) n ff)
    (hg : ∀ i, Gl (F.X i) x := by intro _; rfl) (hdb : (x == ("__debug__" : Str)) = false := by decide) (he : ∀ i, starEach (e :: es) (F.X i).env = (false, eval e (F.X i).env) :: starEach es (F.X i).env := by intro _; rfl)
    (hpl : ∀ i, (backTo pos (starEach es (F.X i).env)).any (·.1) = false := by intro _; rfl) : Ee F (.Call (.Name x p) (e :: es) [] pos) (n + cf) (fun ρ R => ff ρ fun xs => xs.length = ps.length ∧ fs xs R) := by
  obtain ⟨t, pt, st⟩ := ha
  refine ⟨tCall (spF F.K ps.length cf fs) [] E0 t, fun i => ?_, fun C σ ρ H R Q hm G hf kk => st C σ ρ H _ _ (by omega) G hf fun vs H1 xs m1 l1 u1 t1 oxs h1 => ?_⟩
  · have q1 := F.eK i
    have q2 := F.eM i
    have q3 := F.eP i
    have q4 := F.eW i
    have q5 := F.eB i
    exact peG_call (by rw [q1, q2, q3, q4, q5]; exact Fn) (F.gu i) ((F.room i).mono hk) pass0 (hg i) (by rw [q2]; exact hm) (by rw [q1]; exact hkp) (by rw [q1]; exact hb) (pt i) hdb (he i) (hpl i)
  · have q := sp_ok (C := C.up m1) (E := E0) (Q := Q) (by show m1 + cf ≤ lim; omega) (G.tr t1) oxs h1 fun v H' z m2 l2 u2 t2 oz hz => kk v H' z m2 (Nat.le_trans l1 l2) (by have : m2 ≤ m1 + cf := u2; omega) (t1.trans t2) oz hz
    show spF F.K ps.length cf fs (vs ++ []) H1 Q E0
    rw [List.append_nil]
    exact q
theorem e_call0 (Fn : FnG F.P F.w F.K F.mg F.base CX0 k f fd [] (spF F.K 0 cf fs)) (hk : k ≤ F.k) (hm : F.mg x = some (.ref f)) (hkp : PySem.W.keepIn F.K (.ref f) = true) (hb : Binds F.K fd [] [])
    (hg : ∀ i, Gl (F.X i) x := by intro _; rfl) (hdb : (x == ("__debug__" : Str)) = false := by decide) : Ee F (.Call (.Name x p) [] [] pos) cf (fun _ R => fs [] R) := by
  refine ⟨tCall (spF F.K 0 cf fs) [] E0 tNil, fun i => ?_, fun C σ ρ H R Q hm G hf kk => sp_ok (E := E0) hm G .nil ⟨rfl, hf⟩ kk⟩
  have q1 := F.eK i
  have q2 := F.eM i
  have q3 := F.eP i
  have q4 := F.eW i
  have q5 := F.eB i
  exact peG_call0 (by rw [q1, q2, q3, q4, q5]; exact Fn) (F.gu i) ((F.room i).mono hk) pass0 (hg i) (by rw [q2]; exact hm) (by rw [q1]; exact hkp) (by rw [q1]; exact hb) hdb
end
end
end Px

set_option Elab.async false
set_option linter.all false
set_option maxRecDepth 100000
set_option maxHeartbeats 2000000
/-! Px: what operators and built-ins do with data. -/
namespace Px
open PySem PySem.Spec PyProof.Rows L2

section
variable {F : Fm} {K : Kx}
theorem Good.fin {C : Ct} {σ : Sg} {ρ : En} {H : Hp} {R : Vl → Prop} {Q : VK} (G : Good K C σ ρ H) (k : ∀ u H' z, Tr C.S (K.SI C.m) H H' → VlOk K (mq C σ ρ H') u z → R z → Q u H') {u : V} {d : PyData} (h : ∀ M, Rd K M u d) (hr : R (.d d)) : Q u H :=
  k u H (.d d) (Tr.refl G.si) (h _) hr
/-- a new tuple of things at hand -/
theorem Good.finT {C : Ct} {σ : Sg} {ρ : En} {H : Hp} {R : Vl → Prop} {Q : VK} (G : Good K C σ ρ H) (k : ∀ u H' z, Tr C.S (K.SI C.m) H H' → VlOk K (mq C σ ρ H') u z → R z → Q u H') {vs : List V} {ds : List PyData} (h : RdA K (mq C σ ρ H) vs ds) (hr : R (.d (.tuple ds)))
    {p : Addr} (hp : H p = none) : Q (.ref p) (upd H p (.tup vs)) :=
  k _ _ (.d (.tuple ds)) (G.new hp) (.tup (.inl (.inl (G.mq_new hp))) (h.mono (G.ex (G.new hp)))) hr
theorem Good.finL {C : Ct} {σ : Sg} {ρ : En} {H : Hp} {R : Vl → Prop} {Q : VK} (G : Good K C σ ρ H) (k : ∀ u H' z, Tr C.S (K.SI C.m) H H' → VlOk K (mq C σ ρ H') u z → R z → Q u H') {vs : List V} {ds : List PyData} (h : RdA K (mq C σ ρ H) vs ds) (hr : R (.d (.list ds)))
    {p : Addr} (hp : H p = none) : Q (.ref p) (upd H p (.lst vs)) :=
  k _ _ (.d (.list ds)) (G.new hp) (.lst (G.mq_new hp) (h.mono (G.ex (G.new hp)))) hr
theorem Good.lt {C : Ct} {σ : Sg} {ρ : En} {H : Hp} (G : Good K C σ ρ H) : True := trivial

/-! ### + -/
def rAdd (K : Fg) : R2 := fun x y H Q => (rI0 fun i j => .int (i + j)) x y H Q ∨ rCat x y H Q ∨ rCatA K x y H Q ∨ ∃ i j, x = .str i ∧ y = .str j ∧ i.length + j.length ≤ sizeLine ∧ Q (.str (i ++ j)) H
theorem oAdd (i) : OpR (F.X i) (binaryOp .Add) (rAdd F.K) := by
  have h := OpR.or (X := F.X i) op_add (OpR.or op_cat (OpR.or op_catA op_add_str))
  rw [F.eK i] at h
  exact h
def fAdd : G2
  | .d (.int i), .d (.int j), R => R (.d (.int (i + j)))
  | .d (.list xs), .d (.list ys), R => xs.length + ys.length ≤ 1000000 ∧ R (.d (.list (xs ++ ys)))
  | .d (.tuple xs), .d (.tuple ys), R => xs.length + ys.length ≤ 1000000 ∧ R (.d (.tuple (xs ++ ys)))
  | .d (.str x), .d (.str y), R => x.length + y.length ≤ 1000000 ∧ R (.d (.str (x ++ y)))
  | _, _, _ => False
theorem sAdd : S2 K (rAdd K) fAdd := fun C σ ρ H v w x y R Q G ox oy h k => by
  match x, y, h, ox, oy with
  | .d (.int i), .d (.int j), h, ox, oy => exact .inl ⟨i, j, Rd.inv_int ox, Rd.inv_int oy, G.fin k (fun _ => .int _) h⟩
  | .d (.list xs), .d (.list ys), h, ox, oy =>
    obtain ⟨a, vs, rfl, ha, ra⟩ := Rd.inv_list ox
    obtain ⟨b, ws, rfl, hb, rb⟩ := Rd.inv_list oy
    exact .inr (.inl ⟨a, b, vs, ws, rfl, rfl, mask_le _ _ ha, mask_le _ _ hb, small_le (by rw [ra.length, rb.length]; exact h.1), fun p hp => G.finL k (ra.append rb) h.2 hp⟩)
  | .d (.tuple xs), .d (.tuple ys), h, ox, oy =>
    obtain ⟨a, vs, rfl, ha, ra⟩ := Rd.inv_tuple ox
    obtain ⟨b, ws, rfl, hb, rb⟩ := Rd.inv_tuple oy
    refine .inr (.inr (.inl ⟨a, b, vs, ws, rfl, rfl, Ex.sqt mask_le ha, Ex.sqt mask_le hb, small_le (by rw [ra.length, rb.length]; exact h.1), fun z => ?_, fun _ z => ?_, fun _ _ p hp => G.finT k (ra.append rb) h.2 hp⟩))
    · subst z
      cases ra
      exact k _ H _ (Tr.refl G.si) oy h.2
    · subst z
      cases rb
      exact k _ H _ (Tr.refl G.si) ox (by simpa using h.2)
  | .d (.str i), .d (.str j), h, ox, oy => exact .inr (.inr (.inr ⟨i, j, Rd.inv_str ox, Rd.inv_str oy, small_le h.1, G.fin k (fun _ => .str _) h.2⟩))

/-! ### - * // % ** -/
def fSub : G2
  | .d (.int i), .d (.int j), R => R (.d (.int (i - j)))
  | _, _, _ => False
theorem oSub (i) : OpR (F.X i) (binaryOp .Sub) (rI0 fun i j => .int (i - j)) := op_sub
theorem sSub : S2 K (rI0 fun i j => .int (i - j)) fSub := fun C σ ρ H v w x y R Q G ox oy h k => by
  match x, y, h, ox, oy with
  | .d (.int i), .d (.int j), h, ox, oy => exact ⟨i, j, Rd.inv_int ox, Rd.inv_int oy, G.fin k (fun _ => .int _) h⟩
def rMul (K : Fg) : R2 := fun x y H Q => (rI CMulW fun i j => .int (i * j)) x y H Q ∨ rRep x y H Q ∨ rRepT K x y H Q
theorem oMul (i) : OpR (F.X i) (binaryOp .Mult) (rMul F.K) := by
  have h := OpR.or (X := F.X i) op_mulW (OpR.or op_rep op_repT)
  rw [F.eK i] at h
  exact h
/-- the size that * lets -/
def mulOk (i j : Int) : Prop := i.natAbs < 2 ^ 400000 ∧ j.natAbs < 2 ^ 400000
def fMul : G2
  | .d (.int i), .d (.int j), R => CMulW i j ∧ R (.d (.int (i * j)))
  | .d (.list xs), .d (.int j), R => j ≤ 1000 ∧ -1000 ≤ j ∧ xs.length ≤ 1000 ∧ R (.d (.list (List.replicate j.toNat xs).flatten))
  | .d (.tuple xs), .d (.int j), R => 2 ≤ j ∧ j ≤ 1000 ∧ xs ≠ [] ∧ xs.length ≤ 1000 ∧ R (.d (.tuple (List.replicate j.toNat xs).flatten))
  | _, _, _ => False
theorem RdA.rep {M : Hp} {vs : List V} {ds : List PyData} (h : RdA K M vs ds) : ∀ n : Nat, RdA K M (List.replicate n vs).flatten (List.replicate n ds).flatten
  | 0 => .nil
  | n + 1 => by simpa [List.replicate_succ] using h.append (RdA.rep h n)
theorem sMul : S2 K (rMul K) fMul := fun C σ ρ H v w x y R Q G ox oy h k => by
  match x, y, h, ox, oy with
  | .d (.int i), .d (.int j), h, ox, oy => exact .inl ⟨i, j, Rd.inv_int ox, Rd.inv_int oy, h.1, G.fin k (fun _ => .int _) h.2⟩
  | .d (.list xs), .d (.int j), h, ox, oy =>
    obtain ⟨a, vs, rfl, ha, ra⟩ := Rd.inv_list ox
    obtain ⟨h1, h2, h3, h4⟩ := h
    refine .inr (.inl ⟨a, j, vs, rfl, Rd.inv_int oy, mask_le _ _ ha, by omega, by omega, small_le ?_, fun p hp => G.finL k (RdA.rep ra j.toNat) h4 hp⟩)
    have e := ra.length
    have : vs.length * j.toNat ≤ 1000 * 1000 := Nat.mul_le_mul (by omega) (by omega)
    omega
  | .d (.tuple xs), .d (.int j), h, ox, oy =>
    obtain ⟨a, vs, rfl, ha, ra⟩ := Rd.inv_tuple ox
    obtain ⟨h1, h2, h3, h4, h5⟩ := h
    have e := ra.length
    exact .inr (.inr ⟨a, j, vs, rfl, Rd.inv_int oy, Ex.sqt mask_le ha, fun z => h3 (by subst z; cases ra; rfl), h1, h2, by omega, fun p hp => G.finT k (RdA.rep ra j.toNat) h5 hp⟩)
def CDivA (_ j : Int) : Prop := j ≠ 0 ∧ j.natAbs.log2 < 9000
theorem oFdiv (i) : OpR (F.X i) (binaryOp .FloorDiv) (rI CDivA fun i j => .int (i.fdiv j)) := opI fun _ _ _ _ _ _ _ hc q => floordiv_int hc.1 q (.inl (PyProof.noPylong_of_log2 hc.2))
def fFdiv : G2
  | .d (.int i), .d (.int j), R => CDivA i j ∧ R (.d (.int (i.fdiv j)))
  | _, _, _ => False
theorem sFdiv : S2 K (rI CDivA fun i j => .int (i.fdiv j)) fFdiv := fun C σ ρ H v w x y R Q G ox oy h k => by
  match x, y, h, ox, oy with
  | .d (.int i), .d (.int j), h, ox, oy => exact ⟨i, j, Rd.inv_int ox, Rd.inv_int oy, h.1, G.fin k (fun _ => .int _) h.2⟩
theorem oMod (i) : OpR (F.X i) (binaryOp .Mod) (rI (fun _ j => j ≠ 0) fun i j => .int (i.fmod j)) := op_modN
def fMod : G2
  | .d (.int i), .d (.int j), R => j ≠ 0 ∧ R (.d (.int (i.fmod j)))
  | _, _, _ => False
theorem sMod : S2 K (rI (fun _ j => j ≠ 0) fun i j => .int (i.fmod j)) fMod := fun C σ ρ H v w x y R Q G ox oy h k => by
  match x, y, h, ox, oy with
  | .d (.int i), .d (.int j), h, ox, oy => exact ⟨i, j, Rd.inv_int ox, Rd.inv_int oy, h.1, G.fin k (fun _ => .int _) h.2⟩
theorem oPow (i) : OpR (F.X i) (binaryOp .Pow) (rI CPow fun i j => .int (i ^ j.toNat)) := op_pow
def fPow : G2
  | .d (.int i), .d (.int j), R => CPow i j ∧ R (.d (.int (i ^ j.toNat)))
  | _, _, _ => False
theorem sPow : S2 K (rI CPow fun i j => .int (i ^ j.toNat)) fPow := fun C σ ρ H v w x y R Q G ox oy h k => by
  match x, y, h, ox, oy with
  | .d (.int i), .d (.int j), h, ox, oy => exact ⟨i, j, Rd.inv_int ox, Rd.inv_int oy, h.1, G.fin k (fun _ => .int _) h.2⟩

/-! ### comparisons -/
def fRel (g : Int → Int → Bool) : G2
  | .d (.int i), .d (.int j), R => R (.d (.bool (g i j)))
  | _, _, _ => False
theorem sRel {g : Int → Int → Bool} : S2 K (rI0 fun i j => .bl (g i j)) (fRel g) := fun C σ ρ H v w x y R Q G ox oy h k => by
  match x, y, h, ox, oy with
  | .d (.int i), .d (.int j), h, ox, oy => exact ⟨i, j, Rd.inv_int ox, Rd.inv_int oy, G.fin k (fun _ => .bl _) h⟩
theorem oLt (i) : OpR (F.X i) (compareOp .Lt) (rI0 fun i j => .bl (decide (i < j))) := op_lt
theorem oLe (i) : OpR (F.X i) (compareOp .LtE) (rI0 fun i j => .bl (decide (i ≤ j))) := op_le
theorem oGt (i) : OpR (F.X i) (compareOp .Gt) (rI0 fun i j => .bl (decide (j < i))) := op_gt
theorem oGe (i) : OpR (F.X i) (compareOp .GtE) (rI0 fun i j => .bl (decide (j ≤ i))) := op_ge
/-- == of data without dicts (texts within: of real signs), 64 deep at most; two texts: any -/
def fEq (neg : Bool) : G2
  | .d (.str x), .d (.str y), R => R (.d (.bool (neg ^^ decide (x = y))))
  | .d x, .d y, R => SeqAt.shaped x = true ∧ SeqAt.shaped y = true ∧ R (.d (.bool (neg ^^ PyData.eqv x y)))
  | _, _, _ => False
def rEqA (K : Fg) : R2 := fun x y H Q => rEq x y H Q ∨ rEqD K x y H Q
def rNeA (K : Fg) : R2 := fun x y H Q => rNe x y H Q ∨ rNeD K x y H Q
theorem oEq (i) : OpR (F.X i) (compareOp .Eq) (rEqA F.K) := by
  have h := OpR.or (X := F.X i) op_eq (op_eqD (F.room i).units)
  rw [F.eK i] at h
  exact h
theorem oNe (i) : OpR (F.X i) (compareOp .NotEq) (rNeA F.K) := by
  have h := OpR.or (X := F.X i) op_ne (op_neD (F.room i).units)
  rw [F.eK i] at h
  exact h
theorem dec_str {x y : Str} : decide (V.str x = V.str y) = decide (x = y) := by
  by_cases e : x = y
  · subst e; simp
  · rw [decide_eq_false e, decide_eq_false fun z => e (V.str.inj z)]
theorem sEq : S2 K (rEqA K) (fEq false) := fun C σ ρ H v w x y R Q G ox oy h k => by
  have gen : ∀ x y : PyData, VlOk K (mq C σ ρ H) v (.d x) → VlOk K (mq C σ ρ H) w (.d y) → SeqAt.shaped x = true ∧ SeqAt.shaped y = true ∧ R (.d (.bool (false ^^ PyData.eqv x y))) → rEqA K v w H Q := fun x y ox oy h =>
    .inr ⟨x, y, (Rd.mono mask_le ox).dp, (Rd.mono mask_le oy).dp, h.1, h.2.1, G.fin k (fun _ => .bl _) (by simpa using h.2.2)⟩
  match x, y, h, ox, oy with
  | .d (.str i), .d (.str j), h, ox, oy =>
    cases Rd.inv_str ox
    cases Rd.inv_str oy
    refine .inl ⟨rfl, ?_⟩
    rw [dec_str]
    exact G.fin k (fun _ => .bl _) (by simpa [fEq] using h)
  | .d .none, .d y, h, ox, oy => exact gen _ _ ox oy h
  | .d (.bool _), .d y, h, ox, oy => exact gen _ _ ox oy h
  | .d (.int _), .d y, h, ox, oy => exact gen _ _ ox oy h
  | .d (.list _), .d y, h, ox, oy => exact gen _ _ ox oy h
  | .d (.tuple _), .d y, h, ox, oy => exact gen _ _ ox oy h
  | .d (.dict _), .d y, h, ox, oy => exact gen _ _ ox oy h
  | .d (.str i), .d .none, h, ox, oy => exact gen _ _ ox oy h
  | .d (.str i), .d (.bool _), h, ox, oy => exact gen _ _ ox oy h
  | .d (.str i), .d (.int _), h, ox, oy => exact gen _ _ ox oy h
  | .d (.str i), .d (.list _), h, ox, oy => exact gen _ _ ox oy h
  | .d (.str i), .d (.tuple _), h, ox, oy => exact gen _ _ ox oy h
  | .d (.str i), .d (.dict _), h, ox, oy => exact gen _ _ ox oy h
theorem sNe : S2 K (rNeA K) (fEq true) := fun C σ ρ H v w x y R Q G ox oy h k => by
  have gen : ∀ x y : PyData, VlOk K (mq C σ ρ H) v (.d x) → VlOk K (mq C σ ρ H) w (.d y) → SeqAt.shaped x = true ∧ SeqAt.shaped y = true ∧ R (.d (.bool (true ^^ PyData.eqv x y))) → rNeA K v w H Q := fun x y ox oy h =>
    .inr ⟨x, y, (Rd.mono mask_le ox).dp, (Rd.mono mask_le oy).dp, h.1, h.2.1, G.fin k (fun _ => .bl _) (by simpa using h.2.2)⟩
  match x, y, h, ox, oy with
  | .d (.str i), .d (.str j), h, ox, oy =>
    cases Rd.inv_str ox
    cases Rd.inv_str oy
    refine .inl ⟨rfl, ?_⟩
    rw [dec_str]
    exact G.fin k (fun _ => .bl _) (by simpa [fEq] using h)
  | .d .none, .d y, h, ox, oy => exact gen _ _ ox oy h
  | .d (.bool _), .d y, h, ox, oy => exact gen _ _ ox oy h
  | .d (.int _), .d y, h, ox, oy => exact gen _ _ ox oy h
  | .d (.list _), .d y, h, ox, oy => exact gen _ _ ox oy h
  | .d (.tuple _), .d y, h, ox, oy => exact gen _ _ ox oy h
  | .d (.dict _), .d y, h, ox, oy => exact gen _ _ ox oy h
  | .d (.str i), .d .none, h, ox, oy => exact gen _ _ ox oy h
  | .d (.str i), .d (.bool _), h, ox, oy => exact gen _ _ ox oy h
  | .d (.str i), .d (.int _), h, ox, oy => exact gen _ _ ox oy h
  | .d (.str i), .d (.list _), h, ox, oy => exact gen _ _ ox oy h
  | .d (.str i), .d (.tuple _), h, ox, oy => exact gen _ _ ox oy h
  | .d (.str i), .d (.dict _), h, ox, oy => exact gen _ _ ox oy h
/-- is, is not: of None on the right, of two bools -/
def isNon : PyData → Bool
  | .none => true
  | _ => false
def fIs (neg : Bool) : G2
  | .d (.bool a), .d (.bool b), R => R (.d (.bool (neg ^^ decide (a = b))))
  | .d x, .d .none, R => R (.d (.bool (neg ^^ isNon x)))
  | _, _, _ => False
def rIsA : R2 := fun x y H Q => (y = .non ∧ Q (.bl (decide (x = .non))) H) ∨ ∃ a b, x = .bl a ∧ y = .bl b ∧ Q (.bl (decide (a = b))) H
def rIsNotA : R2 := fun x y H Q => (y = .non ∧ Q (.bl (!decide (x = .non))) H) ∨ ∃ a b, x = .bl a ∧ y = .bl b ∧ Q (.bl (!decide (a = b))) H
theorem oIs (i) : OpR (F.X i) (compareOp .Is) rIsA := OpR.or op_isN op_is_bl
theorem oIsNot (i) : OpR (F.X i) (compareOp .IsNot) rIsNotA := OpR.or op_notN op_isnot_bl
theorem isNon_of {M : Hp} {v : V} {x : PyData} (h : Rd K M v x) : decide (v = .non) = isNon x := by cases h <;> rfl
theorem sIs : S2 K rIsA (fIs false) := fun C σ ρ H v w x y R Q G ox oy h k => by
  match x, y, h, ox, oy with
  | .d (.bool a), .d (.bool b), h, ox, oy => exact .inr ⟨a, b, Rd.inv_bool ox, Rd.inv_bool oy, G.fin k (fun _ => .bl _) (by simpa [fIs] using h)⟩
  | .d (.bool a), .d .none, h, ox, oy => exact .inl ⟨Rd.inv_none oy, by rw [isNon_of ox]; exact G.fin k (fun _ => .bl _) (by simpa [fIs] using h)⟩
  | .d .none, .d .none, h, ox, oy => exact .inl ⟨Rd.inv_none oy, by rw [isNon_of ox]; exact G.fin k (fun _ => .bl _) (by simpa [fIs] using h)⟩
  | .d (.int _), .d .none, h, ox, oy => exact .inl ⟨Rd.inv_none oy, by rw [isNon_of ox]; exact G.fin k (fun _ => .bl _) (by simpa [fIs] using h)⟩
  | .d (.str _), .d .none, h, ox, oy => exact .inl ⟨Rd.inv_none oy, by rw [isNon_of ox]; exact G.fin k (fun _ => .bl _) (by simpa [fIs] using h)⟩
  | .d (.list _), .d .none, h, ox, oy => exact .inl ⟨Rd.inv_none oy, by rw [isNon_of ox]; exact G.fin k (fun _ => .bl _) (by simpa [fIs] using h)⟩
  | .d (.tuple _), .d .none, h, ox, oy => exact .inl ⟨Rd.inv_none oy, by rw [isNon_of ox]; exact G.fin k (fun _ => .bl _) (by simpa [fIs] using h)⟩
theorem sIsNot : S2 K rIsNotA (fIs true) := fun C σ ρ H v w x y R Q G ox oy h k => by
  match x, y, h, ox, oy with
  | .d (.bool a), .d (.bool b), h, ox, oy => exact .inr ⟨a, b, Rd.inv_bool ox, Rd.inv_bool oy, G.fin k (fun _ => .bl _) (by simpa [fIs] using h)⟩
  | .d (.bool a), .d .none, h, ox, oy => exact .inl ⟨Rd.inv_none oy, by rw [isNon_of ox]; exact G.fin k (fun _ => .bl _) (by simpa [fIs] using h)⟩
  | .d .none, .d .none, h, ox, oy => exact .inl ⟨Rd.inv_none oy, by rw [isNon_of ox]; exact G.fin k (fun _ => .bl _) (by simpa [fIs] using h)⟩
  | .d (.int _), .d .none, h, ox, oy => exact .inl ⟨Rd.inv_none oy, by rw [isNon_of ox]; exact G.fin k (fun _ => .bl _) (by simpa [fIs] using h)⟩
  | .d (.str _), .d .none, h, ox, oy => exact .inl ⟨Rd.inv_none oy, by rw [isNon_of ox]; exact G.fin k (fun _ => .bl _) (by simpa [fIs] using h)⟩
  | .d (.list _), .d .none, h, ox, oy => exact .inl ⟨Rd.inv_none oy, by rw [isNon_of ox]; exact G.fin k (fun _ => .bl _) (by simpa [fIs] using h)⟩
  | .d (.tuple _), .d .none, h, ox, oy => exact .inl ⟨Rd.inv_none oy, by rw [isNon_of ox]; exact G.fin k (fun _ => .bl _) (by simpa [fIs] using h)⟩

/-! ### subscripts -/
def fIx : G2
  | .d (.list xs), .d (.int i), R => ∃ x, atI xs i = some x ∧ R (.d x)
  | .d (.tuple xs), .d (.int i), R => ∃ x, atI xs i = some x ∧ R (.d x)
  | _, _, _ => False
theorem oIx (i) : IxR (F.X i) (rIx F.K) := by
  have h := ix_seq (X := F.X i)
  rw [F.eK i] at h
  exact h
theorem RdA.at {M : Hp} {vs : List V} {ds : List PyData} {i : Int} {d : PyData} (r : RdA K M vs ds) (h : atI ds i = some d) : ∃ v, atI vs i = some v ∧ Rd K M v d := by
  unfold atI at h ⊢
  rw [r.length]
  cases q : ixN ds.length i with
  | none => rw [q] at h; cases h
  | some j =>
    rw [q] at h
    obtain ⟨v, h1, h2⟩ := r.get (i := j) (d := d) h
    exact ⟨v, h1, h2⟩
theorem sIx : S2 K (rIx K) fIx := fun C σ ρ H v w x y R Q G ox oy h k => by
  match x, y, h, ox, oy with
  | .d (.list xs), .d (.int i), h, ox, oy =>
    obtain ⟨a, vs, rfl, ha, ra⟩ := Rd.inv_list ox
    obtain ⟨d, e, hr⟩ := h
    obtain ⟨z, e1, rz⟩ := ra.at e
    exact .inl ⟨a, vs, i, z, rfl, Rd.inv_int oy, SqL.of (mask_le _ _ ha), e1, k z H (.d d) (Tr.refl G.si) rz hr⟩
  | .d (.tuple xs), .d (.int i), h, ox, oy =>
    obtain ⟨a, vs, rfl, ha, ra⟩ := Rd.inv_tuple ox
    obtain ⟨d, e, hr⟩ := h
    obtain ⟨z, e1, rz⟩ := ra.at e
    exact .inr (.inl ⟨a, vs, i, z, rfl, Rd.inv_int oy, Ex.sqt mask_le ha, e1, k z H (.d d) (Tr.refl G.si) rz hr⟩)

/-! ### built-ins -/
def gLen : GC
  | [.d (.list xs)], R => R (.d (.int xs.length))
  | [.d (.tuple xs)], R => R (.d (.int xs.length))
  | _, _ => False
def rLenA (K : Fg) : List V → Hp → VK → Prop := fun xs H Q => ∃ p ys, xs = [.ref p] ∧ (SqL K H p ys ∨ SqT K H p ys) ∧ Q (.int ys.length) H
theorem cLen (i) : CallR (F.X i) (.builtin "len") (rLenA F.K) := by
  have h := call_len_seq (X := F.X i)
  rw [F.eK i] at h
  exact h
theorem VlA.one {M : Hp} {vs : List V} {x : Vl} (h : VlA K M vs [x]) : ∃ v, vs = [v] ∧ VlOk K M v x := by
  cases h with
  | cons h r => cases r; exact ⟨_, rfl, h⟩
theorem VlA.two {M : Hp} {vs : List V} {x y : Vl} (h : VlA K M vs [x, y]) : ∃ v w, vs = [v, w] ∧ VlOk K M v x ∧ VlOk K M w y := by
  cases h with
  | cons h r =>
    obtain ⟨w, rfl, h2⟩ := r.one
    exact ⟨_, w, rfl, h, h2⟩
theorem sLen : SC K (rLenA K) gLen := fun C σ ρ H vs xs R Q G o h k => by
  match xs, h, o with
  | [.d (.list ds)], h, o =>
    obtain ⟨v, rfl, o1⟩ := o.one
    obtain ⟨a, ws, rfl, ha, ra⟩ := Rd.inv_list o1
    exact ⟨a, ws, rfl, .inl (SqL.of (mask_le _ _ ha)), by rw [ra.length]; exact G.fin k (fun _ => .int _) h⟩
  | [.d (.tuple ds)], h, o =>
    obtain ⟨v, rfl, o1⟩ := o.one
    obtain ⟨a, ws, rfl, ha, ra⟩ := Rd.inv_tuple o1
    exact ⟨a, ws, rfl, .inr (Ex.sqt mask_le ha), by rw [ra.length]; exact G.fin k (fun _ => .int _) h⟩
def gAbs : GC
  | [.d (.int i)], R => R (.d (.int (if i < 0 then -i else i)))
  | _, _ => False
theorem cAbs (i) : CallR (F.X i) (.builtin "abs") (fun xs H Q => ∃ i, xs = [.int i] ∧ Q (.int (if i < 0 then -i else i)) H) := call_abs
theorem sAbs : SC K (fun xs H Q => ∃ i, xs = [.int i] ∧ Q (.int (if i < 0 then -i else i)) H) gAbs := fun C σ ρ H vs xs R Q G o h k => by
  match xs, h, o with
  | [.d (.int i)], h, o =>
    obtain ⟨v, rfl, o1⟩ := o.one
    exact ⟨i, by rw [Rd.inv_int o1], G.fin k (fun _ => .int _) h⟩
def gInt : GC
  | [.d (.int i)], R => R (.d (.int i))
  | [.d (.bool b)], R => R (.d (.int (if b then 1 else 0)))
  | _, _ => False
theorem cInt (i) : CallR (F.X i) (.type "int") (fun xs H Q => (∃ i, xs = [.int i] ∧ Q (.int i) H) ∨ ∃ k, xs = [.bl k] ∧ Q (.int (if k then 1 else 0)) H) := call_int1
theorem sInt : SC K (fun xs H Q => (∃ i, xs = [.int i] ∧ Q (.int i) H) ∨ ∃ k, xs = [.bl k] ∧ Q (.int (if k then 1 else 0)) H) gInt := fun C σ ρ H vs xs R Q G o h k => by
  match xs, h, o with
  | [.d (.int i)], h, o =>
    obtain ⟨v, rfl, o1⟩ := o.one
    exact .inl ⟨i, by rw [Rd.inv_int o1], G.fin k (fun _ => .int _) h⟩
  | [.d (.bool b)], h, o =>
    obtain ⟨v, rfl, o1⟩ := o.one
    exact .inr ⟨b, by rw [Rd.inv_bool o1], G.fin k (fun _ => .int _) h⟩
def gTuple : GC
  | [.d (.list xs)], R => R (.d (.tuple xs))
  | [.d (.tuple xs)], R => R (.d (.tuple xs))
  | _, _ => False
def rTupleA (K : Fg) : List V → Hp → VK → Prop := fun xs H Q => ∃ p ys, xs = [.ref p] ∧ ((SqL K H p ys ∧ ∀ l, H l = none → Q (.ref l) (upd H l (.tup ys))) ∨ (SqT K H p ys ∧ Q (.ref p) H))
theorem cTuple (i) : CallR (F.X i) (.type "tuple") (rTupleA F.K) := by
  have h := call_tuple_of (X := F.X i)
  rw [F.eK i] at h
  exact h
theorem sTuple : SC K (rTupleA K) gTuple := fun C σ ρ H vs xs R Q G o h k => by
  match xs, h, o with
  | [.d (.list ds)], h, o =>
    obtain ⟨v, rfl, o1⟩ := o.one
    obtain ⟨a, ws, rfl, ha, ra⟩ := Rd.inv_list o1
    exact ⟨a, ws, rfl, .inl ⟨SqL.of (mask_le _ _ ha), fun p hp => G.finT k ra h hp⟩⟩
  | [.d (.tuple ds)], h, o =>
    obtain ⟨v, rfl, o1⟩ := o.one
    obtain ⟨a, ws, e, ha, ra⟩ := Rd.inv_tuple o1
    subst e
    exact ⟨a, ws, rfl, .inr ⟨Ex.sqt mask_le ha, k _ H _ (Tr.refl G.si) o1 h⟩⟩
def gList : GC
  | [.d (.list xs)], R => R (.d (.list xs))
  | [.d (.tuple xs)], R => R (.d (.list xs))
  | _, _ => False
def rListA (K : Fg) : List V → Hp → VK → Prop := fun xs H Q => ∃ p ys, xs = [.ref p] ∧ (SqL K H p ys ∨ SqT K H p ys) ∧ ∀ l, H l = none → Q (.ref l) (upd H l (.lst ys))
theorem cList (i) : CallR (F.X i) (.type "list") (rListA F.K) := by
  have h := call_list_of (X := F.X i)
  rw [F.eK i] at h
  exact h
theorem sList : SC K (rListA K) gList := fun C σ ρ H vs xs R Q G o h k => by
  match xs, h, o with
  | [.d (.list ds)], h, o =>
    obtain ⟨v, rfl, o1⟩ := o.one
    obtain ⟨a, ws, rfl, ha, ra⟩ := Rd.inv_list o1
    exact ⟨a, ws, rfl, .inl (SqL.of (mask_le _ _ ha)), fun p hp => G.finL k ra h hp⟩
  | [.d (.tuple ds)], h, o =>
    obtain ⟨v, rfl, o1⟩ := o.one
    obtain ⟨a, ws, rfl, ha, ra⟩ := Rd.inv_tuple o1
    exact ⟨a, ws, rfl, .inr (Ex.sqt mask_le ha), fun p hp => G.finL k ra h hp⟩
def gGcd : GC
  | [.d (.int i), .d (.int j)], R => R (.d (.int (Nat.gcd i.natAbs j.natAbs)))
  | _, _ => False
theorem cGcd (i) : CallR (F.X i) (.builtin "math.gcd") rGcd := cr_gcd
theorem sGcd : SC K rGcd gGcd := fun C σ ρ H vs xs R Q G o h k => by
  match xs, h, o with
  | [.d (.int i), .d (.int j)], h, o =>
    obtain ⟨v, w, rfl, o1, o2⟩ := o.two
    exact ⟨i, j, by rw [Rd.inv_int o1, Rd.inv_int o2], G.fin k (fun _ => .int _) h⟩

/-- all ints -/
def allI : List PyData → Option (List Int)
  | [] => some []
  | .int i :: r => (allI r).map (i :: ·)
  | _ :: _ => none
theorem allI_of : ∀ {ds : List PyData} {ns : List Int}, allI ds = some ns → ds = ns.map PyData.int
  | [], _, h => by cases h; rfl
  | .int i :: r, ns, h => by
    unfold allI at h
    cases q : allI r with
    | none => rw [q] at h; cases h
    | some ms => rw [q] at h; cases h; rw [allI_of q]; rfl
theorem allI_map : ∀ ns : List Int, allI (ns.map PyData.int) = some ns
  | [] => rfl
  | n :: r => by simp [allI, allI_map r]
def gSum : GC
  | [.d (.list xs)], R => ∃ ns, allI xs = some ns ∧ R (.d (.int ns.sum))
  | _, _ => False
theorem cSum (i) : CallR (F.X i) (.builtin "sum") (rSum F.K) := by
  have h := cr_sum (X := F.X i) (F.calm i)
  rw [F.eK i] at h
  exact h
theorem sSum : SC K (rSum K) gSum := fun C σ ρ H vs xs R Q G o h k => by
  match xs, h, o with
  | [.d (.list ds)], h, o =>
    obtain ⟨v, rfl, o1⟩ := o.one
    obtain ⟨a, ws, rfl, ha, ra⟩ := Rd.inv_list o1
    obtain ⟨ns, e, h⟩ := h
    rw [allI_of e] at ra
    exact ⟨a, ns, rfl, SqL.of (by rw [← ra.ints]; exact mask_le _ _ ha), G.fin k (fun _ => .int _) h⟩
/-- max, min of a list of ints, or of two -/
def isMax (ns : List Int) (m : Int) : Prop := m ∈ ns ∧ ∀ y ∈ ns, y ≤ m
def isMin (ns : List Int) (m : Int) : Prop := m ∈ ns ∧ ∀ y ∈ ns, m ≤ y
def gMax : GC
  | [.d (.list xs)], R => ∃ ns, allI xs = some ns ∧ 0 < ns.length ∧ ∀ m, isMax ns m → R (.d (.int m))
  | [.d (.int i), .d (.int j)], R => R (.d (.int (if j > i then j else i)))
  | _, _ => False
def gMin : GC
  | [.d (.list xs)], R => ∃ ns, allI xs = some ns ∧ 0 < ns.length ∧ ∀ m, isMin ns m → R (.d (.int m))
  | [.d (.int i), .d (.int j)], R => R (.d (.int (if j < i then j else i)))
  | _, _ => False
def rMaxA (K : Fg) : List V → Hp → VK → Prop := fun xs H Q => rMax K xs H Q ∨ ∃ i j, xs = [.int i, .int j] ∧ Q (.int (if j > i then j else i)) H
def rMinA (K : Fg) : List V → Hp → VK → Prop := fun xs H Q => rMin K xs H Q ∨ ∃ i j, xs = [.int i, .int j] ∧ Q (.int (if j < i then j else i)) H
theorem cMax (i) : CallR (F.X i) (.builtin "max") (rMaxA F.K) := by
  have h := CallR.or (cr_max (X := F.X i) (F.calm i)) (call_max2 (F.calm i))
  rw [F.eK i] at h
  exact h
theorem cMin (i) : CallR (F.X i) (.builtin "min") (rMinA F.K) := by
  have h := CallR.or (cr_min (X := F.X i) (F.calm i)) (call_min2 (F.calm i))
  rw [F.eK i] at h
  exact h
theorem sMax : SC K (rMaxA K) gMax := fun C σ ρ H vs xs R Q G o h k => by
  match xs, h, o with
  | [.d (.list ds)], h, o =>
    obtain ⟨v, rfl, o1⟩ := o.one
    obtain ⟨a, ws, rfl, ha, ra⟩ := Rd.inv_list o1
    obtain ⟨ns, e, h0, h⟩ := h
    rw [allI_of e] at ra
    exact .inl ⟨a, ns, rfl, SqL.of (by rw [← ra.ints]; exact mask_le _ _ ha), h0, fun m h1 h2 => G.fin k (fun _ => .int _) (h m ⟨h1, h2⟩)⟩
  | [.d (.int i), .d (.int j)], h, o =>
    obtain ⟨v, w, rfl, o1, o2⟩ := o.two
    exact .inr ⟨i, j, by rw [Rd.inv_int o1, Rd.inv_int o2], G.fin k (fun _ => .int _) h⟩
theorem sMin : SC K (rMinA K) gMin := fun C σ ρ H vs xs R Q G o h k => by
  match xs, h, o with
  | [.d (.list ds)], h, o =>
    obtain ⟨v, rfl, o1⟩ := o.one
    obtain ⟨a, ws, rfl, ha, ra⟩ := Rd.inv_list o1
    obtain ⟨ns, e, h0, h⟩ := h
    rw [allI_of e] at ra
    exact .inl ⟨a, ns, rfl, SqL.of (by rw [← ra.ints]; exact mask_le _ _ ha), h0, fun m h1 h2 => G.fin k (fun _ => .int _) (h m ⟨h1, h2⟩)⟩
  | [.d (.int i), .d (.int j)], h, o =>
    obtain ⟨v, w, rfl, o1, o2⟩ := o.two
    exact .inr ⟨i, j, by rw [Rd.inv_int o1, Rd.inv_int o2], G.fin k (fun _ => .int _) h⟩
def allBs : List PyData → Option (List Bool)
  | [] => some []
  | .bool i :: r => (allBs r).map (i :: ·)
  | _ :: _ => none
theorem allBs_of : ∀ {ds : List PyData} {ns : List Bool}, allBs ds = some ns → ds = ns.map PyData.bool
  | [], _, h => by cases h; rfl
  | .bool i :: r, ns, h => by
    unfold allBs at h
    cases q : allBs r with
    | none => rw [q] at h; cases h
    | some ms => rw [q] at h; cases h; rw [allBs_of q]; rfl
theorem allBs_map : ∀ ns : List Bool, allBs (ns.map PyData.bool) = some ns
  | [] => rfl
  | n :: r => by simp [allBs, allBs_map r]
def gAll : GC
  | [.d (.list xs)], R => ∃ ns, allBs xs = some ns ∧ R (.d (.bool (ns.all id)))
  | _, _ => False
def gAny : GC
  | [.d (.list xs)], R => ∃ ns, allBs xs = some ns ∧ R (.d (.bool (ns.any id)))
  | _, _ => False
theorem cAll (i) : CallR (F.X i) (.builtin "all") (rAll F.K) := by
  have h := cr_all (X := F.X i) (F.calm i)
  rw [F.eK i] at h
  exact h
theorem cAny (i) : CallR (F.X i) (.builtin "any") (rAny F.K) := by
  have h := cr_any (X := F.X i) (F.calm i)
  rw [F.eK i] at h
  exact h
theorem sAll : SC K (rAll K) gAll := fun C σ ρ H vs xs R Q G o h k => by
  match xs, h, o with
  | [.d (.list ds)], h, o =>
    obtain ⟨v, rfl, o1⟩ := o.one
    obtain ⟨a, ws, rfl, ha, ra⟩ := Rd.inv_list o1
    obtain ⟨ns, e, h⟩ := h
    rw [allBs_of e] at ra
    exact ⟨a, ns, rfl, SqL.of (by rw [← ra.bools]; exact mask_le _ _ ha), G.fin k (fun _ => .bl _) h⟩
theorem sAny : SC K (rAny K) gAny := fun C σ ρ H vs xs R Q G o h k => by
  match xs, h, o with
  | [.d (.list ds)], h, o =>
    obtain ⟨v, rfl, o1⟩ := o.one
    obtain ⟨a, ws, rfl, ha, ra⟩ := Rd.inv_list o1
    obtain ⟨ns, e, h⟩ := h
    rw [allBs_of e] at ra
    exact ⟨a, ns, rfl, SqL.of (by rw [← ra.bools]; exact mask_le _ _ ha), G.fin k (fun _ => .bl _) h⟩
end
end Px

set_option Elab.async false
set_option linter.all false
set_option maxRecDepth 100000
set_option maxHeartbeats 2000000
set_option exponentiation.threshold 5000
/-! Px: repr of data. -/
namespace Px
open PySem PySem.Spec PyProof.Rows L2

mutual
/-- ints of at most 500 figures, bools, None, in lists and tuples -/
def okI : PyData → Bool
  | .none | .bool _ => true
  | .int i => decide (i.natAbs < 10 ^ 500)
  | .str x => decide (x.length ≤ 40) && x.cps.toList.all fun c => decide (c < 16 ^ 8)
  | .list xs | .tuple xs => okIs xs
  | _ => false
def okIs : List PyData → Bool
  | [] => true
  | x :: r => okI x && okIs r
end
mutual
def nods : PyData → Nat
  | .list xs | .tuple xs => 1 + nodsA xs
  | _ => 1
def nodsA : List PyData → Nat
  | [] => 0
  | x :: r => nods x + nodsA r
end
theorem log_1920 {n : Nat} (h : n < 10 ^ 500) : n.log2 < 1920 := by
  by_cases z : n = 0
  · subst z; decide
  · rw [Nat.log2_lt z]
    exact Nat.lt_of_lt_of_le h (by decide +kernel)
mutual
theorem okI_show : ∀ d : PyData, okI d = true → d.showable = true ∧ d.hasDict = false ∧ d.shown.length + 2 ≤ 510 * nods d
  | .none, _ => ⟨rfl, rfl, by show (4 : Nat) + 2 ≤ 510 * 1; decide⟩
  | .bool true, _ => ⟨rfl, rfl, by show (4 : Nat) + 2 ≤ 510 * 1; decide⟩
  | .bool false, _ => ⟨rfl, rfl, by show (5 : Nat) + 2 ≤ 510 * 1; decide⟩
  | .int i, h => by
    have h' : i.natAbs < 10 ^ 500 := by simpa [okI] using h
    refine ⟨by simp only [PyData.showable, decide_eq_true_eq]; exact log_1920 h', rfl, ?_⟩
    have e := int_text_length_le10 (k := 500) (by decide) h'
    have e2 : (PyData.shown (.int i)).length ≤ 501 := by
      show (Str.ofString (toString i)).length ≤ 501
      first | (rw [PySem.ofString_length]; exact e) | (rw [ofString_length]; exact e) | simpa using e
    show (PyData.shown (.int i)).length + 2 ≤ 510 * 1
    omega
  | .str x, h => by
    have h' : x.length ≤ 40 ∧ ∀ c ∈ x.cps.toList, c < 16 ^ 8 := by
      simp only [okI, Bool.and_eq_true, decide_eq_true_eq, List.all_eq_true] at h
      exact h
    refine ⟨rfl, rfl, ?_⟩
    have e := PySem.StrLaws.reprText_len x h'.2
    show (reprText x).length + 2 ≤ 510 * 1
    omega
  | .dict _, h => by simp [okI] at h
  | .list xs, h => by
    obtain ⟨h1, h2, h3⟩ := okIs_show xs (by simpa [okI] using h)
    refine ⟨by simpa [PyData.showable] using h1, by simpa [PyData.hasDict] using h2, ?_⟩
    have e := listText_len_le (PyData.shownAll xs)
    have hl : (PyData.shownAll xs).length = xs.length := shownAll_len xs
    show (listText (PyData.shownAll xs)).length + 2 ≤ 510 * (1 + nodsA xs)
    omega
  | .tuple xs, h => by
    obtain ⟨h1, h2, h3⟩ := okIs_show xs (by simpa [okI] using h)
    refine ⟨by simpa [PyData.showable] using h1, by simpa [PyData.hasDict] using h2, ?_⟩
    have e := tupleText_len_le (PyData.shownAll xs)
    have hl : (PyData.shownAll xs).length = xs.length := shownAll_len xs
    show (tupleText (PyData.shownAll xs)).length + 2 ≤ 510 * (1 + nodsA xs)
    omega
theorem okIs_show : ∀ xs : List PyData, okIs xs = true → PyData.showableAll xs = true ∧ PyData.hasDictAll xs = false ∧ ((PyData.shownAll xs).map (·.length)).sum + 2 * xs.length ≤ 510 * nodsA xs
  | [], _ => ⟨rfl, rfl, by simp [PyData.shownAll, nodsA]⟩
  | x :: r, h => by
    have h' : okI x = true ∧ okIs r = true := by simpa [okIs] using h
    obtain ⟨a1, a2, a3⟩ := okI_show x h'.1
    obtain ⟨b1, b2, b3⟩ := okIs_show r h'.2
    refine ⟨by simp [PyData.showableAll, a1, b1], by simp [PyData.hasDictAll, a2, b2], ?_⟩
    simp only [PyData.shownAll, List.map_cons, List.sum_cons, List.length_cons, nodsA]
    omega
theorem shownAll_len : ∀ xs : List PyData, (PyData.shownAll xs).length = xs.length
  | [] => rfl
  | x :: r => by simp only [PyData.shownAll, List.length_cons, shownAll_len r]
end
/-- data whose repr may be asked -/
def shw (d : PyData) : Prop := okI d = true ∧ nods d ≤ 30000 ∧ d.depth ≤ 60
theorem shw.fits {d : PyData} (h : shw d) : d.shown.length ≤ sizeLine := by
  have := (okI_show d h.1).2.2
  have e : sizeLine = 16777216 := sizeLine_eq
  have := h.2.1
  omega
section
variable {F : Fm} {K : Kx}
def rRepr (K : Fg) : List V → Hp → VK → Prop := fun xs H Q => ∃ x d, xs = [x] ∧ Dp K H x d ∧ shw d ∧ Q (.str d.shown) H
theorem call_repr {X : Cx} (hg : X.A.guards = some []) (hu : X.A.units + 64 < cLine) : CallR X (.builtin "repr") (rRepr X.K) := by
  intro pins s σ H xs us Q I r h
  obtain ⟨x, d, rfl, hd, hs, q⟩ := h
  cases r with
  | cons rx rr =>
    cases rr
    obtain ⟨as, rd⟩ := Dp.reads I d x _ hd rx
    obtain ⟨s1, s2, _⟩ := okI_show d hs.1
    cases hd with
    | non => cases (show _ = Value.none from rx); exact PySem.P.repr_of_none ⟨.str _, H, I.tok _, ⟨_, rfl⟩, q⟩
    | bl b => cases (show _ = Value.bool b from rx); exact PySem.P.repr_of_bool ⟨.str _, H, I.tok _, ⟨_, rfl⟩, q⟩
    | int i =>
      obtain ⟨t, rfl⟩ := (show ∃ t, _ = Value.int i t from rx)
      exact PySem.P.repr_of_int (log_1920 (by simpa [okI] using hs.1)) ⟨.str _, H, I.tok _, ⟨_, rfl⟩, q⟩
    | str x =>
      obtain ⟨t, rfl⟩ := (show ∃ t, _ = Value.str x t from rx)
      exact PySem.P.repr_of_str ⟨.str _, H, I.tok _, ⟨_, rfl⟩, q⟩ hs.fits
    | @lst a xs ds h1 h2 =>
      cases (show _ = Value.ref a from rx)
      refine repr_of_reads' rd s1 (PyData.noDict_hsm s2) hg (by have := hs.2.2; omega) (fun _ _ e => e) (fun h' u tk hk => ?_) hs.fits
      exact ⟨.str _, H, I.kept (t' := tk) hk, ⟨_, rfl⟩, q⟩
    | @tup a xs ds h1 h2 =>
      cases (show _ = Value.ref a from rx)
      refine repr_of_reads' rd s1 (PyData.noDict_hsm s2) hg (by have := hs.2.2; omega) (fun _ _ e => e) (fun h' u tk hk => ?_) hs.fits
      exact ⟨.str _, H, I.kept (t' := tk) hk, ⟨_, rfl⟩, q⟩
theorem cRepr (i) : CallR (F.X i) (.builtin "repr") (rRepr F.K) := by
  have h := call_repr (X := F.X i) (F.gu i) (F.room i).units
  rw [F.eK i] at h
  exact h
def gRepr : GC
  | [.d x], R => shw x ∧ R (.d (.str x.shown))
  | _, _ => False
theorem sRepr : SC K (rRepr K) gRepr := fun C σ ρ H vs xs R Q G o h k => by
  match xs, h, o with
  | [.d d], h, o =>
    obtain ⟨v, rfl, o1⟩ := o.one
    exact ⟨v, d, rfl, (Rd.mono mask_le o1).dp, h.1, G.fin k (fun _ => .str _) h.2⟩
end
end Px

set_option Elab.async false
set_option linter.all false
set_option maxRecDepth 100000
set_option maxHeartbeats 2000000
/-! Px: targets, walks, comprehensions, statements. -/
namespace Px
open PySem PySem.Spec PyProof.Rows L2

theorem mask_sub {B B' : Addr → Prop} {H : Hp} (h : ∀ a, B' a → B a) : Ex (mask B H) (mask B' H) := fun a o e => by
  obtain ⟨nb, e⟩ := mask_of e
  exact mask_at (fun z => nb (h a z)) e
theorem set_at {α : Type} {l : List α} {i j : Nat} {x y : α} (h : (l.set i x)[j]? = some y) : (j = i ∧ y = x ∧ i < l.length) ∨ (j ≠ i ∧ l[j]? = some y) := by
  by_cases e : i = j
  · subst e
    rw [List.getElem?_set_self'] at h
    cases q : l[i]? with
    | none => rw [q] at h; cases h
    | some z =>
      rw [q] at h
      exact .inl ⟨rfl, (Option.some.inj h).symm, (List.getElem?_eq_some_iff.mp q).1⟩
  · rw [List.getElem?_set_ne e] at h
    exact .inr ⟨fun z => e z.symm, h⟩
theorem set_self {α : Type} {l : List α} {i : Nat} {x : α} (h : i < l.length) : (l.set i x)[i]? = some x := by simp [h]
theorem set_oth {α : Type} {l : List α} {i j : Nat} {x : α} (h : j ≠ i) : (l.set i x)[j]? = l[j]? := List.getElem?_set_ne (fun z => h z.symm)

section
variable {K : Kx} {C : Ct} {σ : Sg} {ρ : En} {H H' : Hp}
theorem bar_set {i : Nat} {v : V} {x : Vl} {a : Addr} (h : bar C.B (σ.set i (some v)) (ρ.set i (.v x)) a) : bar C.B σ ρ a := by
  rcases h with h | ⟨j, xs, h1, h2⟩
  · exact .inl h
  · rcases set_at h1 with ⟨_, e, _⟩ | ⟨ne, e1⟩
    · cases e
    · rw [set_oth ne] at h2
      exact .inr ⟨j, xs, e1, h2⟩
theorem Good.set (G : Good K C σ ρ H) {i : Nat} {v : V} {x : Vl} (hi : i < ρ.length) (ox : VlOk K (mq C σ ρ H) v x) :
    Good K C (σ.set i (some v)) (ρ.set i (.v x)) H ∧ Ex (mq C σ ρ H) (mq C (σ.set i (some v)) (ρ.set i (.v x)) H) := by
  have ex : Ex (mq C σ ρ H) (mq C (σ.set i (some v)) (ρ.set i (.v x)) H) := mask_sub fun a h => bar_set h
  refine ⟨⟨G.eS, G.ct, G.si, G.bd, G.fr, by simp [G.len], fun j y e => ?_, fun j xs e => ?_, fun j k xs ys p e1 e2 e3 e4 => ?_⟩, ex⟩
  · rcases set_at e with ⟨rfl, e, _⟩ | ⟨ne, e⟩
    · cases e
      exact ⟨v, set_self (by rw [← G.len]; exact hi), ox.mono ex⟩
    · obtain ⟨w, h1, h2⟩ := G.sl j y e
      exact ⟨w, by rw [set_oth ne]; exact h1, h2.mono ex⟩
  · rcases set_at e with ⟨rfl, e, _⟩ | ⟨ne, e⟩
    · cases e
    · obtain ⟨p, vs, h1, h2, h3, h4, h5⟩ := G.ow j xs e
      exact ⟨p, vs, by rw [set_oth ne]; exact h1, h2, h3.mono ex, h4, h5⟩
  · rcases set_at e1 with ⟨_, e, _⟩ | ⟨n1, e1⟩
    · cases e
    · rcases set_at e2 with ⟨_, e, _⟩ | ⟨n2, e2⟩
      · cases e
      · rw [set_oth n1] at e3
        rw [set_oth n2] at e4
        exact G.inj j k xs ys p e1 e2 e3 e4
/-- an own list becomes a plain one -/
def frz (ρ : En) (i : Nat) : En := match ρ[i]? with
  | some (.own xs) => ρ.set i (.v (.d (.list xs)))
  | _ => ρ
theorem Good.frz (G : Good K C σ ρ H) (i : Nat) : Good K C σ (frz ρ i) H ∧ Ex (mq C σ ρ H) (mq C σ (frz ρ i) H) := by
  unfold Px.frz
  split
  · rename_i xs e
    obtain ⟨p, vs, h1, h2, h3, h4, h5⟩ := G.ow i xs e
    have hi : i < ρ.length := (List.getElem?_eq_some_iff.mp e).1
    have sub : ∀ a, bar C.B σ (ρ.set i (.v (.d (.list xs)))) a → bar C.B σ ρ a := fun a h => by
      rcases h with h | ⟨j, ys, q1, q2⟩
      · exact .inl h
      · rcases set_at q1 with ⟨_, z, _⟩ | ⟨ne, q1⟩
        · cases z
        · exact .inr ⟨j, ys, q1, q2⟩
    have ex : Ex (mq C σ ρ H) (mq C σ (ρ.set i (.v (.d (.list xs)))) H) := mask_sub sub
    have np : ¬ bar C.B σ (ρ.set i (.v (.d (.list xs)))) p := fun h => by
      rcases h with h | ⟨j, ys, q1, q2⟩
      · exact h5 h
      · rcases set_at q1 with ⟨_, z, _⟩ | ⟨ne, q1⟩
        · cases z
        · exact ne (G.inj j i ys xs p q1 e q2 h1)
    refine ⟨⟨G.eS, G.ct, G.si, G.bd, G.fr, by simp [G.len], fun j y z => ?_, fun j ys z => ?_, fun j k ys zs q e1 e2 e3 e4 => ?_⟩, ex⟩
    · rcases set_at z with ⟨rfl, z, _⟩ | ⟨ne, z⟩
      · cases z
        exact ⟨_, h1, .lst (mask_at np h2) (h3.mono ex)⟩
      · obtain ⟨w, q1, q2⟩ := G.sl j y z
        exact ⟨w, q1, q2.mono ex⟩
    · rcases set_at z with ⟨rfl, z, _⟩ | ⟨ne, z⟩
      · cases z
      · obtain ⟨q, ws, a1, a2, a3, a4, a5⟩ := G.ow j ys z
        exact ⟨q, ws, a1, a2, a3.mono ex, a4, a5⟩
    · rcases set_at e1 with ⟨_, z, _⟩ | ⟨n1, e1⟩
      · cases z
      · rcases set_at e2 with ⟨_, z, _⟩ | ⟨n2, e2⟩
        · cases z
        · exact G.inj j k ys zs q e1 e2 e3 e4
  · exact ⟨G, Ex.refl _⟩
theorem Good.h0 (G : Good K C σ ρ H) {p : Addr} (n : H p = none) : C.H0 p = none := by
  cases q : C.H0 p with
  | none => rfl
  | some o =>
    by_cases hs : C.S p
    · exact absurd n (G.ct.th _ _ G.si p hs)
    · rw [G.fr p o hs q] at n; cases n
/-- a new list goes to a slot as its own -/
theorem Good.own (G : Good K C σ ρ H) {i : Nat} {p : Addr} {vs : List V} {ds : List PyData} (hi : i < ρ.length) (n : H p = none) {m : Nat} (t : Tr C.S (K.SI m) H H') (hp : H' p = some (.lst vs))
    (r : RdA K (mask (fun a => bar C.B σ ρ a ∨ a = p) H') vs ds) :
    Good K (C.up m) (σ.set i (some (.ref p))) (ρ.set i (.own ds)) H' ∧ Ex (mq C σ ρ H) (mq C (σ.set i (some (.ref p))) (ρ.set i (.own ds)) H') := by
  have G' := G.tr t
  have sub : ∀ a, bar C.B (σ.set i (some (.ref p))) (ρ.set i (.own ds)) a → bar C.B σ ρ a ∨ a = p := fun a h => by
    rcases h with h | ⟨j, ys, q1, q2⟩
    · exact .inl (.inl h)
    · rcases set_at q1 with ⟨rfl, z, _⟩ | ⟨ne, q1⟩
      · rcases set_at q2 with ⟨_, z2, _⟩ | ⟨ne, _⟩
        · cases z2; exact .inr rfl
        · exact absurd rfl ne
      · rw [set_oth ne] at q2
        exact .inl (.inr ⟨j, ys, q1, q2⟩)
  have e2 : Ex (mask (fun a => bar C.B σ ρ a ∨ a = p) H') (mq C (σ.set i (some (.ref p))) (ρ.set i (.own ds)) H') := mask_sub sub
  have e1 : Ex (mq C σ ρ H) (mask (fun a => bar C.B σ ρ a ∨ a = p) H') := fun a o e => by
    obtain ⟨nb, e⟩ := mask_of e
    have ne : a ≠ p := ne_of_none e n
    exact mask_at (fun z => z.elim nb ne) (t.1 a o (fun s => nb (.inl (G.ct.sb a s))) e)
  have ex := e1.trans e2
  have npB : ¬ C.B p := fun z => G.bd p z n
  have ne_p : ∀ (j : Nat) (xs : List PyData) (q : Addr), ρ[j]? = some (Sl.own xs) → σ[j]? = some (some (V.ref q)) → q ≠ p := fun j xs q q1 q2 z => by
    subst z
    obtain ⟨q', ws, a1, a2, _⟩ := G.ow j xs q1
    rw [q2] at a1
    cases a1
    rw [n] at a2
    cases a2
  refine ⟨⟨G.eS, G.ct, t.2, G'.bd, G'.fr, by simp [G.len], fun j y z => ?_, fun j ys z => ?_, fun j k ys zs q q1 q2 q3 q4 => ?_⟩, ex⟩
  · rcases set_at z with ⟨_, z, _⟩ | ⟨ne, z⟩
    · cases z
    · obtain ⟨w, a1, a2⟩ := G.sl j y z
      exact ⟨w, by rw [set_oth ne]; exact a1, a2.mono ex⟩
  · rcases set_at z with ⟨rfl, z, _⟩ | ⟨ne, z⟩
    · cases z
      exact ⟨p, vs, set_self (by rw [← G.len]; exact hi), hp, r.mono e2, G.h0 n, npB⟩
    · obtain ⟨q, ws, a1, a2, a3, a4, a5⟩ := G.ow j ys z
      exact ⟨q, ws, by rw [set_oth ne]; exact a1, t.1 q _ (fun s => a5 (G.ct.sb q s)) a2, a3.mono ex, a4, a5⟩
  · rcases set_at q1 with ⟨ej, z, _⟩ | ⟨n1, p1⟩
    · rcases set_at q2 with ⟨ek, _, _⟩ | ⟨n2, p2⟩
      · exact ej.trans ek.symm
      · rw [set_oth n2] at q4
        rw [ej] at q3
        rcases set_at q3 with ⟨_, z3, _⟩ | ⟨ne, _⟩
        · cases z3
          exact absurd rfl (ne_p k zs _ p2 q4)
        · exact absurd rfl ne
    · rw [set_oth n1] at q3
      rcases set_at q2 with ⟨ek, z, _⟩ | ⟨n2, p2⟩
      · rw [ek] at q4
        rcases set_at q4 with ⟨_, z3, _⟩ | ⟨ne, _⟩
        · cases z3
          exact absurd rfl (ne_p j ys _ p1 q3)
        · exact absurd rfl ne
      · rw [set_oth n2] at q4
        exact G.inj j k ys zs q p1 p2 q3 q4
/-- an own list is stored anew -/
theorem Good.put (G : Good K C σ ρ H) {i : Nat} {p : Addr} {vs : List V} {xs ds : List PyData} (e : ρ[i]? = some (.own xs)) (e2 : σ[i]? = some (some (.ref p))) (r : RdA K (mq C σ ρ H) vs ds) :
    Good K C σ (ρ.set i (.own ds)) (upd H p (.lst vs)) ∧ Ex (mq C σ ρ H) (mq C σ (ρ.set i (.own ds)) (upd H p (.lst vs))) := by
  obtain ⟨p', ws, h1, h2, h3, h4, h5⟩ := G.ow i xs e
  rw [e2] at h1
  cases h1
  have hi : i < ρ.length := (List.getElem?_eq_some_iff.mp e).1
  have bp : bar C.B σ ρ p := .inr ⟨i, xs, e, e2⟩
  have sub : ∀ a, bar C.B σ (ρ.set i (.own ds)) a → bar C.B σ ρ a := fun a h => by
    rcases h with h | ⟨j, ys, q1, q2⟩
    · exact .inl h
    · rcases set_at q1 with ⟨rfl, z, _⟩ | ⟨ne, q1⟩
      · exact .inr ⟨j, xs, e, q2⟩
      · exact .inr ⟨j, ys, q1, q2⟩
  have ex : Ex (mq C σ ρ H) (mq C σ (ρ.set i (.own ds)) (upd H p (.lst vs))) := fun a o q => by
    obtain ⟨nb, q⟩ := mask_of q
    have ne : a ≠ p := fun z => nb (z ▸ bp)
    exact mask_at (fun z => nb (sub a z)) (by rw [upd_ne ne]; exact q)
  have nS : ¬ C.S p := fun s => h5 (G.ct.sb p s)
  refine ⟨⟨G.eS, G.ct, G.ct.st _ H _ (fun a s => by rw [upd_ne (fun z => nS (by rw [← z]; exact s))]) G.si, fun a b z => ?_, fun a o ns q => ?_, by simp [G.len], fun j y z => ?_, fun j ys z => ?_, fun j k ys zs q q1 q2 q3 q4 => ?_⟩, ex⟩
  · by_cases ea : a = p
    · subst ea; rw [upd_same] at z; cases z
    · rw [upd_ne ea] at z; exact G.bd a b z
  · rw [upd_ne (ne_of_none q h4)]
    exact G.fr a o ns q
  · rcases set_at z with ⟨_, z, _⟩ | ⟨ne, z⟩
    · cases z
    · obtain ⟨w, a1, a2⟩ := G.sl j y z
      exact ⟨w, a1, a2.mono ex⟩
  · rcases set_at z with ⟨rfl, z, _⟩ | ⟨ne, z⟩
    · cases z
      exact ⟨p, vs, e2, upd_same, r.mono ex, h4, h5⟩
    · obtain ⟨q, us, a1, a2, a3, a4, a5⟩ := G.ow j ys z
      have nq : q ≠ p := fun w => ne (G.inj j i ys xs p z e (w ▸ a1) e2)
      exact ⟨q, us, a1, by rw [upd_ne nq]; exact a2, a3.mono ex, a4, a5⟩
  · have back : ∀ (j : Nat) (ys : List PyData), (ρ.set i (Sl.own ds))[j]? = some (Sl.own ys) → ∃ ys', ρ[j]? = some (Sl.own ys') := fun j ys z => by
      rcases set_at z with ⟨rfl, _, _⟩ | ⟨_, z⟩
      · exact ⟨xs, e⟩
      · exact ⟨ys, z⟩
    obtain ⟨ys', b1⟩ := back j ys q1
    obtain ⟨zs', b2⟩ := back k zs q2
    exact G.inj j k ys' zs' q b1 b2 q3 q4
end

/-! ### targets -/
theorem wipe_get {σ : Sg} {i : Nat} : ∀ (L : List Nat), (wipe σ L)[i]? = if i ∈ L ∧ i < σ.length then some none else σ[i]?
  | [] => by simp [wipe]
  | v :: L => by
    have ih := wipe_get (σ := σ) (i := i) L
    have hl := wipe_length σ L
    show ((wipe σ L).set v none)[i]? = _
    by_cases e : v = i
    · subst e
      by_cases hv : v < σ.length
      · rw [set_self (by rw [hl]; exact hv), if_pos ⟨by simp, hv⟩]
      · rw [List.set_eq_of_length_le (by rw [hl]; omega), ih, if_neg (fun z => hv z.2), if_neg (fun z => hv z.2)]
    · rw [List.getElem?_set_ne e, ih]
      have : (i ∈ L ∧ i < σ.length) ↔ (i ∈ v :: L ∧ i < σ.length) := ⟨fun z => ⟨List.mem_cons_of_mem _ z.1, z.2⟩, fun z => ⟨(List.mem_cons.mp z.1).resolve_left fun q => e q.symm, z.2⟩⟩
      simp only [this]
theorem wipe_len {σ : Sg} (L : List Nat) : (wipe σ L).length = σ.length := wipe_length σ L
theorem wipe_eq {σ σ' : Sg} {L : List Nat} (h : σ.length = σ'.length) (g : ∀ i, i ∉ L → σ[i]? = σ'[i]?) : wipe σ L = wipe σ' L := by
  apply List.ext_getElem?
  intro i
  rw [wipe_get, wipe_get, h]
  by_cases z : i ∈ L ∧ i < σ'.length
  · rw [if_pos z, if_pos z]
  · rw [if_neg z, if_neg z]
    by_cases m : i ∈ L
    · have : ¬ i < σ'.length := fun q => z ⟨m, q⟩
      rw [List.getElem?_eq_none (by omega), List.getElem?_eq_none (by omega)]
    · exact g i m
theorem of_wipe {σ σ' : Sg} {L : List Nat} (h : wipe σ L = wipe σ' L) : σ.length = σ'.length ∧ ∀ i, i ∉ L → σ[i]? = σ'[i]? := by
  refine ⟨by rw [← wipe_len (σ := σ) L, h, wipe_len], fun i m => ?_⟩
  have q := congrArg (fun l => l[i]?) h
  simp only [wipe_get] at q
  rw [if_neg (fun z => m z.1), if_neg (fun z => m z.1)] at q
  exact q
abbrev FG := Vl → En → (En → Prop) → Prop
def SG (K : Kx) (g : TG) (L : List Nat) (f : FG) : Prop := ∀ (C : Ct) (σ : Sg) (ρ : En) (H : Hp) (v : V) (x : Vl) (Nx : En → Prop) (Q : Sg → Hp → Prop), Good K C σ ρ H → VlOk K (mq C σ ρ H) v x → f x ρ Nx →
  (∀ σ' ρ', Good K C σ' ρ' H → Ex (mq C σ ρ H) (mq C σ' ρ' H) → wipe σ' L = wipe σ L → Nx ρ' → Q σ' H) → g v σ H Q
abbrev FGs := List PyData → En → (En → Prop) → Prop
def SGs (K : Kx) (g : TGs) (L : List Nat) (f : FGs) : Prop := ∀ (C : Ct) (σ : Sg) (ρ : En) (H : Hp) (vs : List V) (xs : List PyData) (Nx : En → Prop) (Q : Sg → Hp → Prop), Good K C σ ρ H → RdA K (mq C σ ρ H) vs xs → f xs ρ Nx →
  (∀ σ' ρ', Good K C σ' ρ' H → Ex (mq C σ ρ H) (mq C σ' ρ' H) → wipe σ' L = wipe σ L → Nx ρ' → Q σ' H) → g vs σ H Q
structure Eg (F : Fm) (e : Expr) (L : List Nat) (f : FG) : Prop where
  ex : ∃ t, (∀ i, PG (F.X i) e t) ∧ SG F.K t L f
structure Egs (F : Fm) (es : List Expr) (L : List Nat) (f : FGs) : Prop where
  ex : ∃ t, (∀ i, PGs (F.X i) es t) ∧ SGs F.K t L f
section
variable {F : Fm} {K : Kx} {e : Expr} {es : List Expr} {pos p : Pos}
def gNm (i : Nat) : FG := fun x ρ Nx => i < ρ.length ∧ Nx (ρ.set i (.v x))
theorem sg_name {i : Nat} : SG K (gName i) [i] (gNm i) := fun C σ ρ H v x Nx Q G ox h k => by
  obtain ⟨G', ex⟩ := G.set h.1 ox
  exact k _ _ G' ex (wipe_eq (by simp) fun j m => set_oth (by simpa using m)) h.2
theorem g_name (i : Nat) {x : Str} (hi : F.N[i]? = some x) (hx : ∀ j, Loc (F.X j).env.scope x) (hf : ∀ j, (F.X j).fn x = true ∨ (F.X j).env.scope.names.lookup x = some .local) : Eg F (.Name x p) [i] (gNm i) :=
  ⟨_, fun j => pg_name (by rw [F.eN]; exact F.nd) (by rw [F.eN]; exact hi) (hx j) (hf j), sg_name⟩
theorem gs_nil : Egs F [] [] (fun xs ρ Nx => xs = [] ∧ Nx ρ) := ⟨_, fun _ => pgs_nil, fun C σ ρ H vs xs Nx Q G r h k => by
  obtain ⟨rfl, h⟩ := h
  cases r
  exact ⟨rfl, k σ ρ G (Ex.refl _) rfl h⟩⟩
theorem gs_cons {L L' : List Nat} {f : FG} {g : FGs} (h : Eg F e L f) (hs : Egs F es L' g) (hh : ∀ i, assignEach (e :: es) (F.X i).env = ((assignEach [e] (F.X i).env) ++ assignEach es (F.X i).env) := by intro _; rfl) (q : ∀ {X : Cx} {t : TG} {u : TGs}, PG X e t → PGs X es u → PGs X (e :: es) (gCons t u) := by intro _ _ _ a b; exact pgs_cons a b) :
    Egs F (e :: es) (L ++ L') (fun xs ρ Nx => match xs with | x :: r => f (.d x) ρ fun ρ1 => g r ρ1 Nx | [] => False) := by
  obtain ⟨t, pt, st⟩ := h
  obtain ⟨u, pu, su⟩ := hs
  refine ⟨_, fun i => q (pt i) (pu i), fun C σ ρ H vs xs Nx Q G r hf k => ?_⟩
  match xs, r, hf with
  | x :: xs, r, hf =>
    cases r with
    | cons r1 r2 =>
      refine ⟨_, _, rfl, st C σ ρ H _ (.d x) _ _ G r1 hf fun σ1 ρ1 G1 e1 w1 h1 => su C σ1 ρ1 H _ xs _ _ G1 (r2.mono e1) h1 fun σ2 ρ2 G2 e2 w2 h2 => k σ2 ρ2 G2 (e1.trans e2) ?_ h2⟩
      obtain ⟨a1, a2⟩ := of_wipe w1
      obtain ⟨b1, b2⟩ := of_wipe w2
      exact wipe_eq (b1.trans a1) fun i m => (b2 i fun z => m (List.mem_append_right _ z)).trans (a2 i fun z => m (List.mem_append_left _ z))
theorem g_tup {L : List Nat} {g : FGs} {k : Nat} {n : Nat} (h : Egs F es L g) (hn : es.length = n) (q : ∀ {X : Cx} {t : TGs}, X.calm = true → PGs X es t → PG X (.Tuple es k pos) (gTup X.K n t)) :
    Eg F (.Tuple es k pos) L (fun x ρ Nx => match x with | .d (.tuple xs) => xs.length = n ∧ g xs ρ Nx | _ => False) := by
  obtain ⟨t, pt, st⟩ := h
  refine ⟨gTup F.K n t, fun i => by have := q (F.calm i) (pt i); rw [F.eK i] at this; exact this, fun C σ ρ H v x Nx Q G ox hf kk => ?_⟩
  match x, ox, hf with
  | .d (.tuple xs), ox, hf =>
    obtain ⟨a, vs, rfl, ha, ra⟩ := Rd.inv_tuple ox
    exact ⟨a, vs, rfl, Ex.sqt mask_le ha, by rw [ra.length]; exact hf.1, st C σ ρ H vs xs Nx Q G ra hf.2 kk⟩
end

/-! ### walks -/
abbrev FI := En → (List Vl → Prop) → Prop
structure WOk (K : Kx) (M0 : Hp) (J : It) (items : List Vl) : Prop where
  ex : ∃ G Y, Walk J items.length G Y ∧ (∀ H, Ex M0 H → G H) ∧ ∀ i H x H', i < items.length → Ex M0 H → Y i H x H' → ∃ it, items[i]? = some it ∧ ((H' = H ∧ VlOk K M0 x it) ∨ ∃ T o, H T = none ∧ H' = upd H T o ∧ VlOk K (upd M0 T o) x it)
def SI (K : Kx) (wi : TI) (c : Nat) (f : FI) : Prop := ∀ (C : Ct) (σ : Sg) (ρ : En) (H : Hp) (R : List Vl → Prop) (Q : It → Hp → Prop), C.m + c ≤ lim → Good K C σ ρ H → f ρ R →
  (∀ J H' items m, C.m ≤ m → m ≤ C.m + c → Tr C.S (K.SI m) H H' → WOk K (mq C σ ρ H') J items → R items → Q J H') → wi σ H Q
structure Ei (F : Fm) (tg e : Expr) (c : Nat) (f : FI) : Prop where
  ex : ∃ t, (∀ i, PI (F.X i) tg e t) ∧ SI F.K t c f
theorem Ex.sq {K : Kx} {H H' : Hp} {a : Addr} {xs : List V} (e : Ex H H') (h : H a = some (.lst xs)) : SqL K H' a xs := SqL.of (e _ _ h)
section
variable {F : Fm} {K : Kx} {tg e e2 : Expr} {es : List Expr} {pos p : Pos} {n : Nat}
theorem WOk.list {M0 : Hp} {a : Addr} {vs : List V} {ds : List PyData} (h : M0 a = some (.lst vs)) (r : RdA K M0 vs ds) : WOk K M0 (Itl K a) (ds.map Vl.d) := by
  refine ⟨_, _, by rw [List.length_map, ← r.length]; exact walk_list, fun H e => e.sq h, fun i H x H' hi e y => ?_⟩
  obtain ⟨e1, e2⟩ := y
  obtain ⟨d, q1, q2⟩ := r.get' e2
  exact ⟨.d d, by simp [q1], .inl ⟨e1, q2⟩⟩
theorem WOk.tup {M0 : Hp} {a : Addr} {vs : List V} {ds : List PyData} (h : SqT K M0 a vs) (r : RdA K M0 vs ds) : WOk K M0 (Itt K a) (ds.map Vl.d) := by
  refine ⟨_, _, by rw [List.length_map, ← r.length]; exact walk_tup, fun H e => e.sqt h, fun i H x H' hi e y => ?_⟩
  obtain ⟨e1, e2⟩ := y
  obtain ⟨d, q1, q2⟩ := r.get' e2
  exact ⟨.d d, by simp [q1], .inl ⟨e1, q2⟩⟩
/-- a list -/
def asL (R : List Vl → Prop) : Vl → Prop
  | .d (.list xs) => R (xs.map Vl.d)
  | _ => False
def asT (R : List Vl → Prop) : Vl → Prop
  | .d (.tuple xs) => R (xs.map Vl.d)
  | _ => False
theorem i_list {f : FE} (h : Ee F e n f) : Ei F tg e n (fun ρ R => f ρ (asL R)) := by
  obtain ⟨t, pt, st⟩ := h
  refine ⟨iList F.K t, fun i => by have := pi_list (tg := tg) (pt i); rw [F.eK i] at this; exact this, fun C σ ρ H R Q hm G hf k => st C σ ρ H _ _ hm G hf fun v H1 x m l u t1 ox h1 => ?_⟩
  match x, ox, h1 with
  | .d (.list xs), ox, h1 =>
    obtain ⟨a, vs, rfl, ha, ra⟩ := Rd.inv_list ox
    exact ⟨a, rfl, ⟨vs, SqL.of (mask_le _ _ ha)⟩, k _ H1 _ m l u t1 (WOk.list ha ra) h1⟩
theorem i_tup {f : FE} (h : Ee F e n f) : Ei F tg e n (fun ρ R => f ρ (asT R)) := by
  obtain ⟨t, pt, st⟩ := h
  refine ⟨iTup F.K t, fun i => by have := pi_tup (tg := tg) (pt i); rw [F.eK i] at this; exact this, fun C σ ρ H R Q hm G hf k => st C σ ρ H _ _ hm G hf fun v H1 x m l u t1 ox h1 => ?_⟩
  match x, ox, h1 with
  | .d (.tuple xs), ox, h1 =>
    obtain ⟨a, vs, rfl, ha, ra⟩ := Rd.inv_tuple ox
    exact ⟨a, rfl, ⟨vs, Ex.sqt mask_le ha⟩, k _ H1 _ m l u t1 (WOk.tup ha ra) h1⟩
def irange0 (lo : Int) (n : Nat) : List Vl := (List.range n).map fun i => .d (.int (lo + (i : Nat)))
theorem irange_ex (lo : Int) (n : Nat) : ∃ xs : List Vl, xs = irange0 lo n := ⟨_, rfl⟩
/-- the range's items; nothing but irange_def opens it -/
noncomputable def irange (lo : Int) (n : Nat) : List Vl := Classical.choose (irange_ex lo n)
theorem irange_def (lo : Int) (n : Nat) : irange lo n = (List.range n).map fun i => .d (.int (lo + (i : Nat))) := Classical.choose_spec (irange_ex lo n)
theorem WOk.rng {M0 : Hp} {lo : Int} {n : Nat} : WOk K M0 (Itr lo n) (irange lo n) := by
  refine ⟨_, _, by rw [irange_def, List.length_map, List.length_range]; exact walk_range, fun _ _ => trivial, fun i H x H' hi e y => ?_⟩
  obtain ⟨e1, e2⟩ := y
  rw [irange_def] at hi ⊢
  rw [List.length_map, List.length_range] at hi
  exact ⟨_, by rw [List.getElem?_map, List.getElem?_range hi]; rfl, .inl ⟨e1, by rw [e2]; exact Rd.int _⟩⟩
def asR1 (R : List Vl → Prop) : List Vl → Prop
  | [.d (.int j)] => -(2 ^ 62) ≤ j ∧ j < 2 ^ 62 ∧ R (irange 0 j.toNat)
  | _ => False
def asR2 (R : List Vl → Prop) : List Vl → Prop
  | [.d (.int i), .d (.int j)] => (-(2 ^ 62) ≤ i ∧ i < 2 ^ 62 ∧ -(2 ^ 62) ≤ j ∧ j < 2 ^ 62) ∧ R (irange i (j - i).toNat)
  | _ => False
theorem i_rng1 {f : FA} (hm : F.mg "range" = none) (ha : Ea F [e] n f) (hg : ∀ i, Gl (F.X i) "range" := by intro _; rfl) (hs : ∀ i, starEach [e] (F.X i).env = [(false, eval e (F.X i).env)] := by intro _; rfl) :
    Ei F tg (.Call (.Name "range" p) [e] [] pos) n (fun ρ R => f ρ (asR1 R)) := by
  obtain ⟨t, pt, st⟩ := ha
  refine ⟨_, fun i => pi_range1 (hg i) (by rw [F.eM]; exact hm) (pt i) (hs i), fun C σ ρ H R Q hm G hf k => st C σ ρ H _ _ hm G hf fun vs H1 xs m l u t1 oxs h1 => ?_⟩
  match xs, oxs, h1 with
  | [.d (.int j)], oxs, h1 =>
    obtain ⟨v, rfl, o1⟩ := oxs.one
    exact ⟨j, by rw [Rd.inv_int o1], h1.1, h1.2.1, k _ H1 _ m l u t1 WOk.rng h1.2.2⟩
theorem i_rng2 {f : FA} (hm : F.mg "range" = none) (ha : Ea F [e, e2] n f) (hg : ∀ i, Gl (F.X i) "range" := by intro _; rfl)
    (hs : ∀ i, starEach [e, e2] (F.X i).env = [(false, eval e (F.X i).env), (false, eval e2 (F.X i).env)] := by intro _; rfl) (hs2 : ∀ i, starEach [e2] (F.X i).env = [(false, eval e2 (F.X i).env)] := by intro _; rfl) :
    Ei F tg (.Call (.Name "range" p) [e, e2] [] pos) n (fun ρ R => f ρ (asR2 R)) := by
  obtain ⟨t, pt, st⟩ := ha
  refine ⟨_, fun i => pi_range2 (hg i) (by rw [F.eM]; exact hm) (pt i) (hs i) (hs2 i), fun C σ ρ H R Q hm G hf k => st C σ ρ H _ _ hm G hf fun vs H1 xs m l u t1 oxs h1 => ?_⟩
  match xs, oxs, h1 with
  | [.d (.int i), .d (.int j)], oxs, h1 =>
    obtain ⟨v, w, rfl, o1, o2⟩ := oxs.two
    exact ⟨i, j, by rw [Rd.inv_int o1, Rd.inv_int o2], h1.1, k _ H1 _ m l u t1 WOk.rng h1.2⟩
/-- pairs that are made on the way -/
theorem pair_ok {M0 : Hp} {T : Addr} {x y : V} {dx dy : PyData} (n : M0 T = none) (hx : Rd K M0 x dx) (hy : Rd K M0 y dy) : VlOk K (upd M0 T (.tup [x, y])) (.ref T) (.d (.tuple [dx, dy])) := by
  have ex : Ex M0 (upd M0 T (.tup [x, y])) := fun a o e => by rw [upd_ne (ne_of_none e n)]; exact e
  exact Rd.tup (.inl (.inl upd_same)) (.cons (hx.mono ex) (.cons (hy.mono ex) .nil))
def pairs : List PyData → List PyData → List Vl
  | x :: xs, y :: ys => .d (.tuple [x, y]) :: pairs xs ys
  | _, _ => []
theorem pairs_len : ∀ xs ys : List PyData, (pairs xs ys).length = min xs.length ys.length
  | [], _ => by simp [pairs]
  | _ :: _, [] => by simp [pairs]
  | x :: xs, y :: ys => by simp only [pairs, List.length_cons, pairs_len xs ys]; omega
theorem pairs_get : ∀ (xs ys : List PyData) (i : Nat) (a b : PyData), xs[i]? = some a → ys[i]? = some b → (pairs xs ys)[i]? = some (.d (.tuple [a, b]))
  | [], _, _, _, _, h, _ => by simp at h
  | _ :: _, [], _, _, _, _, h => by simp at h
  | x :: xs, y :: ys, 0, a, b, h1, h2 => by simp at h1 h2; subst h1 h2; rfl
  | x :: xs, y :: ys, i + 1, a, b, h1, h2 => by simpa [pairs] using pairs_get xs ys i a b (by simpa using h1) (by simpa using h2)
theorem WOk.pairs {M0 : Hp} {J : It} {G : Hp → Prop} {vs ws : List V} {xs ys : List PyData} (w : ∀ {n : Nat}, n = min vs.length ws.length → Walk J n G (YPair (fun i => vs[i]?) (fun i => ws[i]?))) (hG : ∀ H, Ex M0 H → G H)
    (rx : RdA K M0 vs xs) (ry : RdA K M0 ws ys) : WOk K M0 J (Px.pairs xs ys) := by
  refine ⟨_, _, w (by rw [pairs_len, rx.length, ry.length]), hG, fun i H x H' hi e y => ?_⟩
  obtain ⟨T, a, b, rfl, n, rfl, e1, e2⟩ := y
  obtain ⟨da, q1, r1⟩ := rx.get' e1
  obtain ⟨db, q2, r2⟩ := ry.get' e2
  have n0 : M0 T = none := by
    cases q : M0 T with
    | none => rfl
    | some o => rw [e T o q] at n; cases n
  exact ⟨_, pairs_get xs ys i da db q1 q2, .inr ⟨T, _, n, rfl, pair_ok n0 r1 r2⟩⟩
theorem walk_zipT {a b : Addr} {xs ys : List V} {n : Nat} (hn : n = min xs.length ys.length) : Walk (RZ.ItzT K a b) n (fun H => SqT K H a xs ∧ SqT K H b ys) (YPair (fun i => xs[i]?) (fun i => ys[i]?)) := by
  subst hn
  refine ⟨fun i _ hi q => ?_, fun _ q => ⟨xs, ys, q.1, q.2, by omega⟩, fun i H v H' _ q y => ?_⟩
  · have h1 : i < xs.length := by omega
    have h2 : i < ys.length := by omega
    exact ⟨xs, ys, xs[i], ys[i], q.1, q.2, by simp [h1], by simp [h2]⟩
  · obtain ⟨T, x, z, h1, h2, h3, h4, h5⟩ := y
    exact ⟨T, x, z, h1, h2, h3, h4 xs q.1, h5 ys q.2⟩
def asZ (R : List Vl → Prop) : List Vl → Prop
  | [.d (.list xs), .d (.list ys)] => R (pairs xs ys)
  | [.d (.tuple xs), .d (.tuple ys)] => R (pairs xs ys)
  | _ => False
theorem i_zip {f : FA} {elts : List Expr} {kk : Nat} {tpos : Pos} (hm : F.mg "zip" = none) (ha : Ea F [e, e2] n f) (hg : ∀ i, Gl (F.X i) "zip" := by intro _; rfl)
    (hs : ∀ i, starEach [e, e2] (F.X i).env = (false, eval e (F.X i).env) :: starEach [e2] (F.X i).env := by intro _; rfl) (hpl : ∀ i, (backTo pos (starEach [e2] (F.X i).env)).any (·.1) = false := by intro _; rfl) :
    Ei F (.Tuple elts kk tpos) (.Call (.Name "zip" p) [e, e2] [] pos) n (fun ρ R => f ρ (asZ R)) := by
  obtain ⟨t, pt, st⟩ := ha
  refine ⟨RZ.iZipA F.K t, fun i => by have := RZ.pi_zipA (elts := elts) (kk := kk) (tpos := tpos) (p := p) (hg i) (by rw [F.eM]; exact hm) (pt i) (hs i) (hpl i); rw [F.eK i] at this; exact this, fun C σ ρ H R Q hm G hf k => st C σ ρ H _ _ hm G hf fun vs H1 xs m l u t1 oxs h1 => ?_⟩
  match xs, oxs, h1 with
  | [.d (.list xs), .d (.list ys)], oxs, h1 =>
    obtain ⟨v, w, rfl, o1, o2⟩ := oxs.two
    obtain ⟨a, us, rfl, ha, ra⟩ := Rd.inv_list o1
    obtain ⟨b, ws, rfl, hb, rb⟩ := Rd.inv_list o2
    exact ⟨a, b, us, ws, rfl, .inl ⟨SqL.of (mask_le _ _ ha), SqL.of (mask_le _ _ hb), k _ H1 _ m l u t1 (WOk.pairs (fun hn => walk_zip hn) (fun H e => ⟨e.sq ha, e.sq hb⟩) ra rb) h1⟩⟩
  | [.d (.tuple xs), .d (.tuple ys)], oxs, h1 =>
    obtain ⟨v, w, rfl, o1, o2⟩ := oxs.two
    obtain ⟨a, us, rfl, ha, ra⟩ := Rd.inv_tuple o1
    obtain ⟨b, ws, rfl, hb, rb⟩ := Rd.inv_tuple o2
    exact ⟨a, b, us, ws, rfl, .inr ⟨Ex.sqt mask_le ha, Ex.sqt mask_le hb, k _ H1 _ m l u t1 (WOk.pairs (fun hn => walk_zipT hn) (fun H e => ⟨e.sqt ha, e.sqt hb⟩) ra rb) h1⟩⟩
end
end Px

set_option Elab.async false
set_option linter.all false
set_option maxRecDepth 100000
set_option maxHeartbeats 2000000
/-! Px: comprehensions, statements, defs. -/
namespace Px
open PySem PySem.Spec PyProof.Rows L2

/-! ### comprehensions -/
def unown : Sl → Sl
  | .own _ => .non
  | s => s
def wipeE (ρ : En) : List Nat → En
  | [] => ρ
  | v :: vs => (wipeE ρ vs).set v .non
def blkE (ρ : En) (L : List Nat) : En := wipeE (ρ.map unown) L
theorem wipeE_len (ρ : En) : ∀ L : List Nat, (wipeE ρ L).length = ρ.length
  | [] => rfl
  | v :: L => by unfold wipeE; rw [List.length_set, wipeE_len ρ L]
theorem wipeE_get {ρ : En} {i : Nat} {s : Sl} : ∀ (L : List Nat), (wipeE ρ L)[i]? = some s → s = .non ∨ (i ∉ L ∧ ρ[i]? = some s)
  | [], h => .inr ⟨by simp, h⟩
  | v :: L, h => by
    rcases set_at h with ⟨_, e, _⟩ | ⟨ne, h⟩
    · exact .inl e
    · rcases wipeE_get L h with e | ⟨m, e⟩
      · exact .inl e
      · exact .inr ⟨fun z => (List.mem_cons.mp z).elim ne m, e⟩
theorem blkE_get {ρ : En} {L : List Nat} {i : Nat} {s : Sl} (h : (blkE ρ L)[i]? = some s) : s = .non ∨ ∃ x, s = .v x ∧ i ∉ L ∧ ρ[i]? = some (.v x) := by
  rcases wipeE_get L h with e | ⟨m, e⟩
  · exact .inl e
  · rw [List.getElem?_map] at e
    cases q : ρ[i]? with
    | none => rw [q] at e; cases e
    | some t =>
      rw [q] at e
      cases t with
      | non => exact .inl (Option.some.inj e).symm
      | own _ => exact .inl (Option.some.inj e).symm
      | v x => exact .inr ⟨x, (Option.some.inj e).symm, m, rfl⟩
@[reducible] def blkC (C : Ct) (σ : Sg) (ρ : En) (D : Addr) (m : Nat) : Ct := ⟨fun a => bar C.B σ ρ a ∨ a = D, C.S, fun _ => none, m⟩
section
variable {K : Kx} {C : Ct} {σ : Sg} {ρ : En} {H1 H : Hp} {D : Addr} {L : List Nat}
theorem blk_bar {σ' : Sg} {a : Addr} {m : Nat} (h : bar (blkC C σ ρ D m).B σ' (blkE ρ L) a) : bar C.B σ ρ a ∨ a = D := by
  rcases h with h | ⟨i, xs, h1, _⟩
  · exact h
  · rcases blkE_get h1 with e | ⟨x, e, _⟩ <;> cases e
theorem blk_ex {m : Nat} (hD : H1 D = none) (G : Good K C σ ρ H1) (t : Tr C.S (K.SI m) H1 H) : Ex (mq C σ ρ H1) (mask (fun a => bar C.B σ ρ a ∨ a = D) H) := fun a o e => by
  obtain ⟨nb, e⟩ := mask_of e
  exact mask_at (fun z => z.elim nb (ne_of_none e hD)) (t.1 a o (fun s => nb (.inl (G.ct.sb a s))) e)
theorem Good.blk {m : Nat} (G : Good K C σ ρ H1) (hD : H1 D = none) (t : Tr C.S (K.SI m) H1 H) (hH : H D ≠ none) : Good K (blkC C σ ρ D m) (wipe σ L) (blkE ρ L) H where
  eS := G.eS
  ct := ⟨fun a s => .inl (.inl (G.ct.sb a s)), G.ct.st, G.ct.th, G.ct.up⟩
  si := t.2
  bd := fun a b => by
    rcases b with b | b
    · intro z
      exact (G.tr t).nbar z b
    · rw [b]; exact hH
  fr := fun a o _ e => by cases e
  len := by unfold blkE; rw [wipeE_len, List.length_map, wipe_len, G.len]
  sl := fun i x e => by
    rcases blkE_get e with e | ⟨y, e, m, q⟩
    · cases e
    · cases e
      obtain ⟨v, h1, h2⟩ := G.sl i x q
      refine ⟨v, by rw [wipe_get, if_neg (fun z => m z.1)]; exact h1, h2.mono ((blk_ex hD G t).trans (mask_sub fun a z => blk_bar z))⟩
  ow := fun i xs e => by rcases blkE_get e with e | ⟨y, e, _⟩ <;> cases e
  inj := fun i j xs ys p e => by rcases blkE_get e with e | ⟨y, e, _⟩ <;> cases e
end
def lcF (fg : FG) (ft : FT) (fe : FE) (ρ : En) : List Vl → List PyData → (List PyData → Prop) → Prop
  | [], acc, R => R acc
  | x :: xs, acc, R => fg x ρ fun ρ2 => ft ρ2 fun b => if b = true then fe ρ2 fun y => (match y with | .d d => lcF fg ft fe ρ xs (acc ++ [d]) R | _ => False) else lcF fg ft fe ρ xs acc R
structure Ets (F : Fm) (es : List Expr) (c : Nat) (f : FT) : Prop where
  ex : ∃ t, (∀ i, PTs (F.X i) es t) ∧ ST F.K t c f
theorem ts_nil {F : Fm} : Ets F [] 0 (fun _ R => R true) := ⟨_, fun _ => pts_nil, fun C _ _ H _ _ _ G hf k => k true H C.m (Nat.le_refl _) le0 (Tr.refl G.si) hf⟩
theorem ts_one {F : Fm} {e : Expr} {n : Nat} {f : FT} (h : Et F e n f) : Ets F [e] n f := by
  obtain ⟨t, pt, st⟩ := h
  exact ⟨_, fun i => pts_one (pt i), st⟩
theorem turn_le {i n k l c : Nat} (hi : i < n) (hn : n ≤ k) (hc : l + k * c ≤ lim) : l + i * c + c ≤ lim := by
  have h1 : (i + 1) * c ≤ k * c := Nat.mul_le_mul_right c (by omega)
  rw [Nat.add_mul, Nat.one_mul] at h1
  omega
theorem turn_up {i l c m b : Nat} (h : m ≤ l + i * c) (h2 : b ≤ m + c) : b ≤ l + (i + 1) * c := by
  rw [Nat.add_mul, Nat.one_mul]
  omega
theorem sl_lc {K : Kx} {wi : TI} {g : TG} {tt : TT} {te : TE} {L : List Nat} {fi : FI} {fg : FG} {ft : FT} {fe : FE} {ni nt ne : Nat} (hi : SI K wi ni fi) (hg : SG K g L fg) (ht : ST K tt nt ft) (he : SE K te ne fe) :
    SL K (tLc wi g tt te L) (ni + 1000000 * (nt + ne)) (fun ρ R => fi ρ fun items => items.length < 1000000 ∧ lcF fg ft fe (blkE ρ L) items [] R) := fun C σ ρ H R Q hm G hf k =>
  hi C σ ρ H _ _ (by omega) G hf fun J H1 items m1 l1 u1 t1 wok h1 => by
    obtain ⟨hlen, hlc⟩ := h1
    obtain ⟨Gd, Y, walk, hG, hY⟩ := wok
    have G1 := G.tr t1
    intro D hD
    have nSD : ¬ C.S D := fun s => G1.ct.th _ _ G1.si D s hD
    have hm1 : m1 + 1000000 * (nt + ne) ≤ lim := by omega
    refine lc_it walk (fun i H => ∃ m, m1 ≤ m ∧ m ≤ m1 + i * (nt + ne) ∧ Tr C.S (K.SI m) H1 H ∧ ∃ acc vs, H D = some (.lst vs) ∧ RdA K (mask (fun a => bar C.B σ ρ a ∨ a = D) H) vs acc ∧ vs.length ≤ i ∧ lcF fg ft fe (blkE ρ L) (items.drop i) acc R) ?_ ?_ ?_ ?_
    · exact ⟨m1, Nat.le_refl _, by omega, G1.new hD, [], [], upd_same, .nil, Nat.le_refl _, by simpa using hlc⟩
    · rintro i H' _ ⟨m, _, _, t, _⟩
      exact hG H' ((G1.ex t).trans mask_le)
    · rintro i x H' H'' hi' ⟨m, lm, um, t, acc, vs, hd, hr, hl, hf⟩ y
      have hx : items[i]? = some items[i] := List.getElem?_eq_getElem hi'
      have hml : m + (nt + ne) ≤ lim := by
        have := turn_le hi' (Nat.le_of_lt hlen) hm1
        omega
      obtain ⟨it, e1, e2⟩ := hY i H' x H'' hi' ((G1.ex t).trans mask_le) y
      rw [hx] at e1
      have e1 : items[i] = it := Option.some.inj e1
      rw [List.drop_eq_getElem_cons hi', e1] at hf
      have hDn : H' D ≠ none := by rw [hd]; simp
      have GB : Good K (blkC C σ ρ D m) (wipe σ L) (blkE ρ L) H' := G1.blk hD t hDn
      have m0 : Ex (mq C σ ρ H1) (mq (blkC C σ ρ D m) (wipe σ L) (blkE ρ L) H') := (blk_ex hD G1 t).trans (mask_sub fun a z => blk_bar z)
      have step : Tr C.S (K.SI m) H' H'' ∧ VlOk K (mq (blkC C σ ρ D m) (wipe σ L) (blkE ρ L) H'') x it ∧ H'' D = some (.lst vs) := by
        rcases e2 with ⟨rfl, o⟩ | ⟨T, o, n, rfl, ok⟩
        · exact ⟨Tr.refl t.2, o.mono m0, hd⟩
        · have tt := GB.new (o := o) n
          refine ⟨tt, ok.mono fun a u z => ?_, by rw [upd_ne (ne_of_none hd n)]; exact hd⟩
          by_cases ea : a = T
          · subst ea
            rw [upd_same] at z
            cases z
            exact GB.mq_new n
          · rw [upd_ne ea] at z
            exact (GB.ex tt) a u (m0 a u z)
      obtain ⟨t2, ox, hd2⟩ := step
      refine hg (blkC C σ ρ D m) (wipe σ L) (blkE ρ L) H'' x it _ _ (GB.tr t2) ox hf fun σ2 ρ2 G2 x2 w2 h2 => ⟨?_, ?_⟩
      · rw [w2]
        exact wipe_eq (wipe_len L) fun j m => by rw [wipe_get, if_neg (fun z => m z.1)]
      · have acc_of : ∀ {H3 : Hp} {m3 : Nat}, Tr C.S (K.SI m3) H'' H3 → H3 D = some (.lst vs) := fun t3 => t3.1 D _ nSD hd2
        have rd_of : ∀ {H3 : Hp} {m3 : Nat}, Tr C.S (K.SI m3) H' H3 → RdA K (mask (fun a => bar C.B σ ρ a ∨ a = D) H3) vs acc := fun t3 => hr.mono (t3.ex fun a s => .inl (.inl (G1.ct.sb a s)))
        refine ht (blkC C σ ρ D m) σ2 ρ2 H'' _ _ (by show m + nt ≤ lim; omega) G2 h2 fun b H3 m3 l3 u3 t3 h3 => ?_
        have l3' : m ≤ m3 := l3
        have u3' : m3 ≤ m + nt := u3
        cases b with
        | false => exact iteF ⟨m3, by omega, turn_up um (by omega), (t.trans t2).trans t3, acc, vs, acc_of t3, rd_of (t2.trans t3), by omega, by simpa using h3⟩
        | true =>
          refine iteT (he (blkC C σ ρ D m3) σ2 ρ2 H3 _ _ (by show m3 + ne ≤ lim; omega) (G2.tr t3) (by simpa using h3) fun v H4 z m4 l4 u4 t4 oz h4 => ?_)
          have l4' : m3 ≤ m4 := l4
          have u4' : m4 ≤ m3 + ne := u4
          match z, oz, h4 with
          | .d d, oz, h4 =>
            have t34 := t3.trans t4
            have t24 := (t2.trans t3).trans t4
            have oz' : Rd K (mask (fun a => bar C.B σ ρ a ∨ a = D) H4) v d := Rd.mono (mask_sub fun a z => .inl z) oz
            have same : mask (fun a => bar C.B σ ρ a ∨ a = D) (upd H4 D (.lst (vs ++ [v]))) = mask (fun a => bar C.B σ ρ a ∨ a = D) H4 := by
              funext a
              unfold mask
              by_cases z : bar C.B σ ρ a ∨ a = D
              · rw [if_pos z, if_pos z]
              · rw [if_neg z, if_neg z, upd_ne (fun q => z (.inr q))]
            refine ⟨vs, acc_of t34, small_lt (by omega), m4, by omega, turn_up um (by omega), ⟨fun a o ns e => ?_, ?_⟩, acc ++ [d], vs ++ [v], upd_same, ?_, by simp; omega, h4⟩
            · rw [upd_ne (ne_of_none e hD)]
              exact (t.trans t24).1 a o ns e
            · exact G1.ct.st _ H4 _ (fun a s => by rw [upd_ne (fun q => nSD (by rw [← q]; exact s))]) t24.2
            · rw [same]
              exact (rd_of t24).append (.cons oz' .nil)
    · rintro H' ⟨m, lm, um, t, acc, vs, hd, hr, _, hf⟩
      rw [List.drop_length] at hf
      have : items.length * (nt + ne) ≤ 1000000 * (nt + ne) := Nat.mul_le_mul_right _ (Nat.le_of_lt hlen)
      exact k D H' vs acc m (by omega) (by omega) (G.back t1 hD) (t1.trans t) hd hr hf
section
variable {F : Fm} {e elt tg iter : Expr} {ifs : List Expr} {scope : Scope} {pos p : Pos} {fi : FI} {fg : FG} {ft : FT} {fe : FE} {ni nt ne : Nat}
theorem l_lc (own : List (Str × Nat)) (hi : Ei F tg iter ni fi) (ok : ∀ i, BlkOk F.N (F.X i).env.scope scope own) (hg : Eg (F.blk scope) tg (own.map (·.2)) fg) (ht : Ets (F.blk scope) ifs nt ft) (he : Ee (F.blk scope) elt ne fe)
    (hs : ∀ i x, foldedSetIterable iter (F.X i).env x = pure x := by intro _ _; rfl) :
    El F (.ListComp elt [⟨tg, iter, ifs, 0⟩] scope pos) (ni + 1000000 * (nt + ne)) (fun ρ R => fi ρ fun items => items.length < 1000000 ∧ lcF fg ft fe (blkE ρ (own.map (·.2))) items [] R) := by
  obtain ⟨wi, pi, si⟩ := hi
  obtain ⟨g, pg, sg⟩ := hg
  obtain ⟨tt, ptt, stt⟩ := ht
  obtain ⟨te, pte, ste⟩ := he
  exact ⟨_, fun i => pe_lc (F.calm i) (by rw [F.eN]; exact F.nd) (pi i) (by rw [F.eN]; exact ok i) (fun s H c cl fp => pg (i, s, H, c, cl, fp)) (fun s H c cl fp => ptt (i, s, H, c, cl, fp)) (fun s H c cl fp => pte (i, s, H, c, cl, fp)) (hs i), sl_lc si sg stt ste⟩
end

/-! ### statements -/
structure SEn where
  nx : En → Prop
  rt : Vl → Prop
  bk : En → Prop := fun _ => False
  ct : En → Prop := fun _ => False
abbrev FSt := En → SEn → Prop
structure Lk (K : Kx) (C : Ct) (c : Nat) (M : Hp) (N : SEn) (D : Ends) : Prop where
  nx : ∀ σ' ρ' H' m, C.m ≤ m → m ≤ C.m + c → Good K (C.up m) σ' ρ' H' → Ex M (mq C σ' ρ' H') → N.nx ρ' → D.nx σ' H'
  bk : ∀ σ' ρ' H' m, C.m ≤ m → m ≤ C.m + c → Good K (C.up m) σ' ρ' H' → Ex M (mq C σ' ρ' H') → N.bk ρ' → D.bk σ' H'
  ct : ∀ σ' ρ' H' m, C.m ≤ m → m ≤ C.m + c → Good K (C.up m) σ' ρ' H' → Ex M (mq C σ' ρ' H') → N.ct ρ' → D.ct σ' H'
  rt : ∀ v H' x m, C.m ≤ m → m ≤ C.m + c → K.SI m H' → (∀ a o, ¬ C.S a → C.H0 a = some o → H' a = some o) → VlOk K (mask C.B H') v x → N.rt x → D.rt v H'
theorem Lk.go {K : Kx} {C : Ct} {M M' : Hp} {N : SEn} {D : Ends} {c c' m1 : Nat} (l : Lk K C c M N D) (h1 : C.m ≤ m1) (h2 : m1 + c' ≤ C.m + c) (e : Ex M M') : Lk K (C.up m1) c' M' N D :=
  ⟨fun σ' ρ' H' m a b G x => l.nx σ' ρ' H' m (Nat.le_trans h1 a) (Nat.le_trans b h2) G (e.trans x), fun σ' ρ' H' m a b G x => l.bk σ' ρ' H' m (Nat.le_trans h1 a) (Nat.le_trans b h2) G (e.trans x),
    fun σ' ρ' H' m a b G x => l.ct σ' ρ' H' m (Nat.le_trans h1 a) (Nat.le_trans b h2) G (e.trans x), fun v H' x m a b => l.rt v H' x m (Nat.le_trans h1 a) (Nat.le_trans b h2)⟩
def SS (K : Kx) (t : TS) (c : Nat) (f : FSt) : Prop := ∀ (C : Ct) (σ : Sg) (ρ : En) (H : Hp) (N : SEn) (D : Ends), C.m + c ≤ lim → Good K C σ ρ H → f ρ N → Lk K C c (mq C σ ρ H) N D → t D σ H
structure E1 (F : Fm) (st : Stmt) (c : Nat) (f : FSt) : Prop where
  ex : ∃ t, (∀ i, PS (F.X i) st t) ∧ SS F.K t c f
structure Es (F : Fm) (sts : List Stmt) (c : Nat) (f : FSt) : Prop where
  ex : ∃ t, (∀ i, PSs (F.X i) sts t) ∧ SS F.K t c f
section
variable {F : Fm} {K : Kx} {st : Stmt} {sts a b : List Stmt} {e c iter tg : Expr} {pos p : Pos} {f g : FSt} {fe fa fb : FE} {ft : FT} {fl : FL} {fg : FG} {fi : FI} {x : Str} {n na nb ni nt ne : Nat}
theorem ss_nil : Es F [] 0 (fun ρ N => N.nx ρ) := ⟨_, fun _ => pss_nil, fun C σ ρ H N D _ G h l => l.nx σ ρ H C.m (Nat.le_refl _) le0 G (Ex.refl _) h⟩
theorem ss_cons (h : E1 F st na f) (hs : Es F sts nb g) : Es F (st :: sts) (na + nb) (fun ρ N => f ρ { N with nx := fun ρ' => g ρ' N }) := by
  obtain ⟨t, pt, s1⟩ := h
  obtain ⟨u, pu, s2⟩ := hs
  exact ⟨_, fun i => pss_cons (pt i) (pu i), fun C σ ρ H N D hm G hf l => s1 C σ ρ H { N with nx := fun ρ' => g ρ' N } { D with nx := u D } (by omega) G hf
    ⟨fun σ' ρ' H' m a b G' x h => s2 (C.up m) σ' ρ' H' N D (by show m + nb ≤ lim; omega) G' h (l.go a (by omega) x), fun σ' ρ' H' m a b => l.bk σ' ρ' H' m a (by omega), fun σ' ρ' H' m a b => l.ct σ' ρ' H' m a (by omega), fun v H' x m a b => l.rt v H' x m a (by omega)⟩⟩
/-- the own list at slot i is a plain one from here on -/
theorem ss_frz (i : Nat) (hs : Es F sts n g) : Es F sts n (fun ρ N => g (frz ρ i) N) := by
  obtain ⟨u, pu, s2⟩ := hs
  exact ⟨u, pu, fun C σ ρ H N D hm G hf l => let ⟨G', x⟩ := G.frz i; s2 C σ (frz ρ i) H N D hm G' hf (l.go (Nat.le_refl _) (Nat.le_refl _) x)⟩
theorem s_frz (i : Nat) (hs : E1 F st n g) : E1 F st n (fun ρ N => g (frz ρ i) N) := by
  obtain ⟨u, pu, s2⟩ := hs
  exact ⟨u, pu, fun C σ ρ H N D hm G hf l => let ⟨G', x⟩ := G.frz i; s2 C σ (frz ρ i) H N D hm G' hf (l.go (Nat.le_refl _) (Nat.le_refl _) x)⟩
theorem sw_of {te : TE} {i : Nat} (h : SE K te n fe) : SS K (tAsg te (gName i)) n (fun ρ N => fe ρ fun y => i < ρ.length ∧ N.nx (ρ.set i (.v y))) := fun C σ ρ H N D hm G hf l =>
  h C σ ρ H _ _ hm G hf fun v H1 y m l1 u1 t1 oy h1 => by
    obtain ⟨G', ex⟩ := (G.tr t1).set h1.1 oy
    exact l.nx _ _ _ m l1 u1 G' ((G.ex t1).trans ex) h1.2
theorem so_of {te : TE} {i : Nat} (h : SL K te n fl) : SS K (tAsg te (gName i)) n (fun ρ N => fl ρ fun ds => i < ρ.length ∧ N.nx (ρ.set i (.own ds))) := fun C σ ρ H N D hm G hf l =>
  h C σ ρ H _ _ hm G hf fun q H1 vs ds m l1 u1 hp t1 hv hr h1 => by
    obtain ⟨G', ex⟩ := G.own h1.1 hp t1 hv hr
    exact l.nx _ _ _ m l1 u1 G' ex h1.2
section
variable {p' : Pos}
/-- x = e -/
theorem s_set (i : Nat) (hi : F.N[i]? = some x) (he : Ee F e n fe) (hx : ∀ j, Loc (F.X j).env.scope x := by intro _; first | exact .inl rfl | exact .inr rfl)
    (hf : ∀ j, (F.X j).fn x = true ∨ (F.X j).env.scope.names.lookup x = some .local := by intro _; exact .inl rfl) (hs : ∀ j, swapsWith e (some (.Name x p')) pos.line (F.X j).env = pure false := by intro _; rfl) :
    E1 F (.Assign [.Name x p'] e pos) n (fun ρ N => fe ρ fun y => i < ρ.length ∧ N.nx (ρ.set i (.v y))) := by
  obtain ⟨t, pt, s⟩ := he
  exact ⟨_, fun j => ps_set (by rw [F.eN]; exact F.nd) (by rw [F.eN]; exact hi) (hx j) (pt j) (hs j) (hf j), sw_of s⟩
/-- x = a new list that is filled further on -/
theorem s_own (i : Nat) (hi : F.N[i]? = some x) (he : El F e n fl) (hx : ∀ j, Loc (F.X j).env.scope x := by intro _; first | exact .inl rfl | exact .inr rfl)
    (hf : ∀ j, (F.X j).fn x = true ∨ (F.X j).env.scope.names.lookup x = some .local := by intro _; exact .inl rfl) (hs : ∀ j, swapsWith e (some (.Name x p')) pos.line (F.X j).env = pure false := by intro _; rfl) :
    E1 F (.Assign [.Name x p'] e pos) n (fun ρ N => fl ρ fun ds => i < ρ.length ∧ N.nx (ρ.set i (.own ds))) := by
  obtain ⟨t, pt, s⟩ := he
  exact ⟨_, fun j => ps_set (by rw [F.eN]; exact F.nd) (by rw [F.eN]; exact hi) (hx j) (pt j) (hs j) (hf j), so_of s⟩
/-- x = [.. for ..], x a plain local name -/
theorem p_lc {elt : Expr} {ifs : List Expr} {scope : Scope} {fi : FI} {fg : FG} {ft : FT} {fe : FE} (i : Nat) (hi' : F.N[i]? = some x) (own : List (Str × Nat)) (hi : Ei F tg iter ni fi) (ok : ∀ i, BlkOk F.N (F.X i).env.scope scope own)
    (hg : Eg (F.blk scope) tg (own.map (·.2)) fg) (ht : Ets (F.blk scope) ifs nt ft) (he : Ee (F.blk scope) elt ne fe) (hyl : ∀ j, (F.X j).env.scope.names.lookup x = some .local)
    (hsw : ∀ j, swapsWith (.ListComp elt [⟨tg, iter, ifs, 0⟩] scope p) (some (.Name x p')) pos.line (F.X j).env = pure true) (hs : ∀ i x, foldedSetIterable iter (F.X i).env x = pure x := by intro _ _; rfl) :
    ∃ te, (∀ j, PS (F.X j) (.Assign [.Name x p'] (.ListComp elt [⟨tg, iter, ifs, 0⟩] scope p) pos) (tAsg te (gName i))) ∧
      SL F.K te (ni + 1000000 * (nt + ne)) (fun ρ R => fi ρ fun items => items.length < 1000000 ∧ lcF fg ft fe (blkE ρ (own.map (·.2))) items [] R) := by
  obtain ⟨wi, pi, si⟩ := hi
  obtain ⟨g, pg, sg⟩ := hg
  obtain ⟨tt, ptt, stt⟩ := ht
  obtain ⟨te, pte, ste⟩ := he
  exact ⟨_, fun i => ps_setLc (F.calm i) (by rw [F.eN]; exact F.nd) (by rw [F.eN]; exact hi') (hyl i) (hsw i) (pi i) (by rw [F.eN]; exact ok i) (fun s H c cl fp => pg (i, s, H, c, cl, fp)) (fun s H c cl fp => ptt (i, s, H, c, cl, fp)) (fun s H c cl fp => pte (i, s, H, c, cl, fp)) (hs i), sl_lc si sg stt ste⟩
theorem s_lc {i : Nat} (h : ∃ te, (∀ j, PS (F.X j) st (tAsg te (gName i))) ∧ SL F.K te n fl) : E1 F st n (fun ρ N => fl ρ fun ds => i < ρ.length ∧ N.nx (ρ.set i (.v (.d (.list ds))))) := by
  obtain ⟨te, pt, s⟩ := h
  exact ⟨_, pt, sw_of (se_l s)⟩
theorem s_lcOwn {i : Nat} (h : ∃ te, (∀ j, PS (F.X j) st (tAsg te (gName i))) ∧ SL F.K te n fl) : E1 F st n (fun ρ N => fl ρ fun ds => i < ρ.length ∧ N.nx (ρ.set i (.own ds))) := by
  obtain ⟨te, pt, s⟩ := h
  exact ⟨_, pt, so_of s⟩
end
/-- a, b = e -/
theorem s_unp {L : List Nat} (hg : Eg F tg L fg) (he : Ee F e n fe) (hs : ∀ j, swapsWithSole [tg] e pos.line (F.X j).env = pure false := by intro _; rfl) (hw : ∀ j, swappedStores [tg] e (F.X j).env = pure none := by intro _; rfl)
    (h1 : ∀ j, (assignEach [tg] (F.X j).env).map (·.2) = [assign tg (F.X j).env] := by intro _; rfl) :
    E1 F (.Assign [tg] e pos) n (fun ρ N => fe ρ fun y => fg y ρ N.nx) := by
  obtain ⟨t, pt, s⟩ := he
  obtain ⟨u, pu, su⟩ := hg
  exact ⟨_, fun j => ps_asg (pt j) (pu j) (hs j) (hw j) (h1 := h1 j), fun C σ ρ H N D hm G hf l => s C σ ρ H _ _ hm G hf fun v H1 y m l1 u1 t1 oy h1 => su (C.up m) σ ρ H1 v y _ _ (G.tr t1) oy h1 fun σ' ρ' G' x _ h2 => l.nx σ' ρ' H1 m l1 u1 G' ((G.ex t1).trans x) h2⟩
/-- two names stored at once -/
def asTwo (i j : Nat) (ρ : En) (Nx : En → Prop) : List Vl → Prop
  | [u, w] => (i < ρ.length ∧ j < ρ.length) ∧ Nx ((ρ.set i (.v u)).set j (.v w))
  | _ => False
/-- a, b = e1, e2 -/
theorem s_par {y : Str} {e2 : Expr} {px py pt pt2 : Pos} {kt k2 : Nat} {ff : FA} (i j : Nat) (hi : F.N[i]? = some x) (hj : F.N[j]? = some y) (hij : i ≠ j) (ha : Ea F [e, e2] n ff)
    (q : ∀ {k : F.I} {ta : TA}, PA (F.X k) [e, e2] ta → PS (F.X k) (.Assign [.Tuple [.Name x px, .Name y py] kt pt] (.Tuple [e, e2] k2 pt2) pos) (tPar i j ta)) :
    E1 F (.Assign [.Tuple [.Name x px, .Name y py] kt pt] (.Tuple [e, e2] k2 pt2) pos) n (fun ρ N => ff ρ (asTwo i j ρ N.nx)) := by
  obtain ⟨t, pt, s⟩ := ha
  refine ⟨_, fun k => q (pt k), fun C σ ρ H N D hm G hf l => s C σ ρ H _ _ hm G hf fun vs H1 xs m l1 u1 t1 oxs h1 => ?_⟩
  match xs, oxs, h1 with
  | [u, w], oxs, h1 =>
    obtain ⟨v1, v2, rfl, o1, o2⟩ := oxs.two
    obtain ⟨G', ex⟩ := (G.tr t1).set h1.1.1 o1
    obtain ⟨G'', ex'⟩ := G'.set (i := j) (by simpa using h1.1.2) (o2.mono ex)
    exact ⟨v1, v2, rfl, l.nx _ _ _ m l1 u1 G'' (((G.ex t1).trans ex).trans ex') h1.2⟩
theorem s_expr (he : Ee F e n fe) (hs : ∀ j, swapsWith e none pos.line (F.X j).env = pure false := by intro _; rfl) : E1 F (.Expr e pos) n (fun ρ N => fe ρ fun _ => N.nx ρ) := by
  obtain ⟨t, pt, s⟩ := he
  exact ⟨_, fun j => ps_expr (pt j) (hs j), fun C σ ρ H N D hm G hf l => s C σ ρ H _ _ hm G hf fun v H1 y m l1 u1 t1 oy h1 => l.nx σ ρ H1 m l1 u1 (G.tr t1) (G.ex t1) h1⟩
theorem s_pass : E1 F (.Pass pos) 0 (fun ρ N => N.nx ρ) := ⟨_, fun _ => ps_pass, fun C σ ρ H N D _ G h l => l.nx σ ρ H C.m (Nat.le_refl _) le0 G (Ex.refl _) h⟩
theorem s_break : E1 F (.Break pos) 0 (fun ρ N => N.bk ρ) := ⟨_, fun _ => ps_break, fun C σ ρ H N D _ G h l => l.bk σ ρ H C.m (Nat.le_refl _) le0 G (Ex.refl _) h⟩
theorem s_cont : E1 F (.Continue pos) 0 (fun ρ N => N.ct ρ) := ⟨_, fun _ => ps_continue, fun C σ ρ H N D _ G h l => l.ct σ ρ H C.m (Nat.le_refl _) le0 G (Ex.refl _) h⟩
/-- what is not reached -/
theorem s_never : E1 F st 0 (fun _ _ => False) := ⟨_, fun _ => ps_never, fun _ _ _ _ _ _ _ _ h _ => h.elim⟩
theorem s_ret (he : Ee F e n fe) : E1 F (.Return (some e) pos) n (fun ρ N => fe ρ N.rt) := by
  obtain ⟨t, pt, s⟩ := he
  exact ⟨_, fun j => ps_ret (pt j), fun C σ ρ H N D hm G hf l => s C σ ρ H _ _ hm G hf fun v H1 y m l1 u1 t1 oy h1 => l.rt v H1 y m l1 u1 t1.2 (G.tr t1).fr (oy.mono (mask_sub fun a h => .inl h)) h1⟩
theorem s_retN : E1 F (.Return none pos) 0 (fun _ N => N.rt (.d .none)) := ⟨_, fun _ => ps_retN, fun C σ ρ H N D _ G h l => l.rt .non H (.d .none) C.m (Nat.le_refl _) le0 G.si G.fr Rd.non h⟩
theorem s_if (hc : Et F c n ft) (ha : Es F a na f) (hb : Es F b nb g) : E1 F (.If c a b pos) (n + (na + nb)) (fun ρ N => ft ρ fun k => if k = true then f ρ N else g ρ N) := by
  obtain ⟨t, pt, s⟩ := hc
  obtain ⟨u, pu, su⟩ := ha
  obtain ⟨w, pw, sw⟩ := hb
  refine ⟨_, fun j => ps_if (pt j) (pu j) (pw j), fun C σ ρ H N D hm G hf l => s C σ ρ H _ _ (by omega) G hf fun k H1 m l1 u1 t1 h1 => ?_⟩
  cases k with
  | true => exact iteT (su (C.up m) σ ρ H1 N D (by show m + na ≤ lim; omega) (G.tr t1) (by simpa using h1) (l.go l1 (by omega) (G.ex t1)))
  | false => exact iteF (sw (C.up m) σ ρ H1 N D (by show m + nb ≤ lim; omega) (G.tr t1) (by simpa using h1) (l.go l1 (by omega) (G.ex t1)))
/-- what an own list takes -/
def asApp (i : Nat) (xs : List PyData) (ρ : En) (Nx : En → Prop) : Vl → Prop
  | .d d => xs.length < 1000000 ∧ Nx (ρ.set i (.own (xs ++ [d])))
  | _ => False
def ownAt (i : Nat) (ρ : En) (R : List PyData → Prop) : Prop := match ρ[i]? with
  | some (.own xs) => R xs
  | _ => False
theorem ownAt_of {i : Nat} {ρ : En} {R : List PyData → Prop} (h : ownAt i ρ R) : ∃ xs, ρ[i]? = some (.own xs) ∧ R xs := by
  unfold ownAt at h
  split at h
  · rename_i xs e
    exact ⟨xs, e, h⟩
  · exact h.elim
/-- xs.append(e), xs an own list -/
theorem s_app (i : Nat) {apos cpos : Pos} (hi : F.N[i]? = some x) (he : Ee F e n fe) (hv : ∀ j, Vis (F.X j).env.scope x)
    (q : ∀ {k : F.I} {t : TE}, PE (F.X k) (.Name x p) (tVar i) → PE (F.X k) e t → PS (F.X k) (.Expr (.Call (.Attribute (.Name x p) "append" apos) [e] [] cpos) pos) (tDrop (tBM (F.X k).K "list" rAppend (tVar i) (tCons t tNil))))
    (hd : (x == ("__debug__" : Str)) = false := by decide) (hcd : (x == ("__classdict__" : Str)) = false := by decide) :
    E1 F (.Expr (.Call (.Attribute (.Name x p) "append" apos) [e] [] cpos) pos) n (fun ρ N => ownAt i ρ fun xs => fe ρ (asApp i xs ρ N.nx)) := by
  obtain ⟨t, pt, s⟩ := he
  refine ⟨tDrop (tBM F.K "list" rAppend (tVar i) (tCons t tNil)), fun k => by have := q (k := k) (pe_var (by rw [F.eN]; exact hi) (hv k) hd hcd) (pt k); rw [F.eK k] at this; exact this, fun C σ ρ H N D hm G hf l => ?_⟩
  obtain ⟨xs, e0, hf'⟩ := ownAt_of hf
  obtain ⟨pp, vs, h1, h2, h3, h4, h5⟩ := G.ow i xs e0
  refine ⟨.ref pp, h1, .inl ⟨rfl, _, SqL.of h2⟩, s C σ ρ H _ _ hm G hf' fun v H1 y m l1 u1 t1 oy hy => ?_⟩
  match y, oy, hy with
  | .d d, oy, hy =>
    have G1 := G.tr t1
    obtain ⟨G2, ex⟩ := G1.put (vs := vs ++ [v]) (ds := xs ++ [d]) e0 h1 ((h3.mono (G.ex t1)).append (.cons oy .nil))
    exact ⟨pp, vs, v, rfl, rfl, t1.1 pp _ (fun s => h5 (G.ct.sb pp s)) h2, small_lt (by rw [h3.length]; exact hy.1), l.nx _ _ _ m l1 u1 G2 ((G.ex t1).trans ex) hy.2⟩

/-! ### loops -/
def loopF (fg : FG) (fb : FSt) (N : SEn) : List Vl → En → Prop
  | [], ρ => N.nx ρ
  | x :: xs, ρ => fg x ρ fun ρ1 => fb ρ1 { nx := loopF fg fb N xs, rt := N.rt, bk := N.nx, ct := loopF fg fb N xs }
/-- so many turns a loop with draws may have -/
abbrev big : Nat := 4611686018427387904
theorem s_for {L : List Nat} (hi : Ei F tg iter ni fi) (hg : Eg F tg L fg) (hb : Es F sts n f) (hs : ∀ j x, foldedSetIterable iter (F.X j).env x = pure x := by intro _ _; rfl) :
    E1 F (.For tg iter sts [] pos) (ni + big * n) (fun ρ N => fi ρ fun items => (n = 0 ∨ items.length ≤ big) ∧ loopF fg f N items ρ) := by
  obtain ⟨wi, pi, si⟩ := hi
  obtain ⟨g, pg, sg⟩ := hg
  obtain ⟨t, pt, s⟩ := hb
  refine ⟨_, fun i => ps_for (F.own i) (F.calm i) (pi i) (pg i) (pt i) (hs := hs i), fun C σ ρ H N D hm G hf l => si C σ ρ H _ _ (by omega) G hf fun J H1 items m1 l1 u1 t1 wok h1 => ?_⟩
  obtain ⟨hbig, h1⟩ := h1
  obtain ⟨Gd, Y, walk, hG, hY⟩ := wok
  have G1 := G.tr t1
  have tot : items.length * n ≤ big * n := by
    rcases hbig with z | z
    · subst z; simp
    · exact Nat.mul_le_mul_right n z
  refine for_it walk (fun i σ' H' => ∃ ρ' m, m1 ≤ m ∧ m ≤ m1 + i * n ∧ Good F.K (C.up m) σ' ρ' H' ∧ Ex (mq C σ ρ H1) (mq C σ' ρ' H') ∧ loopF fg f N (items.drop i) ρ') ⟨ρ, m1, Nat.le_refl _, by omega, G1, Ex.refl _, by simpa using h1⟩ ?_ ?_ ?_
  · rintro i σ' H' _ ⟨ρ', _, _, _, _, ex, _⟩
    exact hG H' (ex.trans mask_le)
  · rintro i x σ' H' H'' hi' ⟨ρ', m, lm, um, G', ex, hl⟩ y
    have hx : items[i]? = some items[i] := List.getElem?_eq_getElem hi'
    obtain ⟨it, e1, e2⟩ := hY i H' x H'' hi' (ex.trans mask_le) y
    rw [hx] at e1
    have e1 : items[i] = it := Option.some.inj e1
    rw [List.drop_eq_getElem_cons hi', e1] at hl
    have hstep : (i + 1) * n ≤ items.length * n := Nat.mul_le_mul_right n hi'
    rw [Nat.add_mul, Nat.one_mul] at hstep
    have step : Tr C.S (F.K.SI m) H' H'' ∧ VlOk F.K (mq C σ' ρ' H'') x it := by
      rcases e2 with ⟨rfl, o⟩ | ⟨T, o, n, rfl, ok⟩
      · exact ⟨Tr.refl G'.si, o.mono ex⟩
      · have tt := G'.new (o := o) n
        refine ⟨tt, ok.mono fun a u z => ?_⟩
        by_cases ea : a = T
        · subst ea
          rw [upd_same] at z
          cases z
          exact G'.mq_new n
        · rw [upd_ne ea] at z
          exact (G'.ex tt) a u (ex a u z)
    obtain ⟨t2, ox⟩ := step
    have G2 := G'.tr t2
    refine sg (C.up m) σ' ρ' H'' x it _ _ G2 ox hl fun σ2 ρ2 G3 x3 _ h3 => s (C.up m) σ2 ρ2 H'' _ _ (by show m + n ≤ lim; omega) G3 h3 ?_
    have exA : Ex (mq C σ ρ H1) (mq C σ2 ρ2 H'') := (ex.trans (G'.ex t2)).trans x3
    have up : ∀ {m4 : Nat}, m ≤ m4 → m4 ≤ m + n → m1 ≤ m4 ∧ m4 ≤ m1 + (i + 1) * n := fun a b => ⟨by omega, turn_up um b⟩
    exact ⟨fun σ4 ρ4 H4 m4 a b G4 x4 h4 => ⟨ρ4, m4, (up a b).1, (up a b).2, G4, exA.trans x4, h4⟩, fun σ4 ρ4 H4 m4 a b G4 x4 h4 => l.nx σ4 ρ4 H4 m4 (Nat.le_trans (Nat.le_trans l1 lm) a) (by have : m4 ≤ m + n := b; omega) G4 (((G.ex t1).trans exA).trans x4) h4,
      fun σ4 ρ4 H4 m4 a b G4 x4 h4 => ⟨ρ4, m4, (up a b).1, (up a b).2, G4, exA.trans x4, h4⟩, fun v H4 y m4 a b => l.rt v H4 y m4 (Nat.le_trans (Nat.le_trans l1 lm) a) (by have : m4 ≤ m + n := b; omega)⟩
  · rintro σ' H' ⟨ρ', m, lm, um, G', ex, hl⟩
    rw [List.drop_length] at hl
    exact l.nx σ' ρ' H' m (Nat.le_trans l1 lm) (by omega) G' ((G.ex t1).trans ex) hl
/-- while, so many turns at most -/
def whileF (ft : FT) (fb : FSt) (N : SEn) : Nat → En → Prop
  | 0, _ => False
  | n + 1, ρ => ft ρ fun k => if k = true then fb ρ { nx := whileF ft fb N n, rt := N.rt, bk := N.nx, ct := whileF ft fb N n } else N.nx ρ
theorem s_while (hc : Et F c nt ft) (hb : Es F sts n f) : E1 F (.While c sts [] pos) (big * (nt + n)) (fun ρ N => ∃ k, (nt + n = 0 ∨ k ≤ big) ∧ whileF ft f N k ρ) := by
  obtain ⟨t, pt, s⟩ := hc
  obtain ⟨u, pu, su⟩ := hb
  refine ⟨_, fun i => ps_while (F.own i) (pt i) (pu i), fun C σ ρ H N D hm G hf l => ?_⟩
  obtain ⟨k, hbig, hn⟩ := hf
  have tot : k * (nt + n) ≤ big * (nt + n) := by
    rcases hbig with z | z
    · rw [z]; simp
    · exact Nat.mul_le_mul_right _ z
  refine ⟨fun j σ' H' => ∃ ρ' m, C.m ≤ m ∧ m + j * (nt + n) ≤ C.m + big * (nt + n) ∧ Good F.K (C.up m) σ' ρ' H' ∧ Ex (mq C σ ρ H) (mq C σ' ρ' H') ∧ whileF ft f N j ρ', ⟨k, ρ, C.m, Nat.le_refl _, by omega, G, Ex.refl _, hn⟩, ?_⟩
  rintro j σ' H' ⟨ρ', m, lm, um, G', ex, hw⟩
  match j, um, hw with
  | j + 1, um, hw =>
    rw [Nat.add_mul, Nat.one_mul] at um
    refine s (C.up m) σ' ρ' H' _ _ (by show m + nt ≤ lim; omega) G' hw fun k H1 m2 l2 u2 t1 h1 => ?_
    have l2' : m ≤ m2 := l2
    have u2' : m2 ≤ m + nt := u2
    have ex1 := ex.trans (G'.ex t1)
    cases k with
    | false => exact iteF (l.nx σ' ρ' H1 m2 (by omega) (by omega) (G'.tr t1) ex1 (by simpa using h1))
    | true =>
      refine iteT ⟨fun σ2 H2 => ∃ ρ2 m, C.m ≤ m ∧ m + j * (nt + n) ≤ C.m + big * (nt + n) ∧ Good F.K (C.up m) σ2 ρ2 H2 ∧ Ex (mq C σ ρ H) (mq C σ2 ρ2 H2) ∧ whileF ft f N j ρ2, fun σ2 H2 q => ⟨j, Nat.lt_succ_self _, q⟩, ?_⟩
      have h1' : f ρ' { nx := whileF ft f N j, rt := N.rt, bk := N.nx, ct := whileF ft f N j } := by simpa using h1
      exact su (C.up m2) σ' ρ' H1 _ _ (by show m2 + n ≤ lim; omega) (G'.tr t1) h1' ⟨fun σ4 ρ4 H4 m4 a b G4 x4 h4 => ⟨ρ4, m4, by have : m2 ≤ m4 := a; omega, by have : m4 ≤ m2 + n := b; omega, G4, ex1.trans x4, h4⟩,
        fun σ4 ρ4 H4 m4 a b G4 x4 h4 => l.nx σ4 ρ4 H4 m4 (by have : m2 ≤ m4 := a; omega) (by have : m4 ≤ m2 + n := b; omega) G4 (ex1.trans x4) h4, fun σ4 ρ4 H4 m4 a b G4 x4 h4 => ⟨ρ4, m4, by have : m2 ≤ m4 := a; omega, by have : m4 ≤ m2 + n := b; omega, G4, ex1.trans x4, h4⟩,
        fun v H4 y m4 a b => l.rt v H4 y m4 (by have : m2 ≤ m4 := a; omega) (by have : m4 ≤ m2 + n := b; omega)⟩
end

/-! ### defs -/
theorem VlA.of_start {K : Kx} {M : Hp} : ∀ {vs : List V} {xs : List Vl} (n : Nat), VlA K M vs xs → ∀ (i : Nat) (x : Vl), (xs.map Sl.v ++ List.replicate n Sl.non)[i]? = some (.v x) → ∃ v, (vs.map some ++ List.replicate n none)[i]? = some (some v) ∧ VlOk K M v x
  | _, _, n, .nil, i, x, h => by
    simp only [List.map_nil, List.nil_append] at h
    rw [List.getElem?_replicate] at h
    split at h
    · exact absurd (Option.some.inj h) (fun z => nomatch z)
    · cases h
  | _, _, n, .cons o r, 0, x, h => by simp at h; subst h; exact ⟨_, by simp, o⟩
  | _, _, n, .cons o r, i + 1, x, h => by
    obtain ⟨v, a, b⟩ := VlA.of_start n r i x (by simpa using h)
    exact ⟨v, by simpa using a, b⟩
theorem no_own {xs : List Vl} {n i : Nat} {ys : List PyData} (h : (xs.map Sl.v ++ List.replicate n Sl.non)[i]? = some (.own ys)) : False := by
  rw [List.getElem?_append] at h
  split at h
  · rw [List.getElem?_map] at h
    cases q : xs[i]? with
    | none => rw [q] at h; cases h
    | some z => rw [q] at h; cases h
  · rw [List.getElem?_replicate] at h
    split at h <;> cases h
/-- the context of a def's body -/
def fmOf (P : Program) (w : World) (K : Kx) (mg : Str → Option Value) (base : Heap) (N : List Str) (qual : Str) (st : Stmt) (fa : Addr) (cd : Value) (A : Around) (outer : List PySem.Env) (s : Shared) (H : Hp) (E : XK) (k : Nat) (nd : N.Nodup)
    (hr : Room k (A.deeper (envOfC qual (defScope st) s.heap.objs.size fa cd))) (hg : A.guards = some []) : Fm :=
  Fm.one (cxOf CX0 P w K mg base N qual (defScope st) fa cd A outer s H E).nox K rfl k nd rfl hr hg PassesOwn.never
/-- a def: its body's reading from the arguments shows the promise f -/
theorem fn_make {P : Program} {w : World} {K : Kx} {mg : Str → Option Value} {base : Heap} {k cf : Nat} {fa : Addr} {x qual : Str} {st : Stmt} {fd : FuncData} {N ps : List Str} {f : FS} (Fu : Fun K x qual st fa fd) (S : FnScope N ps (defScope st)) (hN : ps.length ≤ N.length)
    (body : ∀ (cd : Value) (A : Around) (outer : List PySem.Env) (s : Shared) (H : Hp) (E : XK) (hr : Room k (A.deeper (envOfC qual (defScope st) s.heap.objs.size fa cd))) (hg : A.guards = some []),
      ∃ c g, c ≤ cf ∧ Es (fmOf P w K mg base N qual st fa cd A outer s H E k S.nd hr hg) (defBody st) c g ∧
        ∀ (xs : List Vl) (R : Vl → Prop), xs.length = ps.length → f xs R → g (xs.map Sl.v ++ List.replicate (N.length - ps.length) Sl.non) { nx := fun _ => R (.d .none), rt := R }) :
    FnG P w K mg base CX0 (k + 1) fa fd ps (spF K ps.length cf f) := by
  refine FnG.make Fu S (fun vs H Q E h => ?_) fun cd A outer s H vs Q E hg hr h => ?_
  · obtain ⟨B, m, xs, R, _, _, _, _, hl, r, _⟩ := h
    rw [r.length, hl]
  · obtain ⟨B, m, xs, R, ct, si, hm, bd, hl, r, hf, kk⟩ := h
    obtain ⟨c, g, hc, ⟨t, pt, s1⟩, hgg⟩ := body cd A outer s H E hr hg
    refine ⟨t, PSs.nox (pt ()), ?_⟩
    have hvl : vs.length = ps.length := by rw [r.length, hl]
    have est : L2.start N vs = vs.map some ++ List.replicate (N.length - ps.length) none := by unfold L2.start; rw [hvl]
    rw [est]
    have m0 : ∀ a, bar B (vs.map some ++ List.replicate (N.length - ps.length) none) (xs.map Sl.v ++ List.replicate (N.length - ps.length) Sl.non) a → B a := fun a z => by
      rcases z with z | ⟨i, ys, z, _⟩
      · exact z
      · exact (no_own z).elim
    refine s1 ⟨B, K.S, H, m⟩ _ (xs.map Sl.v ++ List.replicate (N.length - ps.length) Sl.non) H _ _ (by show m + c ≤ lim; omega) ⟨rfl, ct, si, bd, fun a o _ e => e, by simp [r.length], fun i y e => ?_, fun i ys e => (no_own e).elim, fun i j ys zs p e => (no_own e).elim⟩ (hgg xs R hl hf) ⟨?_, ?_, ?_, ?_⟩
    · obtain ⟨v, a, b⟩ := VlA.of_start _ r i y e
      exact ⟨v, a, b.mono (mask_sub m0)⟩
    · exact fun σ' ρ' H' m' a b G' _ h' => kk .non H' (.d .none) m' a (by have : m' ≤ m + c := b; omega) ⟨fun a o n e => G'.fr a o n e, G'.si⟩ Rd.non h'
    · exact fun _ _ _ _ _ _ _ _ z => z.elim
    · exact fun _ _ _ _ _ _ _ _ z => z.elim
    · exact fun v H' y m' a b si' fr' o h' => kk v H' y m' a (by have : m' ≤ m + c := b; omega) ⟨fr', si'⟩ o h'
end Px

set_option Elab.async false
set_option linter.all false
set_option maxRecDepth 100000
set_option maxHeartbeats 2000000
/-! Px: defs by their names; calls of them, with keywords too; short words. -/
namespace Px
open PySem PySem.Spec PyProof.Rows L2

/-- a def of the text that keeps its promise -/
structure Df (P : Program) (w : World) (K : Kx) (mg : Str → Option Value) (base : Heap) (x : Str) (st : Stmt) (ps : List Str) (k cf : Nat) (fs : FS) : Prop where
  ex : ∃ fa fd, FnG P w K mg base CX0 k fa fd ps (spF K ps.length cf fs) ∧ mg x = some (.ref fa) ∧ Fun K x x st fa fd
theorem Df.weak {P : Program} {w : World} {K : Kx} {mg : Str → Option Value} {base : Heap} {x : Str} {st : Stmt} {ps : List Str} {k cf : Nat} {fs fs' : FS} (D : Df P w K mg base x st ps k cf fs) (h : ∀ xs R, fs' xs R → fs xs R) : Df P w K mg base x st ps k cf fs' := by
  obtain ⟨fa, fd, F, hm, Fu⟩ := D
  refine ⟨fa, fd, F.weak fun vs H Q E q => ?_, hm, Fu⟩
  obtain ⟨B, m, xs, R, a, b, b2, c, d, e, f, g⟩ := q
  exact ⟨B, m, xs, R, a, b, b2, c, d, e, h _ _ f, g⟩
/-- the positional binding, by computing -/
def BindP (x : Str) (st : Stmt) (ps : List Str) : Prop := ∀ (kV doc pm : Value) (an : Option Addr) (cd ct : Value) (us : List Value), us.length = ps.length →
  bindArgs (PySem.W.fnOf x x (defArgs st) (defBody st) (defScope st) .none kV doc pm an cd ct) ⟨us, []⟩ = pure (ps.zip us)
/-- a binding with keywords ks behind n positional values: g puts them in the parameters' order -/
def BindK (x : Str) (st : Stmt) (ps ks : List Str) (n : Nat) (g : List Value → List Value → List Value) : Prop := ∀ (kV doc pm : Value) (an : Option Addr) (cd ct : Value) (us ws : List Value), us.length = n → ws.length = ks.length →
  bindArgs (PySem.W.fnOf x x (defArgs st) (defBody st) (defScope st) .none kV doc pm an cd ct) ⟨us, ks.zip ws⟩ = pure (ps.zip (g us ws))
section
variable {F : Fm} {e : Expr} {es : List Expr} {kws : List Keyword} {pos p : Pos} {x : Str} {st : Stmt} {ps ks : List Str} {fs : FS} {ff fk : FA} {k n cf nf nk : Nat}
theorem e_def (D : Df F.P F.w F.K F.mg F.base x st ps k cf fs) (hb : BindP x st ps) (ha : Ea F (e :: es) nf ff) (hk : k ≤ F.k := by exact Nat.le_of_ble_eq_true rfl) (hg : ∀ i, Gl (F.X i) x := by intro _; rfl) (hdb : (x == ("__debug__" : Str)) = false := by decide)
    (he : ∀ i, starEach (e :: es) (F.X i).env = (false, eval e (F.X i).env) :: starEach es (F.X i).env := by intro _; rfl) (hpl : ∀ i, (backTo pos (starEach es (F.X i).env)).any (·.1) = false := by intro _; rfl) :
    Ee F (.Call (.Name x p) (e :: es) [] pos) (nf + cf) (fun ρ R => ff ρ fun xs => xs.length = ps.length ∧ fs xs R) := by
  obtain ⟨fa, fd, Fn, hm, Fu⟩ := D
  exact e_call Fn hk hm Fu.kp (Fu.binds hb) ha hg hdb he hpl
theorem e_def0 (D : Df F.P F.w F.K F.mg F.base x st [] k cf fs) (hb : BindP x st []) (hk : k ≤ F.k := by exact Nat.le_of_ble_eq_true rfl) (hg : ∀ i, Gl (F.X i) x := by intro _; rfl) (hdb : (x == ("__debug__" : Str)) = false := by decide) : Ee F (.Call (.Name x p) [] [] pos) cf (fun _ R => fs [] R) := by
  obtain ⟨fa, fd, Fn, hm, Fu⟩ := D
  exact e_call0 Fn hk hm Fu.kp (Fu.binds hb) hg hdb

/-- keywords' values -/
structure Ek (F : Fm) (kws : List Keyword) (c : Nat) (f : FA) : Prop where
  ex : ∃ t, (∀ i, PK (F.X i) kws t) ∧ SA F.K t c f
theorem k_nil : Ek F [] 0 (fun _ R => R []) := ⟨_, fun _ => pk_nil, fun C _ _ H _ _ _ G hf k => k [] H [] C.m (Nat.le_refl _) le0 (Tr.refl G.si) .nil hf⟩
theorem k_cons {fa : FE} {f : FA} {nm : Option Str} {kp : Pos} {na nb : Nat} (h : Ee F e na fa) (hr : Ek F kws nb f) : Ek F (⟨nm, e, kp⟩ :: kws) (na + nb) (fun ρ R => fa ρ fun x => f ρ fun xs => R (x :: xs)) := by
  obtain ⟨t, pt, st⟩ := h
  obtain ⟨u, pu, su⟩ := hr
  exact ⟨_, fun i => pk_cons (pt i) (pu i), fun C σ ρ H R Q hm G hf k => st C σ ρ H _ _ (by omega) G hf fun v H1 x m1 l1 u1 t1 ox h1 => su (C.up m1) σ ρ H1 _ _ (by show m1 + nb ≤ lim; omega) (G.tr t1) h1 fun vs H2 xs m2 l2 u2 t2 oxs h2 =>
    k _ H2 _ m2 (Nat.le_trans l1 l2) (by have : m2 ≤ m1 + nb := u2; omega) (t1.trans t2) (.cons (ox.mono ((G.tr t1).ex t2)) oxs) h2⟩
/-- a choice of values by numbers: the positional ones, then the keywords' -/
def pick {α : Type} (d : α) (is : List Nat) (us ws : List α) : List α := is.map fun i => (us ++ ws).getD i d
theorem pick_rel {is : List Nat} {vs : List V} {us : List Value} {zs : List V} {ws : List Value} (r : Vals vs us) (q : Vals zs ws) : Vals (pick .non is vs zs) (pick .none is us ws) := by
  have rq := r.append q
  unfold pick
  induction is with
  | nil => exact .nil
  | cons i is ih =>
    refine .cons ?_ ih
    show L2.RelV ((vs ++ zs).getD i V.non) ((us ++ ws).getD i Value.none)
    rw [List.getD_eq_getElem?_getD, List.getD_eq_getElem?_getD]
    cases z : (vs ++ zs)[i]? with
    | none => rw [rq.none_of z]; rfl
    | some v =>
      obtain ⟨u, h1, h2⟩ := rq.get z
      rw [h1]
      exact h2
theorem VlA.append {K : Kx} {M : Hp} : ∀ {vs ws : List V} {xs ys : List Vl}, VlA K M vs xs → VlA K M ws ys → VlA K M (vs ++ ws) (xs ++ ys)
  | _, _, _, _, .nil, s => s
  | _, _, _, _, .cons h r, s => .cons h (VlA.append r s)
theorem pick_ok {K : Kx} {M : Hp} {is : List Nat} {vs zs : List V} {xs ys : List Vl} (r : VlA K M vs xs) (q : VlA K M zs ys) : VlA K M (pick .non is vs zs) (pick (.d .none) is xs ys) := by
  have rq := r.append q
  unfold pick
  induction is with
  | nil => exact .nil
  | cons i is ih =>
    refine .cons ?_ ih
    show VlOk K M ((vs ++ zs).getD i V.non) ((xs ++ ys).getD i (Vl.d PyData.none))
    rw [List.getD_eq_getElem?_getD, List.getD_eq_getElem?_getD]
    cases z : (xs ++ ys)[i]? with
    | none =>
      have h1 : (xs ++ ys).length ≤ i := List.getElem?_eq_none_iff.mp z
      rw [List.getElem?_eq_none (by rw [rq.length]; exact h1)]
      exact Rd.non
    | some x =>
      obtain ⟨v, h1, h2⟩ := rq.get z
      rw [h1]
      exact h2
theorem peG_callK0 {X : Cx} {CX : CXT} {f : Addr} {fd : FuncData} {sp : Sp} {E : XK} {tk : TA} {g : List Value → List Value → List Value} {gV : List V → List V → List V} (F : FnG X.prog X.w X.K X.mg X.base CX k f fd ps sp) (hg : X.A.guards = some []) (hr : Room k X.A)
    (hx : Passes CX X E) (gl : Gl X x) (hm : X.mg x = some (.ref f)) (hk : PySem.W.keepIn X.K (.ref f) = true) (hb : KBinds X.K fd ps ks g gV) (hkw : PK X kws tk)
    (hall : (backToKw pos (keywordEach kws X.env)).all (·.1.isSome) = true := by rfl) (hks : (backToKw pos (keywordEach kws X.env)).filterMap (·.1) = ks := by rfl) (hdb : (x == ("__debug__" : Str)) = false := by decide)
    (hpl : ((backTo pos (starEach [] X.env)).any (·.1) || (backToKw pos (keywordEach kws X.env)).any (·.1.isNone)) = false := by rfl) : PE X (.Call (.Name x p) [] kws pos) (tCallK sp gV E tNil tk) := by
  refine ⟨fun pins s σ H Q I h => wpAny_Call_Name_kw (ld_glob I gl hm ?_ hdb)⟩
  refine PySem.W.callWith_KW0 (h₀ := X.base) (first := []) I.ok.mod.kin hk hall ?_ hpl
  refine thn (hkw.run pos pins s σ H _ I h) fun ws s2 ⟨zs, H2, I2, rz, q2⟩ => ⟨I2.kIn, ?_⟩
  rw [hks]
  exact goG F hg hr hx I2 (zs := g [] ws) (fun hl => hb.to s2 [] ws I2.kIn hl) (hb.rel .nil rz) q2
/-- .. where just so many are given -/
def pickN {α : Type} (n m : Nat) (d : α) (is : List Nat) (us ws : List α) : List α := if us.length = n ∧ ws.length = m then pick d is us ws else []
theorem kb_of {K : Kx} {fa : Addr} {fd : FuncData} {is : List Nat} (Fu : Fun K x x st fa fd) (hp : ps ≠ []) (hb : BindK x st ps ks n (pick .none is)) :
    KBinds K fd ps ks (pickN n ks.length .none is) (pickN n ks.length .non is) := by
  refine ⟨fun s us ws _ hl => ?_, fun {vs us zs ws} r q => ?_⟩
  · by_cases z : us.length = n ∧ ws.length = ks.length
    · obtain ⟨oc, od, kV, doc, pm, an, cd, ct, osl, rfl, lk, hcd⟩ := Fu.ex
      unfold pickN
      rw [if_pos z]
      exact .of_eq (hb kV doc pm an cd ct us ws z.1 z.2)
    · unfold pickN at hl
      rw [if_neg z] at hl
      exact absurd (List.length_eq_zero_iff.mp hl.symm) hp
  · unfold pickN
    rw [r.length, q.length]
    by_cases z : us.length = n ∧ ws.length = ks.length
    · rw [if_pos z, if_pos z]
      exact pick_rel r q
    · rw [if_neg z, if_neg z]
      exact .nil
/-- f(e, .., k = v, ..) -/
theorem e_defK (is : List Nat) (ks : List Str) (n : Nat) (D : Df F.P F.w F.K F.mg F.base x st ps k cf fs) (hp : ps ≠ []) (hb : BindK x st ps ks n (pick .none is)) (ha : Ea F (e :: es) nf ff) (hw : Ek F kws nk fk) (hk : k ≤ F.k := by exact Nat.le_of_ble_eq_true rfl) (hg : ∀ i, Gl (F.X i) x := by intro _; rfl)
    (hall : ∀ i, (backToKw pos (keywordEach kws (F.X i).env)).all (·.1.isSome) = true := by intro _; rfl) (hks : ∀ i, (backToKw pos (keywordEach kws (F.X i).env)).filterMap (·.1) = ks := by intro _; rfl) (hdb : (x == ("__debug__" : Str)) = false := by decide)
    (he : ∀ i, starEach (e :: es) (F.X i).env = (false, eval e (F.X i).env) :: starEach es (F.X i).env := by intro _; rfl)
    (hpl : ∀ i, ((backTo pos (starEach (e :: es) (F.X i).env)).any (·.1) || (backToKw pos (keywordEach kws (F.X i).env)).any (·.1.isNone)) = false := by intro _; rfl) :
    Ee F (.Call (.Name x p) (e :: es) kws pos) (nf + nk + cf) (fun ρ R => ff ρ fun xs => fk ρ fun ys => (xs.length = n ∧ ys.length = ks.length) ∧ (pick (.d .none) is xs ys).length = ps.length ∧ fs (pick (.d .none) is xs ys) R) := by
  obtain ⟨fa, fd, Fn, hm, Fu⟩ := D
  obtain ⟨t, pt, st⟩ := ha
  obtain ⟨u, pu, su⟩ := hw
  refine ⟨tCallK (spF F.K ps.length cf fs) (pickN n ks.length .non is) E0 t u, fun i => ?_, fun C σ ρ H R Q hm G hf kk => st C σ ρ H _ _ (by omega) G hf fun vs H1 xs m1 l1 u1 t1 oxs h1 => su (C.up m1) σ ρ H1 _ _ (by show m1 + nk ≤ lim; omega) (G.tr t1) h1 fun ws H2 ys m2 l2 u2 t2 oys h2 => ?_⟩
  · have q1 := F.eK i
    have q2 := F.eM i
    have q3 := F.eP i
    have q4 := F.eW i
    have q5 := F.eB i
    exact peG_callK (by rw [q1, q2, q3, q4, q5]; exact Fn) (F.gu i) ((F.room i).mono hk) pass0 (hg i) (by rw [q2]; exact hm) (by rw [q1]; exact Fu.kp) (by rw [q1]; exact kb_of Fu hp hb) (pt i) (pu i) (hall i) (hks i) hdb (he i) (hpl i)
  · have G2 := (G.tr t1).tr t2
    have oxs' := oxs.mono ((G.tr t1).ex t2)
    have e : pickN n ks.length V.non is vs ws = pick .non is vs ws := by unfold pickN; rw [if_pos ⟨by rw [oxs.length]; exact h2.1.1, by rw [oys.length]; exact h2.1.2⟩]
    show spF F.K ps.length cf fs (pickN n ks.length V.non is vs ws) H2 Q E0
    rw [e]
    have l2' : m1 ≤ m2 := l2
    have u2' : m2 ≤ m1 + nk := u2
    exact sp_ok (C := C.up m2) (by show m2 + cf ≤ lim; omega) G2 (pick_ok oxs' oys) h2.2 fun v H' z m3 l3 u3 t3 oz hz => kk v H' z m3 (by have : m2 ≤ m3 := l3; omega) (by have : m3 ≤ m2 + cf := u3; omega) ((t1.trans t2).trans t3) oz hz
/-- f(k = v, ..) -/
theorem e_defK0 (is : List Nat) (ks : List Str) (D : Df F.P F.w F.K F.mg F.base x st ps k cf fs) (hp : ps ≠ []) (hb : BindK x st ps ks 0 (pick .none is)) (hw : Ek F kws nk fk) (hk : k ≤ F.k := by exact Nat.le_of_ble_eq_true rfl) (hg : ∀ i, Gl (F.X i) x := by intro _; rfl)
    (hall : ∀ i, (backToKw pos (keywordEach kws (F.X i).env)).all (·.1.isSome) = true := by intro _; rfl) (hks : ∀ i, (backToKw pos (keywordEach kws (F.X i).env)).filterMap (·.1) = ks := by intro _; rfl) (hdb : (x == ("__debug__" : Str)) = false := by decide)
    (hpl : ∀ i, ((backTo pos (starEach [] (F.X i).env)).any (·.1) || (backToKw pos (keywordEach kws (F.X i).env)).any (·.1.isNone)) = false := by intro _; rfl) :
    Ee F (.Call (.Name x p) [] kws pos) (nk + cf) (fun ρ R => fk ρ fun ys => ys.length = ks.length ∧ (pick (.d .none) is [] ys).length = ps.length ∧ fs (pick (.d .none) is [] ys) R) := by
  obtain ⟨fa, fd, Fn, hm, Fu⟩ := D
  obtain ⟨u, pu, su⟩ := hw
  refine ⟨tCallK (spF F.K ps.length cf fs) (pickN 0 ks.length .non is) E0 tNil u, fun i => ?_, fun C σ ρ H R Q hm G hf kk => su C σ ρ H _ _ (by omega) G hf fun ws H2 ys m2 l2 u2 t2 oys h2 => ?_⟩
  · have q1 := F.eK i
    have q2 := F.eM i
    have q3 := F.eP i
    have q4 := F.eW i
    have q5 := F.eB i
    exact peG_callK0 (by rw [q1, q2, q3, q4, q5]; exact Fn) (F.gu i) ((F.room i).mono hk) pass0 (hg i) (by rw [q2]; exact hm) (by rw [q1]; exact Fu.kp) (by rw [q1]; exact kb_of Fu hp hb) (pu i) (hall i) (hks i) hdb (hpl i)
  · have e : pickN 0 ks.length V.non is [] ws = pick .non is [] ws := by unfold pickN; rw [if_pos ⟨rfl, by rw [oys.length]; exact h2.1⟩]
    show spF F.K ps.length cf fs (pickN 0 ks.length V.non is [] ws) H2 Q E0
    rw [e]
    exact sp_ok (C := C.up m2) (by show m2 + cf ≤ lim; omega) (G.tr t2) (pick_ok .nil oys) h2.2 fun v H' z m3 l3 u3 t3 oz hz => kk v H' z m3 (Nat.le_trans l2 l3) (by have : m3 ≤ m2 + cf := u3; omega) (t2.trans t3) oz hz
end

/-! ### short words -/
section
variable {F : Fm} {p : Pos} {x : Str}
/-- a name by its slot -/
theorem nm (i : Nat) (hN : F.N[i]? = some x := by rfl) (hv : ∀ j, Vis (F.X j).env.scope x := by intro _; first | exact .inl rfl | exact .inr (.inl rfl) | exact .inr (.inr rfl)) (hd : (x == ("__debug__" : Str)) = false := by decide)
    (hcd : (x == ("__classdict__" : Str)) = false := by decide) : Ee F (.Name x p) 0 (fun ρ R => rd ρ i R) := e_var i hN hv hd hcd
/-- a name as a target -/
theorem tn (i : Nat) (hi : F.N[i]? = some x := by rfl) (hx : ∀ j, Loc (F.X j).env.scope x := by intro _; first | exact .inl rfl | exact .inr rfl)
    (hf : ∀ j, (F.X j).fn x = true ∨ (F.X j).env.scope.names.lookup x = some .local := by intro _; first | exact .inl rfl | exact .inr rfl) : Eg F (.Name x p) [i] (gNm i) := g_name i hi hx hf
end
end Px

set_option Elab.async false
set_option linter.all false
set_option maxRecDepth 100000
set_option maxHeartbeats 2000000
/-! Px: kinds of values, constants, walks over lists and tuples alike, slices, own lists read. -/
namespace Px
open PySem PySem.Spec PyProof.Rows L2

def tyOf : PyData → String
  | .none => "NoneType"
  | .bool _ => "bool"
  | .int _ => "int"
  | .str _ => "str"
  | .list _ => "list"
  | .tuple _ => "tuple"
  | .dict _ => "dict"
section
variable {F : Fm} {K : Kx} {e a b : Expr} {es : List Expr} {p pos : Pos} {x : Str} {fe fa fb : FE} {n nb nl nu : Nat}
def rTy (K : Fg) : List V → Hp → VK → Prop := fun xs H Q => ∃ x d, xs = [x] ∧ Dp K H x d ∧ Q (.ty (tyOf d)) H
theorem call_ty {X : Cx} : CallR X (.type "type") (rTy X.K) := by
  intro pins s σ H xs us Q I r h
  obtain ⟨x, d, rfl, hd, q⟩ := h
  cases r with
  | cons rx rr =>
    cases rr
    have fin : ∀ T : String, tyOf d = T → EP X pins σ Q (.type T) s := fun T e => ⟨.ty T, H, I, rfl, by rw [← e]; exact q⟩
    cases hd with
    | non => cases (show _ = Value.none from rx); exact call_type_of (PySem.typeIs_none _) (by decide +kernel) (fin _ rfl)
    | bl b => cases (show _ = Value.bool b from rx); exact call_type_of (PySem.typeIs_bool _ _) (by decide +kernel) (fin _ rfl)
    | int i =>
      obtain ⟨t, rfl⟩ := (show ∃ t, _ = Value.int i t from rx)
      exact call_type_of (PySem.typeIs_int _ _ _) (by decide +kernel) (fin _ rfl)
    | str z =>
      obtain ⟨t, rfl⟩ := (show ∃ t, _ = Value.str z t from rx)
      exact call_type_of (PySem.typeIs_str _ _ _) (by decide +kernel) (fin _ rfl)
    | @lst a xs ds h1 h2 =>
      cases (show _ = Value.ref a from rx)
      obtain ⟨its, rv, p, _⟩ := I.list h1
      exact call_type_of p.isList.typeIs (by decide +kernel) (fin _ rfl)
    | @tup a xs ds h1 h2 =>
      cases (show _ = Value.ref a from rx)
      obtain ⟨its, rv, p, _⟩ := I.tuple h1
      exact call_type_of p.typeIs (by decide +kernel) (fin _ rfl)
theorem cTy (i) : CallR (F.X i) (.type "type") (rTy F.K) := by
  have h := call_ty (X := F.X i)
  rw [F.eK i] at h
  exact h
def gTy : GC
  | [.d x], R => R (.o (.ty (tyOf x)))
  | _, _ => False
theorem sTy : SC K (rTy K) gTy := fun C σ ρ H vs xs R Q G o h k => by
  match xs, h, o with
  | [.d d], h, o =>
    obtain ⟨v, rfl, o1⟩ := o.one
    exact ⟨v, d, rfl, (Rd.mono mask_le o1).dp, k _ H (.o (.ty (tyOf d))) (Tr.refl G.si) rfl h⟩
theorem e_ty (T : String) (hm : F.mg x = none) (hv : bootBuiltins x = some (.type T)) (hg : ∀ i, Gl (F.X i) x := by intro _; rfl) (hn : x ≠ "__name__" := by decide) (hd : (x == ("__debug__" : Str)) = false := by decide) :
    Ee F (.Name x p) 0 (fun _ R => R (.o (.ty T))) := ⟨_, fun i => pe_bltn (v := .ty T) (hg i) (by rw [F.eM]; exact hm) hv rfl hn hd, fun C _ _ H _ _ _ G hr k => k _ H (.o (.ty T)) C.m (Nat.le_refl _) le0 (Tr.refl G.si) rfl hr⟩
def rIsTy : R2 := fun x y H Q => ∃ a b, x = .ty a ∧ y = .ty b ∧ Q (.bl (decide (a = b))) H
theorem oIsTy (i) : OpR (F.X i) (compareOp .Is) rIsTy := by
  intro pins s σ H x y v u Q I rx ry h
  obtain ⟨a, b, rfl, rfl, q⟩ := h
  cases (show v = Value.type a from rx)
  cases (show u = Value.type b from ry)
  by_cases e : a = b
  · subst e
    exact wpAny_is_self rfl ⟨.bl true, H, I, rfl, by simpa using q⟩
  · exact wpAny_is_other rfl (fun z => e (Value.type.inj z)) ⟨.bl false, H, I, rfl, by simpa [e] using q⟩
def fIsTy : G2
  | .o (.ty a), .o (.ty b), R => R (.d (.bool (decide (a = b))))
  | _, _, _ => False
theorem sIsTy : S2 K rIsTy fIsTy := fun C σ ρ H v w x y R Q G ox oy h k => by
  match x, y, h, ox, oy with
  | .o (.ty a), .o (.ty b), h, ox, oy => exact ⟨a, b, ox, oy, G.fin k (fun _ => .bl _) h⟩

/-- a constant of the module, by what it reads as -/
structure Cn (K : Fg) (mg : Str → Option Value) (x : Str) (d : PyData) : Prop where
  ex : ∃ v u, mg x = some u ∧ RelV v u ∧ ∀ M, Rd K M v d
theorem e_con {d : PyData} (c : Cn F.K F.mg x d) (hg : ∀ i, Gl (F.X i) x := by intro _; rfl) (hd : (x == ("__debug__" : Str)) = false := by decide) : Ee F (.Name x p) 0 (fun _ R => R (.d d)) := by
  obtain ⟨v, u, h1, h2, h3⟩ := c
  exact e_glob h1 h2 h3 hg hd

/-- a list or a tuple, walked -/
def asS (R : List Vl → Prop) : Vl → Prop
  | .d (.list xs) => R (xs.map Vl.d)
  | .d (.tuple xs) => R (xs.map Vl.d)
  | _ => False
theorem PI.or {X : Cx} {tg : Expr} {t u : TI} (h : PI X tg e t) (h2 : PI X tg e u) : PI X tg e (fun σ H R => t σ H R ∨ u σ H R) := ⟨fun pins s σ H R I q => by
  rcases q with q | q
  · exact h.run pins s σ H R I q
  · exact h2.run pins s σ H R I q⟩
def iSeq (K : Fg) (tl : TE) : TI := fun σ H R => tl σ H fun x H1 => ∃ a, x = .ref a ∧ ((∃ xs, SqL K H1 a xs ∧ R (Itl K a) H1) ∨ ∃ xs, SqT K H1 a xs ∧ R (Itt K a) H1)
theorem pi_seq {X : Cx} {tg : Expr} {tl : TE} (hl : PE X e tl) : PI X tg e (iSeq X.K tl) := by
  refine ⟨fun pins s σ H R I h => thn (hl.run pins s σ H _ I h) fun v s1 ⟨x, H1, I1, r1, a, ex, q⟩ => ?_⟩
  subst ex
  cases r1
  have fp : ∀ c ∈ [s1.heap.objs.size], FpOk X pins H1 c := fun c hc => by
    rw [List.mem_singleton.mp hc]
    exact I1.fpOk (Nat.le_refl _) (I1.hok.fresh (Nat.le_refl _))
  rcases q with ⟨xs, h1, h2⟩ | ⟨xs, h1, h2⟩
  · obtain ⟨its, rv, pl, hz⟩ := I1.list h1
    exact wpAny_pyIter_list pl.isList ⟨_, _, _, _, H1, rfl, I1.kept (t' := s1.toks) fun c o e => Heap.get?_push_of_some _ e, turn_list a _, ⟨_, Heap.get?_push_size _ rfl, rfl, rfl⟩, fp, h2⟩
  · obtain ⟨its, rv, pl, hz⟩ := I1.tuple h1
    exact wpAny_pyIter_tuple (show s1.heap.IsTuple a its.toArray from pl) ⟨_, _, _, _, H1, rfl, I1.kept (t' := s1.toks) fun c o e => Heap.get?_push_of_some _ e, turn_tuple a _, ⟨_, Heap.get?_push_size _ rfl, rfl, rfl⟩, fp, h2⟩
theorem i_seq {tg : Expr} {f : FE} (h : Ee F e n f) : Ei F tg e n (fun ρ R => f ρ (asS R)) := by
  obtain ⟨t, pt, st⟩ := h
  refine ⟨iSeq F.K t, fun i => by have := pi_seq (tg := tg) (pt i); rw [F.eK i] at this; exact this, fun C σ ρ H R Q hm G hf k => st C σ ρ H _ _ hm G hf fun v H1 x m l u t1 ox h1 => ?_⟩
  match x, ox, h1 with
  | .d (.list xs), ox, h1 =>
    obtain ⟨a, vs, rfl, ha, ra⟩ := Rd.inv_list ox
    exact ⟨a, rfl, .inl ⟨vs, SqL.of (mask_le _ _ ha), k _ H1 _ m l u t1 (WOk.list ha ra) h1⟩⟩
  | .d (.tuple xs), ox, h1 =>
    obtain ⟨a, vs, rfl, ha, ra⟩ := Rd.inv_tuple ox
    exact ⟨a, rfl, .inr ⟨vs, Ex.sqt mask_le ha, k _ H1 _ m l u t1 (WOk.tup ha ra) h1⟩⟩

/-! ### own lists read without being given up -/
theorem e_ownIx (i : Nat) {p' : Pos} (hb : Ee F b nb fb) (hN : F.N[i]? = some x := by rfl) (hv : ∀ j, Vis (F.X j).env.scope x := by intro _; first | exact .inl rfl | exact .inr (.inl rfl)) (hs : PlainIx b := by intro _ _; rfl)
    (hd : (x == ("__debug__" : Str)) = false := by decide) (hcd : (x == ("__classdict__" : Str)) = false := by decide) :
    Ee F (.Subscript (.Name x p') b pos) nb (fun ρ R => ownAt i ρ fun xs => fb ρ fun y => fIx (.d (.list xs)) y R) := by
  obtain ⟨tb, pb, sb⟩ := hb
  refine ⟨tOp (rIx F.K) (tVar i) tb, fun j => pe_ix (oIx j) (pe_var (by rw [F.eN]; exact hN) (hv j) hd hcd) (pb j) hs, fun C σ ρ H R Q hm G hf k => ?_⟩
  obtain ⟨xs, e0, hf'⟩ := ownAt_of hf
  obtain ⟨q, vs, h1, h2, h3, h4, h5⟩ := G.ow i xs e0
  refine ⟨_, h1, sb C σ ρ H _ _ hm G hf' fun w H1 y m l u t1 oy hy => ?_⟩
  match y, oy, hy with
  | .d (.int n), oy, hy =>
    obtain ⟨d, e, hr⟩ := hy
    obtain ⟨z, e1, rz⟩ := (h3.mono (G.ex t1)).at e
    exact .inl ⟨q, vs, n, z, rfl, Rd.inv_int oy, SqL.of (t1.1 q _ (fun s => h5 (G.ct.sb q s)) h2), e1, k z H1 (.d d) m l u t1 rz hr⟩
theorem e_ownLen (hm : F.mg "len" = none) (i : Nat) {p' : Pos} (hN : F.N[i]? = some x := by rfl) (hv : ∀ j, Vis (F.X j).env.scope x := by intro _; first | exact .inl rfl | exact .inr (.inl rfl)) (hg : ∀ i, Gl (F.X i) "len" := by intro _; rfl)
    (hd : (x == ("__debug__" : Str)) = false := by decide) (hcd : (x == ("__classdict__" : Str)) = false := by decide)
    (he : ∀ i, starEach [.Name x p'] (F.X i).env = (false, eval (.Name x p') (F.X i).env) :: starEach [] (F.X i).env := by intro _; rfl) (hpl : ∀ i, (backTo pos (starEach [] (F.X i).env)).any (·.1) = false := by intro _; rfl) :
    Ee F (.Call (.Name "len" p) [.Name x p'] [] pos) 0 (fun ρ R => ownAt i ρ fun xs => R (.d (.int xs.length))) := by
  refine ⟨tCB (rLenA F.K) (tCons (tVar i) tNil), fun j => pe_callB (cLen j) (hg j) (by rw [F.eM]; exact hm) PySem.boot_len (pa_cons (pe_var (by rw [F.eN]; exact hN) (hv j) hd hcd) pa_nil (he j)) (by decide) (by decide) (he j) (hpl j), fun C σ ρ H R Q _ G hf k => ?_⟩
  obtain ⟨xs, e0, hf'⟩ := ownAt_of hf
  obtain ⟨q, vs, h1, h2, h3, h4, h5⟩ := G.ow i xs e0
  exact ⟨_, h1, q, vs, rfl, .inl (SqL.of h2), by rw [h3.length]; exact k _ H (.d (.int xs.length)) C.m (Nat.le_refl _) le0 (Tr.refl G.si) (Rd.int _) hf'⟩
theorem e_ownTuple (hm : F.mg "tuple" = none) (i : Nat) {p' : Pos} (hN : F.N[i]? = some x := by rfl) (hv : ∀ j, Vis (F.X j).env.scope x := by intro _; first | exact .inl rfl | exact .inr (.inl rfl)) (hg : ∀ i, Gl (F.X i) "tuple" := by intro _; rfl)
    (hd : (x == ("__debug__" : Str)) = false := by decide) (hcd : (x == ("__classdict__" : Str)) = false := by decide)
    (he : ∀ i, starEach [.Name x p'] (F.X i).env = (false, eval (.Name x p') (F.X i).env) :: starEach [] (F.X i).env := by intro _; rfl) (hpl : ∀ i, (backTo pos (starEach [] (F.X i).env)).any (·.1) = false := by intro _; rfl) :
    Ee F (.Call (.Name "tuple" p) [.Name x p'] [] pos) 0 (fun ρ R => ownAt i ρ fun xs => R (.d (.tuple xs))) := by
  refine ⟨tCB (rTupleA F.K) (tCons (tVar i) tNil), fun j => pe_callTy (cTuple j) (hg j) (by rw [F.eM]; exact hm) (by decide +kernel) (pa_cons (pe_var (by rw [F.eN]; exact hN) (hv j) hd hcd) pa_nil (he j)) (by decide) (by decide) (he j) (hpl j), fun C σ ρ H R Q _ G hf k => ?_⟩
  obtain ⟨xs, e0, hf'⟩ := ownAt_of hf
  obtain ⟨q, vs, h1, h2, h3, h4, h5⟩ := G.ow i xs e0
  exact ⟨_, h1, q, vs, rfl, .inl ⟨SqL.of h2, fun l hl => G.finT (fun u H' z t => k u H' z C.m (Nat.le_refl _) le0 t) h3 hf' hl⟩⟩
/-! ### slices -/
def cutD (xs : List PyData) (lo hi : Option Int) : List PyData := (xs.drop (HT.sIx xs.length 0 lo)).take (HT.sIx xs.length xs.length hi - HT.sIx xs.length 0 lo)
abbrev FO := En → (Option Int → Prop) → Prop
def SO (K : Kx) (t : TO) (c : Nat) (f : FO) : Prop := ∀ (C : Ct) (σ : Sg) (ρ : En) (H : Hp) (R : Option Int → Prop) (Q : Option Int → Hp → Prop), C.m + c ≤ lim → Good K C σ ρ H → f ρ R → (∀ o H' m, C.m ≤ m → m ≤ C.m + c → Tr C.S (K.SI m) H H' → R o → Q o H') → t σ H Q
structure Eo (F : Fm) (e : Option Expr) (c : Nat) (f : FO) : Prop where
  ex : ∃ t, (∀ i, PO (F.X i) e t) ∧ SO F.K t c f
theorem o_none : Eo F none 0 (fun _ R => R none) := ⟨_, fun _ => po_none, fun C _ _ H _ _ _ G h k => k none H C.m (Nat.le_refl _) le0 (Tr.refl G.si) h⟩
def asI (R : Option Int → Prop) : Vl → Prop
  | .d (.int i) => R (some i)
  | _ => False
theorem o_some (h : Ee F e n fe) : Eo F (some e) n (fun ρ R => fe ρ (asI R)) := by
  obtain ⟨t, pt, st⟩ := h
  refine ⟨_, fun i => po_some (pt i), fun C σ ρ H R Q hm G hf k => st C σ ρ H _ _ hm G hf fun v H1 x m l u t1 ox h1 => ?_⟩
  match x, ox, h1 with
  | .d (.int n), ox, h1 => exact ⟨n, Rd.inv_int ox, k _ H1 m l u t1 h1⟩
def rSl (K : Fg) : V → Option Int → Option Int → Hp → VK → Prop := fun x l u H Q => rSlL K x l u H Q ∨ rSlA K x l u H Q
def fSl (x : Vl) (l u : Option Int) (R : Vl → Prop) : Prop := match x with
  | .d (.list xs) => R (.d (.list (cutD xs l u)))
  | .d (.tuple xs) => R (.d (.tuple (cutD xs l u)))
  | _ => False
theorem RdA.cut {M : Hp} {vs : List V} {ds : List PyData} (h : RdA K M vs ds) (l u : Option Int) : RdA K M (cutV vs l u) (cutD ds l u) := by
  unfold cutV cutD
  rw [h.length]
  exact (h.drop _).take _
theorem cutD_all {ds : List PyData} {l u : Option Int} (h : HT.sIx ds.length 0 l = 0 ∧ HT.sIx ds.length ds.length u = ds.length) : cutD ds l u = ds := by
  unfold cutD
  rw [h.1, h.2, List.drop_zero, Nat.sub_zero, List.take_length]
theorem e_slice {lo hi : Option Expr} {fl fu : FO} {p2 : Pos} (he : Ee F e n fe) (hl : Eo F lo nl fl) (hu : Eo F hi nu fu) : Ee F (.Subscript e (.Slice lo hi none p2) pos) (n + nl + nu) (fun ρ R => fe ρ fun x => fl ρ fun l => fu ρ fun u => fSl x l u R) := by
  obtain ⟨t, pt, st⟩ := he
  obtain ⟨t2, p2', s2⟩ := hl
  obtain ⟨t3, p3, s3⟩ := hu
  refine ⟨tSl (rSl F.K) t t2 t3, fun i => pe_slice (by have h := SlR.or (sl_list (X := F.X i)) sl_tupA; rw [F.eK i] at h; exact h) (pt i) (p2' i) (p3 i), fun C σ ρ H R Q hm G hf k =>
    st C σ ρ H _ _ (by omega) G hf fun v H1 x m1 l1 u1 t1 ox h1 => s2 (C.up m1) σ ρ H1 _ _ (by show m1 + nl ≤ lim; omega) (G.tr t1) h1 fun l H2 m2 l2 u2 tt h2 => s3 (C.up m2) σ ρ H2 _ _ (by have : m2 ≤ m1 + nl := u2; show m2 + nu ≤ lim; omega) ((G.tr t1).tr tt) h2 fun u H3 m3 l3 u3 t5 h3 => ?_⟩
  have t' := (t1.trans tt).trans t5
  have G3 := ((G.tr t1).tr tt).tr t5
  have ox3 := ox.mono ((G.tr t1).ex (tt.trans t5))
  have a2 : m1 ≤ m2 := l2
  have b2 : m2 ≤ m1 + nl := u2
  have a3 : m2 ≤ m3 := l3
  have b3 : m3 ≤ m2 + nu := u3
  have k' := fun u H' z => k u H' z m3 (by omega) (by omega)
  match x, ox3, h3 with
  | .d (.list xs), ox3, h3 =>
    obtain ⟨a, vs, rfl, ha, ra⟩ := Rd.inv_list ox3
    exact .inl ⟨a, vs, rfl, SqL.of (mask_le _ _ ha), fun q hq => G3.finL (fun u H' z t6 => k' u H' z (t'.trans t6)) (ra.cut l u) h3 hq⟩
  | .d (.tuple xs), ox3, h3 =>
    obtain ⟨a, vs, e1, ha, ra⟩ := Rd.inv_tuple ox3
    subst e1
    refine .inr ⟨a, vs, rfl, Ex.sqt mask_le ha, fun hw => ?_, fun _ q hq => G3.finT (fun u H' z t6 => k' u H' z (t'.trans t6)) (ra.cut l u) h3 hq⟩
    rw [ra.length] at hw
    refine k' _ H3 (.d (.tuple xs)) t' ox3 ?_
    have h3' : R (.d (.tuple (cutD xs l u))) := h3
    rw [cutD_all hw] at h3'
    exact h3'
end
end Px

set_option Elab.async false
set_option linter.all false
set_option maxRecDepth 100000
set_option maxHeartbeats 2000000
set_option exponentiation.threshold 10000
/-! Px: the moving state of drawn numbers: a dict of two lists and a count. -/
namespace Px
open PySem PySem.Spec PyProof.Rows L2

/-- the state at d: its cells at c, what is left of them at l -/
abbrev stD (c l : Addr) (n : Nat) : List (Key × V) := [(.inr "cells", .ref c), (.inr "lefts", .ref l), (.inr "at", .int n)]
def stI (d c l : Addr) (nC : Nat) (m : Nat) (H : Hp) : Prop := ∃ (cells lefts : List Int) (at_ : Nat), H d = some (.dK (stD c l at_)) ∧ H c = some (.lst (cells.map V.int)) ∧ H l = some (.lst (lefts.map V.int)) ∧
  c ≠ l ∧ cells.length = nC ∧ lefts.length = nC ∧ at_ ≤ m
def stS (d c l : Addr) (a : Addr) : Prop := a = d ∨ a = c ∨ a = l
def stK (fg : Fg) (d c l : Addr) (nC : Nat) : Kx := ⟨fg, .ref d, stS d c l, stI d c l nC⟩
theorem stI_of {d c l : Addr} {nC m : Nat} {H H' : Hp} (h : ∀ a, stS d c l a → H a = H' a) (s : stI d c l nC m H) : stI d c l nC m H' := by
  obtain ⟨cs, ls, k, h1, h2, h3, h4⟩ := s
  exact ⟨cs, ls, k, by rw [← h d (.inl rfl)]; exact h1, by rw [← h c (.inr (.inl rfl))]; exact h2, by rw [← h l (.inr (.inr rfl))]; exact h3, h4⟩
theorem stK_ok {fg : Fg} {d c l : Addr} {nC : Nat} {B : Addr → Prop} (h : ∀ a, stS d c l a → B a) : CtOk B (stK fg d c l nC).S (stK fg d c l nC).SI where
  sb := h
  st := fun m H H' e s => stI_of e s
  th := fun m H s a ha => by
    obtain ⟨cs, ls, k, h1, h2, h3, h4⟩ := s
    rcases ha with rfl | rfl | rfl
    · rw [h1]; simp
    · rw [h2]; simp
    · rw [h3]; simp
  up := fun m m' H hm s => by
    obtain ⟨cs, ls, k, h1, h2, h3, h4, h5, h6, h7⟩ := s
    exact ⟨cs, ls, k, h1, h2, h3, h4, h5, h6, Nat.le_trans h7 hm⟩
theorem log2_le_of {a b : Nat} (h : a ≤ b) : a.log2 ≤ b.log2 := by
  by_cases z : a = 0
  · rw [z, show Nat.log2 0 = 0 from by decide]; exact Nat.zero_le _
  · exact (Nat.le_log2 (by omega)).mpr (Nat.le_trans (Nat.log2_self_le z) h)

theorem atI_natG {α : Type} {xs : List α} {n : Nat} (h : n < xs.length) : atI xs (n : Int) = xs[n]? := by
  unfold atI ixN
  rw [if_pos (by omega), if_pos (by omega)]
  rfl
def tOpFin (K : Fg) (x y : V) (H : Hp) (Q : VK) : Prop := L2.rIx K x y H Q
section
variable {F : Fm} {fg : Fg} {d c l : Addr} {nC : Nat} {pos p p1 p2 p3 p4 p5 pos' p2' p3' : Pos} {x y : Str} {e e2 : Expr} {fe fi : FE} {n ni : Nat} {sts : List Stmt} {f : FSt} {j1 j2 j3 : Nat}
/-- the slot holds the moving state -/
def isSt (ρ : En) (i : Nat) : Prop := ρ[i]? = some (.v .st)
theorem isSt_of {K : Kx} {C : Ct} {σ : Sg} {ρ : En} {H : Hp} {i : Nat} (hK : K = stK fg d c l nC) (G : Good K C σ ρ H) (h : isSt ρ i) : σ[i]? = some (some (.ref d)) := by
  obtain ⟨v, h1, h2⟩ := G.sl i .st h
  subst hK
  cases (show v = V.ref d from h2)
  exact h1
abbrev tKey (i : Nat) (k : Str) : TE := tDGet (tVar i) (tC (.str k))
theorem pKey (i : Nat) {k : Str} (hN : F.N[i]? = some x) (hv : ∀ j, Vis (F.X j).env.scope x) (hd : (x == ("__debug__" : Str)) = false) (hcd : (x == ("__classdict__" : Str)) = false) :
    ∀ j, PE (F.X j) (.Subscript (.Name x p1) (.Constant (.str k) j1 p2) pos) (tKey i k) := fun j =>
  pe_dget (by have := (F.room j).un; omega) (pe_var (by rw [F.eN]; exact hN) (hv j) hd hcd) pe_str (by intro _ _; rfl)
theorem key_run {i : Nat} {k : Str} {σ : Sg} {H : Hp} {Q : VK} {kvs : List (Key × V)} {v : V} (h1 : σ[i]? = some (some (.ref d))) (h2 : H d = some (.dK kvs)) (h3 : valV kvs (.inr k) = some v) (q : Q v H) : tKey i k σ H Q :=
  ⟨_, h1, d, v, rfl, by rw [← h3]; exact DGet.k (k := .inr k) h2, q⟩

/-- len(state['cells']) -/
theorem e_stLen (hK : F.K = stK fg d c l nC) (hm : F.mg "len" = none) (i : Nat) (hN : F.N[i]? = some x := by rfl) (hv : ∀ j, Vis (F.X j).env.scope x := by intro _; first | exact .inl rfl | exact .inr (.inl rfl)) (hg : ∀ i, Gl (F.X i) "len" := by intro _; rfl)
    (hd : (x == ("__debug__" : Str)) = false := by decide) (hcd : (x == ("__classdict__" : Str)) = false := by decide)
    (he : ∀ i, starEach [.Subscript (.Name x p1) (.Constant (.str "cells") j1 p2) p3] (F.X i).env = (false, eval (.Subscript (.Name x p1) (.Constant (.str "cells") j1 p2) p3) (F.X i).env) :: starEach [] (F.X i).env := by intro _; rfl) (hpl : ∀ i, (backTo pos (starEach [] (F.X i).env)).any (·.1) = false := by intro _; rfl) :
    Ee F (.Call (.Name "len" p) [.Subscript (.Name x p1) (.Constant (.str "cells") j1 p2) p3] [] pos) 0 (fun ρ R => isSt ρ i ∧ R (.d (.int nC))) := by
  refine ⟨tCB (rLenA F.K) (tCons (tKey i "cells") tNil), fun j => pe_callB (cLen j) (hg j) (by rw [F.eM]; exact hm) PySem.boot_len (pa_cons (pKey i hN hv hd hcd j) pa_nil (he j)) (by decide) (by decide) (he j) (hpl j), fun C σ ρ H R Q _ G hf k => ?_⟩
  have hs := isSt_of hK G hf.1
  have si := G.si
  rw [hK] at si
  obtain ⟨cs, ls, a, h1, h2, h3, h4, h5, h6, h7⟩ := si
  refine key_run hs h1 (v := .ref c) rfl ⟨c, cs.map V.int, rfl, .inl (SqL.of h2), ?_⟩
  rw [List.length_map, h5]
  exact k _ H (.d (.int nC)) C.m (Nat.le_refl _) le0 (Tr.refl G.si) (Rd.int _) hf.2
/-- state[k][e], k one of the two lists -/
theorem e_stIx {k : Str} (hk : k = "cells" ∨ k = "lefts") (hK : F.K = stK fg d c l nC) (i : Nat) (hb : Ee F e n fe) (hN : F.N[i]? = some x := by rfl) (hv : ∀ j, Vis (F.X j).env.scope x := by intro _; first | exact .inl rfl | exact .inr (.inl rfl)) (hs : PlainIx e := by intro _ _; rfl)
    (hd : (x == ("__debug__" : Str)) = false := by decide) (hcd : (x == ("__classdict__" : Str)) = false := by decide) :
    Ee F (.Subscript (.Subscript (.Name x p1) (.Constant (.str k) j1 p2) p3) e pos) n (fun ρ R => isSt ρ i ∧ fe ρ fun y => ∃ j : Int, y = .d (.int j) ∧ 0 ≤ j ∧ j < nC ∧ ∀ z : Int, R (.d (.int z))) := by
  obtain ⟨tb, pb, sb⟩ := hb
  refine ⟨tOp (rIx F.K) (tKey i k) tb, fun j => pe_ix (oIx j) (pKey i hN hv hd hcd j) (pb j) hs, fun C σ ρ H R Q hm G hf kk => ?_⟩
  have hst := isSt_of hK G hf.1
  have si := G.si
  rw [hK] at si
  obtain ⟨cs, ls, a, h1, h2, h3, h4, h5, h6, h7⟩ := si
  have hp : ∃ p : Addr, valV (stD c l a) (.inr k) = some (.ref p) ∧ (p = c ∨ p = l) := by
    rcases hk with rfl | rfl
    · exact ⟨c, rfl, .inl rfl⟩
    · exact ⟨l, rfl, .inr rfl⟩
  obtain ⟨q, hq, hq2⟩ := hp
  refine key_run hst h1 hq ?_
  refine sb C σ ρ H _ _ hm G hf.2 fun w H1 y m l1 u t1 oy hy => ?_
  obtain ⟨j, rfl, j0, jn, hr⟩ := hy
  have si' := t1.2
  rw [hK] at si'
  obtain ⟨cs', ls', a', g1, g2, g3, g4, g5, g6, g7⟩ := si'
  obtain ⟨n, rfl⟩ := Int.eq_ofNat_of_zero_le j0
  have fin : ∀ xs : List Int, xs.length = nC → H1 q = some (.lst (xs.map V.int)) → tOpFin F.K (.ref q) w H1 Q := fun xs hx hH => by
    have hn : n < xs.length := by omega
    refine .inl ⟨q, xs.map V.int, n, .int xs[n], rfl, Rd.inv_int oy, SqL.of hH, ?_, kk _ H1 (.d (.int xs[n])) m l1 u t1 (Rd.int _) (hr _)⟩
    rw [atI_natG (by rw [List.length_map]; exact hn)]
    simp [hn]
  rcases hq2 with rfl | rfl
  · exact fin cs' g5 g2
  · exact fin ls' g6 g3

theorem inS {K : Kx} {C : Ct} {σ : Sg} {ρ : En} {H : Hp} (hK : K = stK fg d c l nC) (G : Good K C σ ρ H) {a : Addr} (h : stS d c l a) : C.S a := by
  rw [G.eS, hK]
  exact h
/-- v = state['at']; state['at'] = v + 1 -/
theorem ss_tick (hK : F.K = stK fg d c l nC) (i j : Nat) (hij : i ≠ j) (hN : F.N[i]? = some x) (hN2 : F.N[j]? = some y) (he : Ee F e2 0 fe) (hs : Es F sts n f)
    (hv : ∀ j, Vis (F.X j).env.scope x := by intro _; first | exact .inl rfl | exact .inr (.inl rfl)) (hd : (x == ("__debug__" : Str)) = false := by decide) (hcd : (x == ("__classdict__" : Str)) = false := by decide)
    (hx : ∀ j, Loc (F.X j).env.scope y := by intro _; first | exact .inl rfl | exact .inr rfl)
    (hf : ∀ j, (F.X j).fn y = true ∨ (F.X j).env.scope.names.lookup y = some .local := by intro _; first | exact .inl rfl | exact .inr rfl)
    (hsw1 : ∀ j, swapsWithSole [.Name y p4] (.Subscript (.Name x p1) (.Constant (.str "at") j1 p2) p3) pos.line (F.X j).env = pure false := by intro _; rfl)
    (hsw2 : ∀ j, swappedStores [.Name y p4] (.Subscript (.Name x p1) (.Constant (.str "at") j1 p2) p3) (F.X j).env = pure none := by intro _; rfl)
    (hsw4 : ∀ j, swapsWith e2 (some (.Subscript (.Name x p5) (.Constant (.str "at") j2 p2') p3')) pos'.line (F.X j).env = pure false := by intro _; rfl) :
    Es F (.Assign [.Name y p4] (.Subscript (.Name x p1) (.Constant (.str "at") j1 p2) p3) pos :: .Assign [.Subscript (.Name x p5) (.Constant (.str "at") j2 p2') p3'] e2 pos' :: sts) (1 + n)
      (fun ρ N => isSt ρ i ∧ j < ρ.length ∧ ∀ k : Nat, k ≤ lim → fe (ρ.set j (.v (.d (.int k)))) (fun z => z = .d (.int (k + 1))) ∧ f (ρ.set j (.v (.d (.int k)))) N) := by
  obtain ⟨te, pe, se⟩ := he
  obtain ⟨u, pu, su⟩ := hs
  refine ⟨_, fun r => pss_cons (ps_asg (pKey i hN hv hd hcd r) (pg_name (by rw [F.eN]; exact F.nd) (by rw [F.eN]; exact hN2) (hx r) (hf r)) (hsw1 r) (hsw2 r) rfl)
    (pss_cons (ps_dput (by have := (F.room r).un; omega) (pe_var (by rw [F.eN]; exact hN) (hv r) hd hcd) pe_str (pe r) (hsw4 r)) (pu r)), fun C σ ρ H N D hm G hg lk => ?_⟩
  obtain ⟨g1, g2, g3⟩ := hg
  have hst := isSt_of hK G g1
  have si := G.si
  rw [hK] at si
  obtain ⟨cs, ls, a, h1, h2, h3, h4, h5, h6, h7⟩ := si
  obtain ⟨q1, q2⟩ := g3 a (by omega)
  refine key_run hst h1 (v := .int a) rfl ?_
  obtain ⟨G1, ex1⟩ := G.set (i := j) (v := .int a) (x := .d (.int a)) g2 (Rd.int _)
  refine se C (σ.set j (some (.int a))) _ H _ _ (by omega) G1 q1 fun v H1 z m l1 u1 t1 oz hz => ?_
  subst hz
  have si' := t1.2
  rw [hK] at si'
  obtain ⟨cs', ls', a', k1, k2, k3, k4, k5, k6, k7⟩ := si'
  have ev : v = .int (a + 1) := Rd.inv_int oz
  subst ev
  have dc : d ≠ c := fun z => by rw [← z, k1] at k2; cases k2
  have dl : d ≠ l := fun z => by rw [← z, k1] at k3; cases k3
  have t2 : Tr C.S (F.K.SI (C.m + 1)) H1 (upd H1 d (.dK (stD c l (a + 1)))) := by
    refine ⟨fun b o nb e => by rw [upd_ne (fun z => nb (inS hK G (.inl z)))]; exact e, ?_⟩
    rw [hK]
    exact ⟨cs', ls', a + 1, upd_same, by rw [upd_ne dc.symm]; exact k2, by rw [upd_ne dl.symm]; exact k3, k4, k5, k6, by omega⟩
  have em : m = C.m := by omega
  subst em
  have G2 := (G1.tr (t1.trans t2))
  refine ⟨_, by rw [set_oth hij]; exact hst, d, upd H1 d (.dK (stD c l (a + 1))), rfl, ?_, su (C.up (C.m + 1)) _ _ _ N D (by show C.m + 1 + n ≤ lim; omega) G2 q2 (lk.go (by omega) (by omega) (ex1.trans (G1.ex (t1.trans t2))))⟩
  exact DPut.k (k := .inr "at") (v := .int (a + 1)) k1 (show 3 < sizeLine by decide)
/-- state['lefts'][e] = e2 -/
theorem s_stPut (hK : F.K = stK fg d c l nC) (i : Nat) (hN : F.N[i]? = some x) (hi : Ee F e ni fi) (he : Ee F e2 n fe)
    (hv : ∀ j, Vis (F.X j).env.scope x := by intro _; first | exact .inl rfl | exact .inr (.inl rfl)) (hd : (x == ("__debug__" : Str)) = false := by decide) (hcd : (x == ("__classdict__" : Str)) = false := by decide)
    (ha : ∀ (r : F.I) (v : Value), assign (.Subscript (.Subscript (.Name x p1) (.Constant (.str "lefts") j1 p2) p3) e p4) (F.X r).env v = Sem.bind (holding [v] (eval (.Subscript (.Name x p1) (.Constant (.str "lefts") j1 p2) p3) (F.X r).env)) fun ov => Sem.bind (holding [v, ov] (eval e (F.X r).env)) fun iv => Sem.bind (standAt p4) fun _ => Sem.bind (holding [v, ov, iv] (setItem ov iv v)) fun _ => PySem.release [v, ov, iv] [] := by intro _ _; rfl)
    (hsw1 : ∀ j, swapsWithSole [.Subscript (.Subscript (.Name x p1) (.Constant (.str "lefts") j1 p2) p3) e p4] e2 pos.line (F.X j).env = pure false := by intro _; rfl)
    (hsw2 : ∀ j, swappedStores [.Subscript (.Subscript (.Name x p1) (.Constant (.str "lefts") j1 p2) p3) e p4] e2 (F.X j).env = pure none := by intro _; rfl)
    (hsw3 : ∀ j, (assignEach [.Subscript (.Subscript (.Name x p1) (.Constant (.str "lefts") j1 p2) p3) e p4] (F.X j).env).map (fun x => x.2) = [assign (.Subscript (.Subscript (.Name x p1) (.Constant (.str "lefts") j1 p2) p3) e p4) (F.X j).env] := by intro _; rfl) :
    E1 F (.Assign [.Subscript (.Subscript (.Name x p1) (.Constant (.str "lefts") j1 p2) p3) e p4] e2 pos) (n + ni) (fun ρ N => isSt ρ i ∧ fe ρ fun y => ∃ z : Int, y = .d (.int z) ∧ fi ρ fun y' => ∃ j : Int, y' = .d (.int j) ∧ 0 ≤ j ∧ j < nC ∧ N.nx ρ) := by
  obtain ⟨te, pe, se⟩ := he
  obtain ⟨ti, pi, si⟩ := hi
  refine ⟨_, fun r => ps_asg (pe r) (pg_sub (pKey i hN hv hd hcd r) (pi r) set_list (ha r)) (hsw1 r) (hsw2 r) (hsw3 r), fun C σ ρ H N D hm G hg lk => ?_⟩
  obtain ⟨g1, g2⟩ := hg
  have hst := isSt_of hK G g1
  refine se C σ ρ H _ _ (by omega) G g2 fun v H1 y m1 l1 u1 t1 oy hy => ?_
  obtain ⟨z, rfl, g3⟩ := hy
  have s1 := t1.2
  rw [hK] at s1
  obtain ⟨cs, ls, a, h1, h2, h3, h4, h5, h6, h7⟩ := s1
  refine key_run hst h1 (v := .ref l) rfl ?_
  refine si (C.up m1) σ ρ H1 _ _ (by show m1 + ni ≤ lim; omega) (G.tr t1) g3 fun w H2 y m2 l2 u2 t2 oy' hy => ?_
  obtain ⟨j, rfl, j0, jn, hr⟩ := hy
  have s2 := t2.2
  rw [hK] at s2
  obtain ⟨cs', ls', a', k1, k2, k3, k4, k5, k6, k7⟩ := s2
  obtain ⟨n, rfl⟩ := Int.eq_ofNat_of_zero_le j0
  have hn : n < ls'.length := by omega
  have ev : v = .int z := Rd.inv_int oy
  subst ev
  have t3 : Tr C.S (F.K.SI m2) H2 (upd H2 l (.lst ((ls'.map V.int).set n (.int z)))) := by
    refine ⟨fun b o nb e => by rw [upd_ne (fun z => nb (inS hK G (.inr (.inr z))))]; exact e, ?_⟩
    rw [hK]
    have dl : d ≠ l := fun z => by rw [← z, k1] at k3; cases k3
    refine ⟨cs', ls'.set n z, a', by rw [upd_ne dl]; exact k1, by rw [upd_ne k4]; exact k2, by rw [upd_same, List.map_set], k4, k5, by rw [List.length_set]; exact k6, k7⟩
  have t' := (t1.trans t2).trans t3
  refine ⟨l, ls'.map V.int, n, n, rfl, Rd.inv_int oy', k3, ?_, lk.nx σ ρ _ m2 ?_ ?_ (G.tr t') (G.ex t') hr⟩
  · unfold ixN
    rw [if_pos (by omega), if_pos (by rw [List.length_map]; omega)]
    rfl
  · have : m1 ≤ m2 := l2
    omega
  · have : m2 ≤ m1 + ni := u2
    omega
end
end Px

set_option Elab.async false
set_option linter.all false
set_option maxRecDepth 100000
set_option maxHeartbeats 2000000
set_option exponentiation.threshold 10000
/-! Px: sizes of numbers, greatest common divisors, fractions as rationals. -/
namespace Px
open PySem PySem.Spec PyProof.Rows L2

/-! ### sizes -/
def Bd (n : Nat) (i : Int) : Prop := i.natAbs < 2 ^ n
theorem pw_le {n m : Nat} (h : n ≤ m) : 2 ^ n ≤ 2 ^ m := Nat.pow_le_pow_right (by decide) h
theorem Bd.mono {n m : Nat} {i : Int} (h : Bd n i) (l : n ≤ m) : Bd m i := Nat.lt_of_lt_of_le h (pw_le l)
theorem Bd.add {n : Nat} {i j : Int} (h : Bd n i) (h2 : Bd n j) : Bd (n + 1) (i + j) := by
  unfold Bd at *
  rw [Nat.pow_succ]
  omega
theorem Bd.sub {n : Nat} {i j : Int} (h : Bd n i) (h2 : Bd n j) : Bd (n + 1) (i - j) := by
  unfold Bd at *
  rw [Nat.pow_succ]
  omega
theorem Bd.neg {n : Nat} {i : Int} (h : Bd n i) : Bd n (-i) := by
  unfold Bd at *
  rw [Int.natAbs_neg]
  exact h
theorem Bd.mul {n m : Nat} {i j : Int} (h : Bd n i) (h2 : Bd m j) : Bd (n + m) (i * j) := wide_lt h h2
theorem Bd.ok {n m : Nat} {i j : Int} (h : Bd n i) (h2 : Bd m j) (hn : 0 < n) (hm : 0 < m) (l : n + m ≤ 1000000) : CMulW i j := wide_mul h h2 hn hm l
theorem Bd.fmod {n : Nat} {i j : Int} (h : Bd n j) (p : 0 < j) : Bd n (i.fmod j) := by
  unfold Bd at *
  rw [Int.fmod_eq_emod_of_nonneg i (by omega)]
  have := Int.emod_nonneg i (show j ≠ 0 by omega)
  have := Int.emod_lt_of_pos i p
  omega
theorem Bd.lit {n : Nat} {i : Int} (h : i.natAbs.log2 < n) : Bd n i := by
  unfold Bd
  by_cases z : i.natAbs = 0
  · rw [z]; exact Nat.two_pow_pos n
  · exact (Nat.log2_lt z).mp h
theorem Bd.log {n : Nat} {i : Int} (h : Bd n i) (hn : 0 < n) : i.natAbs.log2 < n := PySem.Flt.log2_lt_of hn h
theorem Bd.of_lt {n : Nat} {i : Int} {j : Nat} (h : i.natAbs ≤ j) (h2 : j < 2 ^ n) : Bd n i := Nat.lt_of_le_of_lt h h2
theorem fmod_rng {i j : Int} (p : 0 < j) : 0 ≤ i.fmod j ∧ i.fmod j < j := by
  rw [Int.fmod_eq_emod_of_nonneg i (by omega)]
  exact ⟨Int.emod_nonneg i (by omega), Int.emod_lt_of_pos i p⟩

/-! ### the divisor by Euclid's steps -/
def sg (a b : Int) : Int := if b < 0 then -((Nat.gcd a.natAbs b.natAbs : Nat) : Int) else (Nat.gcd a.natAbs b.natAbs : Nat)
/-- the fraction, as data -/
def fq (q : Rat) : PyData := .tuple [.int q.num, .int q.den]
theorem gcd_pos_r {a : Nat} {b : Int} (h : b ≠ 0) : 0 < Nat.gcd a b.natAbs := Nat.gcd_pos_of_pos_right _ (by omega)
theorem red_eq {a b : Int} (h : b ≠ 0) : (a.fdiv (sg a b) = (Rat.divInt a b).num) ∧ (b.fdiv (sg a b) = ((Rat.divInt a b).den : Int)) := by
  rw [Rat.num_divInt, Rat.den_divInt, if_neg h]
  have hg : Int.gcd b a = Nat.gcd a.natAbs b.natAbs := by rw [Int.gcd_comm]; rfl
  rw [hg]
  have gp : 0 < Nat.gcd a.natAbs b.natAbs := gcd_pos_r h
  have da : ((Nat.gcd a.natAbs b.natAbs : Nat) : Int) ∣ a := Int.ofNat_dvd_left.mpr (Nat.gcd_dvd_left _ _)
  have db : ((Nat.gcd a.natAbs b.natAbs : Nat) : Int) ∣ b := Int.ofNat_dvd_left.mpr (Nat.gcd_dvd_right _ _)
  generalize hG : Nat.gcd a.natAbs b.natAbs = G at *
  unfold sg
  rw [hG]
  obtain ⟨x, rfl⟩ := da
  obtain ⟨y, rfl⟩ := db
  have Gp : (0 : Int) < (G : Int) := by exact_mod_cast gp
  have y0 : y ≠ 0 := fun z => h (by rw [z]; simp)
  have ax : ((G : Int) * x) / (G : Int) = x := Int.mul_ediv_cancel_left x (by omega)
  have nb : ((G : Int) * y).natAbs / G = y.natAbs := by
    rw [Int.natAbs_mul, Int.natAbs_natCast]
    exact Nat.mul_div_cancel_left _ gp
  rw [nb]
  by_cases hy : y < 0
  · have hb : (G : Int) * y < 0 := Int.mul_neg_of_pos_of_neg Gp hy
    rw [if_pos hb, Int.sign_eq_neg_one_of_neg hb]
    have e1 : (G : Int) * x = (-(G : Int)) * (-x) := (Int.neg_mul_neg _ _).symm
    have e2 : (G : Int) * y = (-(G : Int)) * (-y) := (Int.neg_mul_neg _ _).symm
    constructor
    · rw [show (-1 : Int) * ((G : Int) * x) = (G : Int) * (-x) by (rw [Int.mul_neg]; omega), Int.mul_ediv_cancel_left _ (by omega), e1, Int.mul_fdiv_cancel_left _ (by omega)]
    · rw [e2, Int.mul_fdiv_cancel_left _ (by omega)]
      omega
  · have yp : 0 < y := by omega
    have hb : 0 < (G : Int) * y := Int.mul_pos Gp yp
    rw [if_neg (by omega), Int.sign_eq_one_of_pos hb]
    constructor
    · rw [Int.one_mul, ax, Int.mul_fdiv_cancel_left _ (by omega)]
    · rw [Int.mul_fdiv_cancel_left _ (by omega)]
      omega
theorem red_fq {a b : Int} (h : b ≠ 0) : PyData.tuple [.int (a.fdiv (sg a b)), .int (b.fdiv (sg a b))] = fq (Rat.divInt a b) := by
  obtain ⟨h1, h2⟩ := red_eq (a := a) h
  rw [h1, h2]
  rfl
theorem sg_ne {a b : Int} (h : b ≠ 0) : sg a b ≠ 0 := by
  have := gcd_pos_r (a := a.natAbs) h
  unfold sg
  split <;> omega
theorem sg_bd {a b : Int} {n : Nat} (h : b ≠ 0) (hb : Bd n b) : Bd n (sg a b) := by
  have l := Nat.gcd_le_right (m := a.natAbs) (n := b.natAbs) (by omega)
  unfold Bd sg at *
  split <;> omega
/-- sizes of fractions -/
def Fb (n : Nat) (q : Rat) : Prop := Bd n q.num ∧ q.den < 2 ^ n
theorem Fb.mono {n m : Nat} {q : Rat} (h : Fb n q) (l : n ≤ m) : Fb m q := ⟨h.1.mono l, Nat.lt_of_lt_of_le h.2 (pw_le l)⟩
theorem fdiv_le {i j : Int} (d : j ∣ i) (h : j ≠ 0) : (i.fdiv j).natAbs ≤ i.natAbs := by
  obtain ⟨k, rfl⟩ := d
  rw [Int.mul_fdiv_cancel_left _ h, Int.natAbs_mul]
  exact Nat.le_mul_of_pos_left _ (by omega)
theorem sg_dvd (a b : Int) : sg a b ∣ a ∧ sg a b ∣ b := by
  have da : ((Nat.gcd a.natAbs b.natAbs : Nat) : Int) ∣ a := Int.ofNat_dvd_left.mpr (Nat.gcd_dvd_left _ _)
  have db : ((Nat.gcd a.natAbs b.natAbs : Nat) : Int) ∣ b := Int.ofNat_dvd_left.mpr (Nat.gcd_dvd_right _ _)
  unfold sg
  split
  · exact ⟨Int.neg_dvd.mpr da, Int.neg_dvd.mpr db⟩
  · exact ⟨da, db⟩
theorem Fb.red {n : Nat} {a b : Int} (h : b ≠ 0) (ha : Bd n a) (hb : Bd n b) : Fb n (Rat.divInt a b) := by
  obtain ⟨h1, h2⟩ := red_eq (a := a) h
  obtain ⟨d1, d2⟩ := sg_dvd a b
  have l1 := fdiv_le d1 (sg_ne (a := a) h)
  have l2 := fdiv_le d2 (sg_ne (a := a) h)
  rw [h1] at l1
  rw [h2] at l2
  unfold Fb Bd at *
  omega
theorem q_eq (q : Rat) : Rat.divInt q.num q.den = q := Rat.num_divInt_den q
theorem den_ne (q : Rat) : (q.den : Int) ≠ 0 := by have := q.den_nz; omega
theorem den_pos (q : Rat) : 1 ≤ (q.den : Int) := by have := q.den_nz; omega
theorem Fb.den {n : Nat} {q : Rat} (h : Fb n q) : Bd n (q.den : Int) := by
  have := h.2
  unfold Bd
  omega
theorem add_q (a b : Rat) : Rat.divInt (a.num * b.den + b.num * a.den) (a.den * b.den) = a + b := by
  rw [← Rat.divInt_add_divInt a.num b.num (den_ne a) (den_ne b), q_eq, q_eq]
theorem mul_q (a b : Rat) : Rat.divInt (a.num * b.num) (a.den * b.den) = a * b := by
  rw [← Rat.divInt_mul_divInt a.num b.num, q_eq, q_eq]
theorem neg_q (a : Rat) : Rat.divInt (-a.num) a.den = -a := by
  have := Rat.neg_divInt a.num a.den
  rw [q_eq] at this
  exact this.symm
theorem sub_q (a b : Rat) : Rat.divInt (a.num * b.den - b.num * a.den) (a.den * b.den) = a - b := by
  have h := Rat.divInt_add_divInt a.num (-b.num) (den_ne a) (den_ne b)
  rw [q_eq, neg_q] at h
  rw [Rat.sub_eq_add_neg, h, Int.neg_mul, Int.sub_eq_add_neg]
theorem num_ne {q : Rat} (h : q ≠ 0) : q.num ≠ 0 := fun z => h (Rat.num_eq_zero.mp z)
theorem div_q {a b : Rat} (h : b ≠ 0) : Rat.divInt (a.num * b.den) (a.den * b.num) = a / b := by
  have e : Rat.divInt (a.num * b.den) (a.den * b.num) * b = a := by
    have q := Rat.divInt_mul_divInt (a.num * b.den) b.num (d₁ := a.den * b.num) (d₂ := b.den)
    rw [q_eq] at q
    rw [q]
    have r : Rat.divInt (a.num * b.den * b.num) (a.den * b.num * b.den) = Rat.divInt a.num a.den := by
      refine (Rat.divInt_eq_divInt_iff ?_ (den_ne a)).mpr ?_
      · exact Int.mul_ne_zero (Int.mul_ne_zero (den_ne a) (num_ne h)) (den_ne b)
      · grind
    rw [r, q_eq]
  rw [← e]
  grind
theorem lt_q (a b : Rat) : decide (a.num * b.den < b.num * a.den) = decide (a < b) := by
  rw [decide_eq_decide]
  exact (Rat.lt_iff a b).symm
theorem fq_inj {a b : Rat} : fq a = fq b ↔ a = b := by
  constructor
  · intro h
    unfold fq at h
    injection h with h
    injection h with h1 h
    injection h with h2 _
    injection h1 with h1
    injection h2 with h2
    exact Rat.ext h1 (by omega)
  · intro h; rw [h]
theorem Fb.add {n : Nat} {a b : Rat} (h : Fb n a) (h2 : Fb n b) : Fb (n + n + 1) (a + b) := by
  rw [← add_q]
  exact Fb.red (Int.mul_ne_zero (den_ne a) (den_ne b)) ((h.1.mul h2.den).add (h2.1.mul h.den)) ((h.den.mul h2.den).mono (by omega))
theorem Fb.sub {n : Nat} {a b : Rat} (h : Fb n a) (h2 : Fb n b) : Fb (n + n + 1) (a - b) := by
  rw [← sub_q]
  exact Fb.red (Int.mul_ne_zero (den_ne a) (den_ne b)) ((h.1.mul h2.den).sub (h2.1.mul h.den)) ((h.den.mul h2.den).mono (by omega))
theorem Fb.mul {n m : Nat} {a b : Rat} (h : Fb n a) (h2 : Fb m b) : Fb (n + m) (a * b) := by
  rw [← mul_q]
  exact Fb.red (Int.mul_ne_zero (den_ne a) (den_ne b)) (h.1.mul h2.1) (h.den.mul h2.den)
theorem Fb.div {n : Nat} {a b : Rat} (h : Fb n a) (h2 : Fb n b) (hb : b ≠ 0) : Fb (n + n) (a / b) := by
  rw [← div_q hb]
  exact Fb.red (Int.mul_ne_zero (den_ne a) (num_ne hb)) (h.1.mul h2.den) (h.den.mul h2.1)

/-! ### data that is compared -/
theorem fEq_int {neg : Bool} {i j : Int} {R : Vl → Prop} : fEq neg (.d (.int i)) (.d (.int j)) R = R (.d (.bool (neg ^^ decide (i = j)))) := by
  have e : PyData.eqv (.int i) (.int j) = decide (i = j) := by
    show (i == j) = _
    exact Bool.beq_eq_decide_eq i j
  simp [fEq, e, SeqAt.shaped, PyData.canLay0, PyData.depth]
theorem eqv_fq (a b : Rat) : PyData.eqv (fq a) (fq b) = decide (a = b) := by
  have e : PyData.eqv (fq a) (fq b) = ((a.num == b.num) && (((a.den : Int) == (b.den : Int)) && true)) := rfl
  rw [e]
  by_cases h : a = b
  · subst h; simp
  · rw [decide_eq_false h, Bool.and_true]
    by_cases h1 : a.num = b.num
    · have : a.den ≠ b.den := fun z => h (Rat.ext h1 z)
      simp; omega
    · simp [h1]
theorem fEq_fq {neg : Bool} {a b : Rat} {R : Vl → Prop} : fEq neg (.d (fq a)) (.d (fq b)) R = R (.d (.bool (neg ^^ decide (a = b)))) := by
  have e := eqv_fq a b
  have s : ∀ a : Rat, SeqAt.shaped (fq a) = true := fun a => rfl
  have u : fEq neg (.d (fq a)) (.d (fq b)) R = (SeqAt.shaped (fq a) = true ∧ SeqAt.shaped (fq b) = true ∧ R (.d (.bool (neg ^^ PyData.eqv (fq a) (fq b))))) := rfl
  rw [u, e, s, s]
  simp
theorem fq_zero : fq 0 = .tuple [.int 0, .int 1] := rfl
theorem fq_one : fq 1 = .tuple [.int 1, .int 1] := rfl
end Px

set_option Elab.async false
set_option linter.all false
set_option maxRecDepth 100000
set_option maxHeartbeats 2000000
set_option exponentiation.threshold 10000
/-! Px: rows for the pure goals. -/
namespace Px
open PySem PySem.Spec PyProof.Rows L2

theorem atI_nat {α : Type} {xs : List α} {n : Nat} (h : n < xs.length) : atI xs (n : Int) = xs[n]? := by
  unfold atI ixN
  rw [if_pos (by omega), if_pos (by omega)]
  rfl
theorem at_0 {α : Type} {a : α} {xs : List α} : atI (a :: xs) 0 = some a := by
  rw [show (0 : Int) = ((0 : Nat) : Int) from rfl, atI_nat (by simp)]; rfl
theorem at_1 {α : Type} {a b : α} {xs : List α} : atI (a :: b :: xs) 1 = some b := by
  rw [show (1 : Int) = ((1 : Nat) : Int) from rfl, atI_nat (by simp)]; rfl
theorem at_2 {α : Type} {a b c : α} {xs : List α} : atI (a :: b :: c :: xs) 2 = some c := by
  rw [show (2 : Int) = ((2 : Nat) : Int) from rfl, atI_nat (by simp)]; rfl
theorem at_3 {α : Type} {a b c d : α} {xs : List α} : atI (a :: b :: c :: d :: xs) 3 = some d := by
  rw [show (3 : Int) = ((3 : Nat) : Int) from rfl, atI_nat (by simp)]; rfl
theorem at_4 {α : Type} {a b c d e : α} {xs : List α} : atI (a :: b :: c :: d :: e :: xs) 4 = some e := by
  rw [show (4 : Int) = ((4 : Nat) : Int) from rfl, atI_nat (by simp)]; rfl
theorem ex_some {x : PyData} {p : PyData → Prop} : (∃ y, some x = some y ∧ p y) = p x := by
  apply propext
  constructor
  · rintro ⟨y, e, h⟩
    cases e
    exact h
  · exact fun h => ⟨x, rfl, h⟩
theorem fIx_l {xs : List PyData} {i : Int} {R : Vl → Prop} : fIx (.d (.list xs)) (.d (.int i)) R = ∃ x, atI xs i = some x ∧ R (.d x) := rfl
theorem fIx_t {xs : List PyData} {i : Int} {R : Vl → Prop} : fIx (.d (.tuple xs)) (.d (.int i)) R = ∃ x, atI xs i = some x ∧ R (.d x) := rfl
theorem ix0 {q : Rat} {R : Vl → Prop} : fIx (.d (fq q)) (.d (.int 0)) R = R (.d (.int q.num)) := by
  show (∃ x, atI _ 0 = some x ∧ _) = _
  rw [at_0, ex_some]
theorem ix1 {q : Rat} {R : Vl → Prop} : fIx (.d (fq q)) (.d (.int 1)) R = R (.d (.int q.den)) := by
  show (∃ x, atI _ 1 = some x ∧ _) = _
  rw [at_1, ex_some]
theorem fEq_str {neg : Bool} {x y : Str} {R : Vl → Prop} : fEq neg (.d (.str x)) (.d (.str y)) R = R (.d (.bool (neg ^^ decide (x = y)))) := rfl
theorem fEq_bool {neg x y : Bool} {R : Vl → Prop} : fEq neg (.d (.bool x)) (.d (.bool y)) R = R (.d (.bool (neg ^^ decide (x = y)))) := by
  have e : PyData.eqv (.bool x) (.bool y) = decide (x = y) := by cases x <;> cases y <;> rfl
  have u : fEq neg (.d (.bool x)) (.d (.bool y)) R = (SeqAt.shaped (.bool x) = true ∧ SeqAt.shaped (.bool y) = true ∧ R (.d (.bool (neg ^^ PyData.eqv (.bool x) (.bool y))))) := rfl
  have s : ∀ x : Bool, SeqAt.shaped (.bool x) = true := fun _ => rfl
  rw [u, e, s, s]
  simp
/-- something of data only, with a use of it -/
theorem fMul_i {i j : Int} {R : Vl → Prop} : fMul (.d (.int i)) (.d (.int j)) R = (CMulW i j ∧ R (.d (.int (i * j)))) := rfl
theorem fSub_i {i j : Int} {R : Vl → Prop} : fSub (.d (.int i)) (.d (.int j)) R = R (.d (.int (i - j))) := rfl
end Px

set_option Elab.async false
set_option linter.all false
set_option maxRecDepth 100000
set_option maxHeartbeats 2000000
set_option exponentiation.threshold 10000
/-! Px: the moving state is made. -/
namespace Px
open PySem PySem.Spec PyProof.Rows L2

/-- no moving state yet -/
def K0 (fg : Fg) : Kx := ⟨fg, .non, fun _ => False, fun _ _ => True⟩
theorem SqL.new {K : Fg} {H : Hp} {a p : Addr} {o : HO} {xs : List V} (h : SqL K H a xs) (n : H p = none) : SqL K (upd H p o) a xs := by
  rcases h with (h | ⟨u, h⟩) | h
  · exact .inl (.inl (by rw [upd_ne (ne_of_none h n)]; exact h))
  · exact .inl (.inr ⟨u, by rw [upd_ne (ne_of_none h n)]; exact h⟩)
  · exact .inr h
theorem dp_ints {K : Fg} {H : Hp} : ∀ ns : List Int, DpAll K H (ns.map V.int) (ns.map PyData.int)
  | [] => .nil
  | n :: ns => .cons (.int n) (dp_ints ns)
theorem lay_ints : ∀ ns : List Int, PyData.canLayAll0 (ns.map .int) = true
  | [] => rfl
  | n :: ns => by simp [PyData.canLayAll0, PyData.canLay0, lay_ints ns]
theorem dep_ints : ∀ ns : List Int, PyData.depthAll (ns.map .int) ≤ 1
  | [] => by simp [PyData.depthAll]
  | n :: ns => by
    have := dep_ints ns
    simp only [List.map_cons, PyData.depthAll, PyData.depth]
    first | omega | (simp; done) | (simpa using this)
theorem shaped_ints (ns : List Int) : SeqAt.shaped (.list (ns.map .int)) = true := by
  have := dep_ints ns
  have e : PyData.depth (.list (ns.map .int)) = PyData.depthAll (ns.map .int) + 1 := by simp only [PyData.depth]
  have e2 : PyData.canLay0 (.list (ns.map .int)) = true := by simp only [PyData.canLay0, lay_ints ns]
  unfold SeqAt.shaped
  rw [e, e2, decide_eq_true (by omega)]
  rfl
theorem rd_ints {K : Fg} {H : Hp} : ∀ ns : List Int, RdA K H (ns.map V.int) (ns.map PyData.int)
  | [] => .nil
  | n :: ns => .cons (.int n) (rd_ints ns)
theorem good0 {fg : Fg} {σ : Sg} {ρ : En} {H : Hp} (hl : ρ.length = σ.length) (sl : ∀ (i : Nat) (x : Vl), ρ[i]? = some (.v x) → ∃ v, σ[i]? = some (some v) ∧ VlOk (K0 fg) (mask (fun _ => False) H) v x) (no : ∀ (i : Nat) (xs : List PyData), ρ[i]? ≠ some (.own xs)) :
    Good (K0 fg) ⟨fun _ => False, fun _ => False, fun _ => none, 0⟩ σ ρ H where
  eS := rfl
  ct := ⟨fun _ h => h, fun _ _ _ _ h => h, fun _ _ _ _ h => h.elim, fun _ _ _ _ h => h⟩
  si := trivial
  bd := fun _ h => h.elim
  fr := fun _ _ _ h => by cases h
  len := hl
  sl := fun i x e => by
    obtain ⟨v, h1, h2⟩ := sl i x e
    refine ⟨v, h1, h2.mono (mask_sub fun a z => ?_)⟩
    rcases z with z | ⟨j, xs, z, _⟩
    · exact z
    · exact no j xs z
  ow := fun i xs e => absurd e (no i xs)
  inj := fun i j xs ys p e => absurd e (no i xs)
section
variable {F : Fm} {fg : Fg} {vL : Expr} {n : Nat} {fL : FL} {q1 q2 q3 q4 q5 q6 q7 q8 q9 q10 q11 q12 q13 q14 q15 q16 q17 q18 : Pos} {j0 j1 j2 j3 j4 : Nat}
theorem ss_begin (hK : F.K = K0 fg) (hm : F.mg "list" = none) (hL : El F vL n fL) (hn : n ≤ lim) (hN0 : F.N[0]? = some ("script" : Str)) (hN1 : F.N[1]? = some ("cells_so" : Str))
    (hf : ∀ (a : Addr) (ns : List Int), ns.length ≤ 1000 → fL [.v (.o (.ref a)), .v (.d (.list (ns.map .int))), .non] fun ds => ∃ ls : List Int, ds = ls.map .int ∧ ls.length = ns.length)
    (hv0 : ∀ j, Vis (F.X j).env.scope "script" := by intro _; first | exact .inl rfl | exact .inr (.inl rfl)) (hv1 : ∀ j, Vis (F.X j).env.scope "cells_so" := by intro _; first | exact .inl rfl | exact .inr (.inl rfl))
    (hg : ∀ i, Gl (F.X i) "list" := by intro _; rfl)
    (hx : ∀ j, Loc (F.X j).env.scope "cells_so" := by intro _; first | exact .inl rfl | exact .inr rfl)
    (hff : ∀ j, (F.X j).fn "cells_so" = true ∨ (F.X j).env.scope.names.lookup ("cells_so" : Str) = some .local := by intro _; first | exact .inl rfl | exact .inr rfl)
    (he : ∀ i, starEach [.Name "script" q6] (F.X i).env = (false, eval (.Name "script" q6) (F.X i).env) :: starEach [] (F.X i).env := by intro _; rfl)
    (hpl : ∀ i, (backTo q7 (starEach [] (F.X i).env)).any (·.1) = false := by intro _; rfl)
    (he0 : ∀ i, starEach [.Constant (.int 0) j0 q8] (F.X i).env = (false, eval (.Constant (.int 0) j0 q8) (F.X i).env) :: starEach [] (F.X i).env := by intro _; rfl)
    (hsw1 : ∀ j, swapsWithSole [.Name "cells_so" q1] (.IfExp (.Compare (.Name "script" q2) [.NotEq] [.List [] q3] q4) (.Call (.Name "list" q5) [.Name "script" q6] [] q7) (.List [.Constant (.int 0) j0 q8] q9) q10) q11.line (F.X j).env = pure false := by intro _; rfl)
    (hsw2 : ∀ j, swappedStores [.Name "cells_so" q1] (.IfExp (.Compare (.Name "script" q2) [.NotEq] [.List [] q3] q4) (.Call (.Name "list" q5) [.Name "script" q6] [] q7) (.List [.Constant (.int 0) j0 q8] q9) q10) (F.X j).env = pure none := by intro _; rfl) :
    ∃ t, (∀ i, PSs (F.X i) [.Assign [.Name "cells_so" q1] (.IfExp (.Compare (.Name "script" q2) [.NotEq] [.List [] q3] q4) (.Call (.Name "list" q5) [.Name "script" q6] [] q7) (.List [.Constant (.int 0) j0 q8] q9) q10) q11,
      .Return (some (.Dict [some (.Constant (.str "cells") j1 q12), some (.Constant (.str "lefts") j2 q13), some (.Constant (.str "at") j3 q14)] [.Name "cells_so" q15, vL, .Constant (.int 0) j4 q16] q17)) q18] t) ∧
    ∀ (D : Ends) (H : Hp) (a : Addr) (ns : List Int), SqL fg H a (ns.map V.int) → ns.length ≤ 1000 →
      (∀ (d c l : Addr) (H' : Hp) (nC : Nat), H d = none → H c = none → H l = none → (∀ b o, H b = some o → H' b = some o) → stI d c l nC 0 H' → 0 < nC → nC ≤ 1000 → D.rt (.ref d) H') → t D [some (.ref a), none, none] H := by
  obtain ⟨tL, pL, sL⟩ := hL
  refine ⟨_, fun i => pss_cons (ps_asg (pe_ifExp (pt_cmpR (oNe i) (pe_var (by rw [F.eN]; exact hN0) (hv0 i) (by decide) (by decide)) (pe_lst pa_nil) (nomark _))
      (pe_callTy (cList i) (hg i) (by rw [F.eM]; exact hm) (by decide +kernel) (pa_cons (pe_var (by rw [F.eN]; exact hN0) (hv0 i) (by decide) (by decide)) pa_nil (he i)) (by decide) (by decide) (he i) (hpl i))
      (pe_lst (pa_cons pe_int pa_nil (he0 i)))) (pg_name (by rw [F.eN]; exact F.nd) (by rw [F.eN]; exact hN1) (hx i) (hff i)) (hsw1 i) (hsw2 i) rfl)
    (pss_cons (ps_ret (pe_disp (pps_cons pe_str (pe_var (by rw [F.eN]; exact hN1) (hv1 i) (by decide) (by decide)) (pps_cons pe_str (pL i) (pps_cons pe_str pe_int pps_nil))) rfl rfl (by simp) (show 3 ≤ 15 by decide))) pss_nil), fun D H a ns hs hn' k => ?_⟩
  have hs' : SqL F.K.fg H a (ns.map V.int) := by rw [hK]; exact hs
  -- behind the cells' list
  have after : ∀ (H2 : Hp) (c : Addr) (cells : List Int), H c = none → (∀ b o, H b = some o → H2 b = some o) → H2 c = some (.lst (cells.map V.int)) → 0 < cells.length → cells.length ≤ 1000 →
      tDisp [(tC (.str "cells"), tVar 1), (tC (.str "lefts"), tL), (tC (.str "at"), tC (.int 0))] [some (.ref a), some (.ref c), none] H2 D.rt := fun H2 c cells hc hle hcc c0 c1 d hd => by
    refine ⟨.ref c, rfl, ?_⟩
    have cd : c ≠ d := ne_of_none hcc hd
    have hc3 : (upd H2 d (HO.dK [])) c = some (.lst (cells.map V.int)) := by rw [upd_ne cd]; exact hcc
    have G : Good (K0 fg) ⟨fun _ => False, fun _ => False, fun _ => none, 0⟩ [some (.ref a), some (.ref c), none] [.v (.o (.ref a)), .v (.d (.list (cells.map .int))), .non] (upd H2 d (HO.dK [])) := by
      refine good0 rfl (fun i x e => ?_) (fun i xs e => ?_)
      · match i, e with
        | 0, e => cases e; exact ⟨_, rfl, rfl⟩
        | 1, e => cases e; exact ⟨_, rfl, .lst (mask_at (fun z => z) hc3) (rd_ints cells)⟩
        | 2, e => cases e
        | i + 3, e => cases e
      · match i, e with
        | 0, e => cases e
        | 1, e => cases e
        | 2, e => cases e
        | i + 3, e => cases e
    rw [hK] at sL
    refine sL _ _ _ _ _ _ (by show 0 + n ≤ lim; omega) G (hf a cells c1) fun l H3 vs ds m _ _ hl t1 hv hr hd' => ?_
    obtain ⟨ls, rfl, hll⟩ := hd'
    have ev : vs = ls.map V.int := RdA.ints hr
    subst ev
    have kp : ∀ b o, (upd H2 d (HO.dK [])) b = some o → H3 b = some o := fun b o e => t1.1 b o (fun z => z) e
    have hd3 : H3 d = some (.dK []) := kp d _ upd_same
    refine ⟨hd3, [(.inr "cells", .ref c), (.inr "lefts", .ref l), (.inr "at", .int 0)], rfl, (show 3 ≤ 15 by decide), ?_⟩
    have cl : c ≠ l := ne_of_none hc3 hl
    have ld : l ≠ d := fun z => by rw [z, upd_same] at hl; cases hl
    have hl2 : H2 l = none := by rw [upd_ne ld] at hl; exact hl
    have up : ∀ p, H2 p = none → H p = none := fun p e => by
      cases q : H p with
      | none => rfl
      | some o => rw [hle p o q] at e; cases e
    refine k d c l _ cells.length (up d hd) hc (up l hl2) (fun b o e => ?_) ⟨cells, ls, 0, upd_same, ?_, ?_, cl, rfl, hll, Nat.le_refl _⟩ c0 c1
    · have bd : b ≠ d := fun z => by rw [z, up d hd] at e; cases e
      rw [upd_ne bd]
      exact kp b o (by rw [upd_ne bd]; exact hle b o e)
    · rw [upd_ne cd]; exact kp c _ hc3
    · rw [upd_ne ld]; exact hv
  refine ⟨.ref a, rfl, small_le (by simp), fun p hp => .inr ⟨.list (ns.map .int), .list [], .lst (Px.SqL.new hs' hp) (dp_ints ns), .lst (.inl (.inl upd_same)) .nil, shaped_ints ns, rfl, _, rfl, ?_⟩⟩
  have old : ∀ b o, H b = some o → (upd H p (HO.lst [])) b = some o := fun b o e => by rw [upd_ne (ne_of_none e hp)]; exact e
  by_cases z : PyData.eqv (.list (ns.map .int)) (.list []) = true
  · rw [z]
    refine iteF ⟨small_le (show 1 ≤ 1000000 by decide), fun c hc => ?_⟩
    have hc0 : H c = none := by
      cases q : H c with
      | none => rfl
      | some o => rw [old c o q] at hc; cases hc
    exact after _ c [0] hc0 (fun b o e => by rw [upd_ne (ne_of_none (old b o e) hc)]; exact old b o e) upd_same (by decide) (by decide)
  · have z' : PyData.eqv (.list (ns.map .int)) (.list []) = false := by simpa using z
    rw [z']
    refine iteT ⟨.ref a, rfl, a, ns.map V.int, rfl, .inl (Px.SqL.new hs' hp), fun c hc => ?_⟩
    have hc0 : H c = none := by
      cases q : H c with
      | none => rfl
      | some o => rw [old c o q] at hc; cases hc
    refine after _ c ns hc0 (fun b o e => by rw [upd_ne (ne_of_none (old b o e) hc)]; exact old b o e) upd_same ?_ hn'
    cases ns with
    | nil => exact absurd rfl z
    | cons x xs => simp
/-- what the def that makes the state asks -/
def spBeg (fg : Fg) : Sp := fun vs H Q _ => ∃ (a : Addr) (ns : List Int), vs = [.ref a] ∧ SqL fg H a (ns.map V.int) ∧ ns.length ≤ 1000 ∧
  ∀ (d c l : Addr) (H' : Hp) (nC : Nat), H d = none → H c = none → H l = none → (∀ b o, H b = some o → H' b = some o) → stI d c l nC 0 H' → 0 < nC → nC ≤ 1000 → Q (.ref d) H'
/-- what a law of one script asks and gives -/
def spLaw (K : Fg) : Sp := fun vs H Q _ => ∃ (a : Addr) (ns : List Int), vs = [.ref a] ∧ SqL K H a (ns.map V.int) ∧ ns.length ≤ 1000 ∧ ∀ H', Q (.bl true) H'
theorem pss_ex {X : Cx} {ι : Type} {sts : List Stmt} {tr : ι → TS} (h : ∀ i, PSs X sts (tr i)) : PSs X sts (fun D σ H => ∃ i, tr i D σ H) := ⟨fun pins s σ H D I ⟨i, q⟩ => (h i).run pins s σ H D I q⟩
theorem ss_first {ι : Type} {sts : List Stmt} {tr : ι → TS} {fa : Addr} {fd : FuncData} {k : Nat} {st0 : Stmt} (hb : FnG F.P F.w F.K F.mg F.base CX0 k fa fd ["script"] (spBeg F.K)) (hm : F.mg "_law_begin" = some (.ref fa)) (Fu : Fun F.K "_law_begin" "_law_begin" st0 fa fd) (hp : BindP "_law_begin" st0 ["script"]) (hk : k ≤ F.k)
    (hN0 : F.N[0]? = some ("script" : Str)) (hN1 : F.N[1]? = some ("state_so" : Str)) (hr : ∀ i r, PSs (F.X r) sts (tr i))
    (hv0 : ∀ j, Vis (F.X j).env.scope "script" := by intro _; first | exact .inl rfl | exact .inr (.inl rfl)) (hg : ∀ i, Gl (F.X i) "_law_begin" := by intro _; rfl)
    (hx : ∀ j, Loc (F.X j).env.scope "state_so" := by intro _; first | exact .inl rfl | exact .inr rfl)
    (hff : ∀ j, (F.X j).fn "state_so" = true ∨ (F.X j).env.scope.names.lookup ("state_so" : Str) = some .local := by intro _; first | exact .inl rfl | exact .inr rfl)
    (he : ∀ i, starEach [.Name "script" q3] (F.X i).env = (false, eval (.Name "script" q3) (F.X i).env) :: starEach [] (F.X i).env := by intro _; rfl)
    (hpl : ∀ i, (backTo q4 (starEach [] (F.X i).env)).any (·.1) = false := by intro _; rfl)
    (hsw1 : ∀ j, swapsWithSole [.Name "state_so" q1] (.Call (.Name "_law_begin" q2) [.Name "script" q3] [] q4) q5.line (F.X j).env = pure false := by intro _; rfl)
    (hsw2 : ∀ j, swappedStores [.Name "state_so" q1] (.Call (.Name "_law_begin" q2) [.Name "script" q3] [] q4) (F.X j).env = pure none := by intro _; rfl) :
    ∃ t, (∀ i, PSs (F.X i) (.Assign [.Name "state_so" q1] (.Call (.Name "_law_begin" q2) [.Name "script" q3] [] q4) q5 :: sts) t) ∧
    ∀ (D : Ends) (H : Hp) (a : Addr) (ns : List Int) (σr : Sg), SqL F.K H a (ns.map V.int) → ns.length ≤ 1000 →
      (∀ (d c l : Addr) (H' : Hp) (nC : Nat), H d = none → H c = none → H l = none → (∀ b o, H b = some o → H' b = some o) → stI d c l nC 0 H' → 0 < nC → nC ≤ 1000 → ∃ i, tr i D (some (.ref a) :: some (.ref d) :: σr) H') → t D (some (.ref a) :: none :: σr) H := by
  have call : ∀ i, PE (F.X i) (.Call (.Name "_law_begin" q2) [.Name "script" q3] [] q4) (tCall (spBeg F.K) [] E0 (tCons (tVar 0) tNil)) := fun i => by
    have q1 := F.eK i
    have q2 := F.eM i
    have q3 := F.eP i
    have q4 := F.eW i
    have q5 := F.eB i
    exact peG_call (by rw [q1, q2, q3, q4, q5]; exact hb) (F.gu i) ((F.room i).mono hk) pass0 (hg i) (by rw [q2]; exact hm) (by rw [q1]; exact Fu.kp) (by rw [q1]; exact Fu.binds hp) (pa_cons (pe_var (by rw [F.eN]; exact hN0) (hv0 i) (by decide) (by decide)) pa_nil (he i)) (by decide) (he i) (hpl i)
  refine ⟨_, fun i => pss_cons (ps_asg (call i) (pg_name (by rw [F.eN]; exact F.nd) (by rw [F.eN]; exact hN1) (hx i) (hff i)) (hsw1 i) (hsw2 i) rfl) (pss_ex fun j => hr j i), fun D H a ns σr hs hn k => ?_⟩
  exact ⟨.ref a, rfl, a, ns, rfl, hs, hn, fun d c l H' nC h1 h2 h3 h4 h5 h6 h7 => k d c l H' nC h1 h2 h3 h4 h5 h6 h7⟩
/-- where the law stands behind the state -/
theorem good_st {fg : Fg} {d c l a : Addr} {nC : Nat} {H : Hp} (n : Nat) (s : stI d c l nC 0 H) :
    Good (stK fg d c l nC) ⟨stS d c l, stS d c l, fun _ => none, 0⟩ (some (.ref a) :: some (.ref d) :: List.replicate n none) (.v (.o (.ref a)) :: .v .st :: List.replicate n .non) H where
  eS := rfl
  ct := stK_ok fun _ h => h
  si := s
  bd := (stK_ok (fg := fg) (B := stS d c l) fun _ h => h).th 0 H s
  fr := fun _ _ _ h => by cases h
  len := by simp
  sl := fun i x e => by
    match i, e with
    | 0, e => cases e; exact ⟨_, rfl, rfl⟩
    | 1, e => cases e; exact ⟨_, rfl, rfl⟩
    | i + 2, e =>
      simp only [List.getElem?_cons_succ] at e
      rw [List.getElem?_replicate] at e
      split at e <;> cases e
  ow := fun i xs e => by
    match i, e with
    | 0, e => cases e
    | 1, e => cases e
    | i + 2, e =>
      simp only [List.getElem?_cons_succ] at e
      rw [List.getElem?_replicate] at e
      split at e <;> cases e
  inj := fun i j xs ys p e => by
    match i, e with
    | 0, e => cases e
    | 1, e => cases e
    | i + 2, e =>
      simp only [List.getElem?_cons_succ] at e
      rw [List.getElem?_replicate] at e
      split at e <;> cases e
end
end Px

set_option Elab.async false
set_option linter.all false
set_option maxRecDepth 100000
set_option maxHeartbeats 2000000
namespace Px
open PySem PySem.Spec PyProof.Rows L2 Px
theorem enum_cls (v : Value) : Builtin.SmallTypes.newClass "enumerate" { pos := [Value.type "enumerate", v] } = pure (Value.type "enumerate", [v]) := by
  unfold Builtin.SmallTypes.newClass
  have e : isType (Value.type "enumerate") = pure true := rfl
  simp only [e, sub_enumerate]
  rfl
theorem wpite {α : Type} {M : Model} {A : Around} {E : Value → Shared → Prop} {s : Shared} {c : Prop} [Decidable c] {a b : Sem α} {Q : α → Shared → Prop} (h1 : wpAny M A a Q E s) (h2 : wpAny M A b Q E s) : wpAny M A (if c then a else b) Q E s := by
  split
  · exact h1
  · exact h2
theorem rec_end {M : Model} {A : Around} {R : Result → Shared → Prop} {s0 : Shared} {o : Obj} {E : Value → Shared → Prop}
    (hR : R (Except.ok (Flow.ret (Value.ref (s0.heap.push o).objs.size))) { heap := (s0.heap.push o).push { cls := Value.type "enumerate", data := Data.fields #[Value.none, Value.bool false, Value.ref s0.heap.objs.size, rawInt 0, Value.none, Value.none] }, gens := s0.gens, drawn := s0.drawn, toks := s0.toks, os := s0.os }) :
    wpAny M A (Builtin.SmallTypes.newRecord (Value.type "enumerate") (Builtin.SmallTypes.ownedTupleFields ++ [Value.ref s0.heap.objs.size, rawInt 0, Value.none, Value.none]))
      (fun a s' => wpAny M A (ret a) (fun fin s' => ∃ v, fin = Fin.done (Flow.ret v) ∧ R (Except.ok (Flow.ret v)) s') E s') E { heap := s0.heap.push o, gens := s0.gens, drawn := s0.drawn, toks := s0.toks, os := s0.os } := by
  unfold Builtin.SmallTypes.newRecord Builtin.SmallTypes.ownedTupleFields
  simp only [List.cons_append, List.nil_append]
  unfold newObj
  refine wpAny_ite_false (show decide (6 > sizeLine + 2) = false by decide) ?_
  unfold newObjAsIs
  refine wpAny_bind (wpAny_alloc ?_)
  exact wpAny_pure (wpAny_pure ⟨_, rfl, hR⟩)
theorem meets_enum1 (v : Value) (o : Obj) (H : Heap → Prop) (B : Begins v o H) : Meets (Builtin.«enumerate.__new__» { pos := [Value.type "enumerate", v] }) fun x R s => H s.heap ∧ R (Except.ok (Flow.ret (Value.ref (s.heap.push o).objs.size)))
   { heap := (s.heap.push o).push { cls := Value.type "enumerate", data := Data.fields #[Value.none, Value.bool false, Value.ref s.heap.objs.size, rawInt 0, Value.none, Value.none] }, gens := s.gens, drawn := s.drawn, toks := s.toks, os := s.os } := by
  refine Meets.of_wp fun prog w A R s ⟨h, hR⟩ => ?_
  unfold Builtin.«enumerate.__new__»
  refine wpAny_bind (wpAny_of_eq (enum_cls v) ?_)
  have e2 : (Value.type "enumerate" == Value.type "enumerate") = true := by simp
  simp only [e2, if_true]
  unfold Builtin.SmallTypes.calledThroughType
  refine wpAny_bind (wpAny_bind (wpAny_stack_any fun st => wpAny_pure ?_))
  refine wpite ?_ ?_
  · refine wpAny_bind (wpAny_of_eq (a := (v, none)) rfl ?_)
    refine wpAny_bind (B.iter prog w A.in1 _ s _ h ?_)
    refine wpAny_bind ?_
    exact rec_end hR
  · refine wpAny_bind (wpAny_of_eq (a := (v, none)) rfl ?_)
    refine wpAny_bind (B.iter prog w A.in1 _ s _ h ?_)
    refine wpAny_bind ?_
    exact rec_end hR
theorem call_enum1 {prog : Program} {w : World} {A : Around} {E : Value → Shared → Prop} {s : Shared} {v : Value} {o : Obj} {H : Heap → Prop} {Q : Value → Shared → Prop} (B : Begins v o H) (h : H s.heap)
    (k : ∀ h' : Heap, IsEnum h' (s.heap.objs.size + 1) s.heap.objs.size 0 Value.none → h'.get? s.heap.objs.size = some o → h'.objs.size = s.heap.objs.size + 2 → (∀ (b : Addr) (o : Obj), s.heap.get? b = some o → h'.get? b = some o) →
      Q (Value.ref (s.heap.objs.size + 1)) { heap := h', gens := s.gens, drawn := s.drawn, toks := s.toks, os := s.os }) : wpAny (model prog w) A (PySem.call (Value.type "enumerate") [v]) Q E s := by
  refine callType_new F.called_enumerate (by decide) (F.typeCall_enumerate_1 v) (F.newCall_enumerate_1 v) (fun obj => F.args_object_init_2 obj v) F.entry_enumerate_new (meets_enum1 v o H B) ⟨h, ?_⟩
  have sz : (s.heap.push o).objs.size = s.heap.objs.size + 1 := Heap.size_push _ _
  have e1 : ((s.heap.push o).push { cls := Value.type "enumerate", data := Data.fields #[Value.none, Value.bool false, Value.ref s.heap.objs.size, rawInt 0, Value.none, Value.none] }).get? (s.heap.push o).objs.size = some { cls := Value.type "enumerate", data := Data.fields #[Value.none, Value.bool false, Value.ref s.heap.objs.size, rawInt 0, Value.none, Value.none] } := Heap.get?_push_size _ rfl
  show _ ∧ Q _ _
  refine ⟨?_, ?_⟩
  · exact ⟨_, e1, rfl⟩
  · rw [sz] at e1 ⊢
    refine k _ e1 (Heap.get?_push_of_some _ (Heap.get?_push_size _ B.free)) (by rw [Heap.size_push, sz]) fun b o e => Heap.get?_push_of_some _ (Heap.get?_push_of_some _ e)
/-- enumerate over a tuple -/
def IteT (K : PySem.W.Frag) (a : Addr) : It where
  go := fun i H => ∃ xs x, SqT K H a xs ∧ xs[i]? = some x
  yld := fun i H v H' => ∃ T x, v = V.ref T ∧ H T = none ∧ H' = upd H T (HO.tup [V.int i, x]) ∧ ∀ xs : List V, SqT K H a xs → xs[i]? = some x
  stop := fun i H => ∃ xs, SqT K H a xs ∧ xs.length = i
theorem turn_enumT {P : Program} {w : World} {K : PySem.W.Frag} {elts : List Expr} {kk : Nat} {tpos : Pos} (a e it : Addr) : Turn P w K (.Tuple elts kk tpos) (IteT K a) [e, it] e (fun i h => (∃ old, IsEnum h e it i old) ∧ h.IsTupleIter it a i ∧ e ≠ it) where
  mem := by simp
  obj := fun i h tn b hb => by
    obtain ⟨⟨old, h1⟩, ⟨o, h2, h3, h4⟩, h5⟩ := tn
    rcases List.mem_cons.mp hb with rfl | hb
    · exact ⟨_, h1, fun v z => by cases z⟩
    · rw [List.mem_singleton.mp hb]
      exact ⟨o, h2, fun v z => by rw [h4] at z; cases z⟩
  keep := fun i h h' tn k => by
    obtain ⟨⟨old, h1⟩, ⟨o, h2, h3, h4⟩, h5⟩ := tn
    exact ⟨⟨old, k e (by simp) _ h1⟩, ⟨o, k it (by simp) _ h2, h3, h4⟩, h5⟩
  item := fun X hP hw hK hc i pins s σ H E I hfp tn hgo => by
    subst hP
    subst hw
    obtain ⟨xs, x, hS, hx⟩ := hgo
    obtain ⟨⟨old, h1⟩, ⟨o, h2, h3, h4⟩, h5⟩ := tn
    obtain ⟨its, rv, pl, hz⟩ := I.tuple (by rw [hK]; exact hS)
    obtain ⟨u, hu, ru⟩ := rv.get hx
    have ae : e ≠ a := fun z => by
      obtain ⟨q, q1, q2, _⟩ := pl
      rw [← z, h1] at q1
      cases q1
      exact absurd q2 (by simp)
    have ai : a ≠ it := fun z => by
      obtain ⟨q, q1, q2, _⟩ := pl
      rw [z, h2] at q1
      cases q1
      rw [h3] at q2
      exact absurd q2 (by simp)
    have D := Draws.tuple (prog := X.prog) (w := X.w) (A := X.A.in1) (I.ok.hd hc) it a ai its.toArray
    have G := GoesN.enumFrom (A := X.A) (elts := elts) (x1 := kk) (pos := tpos) 0 D e h5 (by simp [h5, ae]) (by simp)
    have hi : i < its.toArray.size := by
      have := (List.getElem?_eq_some_iff.mp hu).1
      simpa using this
    refine G.goes i s (fun u s2 => ∃ x H', L2.Inv X pins σ H' s2 ∧ L2.RelV x u ∧ (IteT K a).yld i H x H' ∧ ((∃ old, IsEnum s2.heap e it ((i + 1 : Nat) : Int) old) ∧ s2.heap.IsTupleIter it a (i + 1) ∧ e ≠ it) ∧ ∀ b ∈ [e, it], H' b = none) E hi ⟨⟨old, by simpa using h1⟩, ⟨o, h2, h3, h4⟩, pl⟩ fun v h' tk hY hSt hold htk => ?_
    obtain ⟨T, t, x', rfl, hT, hx', hTup⟩ := hY
    obtain ⟨⟨old', g1⟩, g2, g3⟩ := hSt
    have hTn : H T = none := I.hok.fresh hT
    have ex : x' = u := by
      rw [List.getElem?_toArray, hu] at hx'
      exact (Option.some.inj hx').symm
    subst ex
    refine ⟨.ref T, upd H T (.tup [.int i, x]), I.turnedNew (ch := [e, it]) hold hfp hT ?_, rfl, ⟨T, x, rfl, hTn, rfl, fun ys hy => ?_⟩, ⟨⟨old', by simpa using g1⟩, g2, h5⟩, fun b hb => ?_⟩
    · exact ⟨(show 2 ≤ sizeLine by decide), [.int (0 + (i : Int)) t, x'], .cons ⟨t, by rw [Int.zero_add]⟩ (.cons ru .nil), hTup⟩
    · have := I.tuple_inj (by rw [hK]; exact hS) (by rw [hK]; exact hy)
      rw [← this]
      exact hx
    · have hbT : b ≠ T := fun z => by
        obtain ⟨q, q1, q2, _⟩ := hTup
        rcases List.mem_cons.mp hb with rfl | hb
        · rw [← z, g1] at q1
          cases q1
          exact absurd q2 (by simp)
        · obtain ⟨o2, r1, r2, _⟩ := g2
          rw [← z, List.mem_singleton.mp hb, r1] at q1
          cases q1
          rw [r2] at q2
          exact absurd q2 (by simp)
      rw [upd_ne hbT]
      exact (hfp b hb).1
  done := fun X hP hw hK hc i pins s σ H E I hfp tn hst => by
    subst hP
    subst hw
    obtain ⟨xs, hS, rfl⟩ := hst
    obtain ⟨⟨old, h1⟩, ⟨o, h2, h3, h4⟩, h5⟩ := tn
    obtain ⟨its, rv, pl, hz⟩ := I.tuple (by rw [hK]; exact hS)
    have ae : e ≠ a := fun z => by
      obtain ⟨q, q1, q2, _⟩ := pl
      rw [← z, h1] at q1
      cases q1
      exact absurd q2 (by simp)
    have ai : a ≠ it := fun z => by
      obtain ⟨q, q1, q2, _⟩ := pl
      rw [z, h2] at q1
      cases q1
      rw [h3] at q2
      exact absurd q2 (by simp)
    have D := Draws.tuple (prog := X.prog) (w := X.w) (A := X.A.in1) (I.ok.hd hc) it a ai its.toArray
    have G := GoesN.enumFrom (A := X.A) (elts := elts) (x1 := kk) (pos := tpos) 0 D e h5 (by simp [h5, ae]) (by simp)
    have en : its.toArray.size = xs.length := by rw [List.size_toArray, rv.length]
    refine G.stops s (fun s2 => L2.Inv X pins σ H s2) E ⟨⟨old, by rw [en]; simpa using h1⟩, ⟨o, h2, h3, by rw [en]; exact h4⟩, pl⟩ fun h' tk hold htk => ?_
    exact I.turnedL (ch := [e, it]) hold hfp
  self := fun A i s Q E tn hq => by
    obtain ⟨⟨old, h1⟩, _⟩ := tn
    exact wpAny_pyIter_enum h1 hq
theorem walk_enumT {K : PySem.W.Frag} {a : Addr} {xs : List V} : Walk (IteT K a) xs.length (fun H => SqT K H a xs) (YPair (fun i => some (V.int i)) fun i => xs[i]?) := by
  refine ⟨fun i H hi hS => ⟨xs, xs[i], hS, by simp [hi]⟩, fun H hS => ⟨xs, hS, rfl⟩, fun i H x H' hi hS y => ?_⟩
  obtain ⟨T, z, h1, h2, h3, h4⟩ := y
  exact ⟨T, .int i, z, h1, h2, h3, rfl, h4 xs hS⟩
def iEnumA (K : PySem.W.Frag) (ta : TA) : TI := fun σ H R => ta σ H fun vs H1 => ∃ a, vs = [V.ref a] ∧ ((∃ xs, SqL K H1 a xs ∧ R (Ite K a) H1) ∨ ∃ xs, SqT K H1 a xs ∧ R (IteT K a) H1)
theorem pi_enumA {X : Cx} {e : Expr} {ta : TA} {p pos tpos : Pos} {elts : List Expr} {kk : Nat} (gl : Gl X "enumerate") (hm : X.mg "enumerate" = none) (ha : PA X [e] ta) (he : starEach [e] X.env = [(false, eval e X.env)]) :
    PI X (.Tuple elts kk tpos) (.Call (.Name "enumerate" p) [e] [] pos) (iEnumA X.K ta) := by
  refine ⟨fun pins s σ H R I h => wpAny_Call_Name_kw ?_⟩
  refine ld_blt I gl hm PyProof.Rows.boot_enumerate ?_
  refine PyProof.Rows.callWith_type1 (thn (ha.run pos pins s σ H _ I h) fun us s2 ⟨vs, H2, I2, r2, q2⟩ => ?_) (by rw [he]; rfl) (by rfl)
  obtain ⟨a, rfl, q2⟩ := q2
  obtain ⟨u1, rfl, ru⟩ : ∃ u1, us = [u1] ∧ u1 = Value.ref a := by
    cases r2 with
    | cons r1 r2 => cases r2; exact ⟨_, rfl, r1⟩
  subst ru
  have fp : ∀ c ∈ [s2.heap.objs.size + 1, s2.heap.objs.size], FpOk X pins H2 c := fun c hc => by
    have : s2.heap.objs.size ≤ c := by
      rcases List.mem_cons.mp hc with rfl | hc
      · omega
      · rw [List.mem_singleton.mp hc]; exact Nat.le_refl _
    exact I2.fpOk this (I2.hok.fresh this)
  rcases q2 with ⟨xs, h1, h2⟩ | ⟨xs, h1, h2⟩
  · obtain ⟨its, rv, pl, hz⟩ := I2.list h1
    refine call_enumerate_list pl.isList fun h' e1 e2 e3 e4 => ?_
    refine wpAny_pyIter_enum e1 ⟨_, _, _, _, H2, rfl, I2.kept (t' := s2.toks) e4, turn_enum a _ _, ⟨⟨_, e1⟩, e2, Nat.succ_ne_self _⟩, fp, h2⟩
  · obtain ⟨its, rv, pl, hz⟩ := I2.tuple h1
    refine call_enum1 (begins_tuple a its.toArray) pl fun h' e1 e2 e3 e4 => ?_
    refine wpAny_pyIter_enum e1 ⟨_, _, _, _, H2, rfl, I2.kept (t' := s2.toks) e4, turn_enumT a _ _, ⟨⟨_, e1⟩, ⟨_, e2, rfl, rfl⟩, Nat.succ_ne_self _⟩, fp, h2⟩
/-- pairs of places and items -/
def enumD (n : Nat) : List PyData → List Vl
  | [] => []
  | x :: xs => .d (.tuple [.int n, x]) :: enumD (n + 1) xs
theorem enumD_len : ∀ (xs : List PyData) (n : Nat), (enumD n xs).length = xs.length
  | [], _ => rfl
  | x :: xs, n => by simp only [enumD, List.length_cons, enumD_len xs]
theorem enumD_get : ∀ (xs : List PyData) (n i : Nat) (a : PyData), xs[i]? = some a → (enumD n xs)[i]? = some (.d (.tuple [.int ((n + i : Nat) : Int), a]))
  | [], _, _, _, h => by simp at h
  | x :: xs, n, 0, a, h => by simp at h; subst h; rfl
  | x :: xs, n, i + 1, a, h => by
    have := enumD_get xs (n + 1) i a (by simpa using h)
    simp only [enumD, List.getElem?_cons_succ, this]
    congr 5
    omega
theorem WOk.enum {K : Kx} {M0 : Hp} {J : It} {G : Hp → Prop} {vs : List V} {ds : List PyData} (w : Walk J vs.length G (YPair (fun i => some (V.int i)) fun i => vs[i]?)) (hG : ∀ H, Ex M0 H → G H) (r : RdA K M0 vs ds) : WOk K M0 J (enumD 0 ds) := by
  refine ⟨G, _, by rw [enumD_len, ← r.length]; exact w, hG, fun i H x H' hi e y => ?_⟩
  obtain ⟨T, a, b, rfl, hT, rfl, ha, hb⟩ := y
  cases ha
  obtain ⟨d, q1, q2⟩ := r.get' hb
  have n0 : M0 T = none := by
    cases q : M0 T with
    | none => rfl
    | some o => rw [e T o q] at hT; cases hT
  exact ⟨_, enumD_get ds 0 i d q1, .inr ⟨T, _, hT, rfl, by rw [Nat.zero_add]; exact pair_ok n0 (.int _) q2⟩⟩
def asE (R : List Vl → Prop) : List Vl → Prop
  | [.d (.list xs)] => R (enumD 0 xs)
  | [.d (.tuple xs)] => R (enumD 0 xs)
  | _ => False
theorem i_enum {F : Fm} {e : Expr} {n : Nat} {f : FA} {p pos tpos : Pos} {elts : List Expr} {kk : Nat} (hm : F.mg "enumerate" = none) (ha : Ea F [e] n f) (hg : ∀ i, Gl (F.X i) "enumerate" := by intro _; rfl) (hs : ∀ i, starEach [e] (F.X i).env = [(false, eval e (F.X i).env)] := by intro _; rfl) :
    Ei F (.Tuple elts kk tpos) (.Call (.Name "enumerate" p) [e] [] pos) n (fun ρ R => f ρ (asE R)) := by
  obtain ⟨t, pt, st⟩ := ha
  refine ⟨iEnumA F.K t, fun i => by have := pi_enumA (p := p) (pos := pos) (tpos := tpos) (elts := elts) (kk := kk) (hg i) (by rw [F.eM]; exact hm) (pt i) (hs i); rw [F.eK i] at this; exact this, fun C σ ρ H R Q hm G hf k => st C σ ρ H _ _ hm G hf fun vs H1 xs m l u t1 oxs h1 => ?_⟩
  match xs, oxs, h1 with
  | [.d (.list ds)], oxs, h1 =>
    obtain ⟨v, rfl, o1⟩ := oxs.one
    obtain ⟨a, ws, rfl, h2, ra⟩ := Rd.inv_list o1
    exact ⟨a, rfl, .inl ⟨ws, SqL.of (mask_le _ _ h2), k _ H1 _ m l u t1 (WOk.enum walk_enum (fun H e => e.sq h2) ra) h1⟩⟩
  | [.d (.tuple ds)], oxs, h1 =>
    obtain ⟨v, rfl, o1⟩ := oxs.one
    obtain ⟨a, ws, rfl, h2, ra⟩ := Rd.inv_tuple o1
    exact ⟨a, rfl, .inr ⟨ws, Ex.sqt mask_le h2, k _ H1 _ m l u t1 (WOk.enum walk_enumT (fun H e => e.sqt h2) ra) h1⟩⟩
end Px

set_option Elab.async false
set_option linter.all false
set_option maxRecDepth 100000
set_option maxHeartbeats 2000000
/-! Px: a def handed on and called by a local name; ranges kept in a name; comprehensions with two walks; parallel assignments that begin a list. -/
namespace Px
open PySem PySem.Spec PyProof.Rows L2
section
variable {F : Fm} {K : Kx} {e e1 e2 e3 : Expr} {es : List Expr} {pos p : Pos} {x y z : Str} {st : Stmt} {ps : List Str} {fs : FS} {ff : FA} {fe fe1 fe2 : FE} {k n n1 n2 cf : Nat}
/-! ### a def handed on -/
/-- the name of a def, as a value -/
theorem e_fn (D : Df F.P F.w F.K F.mg F.base x st ps k cf fs) (hg : ∀ i, Gl (F.X i) x := by intro _; rfl) (hd : (x == ("__debug__" : Str)) = false := by decide) :
    Ee F (.Name x p) 0 (fun _ R => ∀ fa, F.mg x = some (.ref fa) → R (.o (.ref fa))) := by
  obtain ⟨fa, fd, Fn, hm, Fu⟩ := D
  exact ⟨_, fun i => pe_glob (v := .ref fa) (hg i) (by rw [F.eM]; exact hm) rfl hd, fun C _ _ H _ _ _ G hr k => k (.ref fa) H (.o (.ref fa)) C.m (Nat.le_refl _) le0 (Tr.refl G.si) rfl (hr fa hm)⟩
theorem peG_callL {X : Cx} {CX : CXT} {i : Nat} {f : Addr} {fd : FuncData} {sp : Sp} {E : XK} {t : TA} (Fn : FnG X.prog X.w X.K X.mg X.base CX k f fd ps sp) (hgu : X.A.guards = some []) (hr : Room k X.A) (hx : Passes CX X E) (hN : X.N[i]? = some x) (hv : Vis X.env.scope x) (hk : PySem.W.keepIn X.K (.ref f) = true)
    (hb : Binds X.K fd ps []) (ha : PA X (e :: es) t) (hdb : (x == ("__debug__" : Str)) = false := by decide) (hcd : (x == ("__classdict__" : Str)) = false := by decide)
    (he : starEach (e :: es) X.env = (false, eval e X.env) :: starEach es X.env := by rfl) (hpl : (backTo pos (starEach es X.env)).any (·.1) = false := by rfl) : PE X (.Call (.Name x p) (e :: es) [] pos) (tCallL i f sp [] E t) := by
  refine ⟨fun pins s σ H Q I h => ?_⟩
  obtain ⟨hs, ht⟩ := h
  refine wpAny_Call_Name_kw (thn ((pe_var (pos := p) hN hv hdb hcd).run pins s σ H (fun v H1 => v = .ref f ∧ H1 = H) I ⟨.ref f, hs, rfl, rfl⟩) fun u s1 ⟨v, H1, I1, r1, q1⟩ => ?_)
  obtain ⟨rfl, rfl⟩ := q1
  cases r1
  refine PySem.W.callWith_K (h₀ := X.base) I.ok.mod.kin hk (thn (ha.run pos pins s1 σ _ _ I1 ht) fun us s2 ⟨vs, H2, I2, r, q⟩ => ⟨I2.kIn, ?_⟩) he hpl
  have q' : sp vs H2 Q E := by simpa using q
  exact goG Fn hgu hr hx I2 (zs := us) (fun hl => by have := hb s2 us I2.kIn (by simpa using hl); simpa using this) r q'
/-- the i-th slot holds the def f -/
def isFn (mg : Str → Option Value) (g : Str) (ρ : En) (i : Nat) : Prop := ∃ fa, mg g = some (.ref fa) ∧ ρ[i]? = some (.v (.o (.ref fa)))
/-- h(e, ..), h a local name that holds the def g -/
theorem e_callV {g : Str} (D : Df F.P F.w F.K F.mg F.base g st ps k cf fs) (i : Nat) (hb : BindP g st ps) (ha : Ea F (e :: es) n ff) (hk : k ≤ F.k := by exact Nat.le_of_ble_eq_true rfl) (hN : F.N[i]? = some x := by rfl) (hv : ∀ j, Vis (F.X j).env.scope x := by intro _; first | exact .inl rfl | exact .inr (.inl rfl) | exact .inr (.inr rfl))
    (hdb : (x == ("__debug__" : Str)) = false := by decide) (hcd : (x == ("__classdict__" : Str)) = false := by decide)
    (he : ∀ i, starEach (e :: es) (F.X i).env = (false, eval e (F.X i).env) :: starEach es (F.X i).env := by intro _; rfl) (hpl : ∀ i, (backTo pos (starEach es (F.X i).env)).any (·.1) = false := by intro _; rfl) :
    Ee F (.Call (.Name x p) (e :: es) [] pos) (n + cf) (fun ρ R => isFn F.mg g ρ i ∧ ff ρ fun xs => xs.length = ps.length ∧ fs xs R) := by
  obtain ⟨fa, fd, Fn, hm, Fu⟩ := D
  obtain ⟨t, pt, st⟩ := ha
  refine ⟨tCallL i fa (spF F.K ps.length cf fs) [] E0 t, fun j => ?_, fun C σ ρ H R Q hm' G hf kk => ?_⟩
  · have q1 := F.eK j
    have q2 := F.eM j
    have q3 := F.eP j
    have q4 := F.eW j
    have q5 := F.eB j
    exact peG_callL (by rw [q1, q2, q3, q4, q5]; exact Fn) (F.gu j) ((F.room j).mono hk) pass0 (by rw [F.eN]; exact hN) (hv j) (by rw [q1]; exact Fu.kp) (by rw [q1]; exact Fu.binds hb) (pt j) hdb hcd (he j) (hpl j)
  · obtain ⟨⟨fa', e1, e2⟩, hf⟩ := hf
    have ef : fa' = fa := by rw [hm] at e1; injection e1 with e1; injection e1 with e1; exact e1.symm
    subst ef
    obtain ⟨v, h1, h2⟩ := G.sl i _ e2
    have hv' : v = .ref fa' := h2
    subst hv'
    refine ⟨h1, st C σ ρ H _ _ (by omega) G hf fun vs H1 xs m1 l1 u1 t1 oxs h1 => ?_⟩
    have q := sp_ok (C := C.up m1) (E := E0) (Q := Q) (by show m1 + cf ≤ lim; omega) (G.tr t1) oxs h1 fun v H' z m2 l2 u2 t2 oz hz => kk v H' z m2 (Nat.le_trans l1 l2) (by have : m2 ≤ m1 + cf := u2; omega) (t1.trans t2) oz hz
    show spF F.K ps.length cf fs (vs ++ []) H1 Q E0
    rw [List.append_nil]
    exact q
/-! ### a range kept in a name -/
theorem cr_range1 {X : Cx} : CallR X (.type "range") (fun vs H Q => ∃ j, vs = [V.int j] ∧ ∀ p, H p = none → Q (.ref p) (upd H p (.rng 0 j))) := by
  intro pins s σ H vs us Q I r h
  obtain ⟨j, rfl, q⟩ := h
  cases r with
  | cons rj rr =>
    cases rr
    obtain ⟨t, rfl⟩ := rj
    refine call_range_1 ⟨.ref s.heap.objs.size, upd H s.heap.objs.size (.rng 0 j), I.laid (t' := s.toks + 1 + 1) (fun b o e => Heap.get?_push_of_some _ e) (Nat.le_refl _) ?_, rfl, q _ (I.hok.fresh (Nat.le_refl _))⟩
    exact ⟨_, _, _, Heap.get?_push_size _ rfl⟩
def asRg (R : Vl → Prop) : List Vl → Prop
  | [.d (.int j)] => R (.rg 0 j)
  | _ => False
theorem e_range1 {f : FA} (hm : F.mg "range" = none) (ha : Ea F [e] n f) (hg : ∀ i, Gl (F.X i) "range" := by intro _; rfl) (he : ∀ i, starEach [e] (F.X i).env = (false, eval e (F.X i).env) :: starEach [] (F.X i).env := by intro _; rfl)
    (hpl : ∀ i, (backTo pos (starEach [] (F.X i).env)).any (·.1) = false := by intro _; rfl) : Ee F (.Call (.Name "range" p) [e] [] pos) n (fun ρ R => f ρ (asRg R)) := by
  obtain ⟨t, pt, st⟩ := ha
  refine ⟨_, fun i => pe_callTy cr_range1 (hg i) (by rw [F.eM]; exact hm) boot_range (pt i) (by decide) (by decide) (he i) (hpl i), fun C σ ρ H R Q hm G hf k => st C σ ρ H _ _ hm G hf fun vs H1 xs m l u t1 oxs h1 => ?_⟩
  match xs, oxs, h1 with
  | [.d (.int j)], oxs, h1 =>
    obtain ⟨v, rfl, o1⟩ := oxs.one
    refine ⟨j, by rw [Rd.inv_int o1], fun q hq => k _ _ (.rg 0 j) m l u (t1.trans ((G.tr t1).new hq)) ⟨q, rfl, ?_⟩ h1⟩
    exact mask_at (fun z => (G.tr t1).nbar hq z) upd_same
def iRg (te : TE) : TI := fun σ H R => te σ H fun v H1 => ∃ p lo hi, v = .ref p ∧ H1 p = some (.rng lo hi) ∧ (-(2 ^ 62) ≤ lo ∧ lo < 2 ^ 62 ∧ -(2 ^ 62) ≤ hi ∧ hi < 2 ^ 62) ∧ R (Itr lo (hi - lo).toNat) H1
theorem pi_rg {X : Cx} {tg : Expr} {te : TE} (h : PE X e te) : PI X tg e (iRg te) := by
  refine ⟨fun pins s σ H R I q => thn (h.run pins s σ H _ I q) fun v s1 ⟨x, H1, I1, r1, p, lo, hi, ex, hp, ⟨h1, h2, h3, h4⟩, q⟩ => ?_⟩
  subst ex
  cases r1
  obtain ⟨t, u, w, ho⟩ := I1.hok p _ hp
  refine wpAny_pyIter_range (r := p) (a := lo) (b := hi) (c := 1) (t := t) (u := u) (v := w) ho (small_one h1 h2 h3 h4) ?_
  refine ⟨s1.heap.objs.size, [s1.heap.objs.size], _, _, H1, rfl, I1.kept (t' := s1.toks) fun b o e => Heap.get?_push_of_some _ e, turn_range _ lo (hi - lo).toNat, ?_, fun b hb => ?_, q⟩
  · have e1 : lo + ((0 : Nat) : Int) * 1 = lo := by simp
    have e2 : (((hi - lo).toNat : Nat) : Int) - ((0 : Nat) : Int) = Builtin.Range.rangeSize lo hi 1 := by rw [rangeSize_one]; split <;> omega
    show IsRangeIter _ _ (lo + ((0 : Nat) : Int) * 1) ((((hi - lo).toNat : Nat) : Int) - ((0 : Nat) : Int)) 1
    rw [e1, e2]
    exact Heap.get?_push_size _ rfl
  · have e : b = s1.heap.objs.size := by simpa using hb
    subst e
    exact I1.fpOk (Nat.le_refl _) (I1.hok.fresh (Nat.le_refl _))
def asRgI (R : List Vl → Prop) : Vl → Prop
  | .rg lo hi => (-(2 ^ 62) ≤ lo ∧ lo < 2 ^ 62 ∧ -(2 ^ 62) ≤ hi ∧ hi < 2 ^ 62) ∧ R (irange lo (hi - lo).toNat)
  | _ => False
theorem i_rg {tg : Expr} {f : FE} (h : Ee F e n f) : Ei F tg e n (fun ρ R => f ρ (asRgI R)) := by
  obtain ⟨t, pt, st⟩ := h
  refine ⟨_, fun i => pi_rg (pt i), fun C σ ρ H R Q hm G hf k => st C σ ρ H _ _ hm G hf fun v H1 x m l u t1 ox h1 => ?_⟩
  match x, ox, h1 with
  | .rg lo hi, ⟨p, e1, e2⟩, h1 => exact ⟨p, lo, hi, e1, mask_le _ _ e2, h1.1, k _ H1 _ m l u t1 WOk.rng h1.2⟩
/-! ### a, b = e1, e2 where one is a new list of the def's own -/
theorem s_par3 {px py pz pt pt2 : Pos} {kt k2 : Nat} (i j r : Nat) (hi : F.N[i]? = some x) (hj : F.N[j]? = some y) (hr : F.N[r]? = some z) (ha : Ea F [e1, e2, e3] n ff)
    (q : ∀ {k : F.I} {ta : TA}, PA (F.X k) [e1, e2, e3] ta → PS (F.X k) (.Assign [.Tuple [.Name x px, .Name y py, .Name z pz] kt pt] (.Tuple [e1, e2, e3] k2 pt2) pos) (tPar3 i j r ta)) :
    E1 F (.Assign [.Tuple [.Name x px, .Name y py, .Name z pz] kt pt] (.Tuple [e1, e2, e3] k2 pt2) pos) n (fun ρ N => ff ρ fun xs => match xs with | [u, v, w] => (i < ρ.length ∧ j < ρ.length ∧ r < ρ.length) ∧ N.nx (((ρ.set i (.v u)).set j (.v v)).set r (.v w)) | _ => False) := by
  obtain ⟨t, pt, s⟩ := ha
  refine ⟨_, fun k => q (pt k), fun C σ ρ H N D hm G hf l => s C σ ρ H _ _ hm G hf fun vs H1 xs m l1 u1 t1 oxs h1 => ?_⟩
  match xs, oxs, h1 with
  | [a, b, c], oxs, h1 =>
    cases oxs with
    | cons o1 oxs =>
      obtain ⟨v2, v3, rfl, o2, o3⟩ := oxs.two
      obtain ⟨G1, x1⟩ := (G.tr t1).set h1.1.1 o1
      obtain ⟨G2, x2⟩ := G1.set (i := j) (by simpa using h1.1.2.1) (o2.mono x1)
      obtain ⟨G3, x3⟩ := G2.set (i := r) (by simpa using h1.1.2.2) (o3.mono (x1.trans x2))
      exact ⟨_, v2, v3, rfl, l.nx _ _ _ m l1 u1 G3 ((((G.ex t1).trans x1).trans x2).trans x3) h1.2⟩
/-- x, y = e1, [..]: y begins an own list -/
theorem s_parVO {px py pt pt2 : Pos} {kt k2 : Nat} {fl : FL} (i j : Nat) (hi : F.N[i]? = some x) (hj : F.N[j]? = some y) (hij : i ≠ j) (ha : Ee F e1 n1 fe1) (hb : El F e2 n2 fl)
    (q : ∀ {k : F.I} {ta : TA}, PA (F.X k) [e1, e2] ta → PS (F.X k) (.Assign [.Tuple [.Name x px, .Name y py] kt pt] (.Tuple [e1, e2] k2 pt2) pos) (tPar i j ta))
    (h1s : ∀ i, starEach [e1, e2] (F.X i).env = (false, eval e1 (F.X i).env) :: starEach [e2] (F.X i).env := by intro _; rfl) (h2s : ∀ i, starEach [e2] (F.X i).env = (false, eval e2 (F.X i).env) :: starEach [] (F.X i).env := by intro _; rfl) :
    E1 F (.Assign [.Tuple [.Name x px, .Name y py] kt pt] (.Tuple [e1, e2] k2 pt2) pos) (n1 + n2) (fun ρ N => fe1 ρ fun u => fl ρ fun ds => (i < ρ.length ∧ j < ρ.length) ∧ N.nx ((ρ.set i (.v u)).set j (.own ds))) := by
  obtain ⟨t, pt, s⟩ := ha
  obtain ⟨t2, pt2, s2⟩ := hb
  refine ⟨_, fun k => q (pa_cons (pt k) (pa_cons (pt2 k) pa_nil (h2s k)) (h1s k)), fun C σ ρ H N D hm G hf l => s C σ ρ H _ _ (by omega) G hf fun v H1 x1 m1 l1 u1 t1 ox h1 => s2 (C.up m1) σ ρ H1 _ _ (by show m1 + n2 ≤ lim; omega) (G.tr t1) h1 fun p H2 vs ds m2 l2 u2 hp tt hv hr h2 => ?_⟩
  obtain ⟨⟨g1, g2⟩, h2⟩ := h2
  have l2' : m1 ≤ m2 := l2
  have u2' : m2 ≤ m1 + n2 := u2
  obtain ⟨G2, e2⟩ := (G.tr t1).own (i := j) g2 hp tt hv hr
  obtain ⟨G3, e3⟩ := G2.set (i := i) (by simpa using g1) (ox.mono e2)
  rw [List.set_comm _ _ (fun z => hij z.symm), List.set_comm _ _ (fun z => hij z.symm)] at G3 e3
  exact ⟨v, .ref p, rfl, l.nx _ _ _ m2 (by omega) (by omega) G3 (((G.ex t1).trans e2).trans e3) h2⟩
/-- what an own list's beginning leaves to what is told behind it -/
theorem own_then {C : Ct} {σ : Sg} {ρ : En} {H H1 : Hp} {m1 : Nat} {p : Addr} {vs : List V} {ds : List PyData} (G : Good K C σ ρ H) (t1 : Tr C.S (K.SI m1) H H1) (hp : H p = none) (hv : H1 p = some (.lst vs)) (hr : RdA K (mask (fun a => bar C.B σ ρ a ∨ a = p) H1) vs ds) :
    Good K (blkC C σ ρ p m1) (wipe σ []) (blkE ρ []) H1 := G.blk hp t1 (by rw [hv]; simp)
theorem s_parOV {px py pt pt2 : Pos} {kt k2 : Nat} {fl : FL} (i j : Nat) (hi : F.N[i]? = some x) (hj : F.N[j]? = some y) (hij : i ≠ j) (ha : El F e1 n1 fl) (hb : Ee F e2 n2 fe2)
    (q : ∀ {k : F.I} {ta : TA}, PA (F.X k) [e1, e2] ta → PS (F.X k) (.Assign [.Tuple [.Name x px, .Name y py] kt pt] (.Tuple [e1, e2] k2 pt2) pos) (tPar i j ta))
    (h1s : ∀ i, starEach [e1, e2] (F.X i).env = (false, eval e1 (F.X i).env) :: starEach [e2] (F.X i).env := by intro _; rfl) (h2s : ∀ i, starEach [e2] (F.X i).env = (false, eval e2 (F.X i).env) :: starEach [] (F.X i).env := by intro _; rfl) :
    E1 F (.Assign [.Tuple [.Name x px, .Name y py] kt pt] (.Tuple [e1, e2] k2 pt2) pos) (n1 + n2) (fun ρ N => fl ρ fun ds => fe2 (blkE ρ []) fun u => (i < ρ.length ∧ j < ρ.length) ∧ N.nx ((ρ.set i (.own ds)).set j (.v u))) := by
  obtain ⟨t, pt, s⟩ := ha
  obtain ⟨t2, pt2, s2⟩ := hb
  refine ⟨_, fun k => q (pa_cons (pt k) (pa_cons (pt2 k) pa_nil (h2s k)) (h1s k)), fun C σ ρ H N D hm G hf l => s C σ ρ H _ _ (by omega) G hf fun p H1 vs ds m1 l1 u1 hp t1 hv hr h1 => ?_⟩
  have GB := own_then G t1 hp hv hr
  refine s2 (blkC C σ ρ p m1) (wipe σ []) (blkE ρ []) H1 _ _ (by show m1 + n2 ≤ lim; omega) GB h1 fun v H2 u m2 l2 u2 tt ox h2 => ?_
  obtain ⟨⟨g1, g2⟩, h2⟩ := h2
  have l2' : m1 ≤ m2 := l2
  have u2' : m2 ≤ m1 + n2 := u2
  have tt' : Tr C.S (F.K.SI m2) H1 H2 := tt
  have nS : ¬ C.S p := fun s => G.ct.th _ _ G.si p s hp
  have hv2 : H2 p = some (.lst vs) := tt'.1 p _ nS hv
  have exM : Ex (mask (fun a => bar C.B σ ρ a ∨ a = p) H1) (mask (fun a => bar C.B σ ρ a ∨ a = p) H2) := tt'.ex fun a s => .inl (.inl (G.ct.sb a s))
  obtain ⟨G2, e2⟩ := G.own (i := i) g1 hp (t1.trans tt') hv2 (hr.mono exM)
  have ox2 : VlOk F.K (mq C (σ.set i (some (.ref p))) (ρ.set i (.own ds)) H2) v u := ox.mono (mask_sub fun a h => by
    refine Or.inl ?_
    rcases h with h | ⟨r, ys, q1, q2⟩
    · exact .inl (.inl h)
    · rcases set_at q1 with ⟨rfl, z, _⟩ | ⟨ne, q1⟩
      · rcases set_at q2 with ⟨_, z2, _⟩ | ⟨ne, _⟩
        · cases z2; exact .inr rfl
        · exact absurd rfl ne
      · rw [set_oth ne] at q2
        exact .inl (.inr ⟨r, ys, q1, q2⟩))
  obtain ⟨G3, e3⟩ := G2.set (i := j) (by simpa using g2) ox2
  exact ⟨.ref p, v, rfl, l.nx _ _ _ m2 (by omega) (by omega) G3 (e2.trans e3) h2⟩
theorem s_parOVV {px py pz pt pt2 : Pos} {kt k2 : Nat} {fl : FL} (i j r : Nat) (hi : F.N[i]? = some x) (hj : F.N[j]? = some y) (hr' : F.N[r]? = some z) (ha : El F e1 n1 fl) (hb : Ea F [e2, e3] n2 ff)
    (q : ∀ {k : F.I} {ta : TA}, PA (F.X k) [e1, e2, e3] ta → PS (F.X k) (.Assign [.Tuple [.Name x px, .Name y py, .Name z pz] kt pt] (.Tuple [e1, e2, e3] k2 pt2) pos) (tPar3 i j r ta))
    (h1s : ∀ i, starEach [e1, e2, e3] (F.X i).env = (false, eval e1 (F.X i).env) :: starEach [e2, e3] (F.X i).env := by intro _; rfl) :
    E1 F (.Assign [.Tuple [.Name x px, .Name y py, .Name z pz] kt pt] (.Tuple [e1, e2, e3] k2 pt2) pos) (n1 + n2) (fun ρ N => fl ρ fun ds => ff (blkE ρ []) fun xs => match xs with | [u, w] => (i < ρ.length ∧ j < ρ.length ∧ r < ρ.length) ∧ N.nx (((ρ.set i (.own ds)).set j (.v u)).set r (.v w)) | _ => False) := by
  obtain ⟨t, pt, s⟩ := ha
  obtain ⟨t2, pt2, s2⟩ := hb
  refine ⟨_, fun k => q (pa_cons (pt k) (pt2 k) (h1s k)), fun C σ ρ H N D hm G hf l => s C σ ρ H _ _ (by omega) G hf fun p H1 vs ds m1 l1 u1 hp t1 hv hr h1 => ?_⟩
  have GB := own_then G t1 hp hv hr
  refine s2 (blkC C σ ρ p m1) (wipe σ []) (blkE ρ []) H1 _ _ (by show m1 + n2 ≤ lim; omega) GB h1 fun us H2 xs m2 l2 u2 tt oxs h2 => ?_
  have l2' : m1 ≤ m2 := l2
  have u2' : m2 ≤ m1 + n2 := u2
  have tt' : Tr C.S (F.K.SI m2) H1 H2 := tt
  have nS : ¬ C.S p := fun s => G.ct.th _ _ G.si p s hp
  have hv2 : H2 p = some (.lst vs) := tt'.1 p _ nS hv
  have exM : Ex (mask (fun a => bar C.B σ ρ a ∨ a = p) H1) (mask (fun a => bar C.B σ ρ a ∨ a = p) H2) := tt'.ex fun a s => .inl (.inl (G.ct.sb a s))
  match xs, oxs, h2 with
  | [u, w], oxs, h2 =>
    obtain ⟨⟨g1, g2, g3⟩, h2⟩ := h2
    obtain ⟨v1, v2, rfl, o1, o2⟩ := oxs.two
    obtain ⟨G2, e2⟩ := G.own (i := i) g1 hp (t1.trans tt') hv2 (hr.mono exM)
    have sub : Ex (mq (blkC C σ ρ p m1) (wipe σ []) (blkE ρ []) H2) (mq C (σ.set i (some (.ref p))) (ρ.set i (.own ds)) H2) := mask_sub fun a h => by
      refine Or.inl ?_
      rcases h with h | ⟨r, ys, q1, q2⟩
      · exact .inl (.inl h)
      · rcases set_at q1 with ⟨rfl, z, _⟩ | ⟨ne, q1⟩
        · rcases set_at q2 with ⟨_, z2, _⟩ | ⟨ne, _⟩
          · cases z2; exact .inr rfl
          · exact absurd rfl ne
        · rw [set_oth ne] at q2
          exact .inl (.inr ⟨r, ys, q1, q2⟩)
    obtain ⟨G3, e3⟩ := G2.set (i := j) (by simpa using g2) (o1.mono sub)
    obtain ⟨G4, e4⟩ := G3.set (i := r) (by simpa using g3) ((o2.mono sub).mono e3)
    exact ⟨.ref p, v1, v2, rfl, l.nx _ _ _ m2 (by omega) (by omega) G4 ((e2.trans e3).trans e4) h2⟩
end
end Px

set_option Elab.async false
set_option linter.all false
set_option maxRecDepth 100000
set_option maxHeartbeats 2000000
/-! Px: comprehensions with two walks, one within the other. -/
namespace Px
open PySem PySem.Spec PyProof.Rows L2
section
variable {K : Kx} {C : Ct} {σ : Sg} {ρ : En} {H : Hp}
theorem mq_updB {D : Addr} {o : HO} (hB : C.B D) : mq C σ ρ (upd H D o) = mq C σ ρ H := by
  funext a
  unfold mq mask
  by_cases z : bar C.B σ ρ a
  · rw [if_pos z, if_pos z]
  · rw [if_neg z, if_neg z, upd_ne (fun q => z (.inl (by rw [q]; exact hB)))]
theorem Good.updB (G : Good K C σ ρ H) {D : Addr} {o : HO} (hB : C.B D) (nS : ¬ C.S D) (h0 : C.H0 D = none) : Good K C σ ρ (upd H D o) where
  eS := G.eS
  ct := G.ct
  si := G.ct.st _ H _ (fun a s => by rw [upd_ne (fun q => nS (by rw [← q]; exact s))]) G.si
  bd := fun a b e => by
    by_cases ea : a = D
    · subst ea; rw [upd_same] at e; cases e
    · rw [upd_ne ea] at e; exact G.bd a b e
  fr := fun a u ns e => by rw [upd_ne (ne_of_none e h0)]; exact G.fr a u ns e
  len := G.len
  sl := fun i x e => by rw [mq_updB hB]; exact G.sl i x e
  ow := fun i xs e => by
    obtain ⟨p, vs, h1, h2, h3, h4, h5⟩ := G.ow i xs e
    exact ⟨p, vs, h1, by rw [upd_ne (fun z => h5 (by rw [z]; exact hB))]; exact h2, by rw [mq_updB hB]; exact h3, h4, h5⟩
  inj := G.inj
theorem wipe_bar {L : List Nat} {a : Addr} (h : bar C.B (wipe σ L) (wipeE ρ L) a) : bar C.B σ ρ a := by
  rcases h with h | ⟨i, xs, h1, h2⟩
  · exact .inl h
  · rcases wipeE_get L h1 with e | ⟨m, e⟩
    · cases e
    · rw [wipe_get, if_neg (fun z => m z.1)] at h2
      exact .inr ⟨i, xs, e, h2⟩
theorem Good.wiped (G : Good K C σ ρ H) (L : List Nat) : Good K C (wipe σ L) (wipeE ρ L) H ∧ Ex (mq C σ ρ H) (mq C (wipe σ L) (wipeE ρ L) H) := by
  have ex : Ex (mq C σ ρ H) (mq C (wipe σ L) (wipeE ρ L) H) := mask_sub fun a h => wipe_bar h
  refine ⟨⟨G.eS, G.ct, G.si, G.bd, G.fr, by rw [wipeE_len, wipe_len, G.len], fun i x e => ?_, fun i xs e => ?_, fun i j xs ys p e1 e2 e3 e4 => ?_⟩, ex⟩
  · rcases wipeE_get L e with e | ⟨m, e⟩
    · cases e
    · obtain ⟨v, h1, h2⟩ := G.sl i x e
      exact ⟨v, by rw [wipe_get, if_neg (fun z => m z.1)]; exact h1, h2.mono ex⟩
  · rcases wipeE_get L e with e | ⟨m, e⟩
    · cases e
    · obtain ⟨p, vs, h1, h2, h3, h4, h5⟩ := G.ow i xs e
      exact ⟨p, vs, by rw [wipe_get, if_neg (fun z => m z.1)]; exact h1, h2, h3.mono ex, h4, h5⟩
  · rcases wipeE_get L e1 with e | ⟨m1, e1⟩
    · cases e
    · rcases wipeE_get L e2 with e | ⟨m2, e2⟩
      · cases e
      · rw [wipe_get, if_neg (fun z => m1 z.1)] at e3
        rw [wipe_get, if_neg (fun z => m2 z.1)] at e4
        exact G.inj i j xs ys p e1 e2 e3 e4
end
section
variable {J : It} {n : Nat} {G : Hp → Prop} {Y : Nat → Hp → V → Hp → Prop}
theorem lc_it1 (w : Walk J n G Y) {g : TG} {tt : TT} {te : TE} {vs : List Nat} {σ : Sg} {H0 : Hp} {D : Addr} {Qd : Hp → Prop} (Pv : Nat → Hp → Prop) (h0 : Pv 0 H0) (hG : ∀ i H, i ≤ n → Pv i H → G H)
    (hs : ∀ i x H H', i < n → Pv i H → Y i H x H' → g x (wipe σ vs) H' fun σ2 H2 => wipe σ2 vs = wipe σ vs ∧ tt σ2 H2 fun b H3 =>
      if b = true then te σ2 H3 fun y H4 => ∃ acc, H4 D = some (.lst acc) ∧ acc.length < sizeLine ∧ Pv (i + 1) (upd H4 D (.lst (acc ++ [y]))) else Pv (i + 1) H3) (hd : ∀ H, Pv n H → Qd H) :
    ∃ W : Nat → Nat → Hp → Prop, (∃ m, W 0 m H0) ∧ ∀ i m H, W i m H →
      (J.stop i H ∧ Qd H) ∨ (J.go i H ∧ ∃ Nx : Hp → Prop, (∀ H', Nx H' → ∃ m', m' < m ∧ W (i + 1) m' H') ∧ ∀ x H', J.yld i H x H' → g x (wipe σ vs) H' fun σ2 H2 => wipe σ2 vs = wipe σ vs ∧ tt σ2 H2 fun b H3 =>
        if b = true then te σ2 H3 fun y H4 => ∃ acc, H4 D = some (.lst acc) ∧ acc.length < sizeLine ∧ Nx (upd H4 D (.lst (acc ++ [y]))) else Nx H3) := by
  refine ⟨fun i m H => m = n - i ∧ i ≤ n ∧ Pv i H, ⟨n, by simp, Nat.zero_le _, h0⟩, ?_⟩
  rintro i m H ⟨rfl, hi, p⟩
  have q := hG i H hi p
  by_cases hlt : i < n
  · refine .inr ⟨w.goes i H hlt q, Pv (i + 1), fun H' p' => ⟨n - (i + 1), by omega, rfl, hlt, p'⟩, fun x H' y => hs i x H H' hlt p (w.yields i H x H' hlt q y)⟩
  · have e : i = n := by omega
    subst e
    exact .inl ⟨w.stops H q, hd H p⟩
/-- an outer walk whose step is anything that ends in «next» -/
theorem lc_itO (w : Walk J n G Y) {σw : Sg} {H0 : Hp} {Qd : Hp → Prop} {B : V → Hp → (Hp → Prop) → Prop} (Pv : Nat → Hp → Prop) (h0 : Pv 0 H0) (hG : ∀ i H, i ≤ n → Pv i H → G H)
    (hs : ∀ i x H H', i < n → Pv i H → Y i H x H' → B x H' (Pv (i + 1))) (hd : ∀ H, Pv n H → Qd H) :
    ∃ W : Nat → Nat → Hp → Prop, (∃ m, W 0 m H0) ∧ ∀ i m H, W i m H →
      (J.stop i H ∧ Qd H) ∨ (J.go i H ∧ ∃ Nx : Hp → Prop, (∀ H', Nx H' → ∃ m', m' < m ∧ W (i + 1) m' H') ∧ ∀ x H', J.yld i H x H' → B x H' Nx) := by
  refine ⟨fun i m H => m = n - i ∧ i ≤ n ∧ Pv i H, ⟨n, by simp, Nat.zero_le _, h0⟩, ?_⟩
  rintro i m H ⟨rfl, hi, p⟩
  have q := hG i H hi p
  by_cases hlt : i < n
  · refine .inr ⟨w.goes i H hlt q, Pv (i + 1), fun H' p' => ⟨n - (i + 1), by omega, rfl, hlt, p'⟩, fun x H' y => hs i x H H' hlt p (w.yields i H x H' hlt q y)⟩
  · have e : i = n := by omega
    subst e
    exact .inl ⟨w.stops H q, hd H p⟩
end
def lc2F (fg : FG) (ft : FT) (fi1 : FI) (fg1 : FG) (ft1 : FT) (fe : FE) (L1 : List Nat) (ρ : En) : List Vl → List PyData → (List PyData → Prop) → Prop
  | [], acc, R => R acc
  | x :: xs, acc, R => fg x ρ fun ρ2 => ft ρ2 fun b => if b = true then fi1 ρ2 fun items1 => items1.length ≤ 999 ∧ lcF fg1 ft1 fe (wipeE ρ2 L1) items1 acc fun acc' => lc2F fg ft fi1 fg1 ft1 fe L1 ρ xs acc' R else lc2F fg ft fi1 fg1 ft1 fe L1 ρ xs acc R
theorem turn_up2 {m1 i c m b : Nat} (h : m ≤ m1 + i * c) (h2 : b ≤ m + c) : b ≤ m1 + (i + 1) * c := by
  rw [Nat.add_mul, Nat.one_mul]
  omega
theorem sl_lc2 {K : Kx} {wi wi1 : TI} {g g1 : TG} {tt tt1 : TT} {te : TE} {L L1 : List Nat} {fi fi1 : FI} {fg fg1 : FG} {ft ft1 : FT} {fe : FE} {ni nt ni1 nt1 ne : Nat} (hi : SI K wi ni fi) (hg : SG K g L fg) (ht : ST K tt nt ft)
    (hi1 : SI K wi1 ni1 fi1) (hg1 : SG K g1 L1 fg1) (ht1 : ST K tt1 nt1 ft1) (he : SE K te ne fe) :
    SL K (tLc2 wi g tt wi1 g1 tt1 te L L1) (ni + 1000 * (nt + (ni1 + 1000 * (nt1 + ne)))) (fun ρ R => fi ρ fun items => items.length ≤ 1000 ∧ lc2F fg ft fi1 fg1 ft1 fe L1 (blkE ρ L) items [] R) := fun C σ ρ H R Q hm G hf k =>
  hi C σ ρ H _ _ (by omega) G hf fun J H1 items m1 l1 u1 t1 wok h1 => by
    obtain ⟨hlen, hlc⟩ := h1
    obtain ⟨Gd, Y, walk, hG, hY⟩ := wok
    have G1 := G.tr t1
    intro D hD
    have nSD : ¬ C.S D := fun s => G1.ct.th _ _ G1.si D s hD
    generalize hcO : nt + (ni1 + 1000 * (nt1 + ne)) = cO at hm
    have hm1 : m1 + 1000 * cO ≤ lim := by omega
    refine lc_itO (σw := σ) walk (B := fun x H' Nx => g x (wipe σ L) H' fun σ2 H2 => wipe σ2 L = wipe σ L ∧ tt σ2 H2 fun b H3 =>
      if b = true then wi1 σ2 H3 fun J1 H4 => ∃ W1 : Nat → Nat → Hp → Prop, (∃ m, W1 0 m H4) ∧ ∀ j k H, W1 j k H →
        (J1.stop j H ∧ Nx H) ∨ (J1.go j H ∧ ∃ Nx1 : Hp → Prop, (∀ H', Nx1 H' → ∃ k', k' < k ∧ W1 (j + 1) k' H') ∧ ∀ x H', J1.yld j H x H' → g1 x (wipe σ2 L1) H' fun σ3 H5 => wipe σ3 L1 = wipe σ2 L1 ∧ tt1 σ3 H5 fun b H6 =>
          if b = true then te σ3 H6 fun y H7 => ∃ acc, H7 D = some (.lst acc) ∧ acc.length < sizeLine ∧ Nx1 (upd H7 D (.lst (acc ++ [y]))) else Nx1 H6)
      else Nx H3)
      (fun i H => ∃ m, m1 ≤ m ∧ m ≤ m1 + i * cO ∧ Tr C.S (K.SI m) H1 H ∧ ∃ acc vs, H D = some (.lst vs) ∧ RdA K (mask (fun a => bar C.B σ ρ a ∨ a = D) H) vs acc ∧ vs.length ≤ i * 999 ∧ lc2F fg ft fi1 fg1 ft1 fe L1 (blkE ρ L) (items.drop i) acc R) ?_ ?_ ?_ ?_
    · exact ⟨m1, Nat.le_refl _, by omega, G1.new hD, [], [], upd_same, .nil, Nat.zero_le _, by simpa using hlc⟩
    · rintro i H' _ ⟨m, _, _, t, _⟩
      exact hG H' ((G1.ex t).trans mask_le)
    · rintro i x H' H'' hi' ⟨m, lm, um, t, acc, vs, hd, hr, hl, hf⟩ y
      have hx : items[i]? = some items[i] := List.getElem?_eq_getElem hi'
      have hml : m + cO ≤ lim := by
        have : i * cO + cO ≤ 1000 * cO := by
          rw [← Nat.succ_mul]
          exact Nat.mul_le_mul_right _ (by omega)
        omega
      obtain ⟨it, e1, e2⟩ := hY i H' x H'' hi' ((G1.ex t).trans mask_le) y
      rw [hx] at e1
      have e1 : items[i] = it := Option.some.inj e1
      rw [List.drop_eq_getElem_cons hi', e1] at hf
      have hDn : H' D ≠ none := by rw [hd]; simp
      have GB : Good K (blkC C σ ρ D m) (wipe σ L) (blkE ρ L) H' := G1.blk hD t hDn
      have m0 : Ex (mq C σ ρ H1) (mq (blkC C σ ρ D m) (wipe σ L) (blkE ρ L) H') := (blk_ex hD G1 t).trans (mask_sub fun a z => blk_bar z)
      have step : Tr C.S (K.SI m) H' H'' ∧ VlOk K (mq (blkC C σ ρ D m) (wipe σ L) (blkE ρ L) H'') x it ∧ H'' D = some (.lst vs) := by
        rcases e2 with ⟨rfl, o⟩ | ⟨T, o, n, rfl, ok⟩
        · exact ⟨Tr.refl t.2, o.mono m0, hd⟩
        · have tt := GB.new (o := o) n
          refine ⟨tt, ok.mono fun a u z => ?_, by rw [upd_ne (ne_of_none hd n)]; exact hd⟩
          by_cases ea : a = T
          · subst ea
            rw [upd_same] at z
            cases z
            exact GB.mq_new n
          · rw [upd_ne ea] at z
            exact (GB.ex tt) a u (m0 a u z)
      obtain ⟨t2, ox, hd2⟩ := step
      have exD : ∀ {A B : Hp} {m : Nat}, Tr C.S (K.SI m) A B → Ex (mask (fun a => bar C.B σ ρ a ∨ a = D) A) (mask (fun a => bar C.B σ ρ a ∨ a = D) B) := fun t => t.ex fun a s => .inl (.inl (G1.ct.sb a s))
      refine hg (blkC C σ ρ D m) (wipe σ L) (blkE ρ L) H'' x it _ _ (GB.tr t2) ox hf fun σ2 ρ2 G2 x2 w2 h2 => ⟨?_, ?_⟩
      · rw [w2]
        exact wipe_eq (wipe_len L) fun j m => by rw [wipe_get, if_neg (fun z => m z.1)]
      · refine ht (blkC C σ ρ D m) σ2 ρ2 H'' _ _ (by show m + nt ≤ lim; omega) G2 h2 fun b H3 m3 l3 u3 t3 h3 => ?_
        have l3' : m ≤ m3 := l3
        have u3' : m3 ≤ m + nt := u3
        cases b with
        | false => exact iteF ⟨m3, by omega, turn_up2 um (by omega), (t.trans t2).trans t3, acc, vs, t3.1 D _ nSD hd2, hr.mono (exD (t2.trans t3)), Nat.le_trans hl (Nat.mul_le_mul_right _ (by omega)), by simpa using h3⟩
        | true =>
          refine iteT (hi1 (blkC C σ ρ D m3) σ2 ρ2 H3 _ _ (by show m3 + ni1 ≤ lim; omega) (G2.tr t3) (by simpa using h3) fun J1 H4 items1 m4 l4 u4 t4 wok1 h4 => ?_)
          have l4' : m3 ≤ m4 := l4
          have u4' : m4 ≤ m3 + ni1 := u4
          obtain ⟨hlen1, hlc1⟩ := h4
          obtain ⟨Gd1, Y1, walk1, hG1, hY1⟩ := wok1
          have G4 : Good K (blkC C σ ρ D m4) σ2 ρ2 H4 := (G2.tr t3).tr t4
          have tH4 : Tr C.S (K.SI m4) H1 H4 := ((t.trans t2).trans t3).trans t4
          refine lc_it1 walk1 (vs := L1) (σ := σ2) (fun j H => ∃ m5, m4 ≤ m5 ∧ m5 ≤ m4 + j * (nt1 + ne) ∧ Tr C.S (K.SI m5) H1 H ∧ Good K (blkC C σ ρ D m5) σ2 ρ2 H ∧ Ex (mq (blkC C σ ρ D m4) σ2 ρ2 H4) (mq (blkC C σ ρ D m5) σ2 ρ2 H) ∧
            ∃ acc vs, H D = some (.lst vs) ∧ RdA K (mask (fun a => bar C.B σ ρ a ∨ a = D) H) vs acc ∧ vs.length ≤ i * 999 + j ∧ lcF fg1 ft1 fe (wipeE ρ2 L1) (items1.drop j) acc fun acc' => lc2F fg ft fi1 fg1 ft1 fe L1 (blkE ρ L) (items.drop (i + 1)) acc' R) ?_ ?_ ?_ ?_
          · exact ⟨m4, Nat.le_refl _, by omega, tH4, G4, Ex.refl _, acc, vs, t4.1 D _ nSD (t3.1 D _ nSD hd2), hr.mono (exD ((t2.trans t3).trans t4)), by omega, by simpa using hlc1⟩
          · rintro j H5 _ ⟨m5, _, _, _, _, ex5, _⟩
            exact hG1 H5 (ex5.trans mask_le)
          · rintro j x1 H5 H6 hj ⟨m5, lm5, um5, t5, G5, ex5, acc5, vs5, hd5, hr5, hl5, hf5⟩ y1
            have hx1 : items1[j]? = some items1[j] := List.getElem?_eq_getElem hj
            obtain ⟨it1, f1, f2⟩ := hY1 j H5 x1 H6 hj (ex5.trans mask_le) y1
            rw [hx1] at f1
            have f1 : items1[j] = it1 := Option.some.inj f1
            rw [List.drop_eq_getElem_cons hj, f1] at hf5
            have hjm : j * (nt1 + ne) + (nt1 + ne) ≤ 1000 * (nt1 + ne) := by
              rw [← Nat.succ_mul]
              exact Nat.mul_le_mul_right _ (by omega)
            have step1 : Tr C.S (K.SI m5) H5 H6 ∧ VlOk K (mq (blkC C σ ρ D m5) σ2 ρ2 H6) x1 it1 ∧ H6 D = some (.lst vs5) := by
              rcases f2 with ⟨rfl, o⟩ | ⟨T, o, n, rfl, ok⟩
              · exact ⟨Tr.refl t5.2, o.mono ex5, hd5⟩
              · have tt := G5.new (o := o) n
                refine ⟨tt, ok.mono fun a u z => ?_, by rw [upd_ne (ne_of_none hd5 n)]; exact hd5⟩
                by_cases ea : a = T
                · subst ea
                  rw [upd_same] at z
                  cases z
                  exact G5.mq_new n
                · rw [upd_ne ea] at z
                  exact (G5.ex tt) a u (ex5 a u z)
            obtain ⟨t6, ox6, hd6⟩ := step1
            have G6 : Good K (blkC C σ ρ D m5) σ2 ρ2 H6 := G5.tr t6
            have ex6 := ex5.trans (G5.ex t6)
            obtain ⟨Gw, xw⟩ := G6.wiped L1
            refine hg1 (blkC C σ ρ D m5) (wipe σ2 L1) (wipeE ρ2 L1) H6 x1 it1 _ _ Gw (ox6.mono xw) hf5 fun σ3 ρ3 G7 x7 w7 h7 => ⟨?_, ?_⟩
            · rw [w7]
              exact wipe_eq (wipe_len L1) fun j m => by rw [wipe_get, if_neg (fun z => m z.1)]
            · refine ht1 (blkC C σ ρ D m5) σ3 ρ3 H6 _ _ (by show m5 + nt1 ≤ lim; omega) G7 h7 fun b H7 m7 l7 u7 t7 h8 => ?_
              have l7' : m5 ≤ m7 := l7
              have u7' : m7 ≤ m5 + nt1 := u7
              cases b with
              | false => exact iteF ⟨m7, by omega, turn_up2 um5 (by omega), (t5.trans t6).trans t7, G6.tr t7, ex6.trans (G6.ex t7), acc5, vs5, t7.1 D _ nSD hd6, hr5.mono (exD (t6.trans t7)), by omega, by simpa using h8⟩
              | true =>
                refine iteT (he (blkC C σ ρ D m7) σ3 ρ3 H7 _ _ (by show m7 + ne ≤ lim; omega) (G7.tr t7) (by simpa using h8) fun v H8 z m8 l8 u8 t8 oz h9 => ?_)
                have l8' : m7 ≤ m8 := l8
                have u8' : m8 ≤ m7 + ne := u8
                match z, oz, h9 with
                | .d dd, oz, h9 =>
                  have oz' : Rd K (mask (fun a => bar C.B σ ρ a ∨ a = D) H8) v dd := Rd.mono (mask_sub fun a z => .inl z) oz
                  have t68 : Tr C.S (K.SI m8) H5 H8 := (t6.trans t7).trans t8
                  have hd8 : H8 D = some (.lst vs5) := t8.1 D _ nSD (t7.1 D _ nSD hd6)
                  have same : mask (fun a => bar C.B σ ρ a ∨ a = D) (upd H8 D (.lst (vs5 ++ [v]))) = mask (fun a => bar C.B σ ρ a ∨ a = D) H8 := by
                    funext a
                    unfold mask
                    by_cases z : bar C.B σ ρ a ∨ a = D
                    · rw [if_pos z, if_pos z]
                    · rw [if_neg z, if_neg z, upd_ne (fun q => z (.inr q))]
                  have G8 : Good K (blkC C σ ρ D m8) σ2 ρ2 H8 := (G6.tr t7).tr t8
                  refine ⟨vs5, hd8, small_lt (by have : i * 999 ≤ 999 * 999 := Nat.mul_le_mul_right _ (by omega); omega), m8, by omega, turn_up2 um5 (by omega), ⟨fun a o ns e => ?_, ?_⟩, G8.updB (.inr rfl) nSD rfl, ?_, acc5 ++ [dd], vs5 ++ [v], upd_same, ?_, by simp; omega, h9⟩
                  · rw [upd_ne (ne_of_none e hD)]
                    exact (t5.trans t68).1 a o ns e
                  · exact G1.ct.st _ H8 _ (fun a s => by rw [upd_ne (fun q => nSD (by rw [← q]; exact s))]) t68.2
                  · rw [mq_updB (C := blkC C σ ρ D m8) (D := D) (Or.inr rfl)]
                    exact ex6.trans (((G6.ex t7)).trans ((G6.tr t7).ex t8))
                  · rw [same]
                    exact (hr5.mono (exD t68)).append (.cons oz' .nil)
          · rintro H5 ⟨m5, lm5, um5, t5, G5, ex5, acc5, vs5, hd5, hr5, hl5, hf5⟩
            rw [List.drop_length] at hf5
            have hjm : items1.length * (nt1 + ne) ≤ 1000 * (nt1 + ne) := Nat.mul_le_mul_right _ (by omega)
            exact ⟨m5, by omega, turn_up2 um (by omega), t5, acc5, vs5, hd5, hr5, by omega, hf5⟩
    · rintro H' ⟨m, lm, um, t, acc, vs, hd, hr, _, hf⟩
      rw [List.drop_length] at hf
      have : items.length * cO ≤ 1000 * cO := Nat.mul_le_mul_right _ hlen
      exact k D H' vs acc m (by omega) (by omega) (G.back t1 hD) (t1.trans t) hd hr hf
section
variable {F : Fm} {e elt tg iter tg1 iter1 : Expr} {ifs ifs1 : List Expr} {scope : Scope} {pos p : Pos} {fi fi1 : FI} {fg fg1 : FG} {ft ft1 : FT} {fe : FE} {ni nt ni1 nt1 ne : Nat} {L1 : List Nat}
theorem Eg.wide {F : Fm} {e : Expr} {L L' : List Nat} {f : FG} (h : Eg F e L f) (s : ∀ i ∈ L, i ∈ L') : Eg F e L' f := by
  obtain ⟨t, pt, st⟩ := h
  refine ⟨t, pt, fun C σ ρ H v x Nx Q G ox hf k => st C σ ρ H v x Nx Q G ox hf fun σ' ρ' G' ex w h => k σ' ρ' G' ex ?_ h⟩
  obtain ⟨a, b⟩ := of_wipe w
  exact wipe_eq a fun i m => b i fun z => m (s i z)
theorem l_lc2 {L0 : List Nat} (own : List (Str × Nat)) (hi : Ei F tg iter ni fi) (ok : ∀ i, BlkOk F.N (F.X i).env.scope scope own) (hg0 : Eg (F.blk scope) tg L0 fg) (ht : Ets (F.blk scope) ifs nt ft)
    (hi1 : Ei (F.blk scope) tg1 iter1 ni1 fi1) (hg1 : Eg (F.blk scope) tg1 L1 fg1) (ht1 : Ets (F.blk scope) ifs1 nt1 ft1) (he : Ee (F.blk scope) elt ne fe) (hv : ∀ i ∈ L1, i ∈ own.map (·.2) := by decide) (hv0 : ∀ i ∈ L0, i ∈ own.map (·.2) := by decide)
    (hs : ∀ i x, foldedSetIterable iter (F.X i).env x = pure x := by intro _ _; rfl) (hs1 : ∀ env x, foldedSetIterable iter1 env x = pure x := by intro _ _; rfl) :
    El F (.ListComp elt [⟨tg, iter, ifs, 0⟩, ⟨tg1, iter1, ifs1, 0⟩] scope pos) (ni + 1000 * (nt + (ni1 + 1000 * (nt1 + ne)))) (fun ρ R => fi ρ fun items => items.length ≤ 1000 ∧ lc2F fg ft fi1 fg1 ft1 fe L1 (blkE ρ (own.map (·.2))) items [] R) := by
  obtain ⟨wi, pi, si⟩ := hi
  have hg := hg0.wide hv0
  obtain ⟨g, pg, sg⟩ := hg
  obtain ⟨tt, ptt, stt⟩ := ht
  obtain ⟨wi1, pi1, si1⟩ := hi1
  obtain ⟨g1, pg1, sg1⟩ := hg1
  obtain ⟨tt1, ptt1, stt1⟩ := ht1
  obtain ⟨te, pte, ste⟩ := he
  exact ⟨_, fun i => pe_lc2 (F.calm i) (by rw [F.eN]; exact F.nd) (pi i) (by rw [F.eN]; exact ok i) hv (fun s H c cl fp => pg (i, s, H, c, cl, fp)) (fun s H c cl fp => ptt (i, s, H, c, cl, fp)) (fun s H c cl fp => pi1 (i, s, H, c, cl, fp)) (fun s H c cl fp => pg1 (i, s, H, c, cl, fp)) (fun s H c cl fp => ptt1 (i, s, H, c, cl, fp)) (fun s H c cl fp => pte (i, s, H, c, cl, fp)) (hs i) hs1, sl_lc2 si sg stt si1 sg1 stt1 ste⟩
end
end Px

set_option Elab.async false
set_option linter.all false
set_option maxRecDepth 100000
set_option maxHeartbeats 2000000
/-! Px: zip of a list and a tuple. -/
namespace Px
open PySem PySem.Spec PyProof.Rows L2
def ItzM (K : PySem.W.Frag) (a b : Addr) : It where
  go := fun i H => ∃ xs ys x y, SqL K H a xs ∧ SqT K H b ys ∧ xs[i]? = some x ∧ ys[i]? = some y
  yld := fun i H v H' => ∃ T x y, v = V.ref T ∧ H T = none ∧ H' = upd H T (HO.tup [x, y]) ∧ (∀ xs : List V, SqL K H a xs → xs[i]? = some x) ∧ ∀ ys : List V, SqT K H b ys → ys[i]? = some y
  stop := fun i H => ∃ xs ys, SqL K H a xs ∧ SqT K H b ys ∧ min xs.length ys.length = i
structure ZApart (z TI TO i1 i2 a b : Addr) : Prop where
  S : ZipSep2 z TI TO i1 i2 [i1, a] [i2, b]
  a1 : a ≠ i1
  b2 : b ≠ i2
theorem turn_zipM {P : Program} {w : World} {K : PySem.W.Frag} {elts : List Expr} {kk : Nat} {tpos : Pos} {a b z TI TO i1 i2 : Addr} (D : ZApart z TI TO i1 i2 a b) :
    Turn P w K (.Tuple elts kk tpos) (ItzM K a b) [z, TI, TO, i1, i2] z (fun i h => IsZip h z TI TO .none ∧ IsTupOf2 h TI (.ref i1) (.ref i2) ∧ (∃ x y, IsTupOf2 h TO x y) ∧ h.IsListIter i1 a i ∧ h.IsTupleIter i2 b i) where
  mem := by simp
  obj := fun i h st c hc => by
    obtain ⟨hz, hTI, ⟨x, y, hTO⟩, ⟨o1, e1, _, d1⟩, ⟨o2, e2, _, d2⟩⟩ := st
    have e' : c = z ∨ c = TI ∨ c = TO ∨ c = i1 ∨ c = i2 := by simpa using hc
    rcases e' with q | q | q | q | q
    · rw [q]; exact ⟨_, hz, fun v q => nomatch q⟩
    · rw [q]; exact ⟨_, hTI, fun v q => nomatch q⟩
    · rw [q]; exact ⟨_, hTO, fun v q => nomatch q⟩
    · rw [q]; exact ⟨o1, e1, fun v q => by rw [d1] at q; cases q⟩
    · rw [q]; exact ⟨o2, e2, fun v q => by rw [d2] at q; cases q⟩
  keep := fun i h h' st k => by
    obtain ⟨hz, hTI, ⟨x, y, hTO⟩, h1, h2⟩ := st
    exact ⟨k z (by simp) _ hz, k TI (by simp) _ hTI, ⟨x, y, k TO (by simp) _ hTO⟩, h1.at fun o q => k i1 (by simp) o q, h2.at fun o q => k i2 (by simp) o q⟩
  item := by
    intro X hP hw hK hc i pins s σ H E I hf st hg
    subst hP hw
    obtain ⟨hz, hTI, ⟨x0, y0, hTO⟩, h1, h2⟩ := st
    obtain ⟨xs, ys, x, y, hqx, hqy, hx, hy⟩ := hg
    obtain ⟨its, rv, p, _⟩ := I.list (by rw [hK]; exact hqx)
    obtain ⟨its2, rv2, p2, _⟩ := I.tuple (by rw [hK]; exact hqy)
    obtain ⟨u, hu, ru⟩ := rv.get hx
    obtain ⟨u2, hu2, ru2⟩ := rv2.get hy
    have D1 := Draws.list (prog := X.prog) (w := X.w) (A := X.A.in1) (I.ok.hd hc) i1 a D.a1 its.toArray
    have D2 := Draws.tuple (prog := X.prog) (w := X.w) (A := X.A.in1) (I.ok.hd hc) i2 b D.b2 its2.toArray
    have G := GoesN.zip2 (A := X.A) (elts := elts) (x1 := kk) (pos := tpos) D.S D1 D2
    have q1 : i < its.toArray.size := by have := (List.getElem?_eq_some_iff.mp hu).1; simpa using this
    have q2 : i < its2.toArray.size := by have := (List.getElem?_eq_some_iff.mp hu2).1; simpa using this
    refine G.goes i s (fun u s2 => ∃ x H', L2.Inv X pins σ H' s2 ∧ L2.RelV x u ∧ (ItzM K a b).yld i H x H' ∧ (IsZip s2.heap z TI TO .none ∧ IsTupOf2 s2.heap TI (.ref i1) (.ref i2) ∧ (∃ x y, IsTupOf2 s2.heap TO x y) ∧ s2.heap.IsListIter i1 a (i + 1) ∧ s2.heap.IsTupleIter i2 b (i + 1)) ∧ ∀ b ∈ [z, TI, TO, i1, i2], H' b = none) E (by omega) ⟨hz, hTI, ⟨x0, y0, hTO⟩, ⟨h1, p.isList⟩, ⟨h2, p2⟩⟩ fun v h' tk hY hSt hold htk => ?_
    obtain ⟨T, x', y', rfl, hT, hx', hy', hTup⟩ := hY
    obtain ⟨g1, g2, g3, ⟨g4, _⟩, ⟨g5, _⟩⟩ := hSt
    have hTn : H T = none := I.hok.fresh hT
    have ex : x' = u := by rw [List.getElem?_toArray, hu] at hx'; exact (Option.some.inj hx').symm
    have ey : y' = u2 := by rw [List.getElem?_toArray, hu2] at hy'; exact (Option.some.inj hy').symm
    subst ex ey
    refine ⟨.ref T, upd H T (.tup [x, y]), I.turnedNew (ch := [z, TI, TO, i1, i2]) (fun c o hb q => hold c o (fun m => hb (by
      rcases List.mem_cons.mp m with h | m
      · simp [h]
      · simp only [List.mem_cons, List.not_mem_nil, or_false] at m ⊢
        rcases m with h | h | h <;> simp [h])) q) hf hT ?_, rfl, ⟨T, x, y, rfl, hTn, rfl, fun l hl => ?_, fun l hl => ?_⟩, ⟨g1, g2, g3, g4, g5⟩, fun c hcm => ?_⟩
    · exact ⟨(show 2 ≤ sizeLine by decide), [x', y'], .cons ru (.cons ru2 .nil), hTup⟩
    · have hl' : SqL X.K H a l := by rw [hK]; exact hl
      have hq' : SqL X.K H a xs := by rw [hK]; exact hqx
      rw [I.list_inj hl' hq']; exact hx
    · have hl' : SqT X.K H b l := by rw [hK]; exact hl
      have hq' : SqT X.K H b ys := by rw [hK]; exact hqy
      rw [I.tuple_inj hl' hq']; exact hy
    · have hlt : c < s.heap.objs.size := by
        have e' : c = z ∨ c = TI ∨ c = TO ∨ c = i1 ∨ c = i2 := by simpa using hcm
        rcases e' with q | q | q | q | q
        · rw [q]; exact Heap.lt_size hz
        · rw [q]; exact Heap.lt_size hTI
        · rw [q]; exact Heap.lt_size hTO
        · rw [q]; obtain ⟨_, e1, _⟩ := h1; exact Heap.lt_size e1
        · rw [q]; obtain ⟨_, e2, _⟩ := h2; exact Heap.lt_size e2
      rw [upd_ne (Nat.ne_of_lt (Nat.lt_of_lt_of_le hlt hT))]
      exact (hf c hcm).1
  done := by
    intro X hP hw hK hc i pins s σ H E I hf st hg
    subst hP hw
    obtain ⟨hz, hTI, ⟨x0, y0, hTO⟩, h1, h2⟩ := st
    obtain ⟨xs, ys, hqx, hqy, rfl⟩ := hg
    obtain ⟨its, rv, p, _⟩ := I.list (by rw [hK]; exact hqx)
    obtain ⟨its2, rv2, p2, _⟩ := I.tuple (by rw [hK]; exact hqy)
    have D1 := Draws.list (prog := X.prog) (w := X.w) (A := X.A.in1) (I.ok.hd hc) i1 a D.a1 its.toArray
    have D2 := Draws.tuple (prog := X.prog) (w := X.w) (A := X.A.in1) (I.ok.hd hc) i2 b D.b2 its2.toArray
    have G := GoesN.zip2 (A := X.A) (elts := elts) (x1 := kk) (pos := tpos) D.S D1 D2
    have en : min its.toArray.size its2.toArray.size = min xs.length ys.length := by rw [List.size_toArray, List.size_toArray, rv.length, rv2.length]
    refine G.stops s (fun s2 => L2.Inv X pins σ H s2) E ⟨hz, hTI, ⟨x0, y0, hTO⟩, ⟨by rw [en]; exact h1, p.isList⟩, ⟨by rw [en]; exact h2, p2⟩⟩ fun h' tk hold htk => ?_
    exact I.turnedL (ch := [z, TI, TO, i1, i2]) (fun c o hb q => hold c o (fun m => hb (by
      rcases List.mem_cons.mp m with h | m
      · simp [h]
      · simp only [List.mem_cons, List.not_mem_nil, or_false] at m ⊢
        rcases m with h | h | h <;> simp [h])) q) hf
  self := fun A i s Q E st h => wpAny_pyIter_zip st.1 h
theorem walk_zipM {K : PySem.W.Frag} {a b : Addr} {xs ys : List V} {n : Nat} (hn : n = min xs.length ys.length) : Walk (ItzM K a b) n (fun H => SqL K H a xs ∧ SqT K H b ys) (YPair (fun i => xs[i]?) (fun i => ys[i]?)) := by
  subst hn
  refine ⟨fun i _ hi q => ?_, fun _ q => ⟨xs, ys, q.1, q.2, rfl⟩, fun i H v H' _ q y => ?_⟩
  · have h1 : i < xs.length := by omega
    have h2 : i < ys.length := by omega
    exact ⟨xs, ys, xs[i], ys[i], q.1, q.2, by simp [h1], by simp [h2]⟩
  · obtain ⟨T, x, z, h1, h2, h3, h4, h5⟩ := y
    exact ⟨T, x, z, h1, h2, h3, h4 xs q.1, h5 ys q.2⟩
theorem apart_of {N a b : Addr} (ha : a < N) (hb : b < N) : ZApart (N + 4) (N + 2) (N + 3) N (N + 1) a b :=
  ⟨zip_sep2 (fp1 := [a]) (fp2 := [b]) (fun c hc => by rw [List.mem_singleton.mp hc]; exact ha) (fun c hc => by rw [List.mem_singleton.mp hc]; exact hb), fun e => by rw [e] at ha; exact absurd ha (Nat.lt_irrefl _), fun e => by rw [e] at hb; exact absurd hb (Nat.not_lt.mpr (Nat.le_succ N))⟩
def iZipM (K : PySem.W.Frag) (ta : TA) : TI := fun σ H R => ta σ H fun vs H1 => ∃ a b xs ys, vs = [.ref a, .ref b] ∧ ((SqL K H1 a xs ∧ SqL K H1 b ys ∧ R (Itz K a b) H1) ∨ (SqT K H1 a xs ∧ SqT K H1 b ys ∧ R (RZ.ItzT K a b) H1) ∨ (SqL K H1 a xs ∧ SqT K H1 b ys ∧ R (ItzM K a b) H1))
theorem pi_zipM {X : Cx} {e e2 : Expr} {ta : TA} {p pos tpos : Pos} {elts : List Expr} {kk : Nat} (hg : Gl X "zip") (hm : X.mg "zip" = none) (ha : PA X [e, e2] ta)
    (hs : starEach [e, e2] X.env = (false, eval e X.env) :: starEach [e2] X.env := by rfl) (hpl : (backTo pos (starEach [e2] X.env)).any (·.1) = false := by rfl) :
    PI X (.Tuple elts kk tpos) (.Call (.Name "zip" p) [e, e2] [] pos) (iZipM X.K ta) := by
  refine ⟨fun pins s σ H R I h => ?_⟩
  refine Call_ (ld_blt I hg hm PyProof.Rows.boot_zip (PyProof.Rows.callWith_type1 (thn (ha.run pos pins s σ H _ I h) fun us s1 ⟨vs, H1, I1, r1, q1⟩ => ?_) hs hpl))
  obtain ⟨a, b, xs, ys, ex, q1⟩ := q1
  subst ex
  cases r1 with
  | cons r rr =>
    cases rr with
    | cons r' rr =>
      cases rr
      cases r
      cases r'
      have fresh5 : ∀ c, c ∈ [s1.heap.objs.size + 4, s1.heap.objs.size + 2, s1.heap.objs.size + 3, s1.heap.objs.size, s1.heap.objs.size + 1] → FpOk X pins H1 c := fun c hcm => by
        have e' : c = s1.heap.objs.size + 4 ∨ c = s1.heap.objs.size + 2 ∨ c = s1.heap.objs.size + 3 ∨ c = s1.heap.objs.size ∨ c = s1.heap.objs.size + 1 := by simpa using hcm
        have hle : s1.heap.objs.size ≤ c := by
          rcases e' with z | z | z | z | z
          · rw [z]; exact Nat.le_add_right _ _
          · rw [z]; exact Nat.le_add_right _ _
          · rw [z]; exact Nat.le_add_right _ _
          · rw [z]; exact Nat.le_refl _
          · rw [z]; exact Nat.le_add_right _ _
        exact I1.fpOk hle (I1.hok.fresh hle)
      rcases q1 with ⟨hqx, hqy, q⟩ | ⟨hqx, hqy, q⟩ | ⟨hqx, hqy, q⟩
      · obtain ⟨its, rv, p1, _⟩ := I1.list hqx
        obtain ⟨its2, rv2, p2, _⟩ := I1.list hqy
        refine call_zip_2 p1.isList p2.isList fun h' hz hTI hTO h1 h2 hsz hk => wpAny_pyIter_zip hz ?_
        have I2 : Inv X pins σ H1 { s1 with heap := h' } := I1.kept (t' := s1.toks) hk
        exact ⟨s1.heap.objs.size + 4, [s1.heap.objs.size + 4, s1.heap.objs.size + 2, s1.heap.objs.size + 3, s1.heap.objs.size, s1.heap.objs.size + 1], _, _, H1, rfl, I2, turn_zip (PySem.W.ktu_apart s1.heap.objs.size a b p1.lt p2.lt), ⟨hz, hTI, ⟨_, _, hTO⟩, h1, h2⟩, fresh5, q⟩
      · obtain ⟨its, rv, p1, _⟩ := I1.tuple hqx
        obtain ⟨its2, rv2, p2, _⟩ := I1.tuple hqy
        obtain ⟨o1, ho1, _⟩ := id p1
        obtain ⟨o2, ho2, _⟩ := id p2
        refine RZ.call_zipT (show s1.heap.IsTuple a its.toArray from p1) (show s1.heap.IsTuple b its2.toArray from p2) fun h' hz hTI hTO h1 h2 hsz hk => wpAny_pyIter_zip hz ?_
        have I2 : Inv X pins σ H1 { s1 with heap := h' } := I1.kept (t' := s1.toks) hk
        exact ⟨s1.heap.objs.size + 4, [s1.heap.objs.size + 4, s1.heap.objs.size + 2, s1.heap.objs.size + 3, s1.heap.objs.size, s1.heap.objs.size + 1], _, _, H1, rfl, I2, RZ.turn_zipT (PySem.W.ktu_apart s1.heap.objs.size a b (Heap.lt_size ho1) (Heap.lt_size ho2)), ⟨hz, hTI, ⟨_, _, hTO⟩, h1, h2⟩, fresh5, q⟩
      · obtain ⟨its, rv, p1, _⟩ := I1.list hqx
        obtain ⟨its2, rv2, p2, _⟩ := I1.tuple hqy
        obtain ⟨o2, ho2, _⟩ := id p2
        refine zip_begins2 (begins_list a its.toArray) (begins_tuple b its2.toArray) p1.isList p2 fun h' hz hTI hTO h1 h2 hsz hk => wpAny_pyIter_zip hz ?_
        have I2 : Inv X pins σ H1 { s1 with heap := h' } := I1.kept (t' := s1.toks) hk
        exact ⟨s1.heap.objs.size + 4, [s1.heap.objs.size + 4, s1.heap.objs.size + 2, s1.heap.objs.size + 3, s1.heap.objs.size, s1.heap.objs.size + 1], _, _, H1, rfl, I2, turn_zipM (apart_of p1.lt (Heap.lt_size ho2)), ⟨hz, hTI, ⟨_, _, hTO⟩, ⟨_, h1, rfl, rfl⟩, ⟨_, h2, rfl, rfl⟩⟩, fresh5, q⟩
section
variable {F : Fm} {e e2 : Expr} {p pos : Pos} {n : Nat}
def asZM (R : List Vl → Prop) : List Vl → Prop
  | [.d (.list xs), .d (.list ys)] => R (pairs xs ys)
  | [.d (.tuple xs), .d (.tuple ys)] => R (pairs xs ys)
  | [.d (.list xs), .d (.tuple ys)] => R (pairs xs ys)
  | _ => False
theorem i_zipM {f : FA} {elts : List Expr} {kk : Nat} {tpos : Pos} (hm : F.mg "zip" = none) (ha : Ea F [e, e2] n f) (hg : ∀ i, Gl (F.X i) "zip" := by intro _; rfl)
    (hs : ∀ i, starEach [e, e2] (F.X i).env = (false, eval e (F.X i).env) :: starEach [e2] (F.X i).env := by intro _; rfl) (hpl : ∀ i, (backTo pos (starEach [e2] (F.X i).env)).any (·.1) = false := by intro _; rfl) :
    Ei F (.Tuple elts kk tpos) (.Call (.Name "zip" p) [e, e2] [] pos) n (fun ρ R => f ρ (asZM R)) := by
  obtain ⟨t, pt, st⟩ := ha
  refine ⟨iZipM F.K t, fun i => by have := pi_zipM (elts := elts) (kk := kk) (tpos := tpos) (p := p) (hg i) (by rw [F.eM]; exact hm) (pt i) (hs i) (hpl i); rw [F.eK i] at this; exact this, fun C σ ρ H R Q hm G hf k => st C σ ρ H _ _ hm G hf fun vs H1 xs m l u t1 oxs h1 => ?_⟩
  match xs, oxs, h1 with
  | [.d (.list xs), .d (.list ys)], oxs, h1 =>
    obtain ⟨v, w, rfl, o1, o2⟩ := oxs.two
    obtain ⟨a, us, rfl, ha, ra⟩ := Rd.inv_list o1
    obtain ⟨b, ws, rfl, hb, rb⟩ := Rd.inv_list o2
    exact ⟨a, b, us, ws, rfl, .inl ⟨SqL.of (mask_le _ _ ha), SqL.of (mask_le _ _ hb), k _ H1 _ m l u t1 (WOk.pairs (fun hn => walk_zip hn) (fun H e => ⟨e.sq ha, e.sq hb⟩) ra rb) h1⟩⟩
  | [.d (.tuple xs), .d (.tuple ys)], oxs, h1 =>
    obtain ⟨v, w, rfl, o1, o2⟩ := oxs.two
    obtain ⟨a, us, rfl, ha, ra⟩ := Rd.inv_tuple o1
    obtain ⟨b, ws, rfl, hb, rb⟩ := Rd.inv_tuple o2
    exact ⟨a, b, us, ws, rfl, .inr (.inl ⟨Ex.sqt mask_le ha, Ex.sqt mask_le hb, k _ H1 _ m l u t1 (WOk.pairs (fun hn => walk_zipT hn) (fun H e => ⟨e.sqt ha, e.sqt hb⟩) ra rb) h1⟩)⟩
  | [.d (.list xs), .d (.tuple ys)], oxs, h1 =>
    obtain ⟨v, w, rfl, o1, o2⟩ := oxs.two
    obtain ⟨a, us, rfl, ha, ra⟩ := Rd.inv_list o1
    obtain ⟨b, ws, rfl, hb, rb⟩ := Rd.inv_tuple o2
    exact ⟨a, b, us, ws, rfl, .inr (.inr ⟨SqL.of (mask_le _ _ ha), Ex.sqt mask_le hb, k _ H1 _ m l u t1 (WOk.pairs (fun hn => walk_zipM hn) (fun H e => ⟨e.sq ha, e.sqt hb⟩) ra rb) h1⟩)⟩
end
end Px

set_option Elab.async false
set_option linter.all false
set_option maxRecDepth 100000
set_option maxHeartbeats 4000000
set_option exponentiation.threshold 10000
/-! W0: promises of small defs (kinds, fractions, points, draws), and the mathematics of these; no law's text is named here. -/
namespace Px
open PySem PySem.Spec PyProof.Rows L2
/-- a def where the top has put it -/
structure LoD (K : Fg) (mg : Str → Option Value) (x : Str) (st : Stmt) : Prop where
  ex : ∃ fa fd, mg x = some (.ref fa) ∧ Fun K x x st fa fd
def isTy (T : String) (x : PyData) : Bool := decide (tyOf x = T)
def fKind (T : String) : FS := fun xs R => ∃ x, xs = [.d x] ∧ R (.d (.bool (isTy T x)))
def isRow : PyData → Int → Int → Bool
  | .tuple xs, l, m => decide (l ≤ xs.length) && decide ((xs.length : Int) ≤ m)
  | _, _, _ => false
def fRow : FS := fun xs R => ∃ x l m, xs = [.d x, .d (.int l), .d (.int m)] ∧ R (.d (.bool (isRow x l m)))
def fPair : FS := fun xs R => ∃ x, xs = [.d x] ∧ R (.d (.bool (isRow x 2 2)))
/-- a fraction in least terms -/
def isFr : PyData → Bool
  | .tuple [.int a, .int b] => decide (1 ≤ b) && decide (((Nat.gcd a.natAbs b.natAbs : Nat) : Int) = 1)
  | _ => false
def fIsFr : FS := fun xs R => ∃ x, xs = [.d x] ∧ R (.d (.bool (isFr x)))
theorem pair_row {x : PyData} (h : isRow x 2 2 = true) : ∃ a b, x = .tuple [a, b] := by
  cases x with
  | tuple xs =>
    simp only [isRow, Bool.and_eq_true, decide_eq_true_eq] at h
    match xs, h with
    | [a, b], _ => exact ⟨a, b, rfl⟩
    | [], h => simp at h
    | [_], h => simp at h
    | _ :: _ :: _ :: _, h => simp only [List.length_cons] at h; omega
  | _ => simp [isRow] at h
theorem isFr_pair {x : PyData} (h : isRow x 2 2 = false) : isFr x = false := by
  cases x with
  | tuple xs =>
    match xs, h with
    | [a, b], h => simp [isRow] at h
    | [], h => rfl
    | [a], h => cases a <;> rfl
    | a :: b :: _ :: _, h => cases a <;> cases b <;> rfl
  | _ => rfl
def fNeedFr : FS := fun xs R => ∃ x, xs = [.d x] ∧ isFr x = true ∧ R (.d x)
theorem isFr_fq (q : Rat) : isFr (fq q) = true := by
  have h := q.reduced
  have e : Nat.gcd q.num.natAbs ((q.den : Int)).natAbs = 1 := by rw [Int.natAbs_natCast]; exact h
  simp only [fq, isFr, e, Bool.and_eq_true, decide_eq_true_eq]
  exact ⟨den_pos q, rfl⟩
/-- two ints made a fraction -/
def fRed : FS := fun xs R => ∃ a b : Int, xs = [.d (.int a), .d (.int b)] ∧ b ≠ 0 ∧ Bd 8000 b ∧ R (.d (fq (Rat.divInt a b)))
theorem div_ok {a b : Int} (h : b ≠ 0) (hb : Bd 8000 b) (i : Int) : CDivA i (sg a b) := ⟨sg_ne h, Nat.lt_trans ((sg_bd h hb).log (by decide)) (by decide)⟩
/-! ### the program's own arithmetic -/
def f2 (g : Rat → Rat → PyData) (C : Rat → Rat → Prop) : FS := fun xs R => ∃ a b : Rat, xs = [.d (fq a), .d (fq b)] ∧ (∃ n m, Fb n a ∧ Fb m b ∧ n + m ≤ 8000) ∧ C a b ∧ R (.d (g a b))
theorem Fb.pos {n : Nat} {a : Rat} (h : Fb n a) : 0 < n := by
  rcases Nat.eq_zero_or_pos n with z | z
  · subst z
    have := h.2
    have := a.den_nz
    omega
  · exact z
theorem mul_ok2 {n m : Nat} {a b : Rat} (ha : Fb n a) (hb : Fb m b) (h : n + m ≤ 8000) : CMulW a.num b.den ∧ CMulW b.num a.den ∧ CMulW a.den b.den ∧ CMulW a.num b.num ∧ CMulW a.den b.num :=
  ⟨ha.1.ok hb.den ha.pos hb.pos (by omega), hb.1.ok ha.den hb.pos ha.pos (by omega), ha.den.ok hb.den ha.pos hb.pos (by omega), ha.1.ok hb.1 ha.pos hb.pos (by omega), ha.den.ok hb.1 ha.pos hb.pos (by omega)⟩
def fPlus : FS := f2 (fun a b => fq (a + b)) fun _ _ => True
def fMinus : FS := f2 (fun a b => fq (a - b)) fun _ _ => True
def fTimes : FS := f2 (fun a b => fq (a * b)) fun _ _ => True
def fOver : FS := f2 (fun a b => fq (a / b)) fun _ b => b ≠ 0
def fLess : FS := f2 (fun a b => .bool (decide (a < b))) fun _ _ => True

/-! ### the numbers that the law draws -/
def fMixed : FS := fun xs R => ∃ a k : Int, xs = [.d (.int a), .d (.int k)] ∧ Bd 4100 k ∧ ∀ r : Int, 0 ≤ r → r < 2147483629 → R (.d (.int r))
theorem div_lit {i j : Int} (h : j ≠ 0 ∧ j.natAbs.log2 < 100 := by decide) : CDivA i j := ⟨h.1, Nat.lt_trans h.2 (by decide)⟩
def fDraw : FS := fun xs R => ∃ n : Int, xs = [.st, .d (.int n)] ∧ 1 ≤ n ∧ Bd 8000 n ∧ ∀ k : Int, 0 ≤ k → k < n → R (.d (.int k))
/-- something of a list -/
def fOf : FS := fun xs R => ∃ ds : List PyData, xs = [.st, .d (.list ds)] ∧ 0 < ds.length ∧ ds.length < 1000 ∧ ∀ x ∈ ds, R (.d x)
/-! ### the law's own fractions -/
theorem loop_down {fg : FG} {fb : FSt} {N : SEn} (I : Nat → En → Prop) (st : ∀ (k : Nat) (x : Vl) (ρ : En) (L : En → Prop), (∀ ρ', I k ρ' → L ρ') → I (k + 1) ρ → fg x ρ fun ρ' => fb ρ' { nx := L, rt := N.rt, bk := N.nx, ct := L }) (z : ∀ ρ, ¬ I 0 ρ) :
    ∀ (items : List Vl) (ρ : En) (k : Nat), k ≤ items.length → I k ρ → loopF fg fb N items ρ
  | [], ρ, k, hk, h => absurd h (by have : k = 0 := by simpa using hk
                                    rw [this]; exact z ρ)
  | x :: xs, ρ, 0, _, h => absurd h (z ρ)
  | x :: xs, ρ, k + 1, hk, h => st k x ρ _ (fun ρ' h' => loop_down I st z xs ρ' k (by simpa using hk) h') h
/-- Euclid's steps end within k turns -/
def eu : Nat → Nat → Nat → Prop
  | 0, _, _ => False
  | k + 1, A, B => B = 0 ∨ eu k B (A % B)
theorem eu_up : ∀ {k j A B : Nat}, eu k A B → k ≤ j → eu j A B
  | 0, _, _, _, h, _ => h.elim
  | k + 1, 0, _, _, _, h => by omega
  | k + 1, j + 1, _, _, h, l => h.imp id fun q => eu_up q (by omega)
theorem eu_bits : ∀ (n A B : Nat), B < 2 ^ n → eu (2 * n + 1) A B
  | 0, A, B, h => .inl (by simpa using h)
  | n + 1, A, B, h => by
    by_cases z : B = 0
    · exact .inl z
    · refine .inr ?_
      have r := Nat.mod_lt A (Nat.pos_of_ne_zero z)
      by_cases z2 : A % B = 0
      · exact .inl z2
      · refine .inr (eu_bits n _ _ ?_)
        have r2 := Nat.mod_lt B (Nat.pos_of_ne_zero z2)
        have e := Nat.div_add_mod B (A % B)
        have d1 : 1 ≤ B / (A % B) := (Nat.one_le_div_iff (Nat.pos_of_ne_zero z2)).mpr (Nat.le_of_lt r)
        have m1 : A % B ≤ A % B * (B / (A % B)) := Nat.le_mul_of_pos_right _ d1
        rw [Nat.pow_succ] at h
        omega
theorem ir_len {k n : Nat} (h : k ≤ n) : k ≤ (irange 0 n).length := by rw [irange_def, List.length_map, List.length_range]; exact h
theorem eu_go {A k0 n : Nat} {b : Int} (hb : Bd n b) (h : 2 * n + 1 ≤ k0) : eu k0 A b.natAbs := eu_up (eu_bits n A b.natAbs hb) h
theorem forty {p : Prop} (h : ∀ k : Nat, 40001 ≤ k → k ≤ 100000 → p) : p := h 40001 (by decide) (by decide)
theorem abs_nat (a : Int) : (if a < 0 then -a else a) = (a.natAbs : Int) := by split <;> omega
theorem fmod_nat (a b : Nat) : (a : Int).fmod (b : Int) = ((a % b : Nat) : Int) := by
  rw [Int.fmod_eq_emod_of_nonneg _ (by omega)]
  rfl
def fGcd : FS := fun xs R => ∃ a b : Int, xs = [.d (.int a), .d (.int b)] ∧ Bd 9000 b ∧ R (.d (.int (Nat.gcd a.natAbs b.natAbs)))
def fLike : FS := fun xs R => ∃ x, xs = [.d x, .d x] ∧ shw x ∧ R (.d (.bool true))

theorem f2_eq {g : Rat → Rat → PyData} {C : Rat → Rat → Prop} {n m : Nat} {a b : Rat} {R : Vl → Prop} (ha : Fb n a) (hb : Fb m b) (h : n + m ≤ 8000) (hc : C a b) : f2 g C [.d (fq a), .d (fq b)] R = R (.d (g a b)) := by
  apply propext
  constructor
  · rintro ⟨a', b', e, _, _, h⟩
    injection e with e1 e
    injection e with e2 _
    injection e1 with e1
    injection e2 with e2
    rw [fq_inj.mp e1, fq_inj.mp e2]
    exact h
  · exact fun q => ⟨a, b, rfl, ⟨n, m, ha, hb, h⟩, hc, q⟩
section
variable {n m : Nat} {a b : Rat} {R : Vl → Prop}
theorem fPlus_eq (ha : Fb n a) (hb : Fb m b) (h : n + m ≤ 8000 := by omega) : fPlus [.d (fq a), .d (fq b)] R = R (.d (fq (a + b))) := f2_eq ha hb h trivial
theorem fMinus_eq (ha : Fb n a) (hb : Fb m b) (h : n + m ≤ 8000 := by omega) : fMinus [.d (fq a), .d (fq b)] R = R (.d (fq (a - b))) := f2_eq ha hb h trivial
theorem fTimes_eq (ha : Fb n a) (hb : Fb m b) (h : n + m ≤ 8000 := by omega) : fTimes [.d (fq a), .d (fq b)] R = R (.d (fq (a * b))) := f2_eq ha hb h trivial
theorem fOver_eq (ha : Fb n a) (hb : Fb m b) (h0 : b ≠ 0) (h : n + m ≤ 8000 := by omega) : fOver [.d (fq a), .d (fq b)] R = R (.d (fq (a / b))) := f2_eq ha hb h h0
theorem fLess_eq (ha : Fb n a) (hb : Fb m b) (h : n + m ≤ 8000 := by omega) : fLess [.d (fq a), .d (fq b)] R = R (.d (.bool (decide (a < b)))) := f2_eq ha hb h trivial
end
theorem fRed_eq {a b : Int} {R : Vl → Prop} (h0 : b ≠ 0) (h : Bd 8000 b) : fRed [.d (.int a), .d (.int b)] R = R (.d (fq (Rat.divInt a b))) := by
  apply propext
  constructor
  · rintro ⟨a', b', e, _, _, q⟩
    injection e with e1 e
    injection e with e2 _
    injection e1 with e1
    injection e2 with e2
    injection e1 with e1
    injection e2 with e2
    subst e1; subst e2
    exact q
  · exact fun q => ⟨a, b, rfl, h0, h, q⟩
theorem fNeedFr_eq {a : Rat} {R : Vl → Prop} : fNeedFr [.d (fq a)] R = R (.d (fq a)) := by
  apply propext
  constructor
  · rintro ⟨a', e, _, q⟩
    injection e with e1 e
    injection e1 with e1
    subst e1
    exact q
  · exact fun q => ⟨_, rfl, isFr_fq a, q⟩
/-! ### points -/
def pt (p : Rat × Rat) : PyData := .tuple [fq p.1, fq p.2]
def Pb (n : Nat) (p : Rat × Rat) : Prop := Fb n p.1 ∧ Fb n p.2
theorem Pb.mono {n m : Nat} {p : Rat × Rat} (h : Pb n p) (l : n ≤ m) : Pb m p := ⟨h.1.mono l, h.2.mono l⟩
theorem pt_inj {p q : Rat × Rat} (h : pt p = pt q) : p = q := by
  unfold pt at h
  injection h with h
  injection h with h1 h
  injection h with h2 _
  exact Prod.ext (fq_inj.mp h1) (fq_inj.mp h2)
theorem px0 {p : Rat × Rat} {R : Vl → Prop} : fIx (.d (pt p)) (.d (.int 0)) R = R (.d (fq p.1)) := by
  show (∃ x, atI _ 0 = some x ∧ _) = _
  rw [at_0, ex_some]
theorem px1 {p : Rat × Rat} {R : Vl → Prop} : fIx (.d (pt p)) (.d (.int 1)) R = R (.d (fq p.2)) := by
  show (∃ x, atI _ 1 = some x ∧ _) = _
  rw [at_1, ex_some]
def fIsPt : FS := fun xs R => ∃ p, xs = [.d (pt p)] ∧ R (.d (.bool true))
def fNeedPt : FS := fun xs R => ∃ p, xs = [.d (pt p)] ∧ R (.d (pt p))
def pAdd (p q : Rat × Rat) : Rat × Rat := (p.1 + q.1, p.2 + q.2)
def pMul (p : Rat × Rat) (r : Rat) : Rat × Rat := (p.1 * r, p.2 * r)
def pSq (p q : Rat × Rat) : Rat := (p.1 - q.1) * (p.1 - q.1) + (p.2 - q.2) * (p.2 - q.2)
theorem add2 {n m : Nat} {a b : Rat} (h : Fb n a) (h2 : Fb m b) : Fb (n + m + 1) (a + b) := by
  rw [← add_q]
  exact Fb.red (Int.mul_ne_zero (den_ne a) (den_ne b)) ((h.1.mul h2.den).add ((h2.1.mul h.den).mono (by omega))) ((h.den.mul h2.den).mono (by omega))
theorem sub2 {n m : Nat} {a b : Rat} (h : Fb n a) (h2 : Fb m b) : Fb (n + m + 1) (a - b) := by
  rw [← sub_q]
  exact Fb.red (Int.mul_ne_zero (den_ne a) (den_ne b)) ((h.1.mul h2.den).sub ((h2.1.mul h.den).mono (by omega))) ((h.den.mul h2.den).mono (by omega))
def fPtPlus : FS := fun xs R => ∃ p q, xs = [.d (pt p), .d (pt q)] ∧ (∃ n m, Pb n p ∧ Pb m q ∧ n + m ≤ 8000) ∧ R (.d (pt (pAdd p q)))
def fPtTimes : FS := fun xs R => ∃ p r, xs = [.d (pt p), .d (fq r)] ∧ (∃ n m, Pb n p ∧ Fb m r ∧ n + m ≤ 8000) ∧ R (.d (pt (pMul p r)))
def fSq : FS := fun xs R => ∃ p q, xs = [.d (pt p), .d (pt q)] ∧ (∃ n m, Pb n p ∧ Pb m q ∧ n + m ≤ 1999) ∧ R (.d (fq (pSq p q)))
theorem pp_inj {p q p' q' : Rat × Rat} (e : [Vl.d (pt p), Vl.d (pt q)] = [Vl.d (pt p'), Vl.d (pt q')]) : p = p' ∧ q = q' := by
  injection e with e1 e
  injection e with e2 _
  injection e1 with e1
  injection e2 with e2
  exact ⟨pt_inj e1, pt_inj e2⟩
theorem pf_inj {p p' : Rat × Rat} {q q' : Rat} (e : [Vl.d (pt p), Vl.d (fq q)] = [Vl.d (pt p'), Vl.d (fq q')]) : p = p' ∧ q = q' := by
  injection e with e1 e
  injection e with e2 _
  injection e1 with e1
  injection e2 with e2
  exact ⟨pt_inj e1, fq_inj.mp e2⟩
theorem fPtPlus_eq {n m : Nat} {p q : Rat × Rat} {R : Vl → Prop} (ha : Pb n p) (hb : Pb m q) (h : n + m ≤ 8000 := by omega) : fPtPlus [.d (pt p), .d (pt q)] R = R (.d (pt (pAdd p q))) := by
  apply propext
  constructor
  · rintro ⟨p', q', e, _, z⟩
    obtain ⟨rfl, rfl⟩ := pp_inj e
    exact z
  · exact fun z => ⟨p, q, rfl, ⟨n, m, ha, hb, h⟩, z⟩
theorem fSq_eq {n m : Nat} {p q : Rat × Rat} {R : Vl → Prop} (ha : Pb n p) (hb : Pb m q) (h : n + m ≤ 1999 := by omega) : fSq [.d (pt p), .d (pt q)] R = R (.d (fq (pSq p q))) := by
  apply propext
  constructor
  · rintro ⟨p', q', e, _, z⟩
    obtain ⟨rfl, rfl⟩ := pp_inj e
    exact z
  · exact fun z => ⟨p, q, rfl, ⟨n, m, ha, hb, h⟩, z⟩
theorem fPtTimes_eq {n m : Nat} {p : Rat × Rat} {r : Rat} {R : Vl → Prop} (ha : Pb n p) (hb : Fb m r) (h : n + m ≤ 8000 := by omega) : fPtTimes [.d (pt p), .d (fq r)] R = R (.d (pt (pMul p r))) := by
  apply propext
  constructor
  · rintro ⟨p', q', e, _, z⟩
    obtain ⟨rfl, rfl⟩ := pf_inj e
    exact z
  · exact fun z => ⟨p, r, rfl, ⟨n, m, ha, hb, h⟩, z⟩
theorem fNeedPt_eq {p : Rat × Rat} {R : Vl → Prop} : fNeedPt [.d (pt p)] R = R (.d (pt p)) := by
  apply propext
  constructor
  · rintro ⟨p', e, h⟩
    injection e with e1 e
    injection e1 with e1
    rw [pt_inj e1]
    exact h
  · exact fun h => ⟨p, rfl, h⟩
/-! ### the law's own points -/
theorem Pb.add2 {n m : Nat} {a b : Rat × Rat} (h : Pb n a) (h2 : Pb m b) : Pb (n + m + 1) (pAdd a b) := ⟨Px.add2 h.1 h2.1, Px.add2 h.2 h2.2⟩
def tot (ps : List (Rat × Rat)) : Rat × Rat := ps.foldl pAdd (0, 0)
theorem fz (n : Nat) (h : 0 < n) : Fb n 0 := ⟨Nat.two_pow_pos n, Nat.one_lt_two_pow (by omega)⟩
theorem unit_q {n : Nat} (h : 0 < n) : PyData.tuple [.int 1, .int (n : Nat)] = fq (Rat.divInt 1 n) := by
  have h0 : ((n : Nat) : Int) ≠ 0 := by omega
  have e1 : (Rat.divInt 1 n).num = 1 := by
    rw [Rat.num_divInt, Int.gcd_one_right, Int.sign_eq_one_of_pos (by omega)]
    decide
  have e2 : ((Rat.divInt 1 n).den : Int) = n := by
    rw [Rat.den_divInt, if_neg h0, Int.gcd_one_right, Nat.div_one, Int.natAbs_natCast]
  rw [fq, e1, e2]
theorem whole_q {n : Nat} : PyData.tuple [.int (n : Nat), .int 1] = fq (Rat.divInt n 1) := by
  have e1 : (Rat.divInt n 1).num = n := by
    rw [Rat.num_divInt, Int.gcd_one_left]
    simp
  have e2 : ((Rat.divInt n 1).den : Int) = 1 := by
    rw [Rat.den_divInt, if_neg (by decide), Int.gcd_one_left]
    rfl
  rw [fq, e1, e2]
theorem loop_over {α : Type} {fg : FG} {fb : FSt} {N : SEn} (f : α → Vl) (I : List α → En → Prop) (st : ∀ (a : α) (rest : List α) (ρ : En) (L : En → Prop), (∀ ρ', I rest ρ' → L ρ') → I (a :: rest) ρ → fg (f a) ρ fun ρ' => fb ρ' { nx := L, rt := N.rt, bk := N.nx, ct := L }) (z : ∀ ρ, I [] ρ → N.nx ρ) :
    ∀ (l : List α) (ρ : En), I l ρ → loopF fg fb N (l.map f) ρ
  | [], ρ, h => z ρ h
  | a :: l, ρ, h => st a l ρ _ (fun ρ' h' => loop_over f I st z l ρ' h') h
theorem map_pt (ps : List (Rat × Rat)) : (ps.map pt).map Vl.d = ps.map fun p => Vl.d (pt p) := by rw [List.map_map]; rfl
def fMean : FS := fun xs R => ∃ ps : List (Rat × Rat), xs = [.d (.tuple (ps.map pt))] ∧ 0 < ps.length ∧ ps.length < 1000 ∧ (∃ n, (∀ p ∈ ps, Pb n p) ∧ (n + 1) * ps.length ≤ 7000) ∧ R (.d (pt (pMul (tot ps) (Rat.divInt 1 ps.length))))
theorem two_items : irange 0 (Int.toNat 2) = [.d (.int 0), .d (.int 1)] := by rw [irange_def]; rfl
theorem dens {x : PyData} (h : x ∈ [PyData.int 1, .int 1, .int 2, .int 3, .int 7, .int 12]) : ∃ b : Int, x = .int b ∧ 1 ≤ b ∧ b ≤ 12 := by
  simp only [List.mem_cons, List.not_mem_nil, or_false] at h
  rcases h with rfl | rfl | rfl | rfl | rfl | rfl
  · exact ⟨_, rfl, by decide, by decide⟩
  · exact ⟨_, rfl, by decide, by decide⟩
  · exact ⟨_, rfl, by decide, by decide⟩
  · exact ⟨_, rfl, by decide, by decide⟩
  · exact ⟨_, rfl, by decide, by decide⟩
  · exact ⟨_, rfl, by decide, by decide⟩

theorem lc_all {fg : FG} {ft : FT} {fe : FE} {ρ : En} (good : PyData → Prop) : ∀ (items : List Vl) (acc : List PyData) (R : List PyData → Prop),
    (∀ x ∈ items, ∀ (T : Vl → Prop) (T' : Prop), (∀ d, good d → T (.d d)) → fg x ρ fun ρ2 => ft ρ2 fun b => if b = true then fe ρ2 T else T') →
    (∀ ds : List PyData, ds.length = items.length → (∀ d ∈ ds, good d) → R (acc ++ ds)) → lcF fg ft fe ρ items acc R
  | [], acc, R, _, h => by
    show R acc
    simpa using h [] rfl (by simp)
  | x :: xs, acc, R, st, h => by
    refine st x (by simp) (fun y => match y with | .d d => lcF fg ft fe ρ xs (acc ++ [d]) R | _ => False) _ fun d hd => ?_
    refine lc_all good xs (acc ++ [d]) R (fun y hy => st y (List.mem_cons_of_mem _ hy)) fun ds hl hg => ?_
    have := h (d :: ds) (by simp [hl]) (fun e he => by rcases List.mem_cons.mp he with rfl | he; exact hd; exact hg e he)
    simpa using this
theorem fLike_eq {x y : PyData} {R : Vl → Prop} : fLike [.d x, .d y] R = (x = y ∧ shw x ∧ R (.d (.bool true))) := by
  apply propext
  constructor
  · rintro ⟨z, e, h1, h2⟩
    injection e with e1 e
    injection e with e2 _
    injection e1 with e1
    injection e2 with e2
    subst e1
    exact ⟨e2.symm, h1, h2⟩
  · rintro ⟨rfl, h1, h2⟩
    exact ⟨x, rfl, h1, h2⟩
theorem okI_fq {q : Rat} (h : Fb 1600 q) : okI (fq q) = true := by
  have p : 2 ^ 1600 ≤ 10 ^ 500 := Nat.le_of_ble_eq_true rfl
  have e1 : q.num.natAbs < 10 ^ 500 := Nat.lt_of_lt_of_le h.1 p
  have e2 : (q.den : Int).natAbs < 10 ^ 500 := Nat.lt_of_lt_of_le h.2 p
  simp only [fq, okI, okIs, e1, e2, decide_true, Bool.and_true]
theorem okI_pt {p : Rat × Rat} (h : Pb 1600 p) : okI (pt p) = true := by
  simp only [pt, okI, okIs, okI_fq h.1, okI_fq h.2, Bool.and_true]
theorem shw_of {ds : List PyData} (h : okIs ds = true) (h2 : nods (.list ds) ≤ 30000) (h3 : (PyData.list ds).depth ≤ 60) : shw (.list ds) := ⟨h, h2, h3⟩
theorem Pb.mul {n m : Nat} {p : Rat × Rat} {r : Rat} (h : Pb n p) (h2 : Fb m r) : Pb (n + m) (pMul p r) := ⟨h.1.mul h2, h.2.mul h2⟩
theorem pSq_b {p q : Rat × Rat} (h : Pb 10 p) (h2 : Pb 10 q) : Fb 100 (pSq p q) := by
  have a1 := h.1.sub h2.1
  have a2 := h.2.sub h2.2
  exact (add2 (a1.mul a1) (a2.mul a2)).mono (by decide)
theorem sq_nonneg (a : Rat) : 0 ≤ a * a := by
  rcases Rat.le_total (a := 0) (b := a) with h | h
  · exact Rat.mul_nonneg h h
  · have h' : 0 ≤ -a := by grind
    have := Rat.mul_nonneg h' h'
    grind
theorem pSq_self (p : Rat × Rat) : pSq p p = 0 := by unfold pSq; grind
theorem pSq_zero {p q : Rat × Rat} (h : pSq p q = 0) : p = q := by
  unfold pSq at h
  have h1 := sq_nonneg (p.1 - q.1)
  have h2 := sq_nonneg (p.2 - q.2)
  have z1 : (p.1 - q.1) * (p.1 - q.1) = 0 := by grind
  have z2 : (p.2 - q.2) * (p.2 - q.2) = 0 := by grind
  have w1 := Rat.mul_eq_zero.mp z1
  have w2 := Rat.mul_eq_zero.mp z2
  exact Prod.ext (by grind) (by grind)
theorem eqv_pt (a b : Rat × Rat) : PyData.eqv (pt a) (pt b) = decide (a = b) := by
  have e : PyData.eqv (pt a) (pt b) = (PyData.eqv (fq a.1) (fq b.1) && (PyData.eqv (fq a.2) (fq b.2) && true)) := rfl
  rw [e, eqv_fq, eqv_fq, Bool.and_true, ← Bool.decide_and]
  exact decide_eq_decide.mpr ⟨fun h => Prod.ext h.1 h.2, fun h => by rw [h]; exact ⟨rfl, rfl⟩⟩
theorem fEq_pt {neg : Bool} {a b : Rat × Rat} {R : Vl → Prop} : fEq neg (.d (pt a)) (.d (pt b)) R = R (.d (.bool (neg ^^ decide (a = b)))) := by
  have s : ∀ a : Rat × Rat, SeqAt.shaped (pt a) = true := fun a => rfl
  have u : fEq neg (.d (pt a)) (.d (pt b)) R = (SeqAt.shaped (pt a) = true ∧ SeqAt.shaped (pt b) = true ∧ R (.d (.bool (neg ^^ PyData.eqv (pt a) (pt b))))) := rfl
  rw [u, eqv_pt, s, s]
  simp
theorem unit_whole {n : Nat} (h : 0 < n) : Rat.divInt 1 n * Rat.divInt n 1 = 1 := by
  rw [Rat.divInt_mul_divInt]
  have e : Rat.divInt (1 * (n : Int)) ((n : Int) * 1) = Rat.divInt 1 1 := (Rat.divInt_eq_divInt_iff (by omega) (by decide)).mpr (by omega)
  rw [e]
  rfl
theorem first_of {ps : List (Rat × Rat)} (h : 1 ≤ ps.length) : ∃ y ∈ ps, atI (ps.map pt) 0 = some (pt y) := by
  cases ps with
  | nil => simp at h
  | cons y ps => exact ⟨y, by simp, at_0⟩
theorem last_of {ps : List (Rat × Rat)} (h : 1 ≤ ps.length) : ∃ y ∈ ps, atI (ps.map pt) (-1) = some (pt y) := by
  have hl : ps.length - 1 < ps.length := by omega
  refine ⟨ps[ps.length - 1], List.getElem_mem hl, ?_⟩
  unfold atI ixN
  rw [List.length_map, if_neg (by decide), if_pos (by omega)]
  show (ps.map pt)[((-1 : Int) + (ps.length : Nat)).toNat]? = _
  rw [show ((-1 : Int) + (ps.length : Nat)).toNat = ps.length - 1 by omega]
  simp [hl]
end Px

set_option Elab.async false
set_option linter.all false
set_option maxRecDepth 100000
set_option maxHeartbeats 4000000
set_option exponentiation.threshold 10000
/-! W1: loops by their places, comprehensions by a function; pays, shares, what dice pay. -/
namespace Px
open PySem PySem.Spec PyProof.Rows L2
/-! ### promises as equations -/
theorem fs1 {α : Type} {enc : α → PyData} (inj : ∀ {a b}, enc a = enc b → a = b) {Q : α → Prop} {g : α → Vl} {a : α} {R : Vl → Prop} (h : Q a) : (∃ b, [Vl.d (enc a)] = [Vl.d (enc b)] ∧ Q b ∧ R (g b)) = R (g a) := by
  apply propext
  constructor
  · rintro ⟨b, e, _, q⟩
    injection e with e1 _
    injection e1 with e1
    rw [inj e1]
    exact q
  · exact fun q => ⟨a, rfl, h, q⟩
theorem fs0 {g : PyData → Vl} {x : PyData} {R : Vl → Prop} : (∃ b, [Vl.d x] = [Vl.d b] ∧ R (g b)) = R (g x) := by
  apply propext
  constructor
  · rintro ⟨b, e, q⟩
    injection e with e1 _
    injection e1 with e1
    rw [e1]
    exact q
  · exact fun q => ⟨x, rfl, q⟩
section
variable {x : PyData} {R : Vl → Prop} {i l m : Int}
theorem fKind_eq {T : String} : fKind T [.d x] R = R (.d (.bool (isTy T x))) := fs0 (g := fun x => .d (.bool (isTy T x)))
theorem fPair_eq : fPair [.d x] R = R (.d (.bool (isRow x 2 2))) := fs0 (g := fun x => .d (.bool (isRow x 2 2)))
theorem fIsFr_eq : fIsFr [.d x] R = R (.d (.bool (isFr x))) := fs0 (g := fun x => .d (.bool (isFr x)))
theorem fRow_eq : fRow [.d x, .d (.int l), .d (.int m)] R = R (.d (.bool (isRow x l m))) := by
  apply propext
  constructor
  · rintro ⟨x', l', m', e, q⟩
    simp only [List.cons.injEq, Vl.d.injEq, PyData.int.injEq, and_true] at e
    obtain ⟨rfl, rfl, rfl⟩ := e
    exact q
  · exact fun q => ⟨x, l, m, rfl, q⟩
def fWithin : FS := fun xs R => ∃ i l m : Int, xs = [.d (.int i), .d (.int l), .d (.int m)] ∧ R (.d (.bool (decide (l ≤ i) && decide (i ≤ m))))
theorem fWithin_eq : fWithin [.d (.int i), .d (.int l), .d (.int m)] R = R (.d (.bool (decide (l ≤ i) && decide (i ≤ m)))) := by
  apply propext
  constructor
  · rintro ⟨x', l', m', e, q⟩
    simp only [List.cons.injEq, Vl.d.injEq, PyData.int.injEq, and_true] at e
    obtain ⟨rfl, rfl, rfl⟩ := e
    exact q
  · exact fun q => ⟨i, l, m, rfl, q⟩
end
theorem fmOf_mg {P : Program} {w : World} {K : Kx} {mg : Str → Option Value} {base : Heap} {N : List Str} {qual : Str} {st : Stmt} {fa : Addr} {cd : Value} {A : Around} {outer : List PySem.Env} {s : Shared} {H : Hp} {E : XK} {k : Nat} {nd : N.Nodup}
    {hr : Room k (A.deeper (envOfC qual (defScope st) s.heap.objs.size fa cd))} {hg : A.guards = some []} : (fmOf P w K mg base N qual st fa cd A outer s H E k nd hr hg).mg = mg := rfl
/-! ### loops, comprehensions -/
theorem loop_over' {α : Type} {fg : FG} {fb : FSt} {N : SEn} (f : α → Vl) (l : List α) (I : Nat → En → Prop) (st : ∀ (i : Nat) (h : i < l.length) (ρ : En) (L : En → Prop), (∀ ρ', I (i + 1) ρ' → L ρ') → I i ρ → fg (f l[i]) ρ fun ρ' => fb ρ' { nx := L, rt := N.rt, bk := N.nx, ct := L }) (z : ∀ ρ, I l.length ρ → N.nx ρ) (ρ : En) (h : I 0 ρ) :
    loopF fg fb N (l.map f) ρ := by
  have go : ∀ (r : List α) (k : Nat) (ρ : En), k + r.length = l.length → r = l.drop k → I k ρ → loopF fg fb N (r.map f) ρ := by
    intro r
    induction r with
    | nil => intro k ρ e1 e2 h; exact z ρ (by have : k = l.length := by simpa using e1
                                              rw [← this]; exact h)
    | cons a r ih =>
      intro k ρ e1 e2 h
      have hk : k < l.length := by simp only [List.length_cons] at e1; omega
      have ea : l[k] = a := by
        have := congrArg (fun q => q[0]?) e2
        simp [hk] at this
        exact this.symm
      have er : r = l.drop (k + 1) := by
        have := congrArg List.tail e2
        simpa [List.tail_drop] using this
      have := st k hk ρ _ (fun ρ' h' => ih (k + 1) ρ' (by simp only [List.length_cons] at e1; omega) er h') h
      rw [ea] at this
      exact this
  exact go l 0 ρ (by simp) (by simp) h
theorem loop_rng {fg : FG} {fb : FSt} {N : SEn} (lo : Int) (n : Nat) (I : Nat → En → Prop) (st : ∀ (i : Nat) (ρ : En) (L : En → Prop), i < n → (∀ ρ', I (i + 1) ρ' → L ρ') → I i ρ → fg (.d (.int (lo + (i : Nat)))) ρ fun ρ' => fb ρ' { nx := L, rt := N.rt, bk := N.nx, ct := L }) (z : ∀ ρ, I n ρ → N.nx ρ) (ρ : En) (h : I 0 ρ) :
    loopF fg fb N (irange lo n) ρ := by
  rw [irange_def]
  refine loop_over' (fun i : Nat => Vl.d (.int (lo + (i : Nat)))) (List.range n) I (fun i hi ρ L hL h => ?_) (fun ρ h => z ρ (by simpa using h)) ρ h
  have := st i ρ L (by simpa using hi) hL h
  simpa using this
theorem le_big {n : Nat} (h : n ≤ 4611686018427387904) : n ≤ big := h
theorem irange_len (lo : Int) (n : Nat) : (irange lo n).length = n := by rw [irange_def, List.length_map, List.length_range]
theorem lc_map {α : Type} {fg : FG} {ft : FT} {fe : FE} {ρ : En} (f : α → Vl) (g : α → PyData) : ∀ (l : List α) (acc : List PyData) (R : List PyData → Prop),
    (∀ a ∈ l, ∀ (T : Vl → Prop) (T' : Prop), T (.d (g a)) → fg (f a) ρ fun ρ2 => ft ρ2 fun b => if b = true then fe ρ2 T else T') → R (acc ++ l.map g) → lcF fg ft fe ρ (l.map f) acc R
  | [], acc, R, _, h => by
    show R acc
    simpa using h
  | a :: l, acc, R, st, h => by
    refine st a (by simp) (fun y => match y with | .d d => lcF fg ft fe ρ (l.map f) (acc ++ [d]) R | _ => False) _ ?_
    show lcF fg ft fe ρ (l.map f) (acc ++ [g a]) R
    refine lc_map f g l (acc ++ [g a]) R (fun y hy => st y (List.mem_cons_of_mem _ hy)) ?_
    simpa using h
theorem lc_rng {fg : FG} {ft : FT} {fe : FE} {ρ : En} (n : Nat) (g : Nat → PyData) (acc : List PyData) (R : List PyData → Prop)
    (st : ∀ i < n, ∀ (T : Vl → Prop) (T' : Prop), T (.d (g i)) → fg (.d (.int (i : Nat))) ρ fun ρ2 => ft ρ2 fun b => if b = true then fe ρ2 T else T') (h : R (acc ++ (List.range n).map g)) : lcF fg ft fe ρ (irange 0 n) acc R := by
  rw [irange_def]
  refine lc_map (fun i : Nat => Vl.d (.int (0 + (i : Nat)))) g (List.range n) acc R (fun i hi T T' hT => ?_) h
  have := st i (by simpa using hi) T T' hT
  simpa using this
/-- a comprehension of draws: as many things, all good -/
theorem lc_draw {fg : FG} {ft : FT} {fe : FE} {ρ : En} (good : PyData → Prop) (n : Nat) (lo : Int) (R : List PyData → Prop)
    (st : ∀ x, ∀ (T : Vl → Prop) (T' : Prop), (∀ d, good d → T (.d d)) → fg x ρ fun ρ2 => ft ρ2 fun b => if b = true then fe ρ2 T else T')
    (h : ∀ ds : List PyData, ds.length = n → (∀ d ∈ ds, good d) → R ds) : lcF fg ft fe ρ (irange lo n) [] R :=
  lc_all good _ _ _ (fun x _ T T' hT => st x T T' hT) fun ds hl hg => h ds (by rw [hl, irange_len]) hg
theorem of_good {α : Type} (f : α → PyData) (p : α → Prop) : ∀ ds : List PyData, (∀ d ∈ ds, ∃ a, p a ∧ d = f a) → ∃ l : List α, ds = l.map f ∧ ∀ a ∈ l, p a
  | [], _ => ⟨[], rfl, by simp⟩
  | d :: ds, h => by
    obtain ⟨a, ha, rfl⟩ := h d (by simp)
    obtain ⟨l, rfl, hl⟩ := of_good f p ds fun e he => h e (List.mem_cons_of_mem _ he)
    exact ⟨a :: l, rfl, fun b hb => by rcases List.mem_cons.mp hb with rfl | hb; exact ha; exact hl b hb⟩
theorem atI_map {α : Type} (f : α → PyData) (l : List α) (d : α) {i : Nat} (h : i < l.length) : atI (l.map f) (i : Int) = some (f (l.getD i d)) := by
  rw [atI_nat (by simpa using h)]
  simp [h]
theorem atI_last {α : Type} (f : α → PyData) (l : List α) (a : α) : atI ((l ++ [a]).map f) (-1) = some (f a) := by
  unfold atI ixN
  rw [List.length_map, if_neg (by decide), if_pos (by simp; omega)]
  show ((l ++ [a]).map f)[((-1 : Int) + ((l ++ [a]).length : Nat)).toNat]? = _
  rw [show ((-1 : Int) + ((l ++ [a]).length : Nat)).toNat = l.length by simp; omega]
  simp
theorem at_last {α : Type} {l : List α} {a : α} : atI (l ++ [a]) (-1) = some a := by
  unfold atI ixN
  rw [if_neg (by decide), if_pos (by simp; omega)]
  show (l ++ [a])[((-1 : Int) + ((l ++ [a]).length : Nat)).toNat]? = _
  rw [show ((-1 : Int) + ((l ++ [a]).length : Nat)).toNat = l.length by simp; omega]
  simp
theorem map_d {α : Type} (f : α → PyData) (l : List α) : (l.map f).map Vl.d = l.map fun a => Vl.d (f a) := by rw [List.map_map]; rfl
theorem pairs_map {α β : Type} (f : α → PyData) (g : β → PyData) : ∀ (l : List α) (m : List β), pairs (l.map f) (m.map g) = (l.zip m).map fun p => Vl.d (.tuple [f p.1, g p.2])
  | [], _ => by simp [pairs]
  | _ :: _, [] => by simp [pairs]
  | a :: l, b :: m => by simp [pairs, pairs_map f g l m]
theorem enumD_map {α : Type} (f : α → PyData) : ∀ (l : List α) (n : Nat), enumD n (l.map f) = (l.zipIdx n).map fun p => Vl.d (.tuple [.int (p.2 : Nat), f p.1])
  | [], _ => rfl
  | a :: l, n => by simp only [List.map_cons, enumD, enumD_map f l (n + 1), List.zipIdx_cons]
section
variable {xs ys : List PyData} {R : Vl → Prop} {Q : List Vl → Prop}
theorem gLen_l : gLen [.d (.list xs)] R = R (.d (.int xs.length)) := rfl
theorem gLen_t : gLen [.d (.tuple xs)] R = R (.d (.int xs.length)) := rfl
theorem gTuple_l : gTuple [.d (.list xs)] R = R (.d (.tuple xs)) := rfl
theorem gTuple_t : gTuple [.d (.tuple xs)] R = R (.d (.tuple xs)) := rfl
theorem gList_l : gList [.d (.list xs)] R = R (.d (.list xs)) := rfl
theorem gList_t : gList [.d (.tuple xs)] R = R (.d (.list xs)) := rfl
theorem asS_l : asS Q (.d (.list xs)) = Q (xs.map Vl.d) := rfl
theorem asS_t : asS Q (.d (.tuple xs)) = Q (xs.map Vl.d) := rfl
theorem asE_l : asE Q [.d (.list xs)] = Q (enumD 0 xs) := rfl
theorem asE_t : asE Q [.d (.tuple xs)] = Q (enumD 0 xs) := rfl
theorem asZ_ll : asZM Q [.d (.list xs), .d (.list ys)] = Q (pairs xs ys) := rfl
theorem asZ_tt : asZM Q [.d (.tuple xs), .d (.tuple ys)] = Q (pairs xs ys) := rfl
theorem asZ_lt : asZM Q [.d (.list xs), .d (.tuple ys)] = Q (pairs xs ys) := rfl
end
/-! ### sums -/
def sm {α : Type} : List α → (α → Rat) → Rat
  | [], _ => 0
  | a :: l, φ => φ a + sm l φ
section
variable {α β : Type}
theorem sm_append (φ : α → Rat) : ∀ l m : List α, sm (l ++ m) φ = sm l φ + sm m φ
  | [], m => by simp [sm]; grind
  | a :: l, m => by simp only [List.cons_append, sm, sm_append φ l m]; grind
theorem sm_map (f : β → α) (φ : α → Rat) : ∀ l : List β, sm (l.map f) φ = sm l fun b => φ (f b)
  | [] => rfl
  | b :: l => by simp only [List.map_cons, sm, sm_map f φ l]
theorem sm_flatMap (f : β → List α) (φ : α → Rat) : ∀ l : List β, sm (l.flatMap f) φ = sm l fun b => sm (f b) φ
  | [] => rfl
  | b :: l => by simp only [List.flatMap_cons, sm_append, sm, sm_flatMap f φ l]
theorem sm_add (φ ψ : α → Rat) : ∀ l : List α, sm l (fun a => φ a + ψ a) = sm l φ + sm l ψ
  | [] => by simp [sm]; grind
  | a :: l => by simp only [sm, sm_add φ ψ l]; grind
theorem sm_mul (c : Rat) (φ : α → Rat) : ∀ l : List α, sm l (fun a => φ a * c) = sm l φ * c
  | [] => by simp [sm]
  | a :: l => by simp only [sm, sm_mul c φ l]; grind
theorem sm_congr {φ ψ : α → Rat} : ∀ {l : List α}, (∀ a ∈ l, φ a = ψ a) → sm l φ = sm l ψ
  | [], _ => rfl
  | a :: l, h => by simp only [sm, h a (by simp), sm_congr (l := l) fun b hb => h b (List.mem_cons_of_mem _ hb)]
theorem sm_comm (F : α → β → Rat) (m : List β) : ∀ l : List α, sm l (fun a => sm m fun b => F a b) = sm m fun b => sm l fun a => F a b
  | [] => by
    have : ∀ m : List β, sm m (fun _ => (0 : Rat)) = 0 := fun m => by
      induction m with
      | nil => rfl
      | cons b m ih => simp only [sm, ih]; grind
    simp only [sm, this]
  | a :: l => by simp only [sm, sm_comm F m l, sm_add]
theorem sm_nonneg {φ : α → Rat} : ∀ {l : List α}, (∀ a ∈ l, 0 ≤ φ a) → 0 ≤ sm l φ
  | [], _ => Rat.le_refl
  | a :: l, h => by
    have h1 := h a (by simp)
    have h2 := sm_nonneg (l := l) fun b hb => h b (List.mem_cons_of_mem _ hb)
    simp only [sm]
    grind
theorem sm_le {φ ψ : α → Rat} : ∀ {l : List α}, (∀ a ∈ l, φ a ≤ ψ a) → sm l φ ≤ sm l ψ
  | [], _ => Rat.le_refl
  | a :: l, h => by
    have h1 := h a (by simp)
    have h2 := sm_le (l := l) fun b hb => h b (List.mem_cons_of_mem _ hb)
    simp only [sm]
    grind
end
/-- the sum of the products of pairs -/
def dot (l m : List Rat) : Rat := sm (l.zip m) fun p => p.1 * p.2
/-! ### shares -/
def shD (qs : List Rat) : PyData := .tuple (qs.map fq)
structure ShOk (n : Nat) (qs : List Rat) : Prop where
  len : qs.length = n
  nn : ∀ q ∈ qs, 0 ≤ q
  bd : ∀ q ∈ qs, Fb 5 q
  sum : sm qs id = 1
def fShares : FS := fun xs R => ∃ (n : Nat) (qs : List Rat), xs = [.d (shD qs), .d (.int (n : Nat))] ∧ n ≤ 4 ∧ ShOk n qs ∧ R (.d (.bool true))
def fWeighed : FS := fun xs R => ∃ (vs ss : List Rat) (a b : Nat), (xs = [.d (.list (vs.map fq)), .d (.tuple (ss.map fq))] ∨ xs = [.d (.tuple (vs.map fq)), .d (.tuple (ss.map fq))]) ∧ (∀ v ∈ vs, Fb a v) ∧ (∀ s ∈ ss, Fb b s) ∧ (a + b + 1) * vs.length ≤ 7000 ∧ R (.d (fq (dot vs ss)))
theorem dot_fb {a b : Nat} : ∀ {vs ss : List Rat}, (∀ v ∈ vs, Fb a v) → (∀ s ∈ ss, Fb b s) → Fb ((a + b + 1) * vs.length + 1) (dot vs ss)
  | [], _, _, _ => fz _ (by omega)
  | _ :: _, [], _, _ => fz _ (by omega)
  | v :: vs, s :: ss, h1, h2 => by
    have ih := dot_fb (vs := vs) (ss := ss) (fun x hx => h1 x (List.mem_cons_of_mem _ hx)) fun x hx => h2 x (List.mem_cons_of_mem _ hx)
    have := Px.add2 ((h1 v (by simp)).mul (h2 s (by simp))) ih
    refine Fb.mono this ?_
    simp only [List.length_cons, Nat.mul_succ]
    omega
theorem zip_mapL {α β γ : Type} (f : α → γ) : ∀ (l : List α) (m : List β), (l.map f).zip m = (l.zip m).map fun p => (f p.1, p.2)
  | [], _ => by simp
  | _ :: _, [] => by simp
  | a :: l, b :: m => by simp [zip_mapL f l m]
theorem sum_cast : ∀ l : List Nat, (l.map fun (c : Nat) => ((c : Nat) : Int)).sum = ((l.sum : Nat) : Int)
  | [] => rfl
  | a :: l => by simp only [List.map_cons, List.sum_cons, sum_cast l]; omega
theorem sum_le {k : Nat} : ∀ {l : List Nat}, (∀ p ∈ l, p ≤ k) → l.sum ≤ k * l.length
  | [], _ => by simp
  | a :: l, h => by
    have := sum_le (l := l) fun b hb => h b (List.mem_cons_of_mem _ hb)
    have := h a (by simp)
    simp only [List.sum_cons, List.length_cons, Nat.mul_succ]
    omega
theorem divInt_nn {p w : Nat} (h : 0 < w) : 0 ≤ Rat.divInt (p : Nat) (w : Nat) := by
  rw [← Rat.num_nonneg, Rat.num_divInt, Int.sign_eq_one_of_pos (by omega)]
  simp only [Int.one_mul]
  exact Int.ediv_nonneg (by omega) (by omega)
theorem divInt_sm {w : Nat} (h : 0 < w) : ∀ l : List Nat, sm (l.map fun (p : Nat) => Rat.divInt (p : Nat) (w : Nat)) id = Rat.divInt (l.sum : Nat) (w : Nat)
  | [] => by simp [sm]
  | a :: l => by
    have hw : ((w : Nat) : Int) ≠ 0 := by omega
    simp only [List.map_cons, sm, divInt_sm h l, id, List.sum_cons]
    rw [Rat.divInt_add_divInt _ _ hw hw, Rat.divInt_eq_divInt_iff (Int.mul_ne_zero hw hw) hw]
    rw [Int.natCast_add]
    grind
theorem shOk_of {n : Nat} (n4 : n ≤ 4) {ps : List Nat} {w : Nat} (h1 : ps.length = n) (h2 : ∀ p ∈ ps, p ≤ 7) (h3 : ps.sum = w) (h4 : 0 < w) : ShOk n (ps.map fun (p : Nat) => Rat.divInt (p : Nat) (w : Nat)) where
  len := by rw [List.length_map, h1]
  nn := fun q hq => by
    obtain ⟨p, hp, rfl⟩ := List.mem_map.mp hq
    exact divInt_nn h4
  bd := fun q hq => by
    obtain ⟨p, hp, rfl⟩ := List.mem_map.mp hq
    have a := h2 p hp
    have b := sum_le h2
    exact Fb.red (by omega) (Bd.of_lt (j := 7) (by omega) (by decide)) (Bd.of_lt (j := 28) (by omega) (by decide))
  sum := by
    rw [divInt_sm h4, h3]
    have hw : ((w : Nat) : Int) ≠ 0 := by omega
    have : Rat.divInt (w : Nat) (w : Nat) = Rat.divInt 1 1 := (Rat.divInt_eq_divInt_iff hw (by decide)).mpr (by omega)
    rw [this]
    rfl
/-! ### pays -/
abbrev Cell := Int × Int
def cellD (c : Cell) : PyData := .tuple [.int c.1, .int c.2]
def rowD (r : List Cell) : PyData := .tuple (r.map cellD)
def tabD (T : List (List Cell)) : PyData := .tuple (T.map rowD)
def CellOk (c : Cell) : Prop := (-100 ≤ c.1 ∧ c.1 ≤ 100) ∧ -100 ≤ c.2 ∧ c.2 ≤ 100
structure TabOk (n w : Nat) (T : List (List Cell)) : Prop where
  len : T.length = n
  n1 : 1 ≤ n
  n4 : n ≤ 4
  w1 : 1 ≤ w
  w4 : w ≤ 4
  row : ∀ r ∈ T, r.length = w
  cell : ∀ r ∈ T, ∀ c ∈ r, CellOk c
theorem iq (c : Int) : PyData.tuple [.int c, .int 1] = fq (c : Rat) := rfl
def cq (c : Cell) : Rat × Rat := ((c.1 : Rat), (c.2 : Rat))
theorem cq_pt (c : Cell) : PyData.tuple [.tuple [.int c.1, .int 1], .tuple [.int c.2, .int 1]] = pt (cq c) := rfl
theorem fb_int {c : Int} {n : Nat} (h : Bd n c) (h0 : 0 < n) : Fb n (c : Rat) := ⟨h, by show (1 : Nat) < 2 ^ n; exact Nat.one_lt_two_pow (by omega)⟩
theorem cq_b {c : Cell} (h : CellOk c) : Pb 7 (cq c) := by
  obtain ⟨⟨h1, h2⟩, h3, h4⟩ := h
  exact ⟨fb_int (Bd.of_lt (j := 100) (by omega) (by decide)) (by decide), fb_int (Bd.of_lt (j := 100) (by omega) (by decide)) (by decide)⟩
def nth (r : List Cell) (j : Nat) : Cell := r.getD j (0, 0)
/-- what dice pay at an answer -/
def payAt (T : List (List Cell)) (qs : List Rat) (j : Nat) : Rat × Rat := (dot (T.map fun r => (cq (nth r j)).1) qs, dot (T.map fun r => (cq (nth r j)).2) qs)
def dotP (ps : List (Rat × Rat)) (ss : List Rat) : Rat × Rat := (dot (ps.map (·.1)) ss, dot (ps.map (·.2)) ss)
def payBy (T : List (List Cell)) (qs os : List Rat) (w : Nat) : Rat × Rat := dotP ((List.range w).map (payAt T qs)) os
theorem nth_ok {n w : Nat} {T : List (List Cell)} (h : TabOk n w T) {r : List Cell} (hr : r ∈ T) {j : Nat} (hj : j < w) : CellOk (nth r j) := by
  have : j < r.length := by rw [h.row r hr]; exact hj
  unfold nth
  rw [List.getD_eq_getElem?_getD, List.getElem?_eq_getElem this]
  exact h.cell r hr _ (List.getElem_mem this)
theorem payAt_b {n w : Nat} {T : List (List Cell)} {qs : List Rat} {j : Nat} (h : TabOk n w T) (hq : ShOk n qs) (hj : j < w) : Pb 60 (payAt T qs j) := by
  have l : T.length ≤ 4 := by rw [h.len]; exact h.n4
  refine ⟨(dot_fb (a := 7) (b := 5) (fun v hv => ?_) hq.bd).mono ?_, (dot_fb (a := 7) (b := 5) (fun v hv => ?_) hq.bd).mono ?_⟩
  · obtain ⟨r, hr, rfl⟩ := List.mem_map.mp hv
    exact (cq_b (nth_ok h hr hj)).1
  · rw [List.length_map]; omega
  · obtain ⟨r, hr, rfl⟩ := List.mem_map.mp hv
    exact (cq_b (nth_ok h hr hj)).2
  · rw [List.length_map]; omega
theorem payBy_b {n w : Nat} {T : List (List Cell)} {qs os : List Rat} (h : TabOk n w T) (hq : ShOk n qs) (ho : ShOk w os) : Pb 270 (payBy T qs os w) := by
  have l := h.w4
  refine ⟨(dot_fb (a := 60) (b := 5) (fun v hv => ?_) ho.bd).mono ?_, (dot_fb (a := 60) (b := 5) (fun v hv => ?_) ho.bd).mono ?_⟩
  · obtain ⟨p, hp, rfl⟩ := List.mem_map.mp hv
    obtain ⟨j, hj, rfl⟩ := List.mem_map.mp hp
    exact (payAt_b h hq (by simpa using hj)).1
  · simp; omega
  · obtain ⟨p, hp, rfl⟩ := List.mem_map.mp hv
    obtain ⟨j, hj, rfl⟩ := List.mem_map.mp hp
    exact (payAt_b h hq (by simpa using hj)).2
  · simp; omega
section
variable {T : List (List Cell)} {r : List Cell} {c : Cell} {qs : List Rat} {R : Vl → Prop} {Q : List Vl → Prop}
theorem gLen_tab : gLen [.d (tabD T)] R = R (.d (.int (T.length : Nat))) := by unfold tabD; rw [gLen_t, List.length_map]
theorem gLen_row : gLen [.d (rowD r)] R = R (.d (.int (r.length : Nat))) := by unfold rowD; rw [gLen_t, List.length_map]
theorem gLen_sh : gLen [.d (shD qs)] R = R (.d (.int (qs.length : Nat))) := by unfold shD; rw [gLen_t, List.length_map]
theorem asS_tab : asS Q (.d (tabD T)) = Q (T.map fun r => .d (rowD r)) := by unfold tabD; rw [asS_t, map_d]
theorem asS_row : asS Q (.d (rowD r)) = Q (r.map fun r => .d (cellD r)) := by unfold rowD; rw [asS_t, map_d]
theorem asS_sh : asS Q (.d (shD qs)) = Q (qs.map fun r => .d (fq r)) := by unfold shD; rw [asS_t, map_d]
theorem asE_tab : asE Q [.d (tabD T)] = Q (T.zipIdx.map fun p => .d (.tuple [.int (p.2 : Nat), rowD p.1])) := by unfold tabD; rw [asE_t, enumD_map]
theorem asE_row : asE Q [.d (rowD r)] = Q (r.zipIdx.map fun p => .d (.tuple [.int (p.2 : Nat), cellD p.1])) := by unfold rowD; rw [asE_t, enumD_map]
theorem asE_sh : asE Q [.d (shD qs)] = Q (qs.zipIdx.map fun p => .d (.tuple [.int (p.2 : Nat), fq p.1])) := by unfold shD; rw [asE_t, enumD_map]
theorem asZ_tab : asZM Q [.d (tabD T), .d (shD qs)] = Q ((T.zip qs).map fun p => .d (.tuple [rowD p.1, fq p.2])) := by unfold tabD shD; rw [asZ_tt, pairs_map]
theorem asZ_row : asZM Q [.d (rowD r), .d (shD qs)] = Q ((r.zip qs).map fun p => .d (.tuple [cellD p.1, fq p.2])) := by unfold rowD shD; rw [asZ_tt, pairs_map]
theorem ix_tab0 : fIx (.d (tabD (r :: T))) (.d (.int 0)) R = R (.d (rowD r)) := by unfold tabD; rw [List.map_cons, fIx_t, at_0, ex_some]
theorem ix_tab {j : Nat} (h : j < T.length) : fIx (.d (tabD T)) (.d (.int (j : Nat))) R = R (.d (rowD (T.getD j []))) := by unfold tabD; rw [fIx_t, atI_map rowD T [] h, ex_some]
theorem ix_row {j : Nat} (h : j < r.length) : fIx (.d (rowD r)) (.d (.int (j : Nat))) R = R (.d (cellD (nth r j))) := by unfold rowD nth; rw [fIx_t, atI_map cellD r (0, 0) h, ex_some]
theorem ix_sh {j : Nat} (h : j < qs.length) : fIx (.d (shD qs)) (.d (.int (j : Nat))) R = R (.d (fq (qs.getD j 0))) := by unfold shD; rw [fIx_t, atI_map fq qs 0 h, ex_some]
theorem ix_c0 : fIx (.d (cellD c)) (.d (.int 0)) R = R (.d (.int c.1)) := by unfold cellD; rw [fIx_t, at_0, ex_some]
theorem ix_c1 : fIx (.d (cellD c)) (.d (.int 1)) R = R (.d (.int c.2)) := by unfold cellD; rw [fIx_t, at_1, ex_some]
end
def fIsPay : FS := fun xs R => ∃ c, xs = [.d (cellD c)] ∧ CellOk c ∧ R (.d (.bool true))
theorem cellD_inj {c c' : Cell} (h : cellD c = cellD c') : c = c' := by
  simp only [cellD, PyData.tuple.injEq, List.cons.injEq, PyData.int.injEq, and_true] at h
  exact Prod.ext h.1 h.2
theorem fIsPay_eq {c : Cell} {R : Vl → Prop} (h : CellOk c) : fIsPay [.d (cellD c)] R = R (.d (.bool true)) := fs1 cellD_inj (g := fun _ => .d (.bool true)) h
/-- the table stands: no place is told -/
def fWrongPay (mg : Str → Option Value) : FS := fun xs R => ∃ n w T fa, xs = [.d (tabD T), .o (.ref fa)] ∧ mg "is_pay" = some (.ref fa) ∧ TabOk n w T ∧ R (.d .none)
def fNeedPays : FS := fun xs R => ∃ n w T, xs = [.d (tabD T)] ∧ TabOk n w T ∧ R (.d (tabD T))
def fNeedDice : FS := fun xs R => ∃ n w T qs, xs = [.d (tabD T), .d (shD qs)] ∧ TabOk n w T ∧ ShOk n qs ∧ R (.d (shD qs))
def fNeedOdds : FS := fun xs R => ∃ n w T qs, xs = [.d (tabD T), .d (shD qs)] ∧ TabOk n w T ∧ ShOk w qs ∧ R (.d (shD qs))
def fWholePt : FS := fun xs R => ∃ c, xs = [.d (cellD c)] ∧ R (.d (pt (cq c)))
def fWPts : FS := fun xs R => ∃ (ps : List (Rat × Rat)) (ss : List Rat) (a b : Nat), xs = [.d (.list (ps.map pt)), .d (.tuple (ss.map fq))] ∧ (∀ p ∈ ps, Pb a p) ∧ (∀ s ∈ ss, Fb b s) ∧ (a + b + 1) * ps.length ≤ 7000 ∧ ps.length < 1000 ∧ R (.d (pt (dotP ps ss)))
def fPay : FS := fun xs R => ∃ n w T qs, ∃ j : Nat, xs = [.d (tabD T), .d (shD qs), .d (.int (j : Nat))] ∧ TabOk n w T ∧ ShOk n qs ∧ j < w ∧ R (.d (pt (payAt T qs j)))
def fPayBy : FS := fun xs R => ∃ n w T qs os, xs = [.d (tabD T), .d (shD qs), .d (shD os)] ∧ TabOk n w T ∧ ShOk n qs ∧ ShOk w os ∧ R (.d (pt (payBy T qs os w)))
/-- the law's draws -/
def fShDraw : FS := fun xs R => ∃ n : Nat, xs = [.st, .d (.int (n : Nat))] ∧ 1 ≤ n ∧ n ≤ 4 ∧ ∀ qs, ShOk n qs → R (.d (shD qs))
def fCell : FS := fun xs R => ∃ h : Int, xs = [.st, .d (.int h)] ∧ 0 ≤ h ∧ h ≤ 100 ∧ ∀ c : Cell, CellOk c → R (.d (cellD c))
def fTab : FS := fun xs R => ∃ (n m : Nat) (h : Int), xs = [.st, .d (.int (n : Nat)), .d (.int (m : Nat)), .d (.int h)] ∧ 1 ≤ n ∧ n ≤ 4 ∧ 1 ≤ m ∧ m ≤ 4 ∧ 0 ≤ h ∧ h ≤ 100 ∧ ∀ (w : Nat) T, TabOk n w T → w ≤ m → R (.d (tabD T))
end Px

set_option Elab.async false
set_option linter.all false
set_option maxRecDepth 100000
set_option maxHeartbeats 2000000
/-! Px: zip(*rows), the rows tuples of one length, at most four; one name as the target. -/
namespace Px
open PySem PySem.Spec PyProof.Rows L2
open Sem (wp)
/-- a loop whose every turn yields -/
theorem wpAny_turns {α β : Type} {M : Model} {A : Around} {f : α → β → Sem (ForInStep β)} {E : Value → Shared → Prop} {Q : β → Shared → Prop} (R : List α → β → Shared → Prop)
    (hs : ∀ x rest b s, R (x :: rest) b s → wpAny M A (f x b) (fun r s' => ∃ b', r = .yield b' ∧ R rest b' s') E s) (he : ∀ b s, R [] b s → Q b s) :
    ∀ l b s, R l b s → wpAny M A (forIn l b f) Q E s
  | [], b, s, h => by
    rw [List.forIn_nil]
    exact wpAny_pure (he b s h)
  | x :: rest, b, s, h => by
    rw [List.forIn_cons]
    refine wpAny_bind (wpAny_mono (hs x rest b s h) (fun r s' hr => ?_) fun _ _ z => z)
    obtain ⟨b', rfl, h'⟩ := hr
    exact wpAny_turns R hs he rest b' s' h'
abbrev IsZipF (h : Heap) (z TI TO : Addr) (f0 f1 : Value) : Prop :=
  h.get? z = some { cls := .type "zip", dict := none, data := .fields #[f0, f1, .bool false, .ref TI, .ref TO], slots := #[] }
abbrev IsSeqT (h : Heap) (T : Addr) (xs : Array Value) : Prop := h.get? T = some { cls := .type "tuple", data := .seq xs }
/-- an iterator, the tuple it walks, the tuple's items -/
structure ZIt where
  it : Addr
  tup : Addr
  xs : Array Value
def ZOut (i : Nat) (p : ZIt) : Value := (p.xs[i]?).getD .none
structure ZSep (z TI TO : Addr) (L : List ZIt) : Prop where
  TIz : TI ≠ z
  TOz : TO ≠ z
  TITO : TI ≠ TO
  nd : (L.map (·.it)).Nodup
  iz : ∀ p ∈ L, p.it ≠ z
  iTI : ∀ p ∈ L, p.it ≠ TI
  iTO : ∀ p ∈ L, p.it ≠ TO
  tz : ∀ p ∈ L, p.tup ≠ z
  tTO : ∀ p ∈ L, p.tup ≠ TO
  ti : ∀ p ∈ L, ∀ q ∈ L, p.tup ≠ q.it
section
variable {prog : Program} {w : World} {A : Around} {E : Value → Shared → Prop} {s : Shared}
theorem alive_any {a : Addr} {Q : Option Obj → Shared → Prop} (h : Q (s.heap.get? a) s) : wpAny (model prog w) A (loadIfAlive a) Q E s := fun _ _ _ => h
theorem owned_any {z TI TO : Addr} {f0 f1 : Value} {Q : Bool → Shared → Prop} (hz : IsZipF s.heap z TI TO f0 f1) (hf : f0 = .none ∨ ∃ T : Nat, f0 = rawInt T)
    (h : ∀ b h' f1', IsZipF h' z TI TO f0 f1' → Heap.SameBut z s.heap h' → Q b { s with heap := h' }) : wpAny (model prog w) A (Builtin.SmallTypes.ownedTupleIsFree (.ref z)) Q E s := by
  unfold Builtin.SmallTypes.ownedTupleIsFree
  rcases hf with rfl | ⟨T, rfl⟩
  · exact wpAny_bind (wpAny_field hz rfl (x := .none) rfl (wpAny_pure (h true s.heap f1 hz (Heap.SameBut.refl _ _))))
  · refine wpAny_bind (wpAny_field hz rfl (x := rawInt T) rfl ?_)
    show wpAny _ _ (loadIfAlive ((T : Int).toNat) >>= _) _ _ _
    rw [Int.toNat_natCast]
    refine wpAny_bind (alive_any ?_)
    cases hT : s.heap.get? T with
    | none => exact wpAny_pure (h true s.heap f1 hz (Heap.SameBut.refl _ _))
    | some o =>
      simp only [Option.isNone_some, Bool.false_eq_true, if_false]
      refine wpAny_bind (wpAny_field hz rfl (x := f1) rfl ?_)
      cases hb : (f1 != Value.bool true) with
      | false =>
        rw [if_neg Bool.false_ne_true]
        exact wpAny_pure (h false s.heap f1 hz (Heap.SameBut.refl _ _))
      | true =>
        rw [if_pos rfl]
        exact wpAny_bind (wpAny_setField_rec hz (by simp) fun h₁ hz₁ hs₁ => wpAny_pure (h false h₁ (.bool true) hz₁ hs₁))
/-- where the walk stands: `dn` have drawn, `rs` not yet -/
structure ZAt (z TI TO : Addr) (i : Nat) (dn rs : List ZIt) (h0 h : Heap) : Prop where
  sz : h.objs.size = h0.objs.size
  drawn : ∀ p ∈ dn, h.IsTupleIter p.it p.tup (i + 1)
  left : ∀ p ∈ rs, h.IsTupleIter p.it p.tup i
  tups : ∀ p ∈ rs, h.IsTuple p.tup p.xs
  rest : ∀ c o, c ≠ z → c ≠ TO → (∀ p ∈ dn ++ rs, c ≠ p.it) → h0.get? c = some o → h.get? c = some o
theorem ZAt.but {z TI TO : Addr} {i : Nat} {dn rs : List ZIt} {h0 h h' : Heap} {b : Addr} (W : ZAt z TI TO i dn rs h0 h) (hb : b = z ∨ b = TO) (S : ZSep z TI TO (dn ++ rs)) (hs : Heap.SameBut b h h') : ZAt z TI TO i dn rs h0 h' := by
  have ni : ∀ p ∈ dn ++ rs, p.it ≠ b := fun p hp => by
    rcases hb with rfl | rfl
    · exact S.iz p hp
    · exact S.iTO p hp
  have nt : ∀ p ∈ dn ++ rs, p.tup ≠ b := fun p hp => by
    rcases hb with rfl | rfl
    · exact S.tz p hp
    · exact S.tTO p hp
  exact ⟨hs.1.trans W.sz, fun p hp => (W.drawn p hp).extBut hs.extBut (ni p (List.mem_append_left _ hp)), fun p hp => (W.left p hp).extBut hs.extBut (ni p (List.mem_append_right _ hp)),
    fun p hp => (W.tups p hp).extBut hs.extBut (nt p (List.mem_append_right _ hp)), fun c o c1 c2 c3 e => hs.extBut _ _ (fun eb => hb.elim (fun q => c1 (eb.trans q)) fun q => c2 (eb.trans q)) (W.rest c o c1 c2 c3 e)⟩
theorem ZAt.step {z TI TO : Addr} {i : Nat} {dn rs : List ZIt} {p : ZIt} {h0 h h' : Heap} (W : ZAt z TI TO i dn (p :: rs) h0 h) (S : ZSep z TI TO (dn ++ p :: rs)) (h1 : h'.IsTupleIter p.it p.tup (i + 1)) (hs : Heap.SameBut p.it h h') : ZAt z TI TO i (dn ++ [p]) rs h0 h' := by
  have nd := S.nd
  rw [List.map_append, List.map_cons, List.nodup_append] at nd
  obtain ⟨n1, n2, n3⟩ := nd
  rw [List.nodup_cons] at n2
  refine ⟨hs.1.trans W.sz, fun q hq => ?_, fun q hq => (W.left q (List.mem_cons_of_mem _ hq)).extBut hs.extBut fun e => n2.1 (by rw [← e]; exact List.mem_map_of_mem hq),
    fun q hq => (W.tups q (List.mem_cons_of_mem _ hq)).extBut hs.extBut (S.ti q (List.mem_append_right _ (List.mem_cons_of_mem _ hq)) p (List.mem_append_right _ (List.mem_cons_self ..))), fun c o c1 c2 c3 e => hs.extBut _ _ (c3 p (by simp)) (W.rest c o c1 c2 (fun q hq => c3 q (by simpa using hq)) e)⟩
  rcases List.mem_append.mp hq with hq | hq
  · exact (W.drawn q hq).extBut hs.extBut (n3 _ (List.mem_map_of_mem hq) _ (List.mem_cons_self ..))
  · rw [List.mem_singleton.mp hq]; exact h1
theorem zn_item {z TI TO : Addr} {L : List ZIt} {i : Nat} {f0 f1 : Value} {arr : Array Value} {Q : Value → Shared → Prop} (S : ZSep z TI TO L) (hL : L ≠ []) (h4 : L.length ≤ 4)
    (hz : IsZipF s.heap z TI TO f0 f1) (hf : f0 = .none ∨ ∃ T : Nat, f0 = rawInt T) (hTI : IsSeqT s.heap TI ((L.map fun p => Value.ref p.it).toArray)) (hTO : IsSeqT s.heap TO arr) (ha : arr.size = L.length)
    (hi : ∀ p ∈ L, s.heap.IsTupleIter p.it p.tup i) (ht : ∀ p ∈ L, s.heap.IsTuple p.tup p.xs) (hlt : ∀ p ∈ L, i < p.xs.size)
    (hQ : ∀ h' g0 g1 arr', IsZipF h' z TI TO g0 g1 → (g0 = .none ∨ ∃ T : Nat, g0 = rawInt T) → IsSeqT h' TO arr' → arr'.size = L.length → (∀ p ∈ L, h'.IsTupleIter p.it p.tup (i + 1)) →
      IsSeqT h' s.heap.objs.size ((L.map (ZOut i)).toArray) → h'.objs.size = s.heap.objs.size + 1 →
      (∀ c o, c ≠ z → c ≠ TO → (∀ p ∈ L, c ≠ p.it) → s.heap.get? c = some o → h'.get? c = some o) → Q (.ref s.heap.objs.size) { s with heap := h' }) :
    wpAny (model prog w) A (Builtin.«zip.__next__» ⟨[.ref z], []⟩) (fun fin s' => ∃ v, fin = .done (.ret v) ∧ Q v s') E s := by
  obtain ⟨hp, g, d, tk0, os⟩ := s
  show wpAny _ _ (field (.ref z) 2 >>= _) _ _ _
  refine wpAny_bind (wpAny_field hz rfl (x := .bool false) rfl ?_)
  show wpAny _ _ (field (.ref z) 3 >>= _) _ _ _
  refine wpAny_bind (wpAny_field hz rfl (x := .ref TI) rfl ?_)
  refine wpAny_bind (wpAny_seqItems hTI rfl ?_)
  have hne : ((L.map fun p => Value.ref p.it).toArray).isEmpty = false := by
    cases L with
    | nil => exact absurd rfl hL
    | cons p r => rfl
  simp only [hne, Bool.false_eq_true, if_false]
  show wpAny _ _ (Builtin.SmallTypes.ownedTupleIsFree (.ref z) >>= _) _ _ _
  refine wpAny_bind (owned_any hz hf fun b h1 f1' hz1 hs1 => ?_)
  replace hs1 : Heap.SameBut z hp h1 := hs1
  have W0 : ZAt z TI TO i [] L hp hp := ⟨rfl, fun _ h => absurd h (List.not_mem_nil), hi, ht, fun _ _ _ _ _ e => e⟩
  have W1 := W0.but (.inl rfl) S hs1
  cases b with
  | true =>
    simp only [if_true]
    refine wpAny_bind (wpAny_rule ?_)
    refine wpAny_bind (wpAny_field hz1 rfl (x := .ref TO) rfl ?_)
    refine wpAny_bind (wpAny_setField_rec hz1 (by simp) fun g0 hz0 hs0 => ?_)
    replace hz0 : IsZipF g0 z TI TO .ellipsis f1' := hz0
    replace hs0 : Heap.SameBut z h1 g0 := hs0
    have Wg := W1.but (.inl rfl) S hs0
    have hT0 : IsSeqT g0 TO arr := hs0.extBut _ _ S.TOz (hs1.extBut _ _ S.TOz hTO)
    refine wpAny_bind (wpAny_turns (fun (rs : List (Value × Nat)) (b : Option Fin × Unit) s2 => ∃ dn rl h2 ar, L = dn ++ rl ∧ rs = (rl.map (fun p => Value.ref p.it)).zipIdx dn.length ∧ b = (none, ()) ∧ s2 = ⟨h2, g, d, tk0, os⟩ ∧ IsZipF h2 z TI TO .ellipsis f1' ∧ ZAt z TI TO i dn rl hp h2 ∧ IsSeqT h2 TO ar ∧ ar.size = L.length ∧ ∀ j, j < dn.length → ar[j]? = (dn.map (ZOut i))[j]?) ?_ ?_ _ _ _ ⟨[], L, g0, arr, rfl, rfl, rfl, rfl, hz0, Wg, hT0, ha, fun j hj => absurd hj (Nat.not_lt_zero j)⟩)
    · rintro x rest b s2 ⟨dn, rl, h2, ar, eL, er, rfl, rfl, hz2, W2, hT2, hsz, hfi⟩
      cases rl with
      | nil => cases er
      | cons p rl =>
        rw [List.map_cons, List.zipIdx_cons] at er
        obtain ⟨rfl, rfl⟩ := List.cons.inj er
        subst eL
        have hp' := hlt p (List.mem_append_right _ (List.mem_cons_self ..))
        refine wpAny_bind (wpAny_onRaise ?_)
        show wpAny _ _ (Builtin.SmallTypes.nextOf (.ref p.it) >>= _) _ _ ⟨h2, g, d, tk0, os⟩
        refine wpAny_bind (RZ.nextOf_tuple_item (W2.left p (List.mem_cons_self ..)) (W2.tups p (List.mem_cons_self ..)) (x := ZOut i p) (by rw [ZOut, Array.getElem?_eq_getElem hp']; rfl) fun h3 h3i hs3 => wpAny_pure ?_)
        replace hs3 : Heap.SameBut p.it h2 h3 := hs3
        have W3 := W2.step S h3i hs3
        have hT3 : IsSeqT h3 TO ar := hs3.extBut _ _ (S.iTO p (List.mem_append_right _ (List.mem_cons_self ..))).symm hT2
        have hz3 : IsZipF h3 z TI TO .ellipsis f1' := hs3.extBut _ _ (S.iz p (List.mem_append_right _ (List.mem_cons_self ..))).symm hz2
        refine wpAny_bind (wpAny_seqItems (s := ⟨h3, g, d, tk0, os⟩) hT3 rfl ?_)
        have hsz4 : ar.size ≤ 4 := by omega
        refine wpAny_bind (wpAny_updateSeq (s := ⟨h3, g, d, tk0, os⟩) hT3 rfl ?_ (Nat.le_trans hsz4 (by decide)) (by rw [Array.size_setIfInBounds]; exact Nat.le_trans hsz4 (by decide)))
        have hs4 : Heap.SameBut TO h3 (h3.update TO (Obj.mapSeq (·.setIfInBounds dn.length (ZOut i p)))) := Heap.SameBut.update ..
        have hT4 : IsSeqT (h3.update TO (Obj.mapSeq (·.setIfInBounds dn.length (ZOut i p)))) TO (ar.setIfInBounds dn.length (ZOut i p)) := by
          show Heap.get? _ _ = _
          rw [Heap.get?_update_self _ hT3 rfl]
          simp [Obj.mapSeq]
        refine wpAny_bind (wpAny_letGo (wpAny_pure ⟨_, rfl, dn ++ [p], rl, _, _, by simp, by simp, rfl, rfl, hs4.extBut _ _ S.TOz.symm hz3, W3.but (.inr rfl) (by simpa using S) hs4, hT4, by rw [Array.size_setIfInBounds]; exact hsz, fun j hj => ?_⟩))
        rw [List.length_append, List.length_singleton] at hj
        rw [Array.getElem?_setIfInBounds]
        by_cases e : dn.length = j
        · subst e
          have : dn.length < ar.size := by rw [hsz, List.length_append, List.length_cons]; omega
          simp [this]
        · rw [if_neg e, hfi j (by omega), List.map_append, List.getElem?_append_left (by rw [List.length_map]; omega)]
    · rintro b s2 ⟨dn, rl, h2, ar, eL, er, rfl, rfl, hz2, W2, hT2, hsz, hfi⟩
      have erl : rl = [] := by
        cases rl with
        | nil => rfl
        | cons p r => rw [List.map_cons, List.zipIdx_cons] at er; cases er
      subst erl
      rw [List.append_nil] at eL
      subst eL
      have ear : ar = (L.map (ZOut i)).toArray := by
        apply Array.ext_getElem?
        intro j
        by_cases e : j < L.length
        · rw [hfi j e, List.getElem?_toArray]
        · rw [Array.getElem?_eq_none (by omega), List.getElem?_toArray, List.getElem?_eq_none (by rw [List.length_map]; omega)]
      subst ear
      refine wpAny_bind (wpAny_seqItems (s := ⟨h2, g, d, tk0, os⟩) hT2 rfl ?_)
      refine wpAny_bind (wpAny_newTuple ?_ (by simp only [List.length_map]; exact Nat.le_trans h4 (by decide)))
      show wpAny _ _ (Builtin.SmallTypes.ownedTupleHandOut (.ref z) (.ref h2.objs.size) >>= _) _ _ ⟨h2.push { cls := .type "tuple", data := .seq (L.map (ZOut i)).toArray }, g, d, tk0, os⟩
      refine wpAny_bind ?_
      unfold Builtin.SmallTypes.ownedTupleHandOut
      have hz6 : IsZipF (h2.push { cls := .type "tuple", data := .seq (L.map (ZOut i)).toArray }) z TI TO .ellipsis f1' := Heap.get?_push_of_some _ hz2
      refine wpAny_bind (wpAny_setField_rec hz6 (by simp) fun h7 hz7 hs7 => ?_)
      replace hz7 : IsZipF h7 z TI TO (rawInt h2.objs.size) f1' := hz7
      refine wpAny_setField_rec hz7 (by simp) fun h8 hz8 hs8 => ?_
      replace hz8 : IsZipF h8 z TI TO (rawInt h2.objs.size) (.bool false) := hz8
      replace hs7 : Heap.SameBut z (h2.push { cls := .type "tuple", data := .seq (L.map (ZOut i)).toArray }) h7 := hs7
      replace hs8 : Heap.SameBut z h7 h8 := hs8
      have up : ∀ c o, c ≠ z → h2.get? c = some o → h8.get? c = some o := fun c o c1 e => hs8.extBut _ _ c1 (hs7.extBut _ _ c1 (Heap.get?_push_of_some _ e))
      have hzlt : z < h2.objs.size := Heap.lt_size hz2
      have hT8 : IsSeqT h8 h2.objs.size (L.map (ZOut i)).toArray := hs8.extBut _ _ (Nat.ne_of_gt hzlt) (hs7.extBut _ _ (Nat.ne_of_gt hzlt) (Heap.get?_push_size _ rfl))
      have z8 : h8.objs.size = h2.objs.size + 1 := by rw [hs8.1, hs7.1, Heap.size_push]
      have esz := W2.sz
      rw [esz] at hT8 z8 hz8
      refine wpAny_pure ⟨_, rfl, ?_⟩
      show Q (.ref h2.objs.size) ⟨h8, g, d, tk0, os⟩
      rw [esz]
      refine hQ h8 _ _ _ hz8 (.inr ⟨_, rfl⟩) (up _ _ S.TOz hT2) (by simp) (fun p hp => ?_) hT8 z8 fun c o c1 c2 c3 e => up c o c1 (W2.rest c o c1 c2 (by simpa using c3) e)
      obtain ⟨o, ho, r⟩ := W2.drawn p hp
      exact ⟨o, up _ _ (S.iz p hp) ho, r⟩
  | false =>
    simp only [Bool.false_eq_true, if_false]
    refine wpAny_bind ?_
    rw [← Array.forIn_toList]
    refine wpAny_turns (fun (rs : List Value) (b : Option Fin × Array Value) s2 => ∃ dn rl h2, L = dn ++ rl ∧ rs = rl.map (fun p => Value.ref p.it) ∧ b = (none, (dn.map (ZOut i)).toArray) ∧ s2 = ⟨h2, g, d, tk0, os⟩ ∧ IsZipF h2 z TI TO f0 f1' ∧ ZAt z TI TO i dn rl hp h2 ∧ IsSeqT h2 TO arr) ?_ ?_ _ _ _ ⟨[], L, h1, rfl, by first | rfl | simp, rfl, rfl, hz1, W1, ?_⟩
    · rintro x rest b s2 ⟨dn, rl, h2, eL, er, rfl, rfl, hz2, W2, hT2⟩
      cases rl with
      | nil => cases er
      | cons p rl =>
        rw [List.map_cons] at er
        obtain ⟨rfl, rfl⟩ := List.cons.inj er
        subst eL
        have hp' := hlt p (List.mem_append_right _ (List.mem_cons_self ..))
        refine wpAny_bind (wpAny_holding ?_)
        show wpAny _ _ (Builtin.SmallTypes.nextOf (.ref p.it) >>= _) _ _ ⟨h2, g, d, tk0, os⟩
        refine wpAny_bind (RZ.nextOf_tuple_item (W2.left p (List.mem_cons_self ..)) (W2.tups p (List.mem_cons_self ..)) (x := ZOut i p) (by rw [ZOut, Array.getElem?_eq_getElem hp']; rfl) fun h3 h3i hs3 => wpAny_pure ?_)
        replace hs3 : Heap.SameBut p.it h2 h3 := hs3
        refine wpAny_pure ⟨_, rfl, dn ++ [p], rl, h3, by simp, rfl, by simp, rfl, hs3.extBut _ _ (S.iz p (List.mem_append_right _ (List.mem_cons_self ..))).symm hz2, W2.step S h3i hs3, hs3.extBut _ _ (S.iTO p (List.mem_append_right _ (List.mem_cons_self ..))).symm hT2⟩
    · rintro b s2 ⟨dn, rl, h2, eL, er, rfl, rfl, hz2, W2, hT2⟩
      have erl : rl = [] := by
        cases rl with
        | nil => rfl
        | cons p r => cases er
      subst erl
      rw [List.append_nil] at eL
      subst eL
      show wpAny _ _ (newTuple ((L.map (ZOut i)).toArray).toList >>= _) _ _ ⟨h2, g, d, tk0, os⟩
      refine wpAny_bind (wpAny_newTuple ?_ (by simp only [List.length_map]; exact Nat.le_trans h4 (by decide)))
      refine wpAny_pure ⟨_, rfl, ?_⟩
      have esz := W2.sz
      show Q (.ref h2.objs.size) ⟨h2.push { cls := .type "tuple", data := .seq (L.map (ZOut i)).toArray }, g, d, tk0, os⟩
      have hT8 : IsSeqT (h2.push { cls := .type "tuple", data := .seq (L.map (ZOut i)).toArray }) h2.objs.size (L.map (ZOut i)).toArray := Heap.get?_push_size _ rfl
      have z8 : (h2.push { cls := .type "tuple", data := .seq (L.map (ZOut i)).toArray }).objs.size = h2.objs.size + 1 := Heap.size_push ..
      have up : ∀ c o, h2.get? c = some o → (h2.push { cls := .type "tuple", data := .seq (L.map (ZOut i)).toArray }).get? c = some o := fun c o e => Heap.get?_push_of_some _ e
      generalize h2.push { cls := .type "tuple", data := .seq (L.map (ZOut i)).toArray } = h8 at hT8 z8 up ⊢
      rw [esz] at hT8 z8 ⊢
      refine hQ h8 _ _ _ (up _ _ hz2) hf (up _ _ hT2) ha (fun p hp => ?_) hT8 z8 fun c o c1 c2 c3 e => up c o (W2.rest c o c1 c2 (by simpa using c3) e)
      obtain ⟨o, ho, r⟩ := W2.drawn p hp
      exact ⟨o, up _ _ ho, r⟩
    · exact hs1.extBut _ _ S.TOz hTO
theorem zn_end {z TI TO : Addr} {L : List ZIt} {i : Nat} {f0 f1 : Value} {arr : Array Value} {Q : Fin → Shared → Prop} (hh : A.handled = none) (S : ZSep z TI TO L) (hL : L ≠ [])
    (hz : IsZipF s.heap z TI TO f0 f1) (hf : f0 = .none ∨ ∃ T : Nat, f0 = rawInt T) (hTI : IsSeqT s.heap TI ((L.map fun p => Value.ref p.it).toArray)) (hTO : IsSeqT s.heap TO arr)
    (hi : ∀ p ∈ L, s.heap.IsTupleIter p.it p.tup i) (ht : ∀ p ∈ L, s.heap.IsTuple p.tup p.xs) (hlt : ∀ p ∈ L, i = p.xs.size)
    (hE : ∀ h' e, (∀ c o, c ≠ z → c ≠ TO → (∀ p ∈ L, c ≠ p.it) → s.heap.get? c = some o → h'.get? c = some o) → (∃ o, h'.get? e = some o ∧ o.cls = .type "StopIteration") → E (.ref e) { s with heap := h' }) :
    wpAny (model prog w) A (Builtin.«zip.__next__» ⟨[.ref z], []⟩) Q E s := by
  cases L with
  | nil => exact absurd rfl hL
  | cons p L =>
  obtain ⟨hp, g, d, tk0, os⟩ := s
  have pm : p ∈ p :: L := List.mem_cons_self ..
  have hx : p.xs[i]? = none := Array.getElem?_eq_none (by rw [hlt p pm]; exact Nat.le_refl _)
  show wpAny _ _ (field (.ref z) 2 >>= _) _ _ _
  refine wpAny_bind (wpAny_field hz rfl (x := .bool false) rfl ?_)
  show wpAny _ _ (field (.ref z) 3 >>= _) _ _ _
  refine wpAny_bind (wpAny_field hz rfl (x := .ref TI) rfl ?_)
  refine wpAny_bind (wpAny_seqItems hTI rfl ?_)
  have hne : (((p :: L).map fun p => Value.ref p.it).toArray).isEmpty = false := rfl
  simp only [hne, Bool.false_eq_true, if_false]
  show wpAny _ _ (Builtin.SmallTypes.ownedTupleIsFree (.ref z) >>= _) _ _ _
  refine wpAny_bind (owned_any hz hf fun b h1 f1' hz1 hs1 => ?_)
  replace hs1 : Heap.SameBut z hp h1 := hs1
  cases b with
  | true =>
    simp only [if_true]
    refine wpAny_bind (wpAny_rule ?_)
    refine wpAny_bind (wpAny_field hz1 rfl (x := .ref TO) rfl ?_)
    refine wpAny_bind (wpAny_setField_rec hz1 (by simp) fun g0 hz0 hs0 => ?_)
    replace hz0 : IsZipF g0 z TI TO .ellipsis f1' := hz0
    replace hs0 : Heap.SameBut z h1 g0 := hs0
    refine wpAny_bind ?_
    simp only [List.map_cons, List.zipIdx_cons, List.forIn_cons]
    refine wpAny_bind (wpAny_bind (wpAny_onRaise ?_))
    show wpAny _ _ (Builtin.SmallTypes.nextOf (.ref p.it) >>= _) _ _ ⟨g0, g, d, tk0, os⟩
    refine wpAny_bind (RZ.nextOf_tuple_end (s := ⟨g0, g, d, tk0, os⟩) hh (((hi p pm).extBut hs1.extBut (S.iz p pm)).extBut hs0.extBut (S.iz p pm)) (((ht p pm).extBut hs1.extBut (S.tz p pm)).extBut hs0.extBut (S.tz p pm)) hx fun q e hq he => ?_)
    replace hq : Heap.ExtBut p.it g0 q := hq
    obtain ⟨oe, hoe, hce⟩ := he
    replace hoe : q.get? e = some oe := hoe
    have hzq : IsZipF q z TI TO .ellipsis f1' := hq _ _ (S.iz p pm).symm hz0
    have hez : e ≠ z := fun x => by subst x; rw [hzq] at hoe; cases hoe; simp at hce
    refine wpAny_setField_rec (s := ⟨q, g, d, tk0, os⟩) hzq (by simp) fun q' _ hq' => ?_
    replace hq' : Heap.SameBut z q q' := hq'
    exact hE q' e (fun c o cz cT c1 x => hq'.extBut _ _ cz (hq _ _ (c1 p pm) (hs0.extBut _ _ cz (hs1.extBut _ _ cz x)))) ⟨oe, hq'.extBut _ _ hez hoe, hce⟩
  | false =>
    simp only [Bool.false_eq_true, if_false]
    refine wpAny_bind ?_
    rw [← Array.forIn_toList]
    simp only [List.map_cons, List.forIn_cons]
    refine wpAny_bind (wpAny_bind (wpAny_holding ?_))
    show wpAny _ _ (Builtin.SmallTypes.nextOf (.ref p.it) >>= _) _ _ ⟨h1, g, d, tk0, os⟩
    refine wpAny_bind (RZ.nextOf_tuple_end (s := ⟨h1, g, d, tk0, os⟩) hh ((hi p pm).extBut hs1.extBut (S.iz p pm)) ((ht p pm).extBut hs1.extBut (S.tz p pm)) hx fun q e hq he => ?_)
    exact hE q e (fun c o cz cT c1 x => hq _ _ (c1 p pm) (hs1.extBut _ _ cz x)) he
theorem pyNext_zn_item {z TI TO : Addr} {L : List ZIt} {i : Nat} {f0 f1 : Value} {arr : Array Value} {Q : Option Value → Shared → Prop} (S : ZSep z TI TO L) (hL : L ≠ []) (h4 : L.length ≤ 4)
    (hz : IsZipF s.heap z TI TO f0 f1) (hf : f0 = .none ∨ ∃ T : Nat, f0 = rawInt T) (hTI : IsSeqT s.heap TI ((L.map fun p => Value.ref p.it).toArray)) (hTO : IsSeqT s.heap TO arr) (ha : arr.size = L.length)
    (hi : ∀ p ∈ L, s.heap.IsTupleIter p.it p.tup i) (ht : ∀ p ∈ L, s.heap.IsTuple p.tup p.xs) (hlt : ∀ p ∈ L, i < p.xs.size)
    (hQ : ∀ h' g0 g1 arr', IsZipF h' z TI TO g0 g1 → (g0 = .none ∨ ∃ T : Nat, g0 = rawInt T) → IsSeqT h' TO arr' → arr'.size = L.length → (∀ p ∈ L, h'.IsTupleIter p.it p.tup (i + 1)) →
      IsSeqT h' s.heap.objs.size ((L.map (ZOut i)).toArray) → h'.objs.size = s.heap.objs.size + 1 →
      (∀ c o, c ≠ z → c ≠ TO → (∀ p ∈ L, c ≠ p.it) → s.heap.get? c = some o → h'.get? c = some o) → Q (some (.ref s.heap.objs.size)) { s with heap := h' }) :
    wpAny (model prog w) A (pyNext (.ref z)) Q E s := by
  have hT : s.TypeIs (.ref z) "zip" := ⟨_, hz, rfl⟩
  unfold pyNext
  exact wpAny_bind (wpAny_attempt (wpAny_callSpecial?_slot (name := Str.ofString "__next__") hT F.slot_zip_next
    (wpAny_call_entry F.slot_zip_next hT F.entry_zip_next
      (zn_item S hL h4 hz hf hTI hTO ha hi ht hlt fun h' g0 g1 arr' b1 b2 b3 b4 b5 b6 b7 b8 => wpAny_pure (hQ h' g0 g1 arr' b1 b2 b3 b4 b5 b6 b7 b8)) (F.args_zip_next_1 _))))
theorem pyNext_zn_end {z TI TO : Addr} {L : List ZIt} {i : Nat} {f0 f1 : Value} {arr : Array Value} {Q : Option Value → Shared → Prop} (hh : A.in1.handled = none) (S : ZSep z TI TO L) (hL : L ≠ [])
    (hz : IsZipF s.heap z TI TO f0 f1) (hf : f0 = .none ∨ ∃ T : Nat, f0 = rawInt T) (hTI : IsSeqT s.heap TI ((L.map fun p => Value.ref p.it).toArray)) (hTO : IsSeqT s.heap TO arr)
    (hi : ∀ p ∈ L, s.heap.IsTupleIter p.it p.tup i) (ht : ∀ p ∈ L, s.heap.IsTuple p.tup p.xs) (hlt : ∀ p ∈ L, i = p.xs.size)
    (hQ : ∀ h', (∀ c o, c ≠ z → c ≠ TO → (∀ p ∈ L, c ≠ p.it) → s.heap.get? c = some o → h'.get? c = some o) → Q none { s with heap := h' }) :
    wpAny (model prog w) A (pyNext (.ref z)) Q E s := by
  have hT : s.TypeIs (.ref z) "zip" := ⟨_, hz, rfl⟩
  unfold pyNext
  refine wpAny_bind (wpAny_attempt (wpAny_callSpecial?_slot (name := Str.ofString "__next__") hT F.slot_zip_next
    (wpAny_call_entry F.slot_zip_next hT F.entry_zip_next (zn_end hh S hL hz hf hTI hTO hi ht hlt fun h' e hk he => ?_) (F.args_zip_next_1 _))))
  obtain ⟨o, ho, hc⟩ := he
  refine wpAny_bind (wpAny_isInstance (T := "StopIteration") (b := true) ⟨o, ho, hc⟩ isSubtype_stop ?_)
  exact wpAny_pure (hQ _ hk)
theorem pyIter_zn {z TI TO : Addr} {f0 f1 : Value} {Q : Value → Shared → Prop} (hz : IsZipF s.heap z TI TO f0 f1) (h : Q (.ref z) s) : wpAny (model prog w) A (pyIter (.ref z)) Q E s := by
  have hT : s.TypeIs (.ref z) "zip" := ⟨_, hz, rfl⟩
  refine wpAny_pyIter_slot hT F.slot_zip_iter (wpAny_call_entry F.slot_zip_iter hT F.entry_zip_iter ?_ (F.args_zip_iter_1 _))
  show wpAny _ _ (ret (.ref z)) _ _ s
  exact wpAny_pure ⟨_, rfl, "zip", _, hT, F.slot_zip_next.lookup, h⟩
end
end Px

set_option Elab.async false
set_option linter.all false
set_option maxRecDepth 100000
set_option maxHeartbeats 2000000
/-! Px: zip(*rows) begins; what a walk over it gives; the rule. -/
namespace Px
open PySem PySem.Spec PyProof.Rows L2
open Sem (wp)
theorem tc_zip : ∀ xs : List Value, xs ≠ [] → xs.length ≤ 4 → checkTypeCall "zip" ⟨xs, []⟩ = pure () ∧ checkBuiltinCall "zip.__new__" ⟨.type "zip" :: xs, []⟩ = pure () ∧ ∀ obj, argsOk "object.__init__" ⟨obj :: xs, []⟩
  | [], h, _ => absurd rfl h
  | [a], _, _ => ⟨by kernel_rfl, by kernel_rfl, fun obj => by unfold argsOk; kernel_rfl⟩
  | [a, b], _, _ => ⟨by kernel_rfl, by kernel_rfl, fun obj => by unfold argsOk; kernel_rfl⟩
  | [a, b, c], _, _ => ⟨by kernel_rfl, by kernel_rfl, fun obj => by unfold argsOk; kernel_rfl⟩
  | [a, b, c, d], _, _ => ⟨by kernel_rfl, by kernel_rfl, fun obj => by unfold argsOk; kernel_rfl⟩
  | a :: b :: c :: d :: e :: r, _, h => absurd h (by simp only [List.length_cons]; omega)
def itsFrom : Nat → List Addr → List Addr
  | _, [] => []
  | n, _ :: as => n :: itsFrom (n + 1) as
theorem itsFrom_len : ∀ n as, (itsFrom n as).length = as.length
  | _, [] => rfl
  | n, _ :: as => congrArg (· + 1) (itsFrom_len (n + 1) as)
theorem itsFrom_app : ∀ n (as : List Addr) (a : Addr), itsFrom n (as ++ [a]) = itsFrom n as ++ [n + as.length]
  | n, [], a => rfl
  | n, b :: as, a => by
    show n :: itsFrom (n + 1) (as ++ [a]) = n :: (itsFrom (n + 1) as ++ [n + (as.length + 1)])
    rw [itsFrom_app (n + 1) as a, Nat.add_right_comm, Nat.add_assoc]
/-- the iterators `its` stand at `i` over the tuples `as` -/
def AtIts (h : Heap) (i : Nat) : List Addr → List Addr → Prop
  | t :: its, a :: as => h.IsTupleIter t a i ∧ AtIts h i its as
  | [], [] => True
  | _, _ => False
theorem AtIts.keep {h h' : Heap} {i : Nat} : ∀ {its as : List Addr}, AtIts h i its as → (∀ t ∈ its, ∀ o, h.get? t = some o → h'.get? t = some o) → AtIts h' i its as
  | [], [], _, _ => trivial
  | t :: its, a :: as, ⟨h1, h2⟩, k => ⟨h1.at fun o e => k t (List.mem_cons_self ..) o e, h2.keep fun t ht => k t (List.mem_cons_of_mem _ ht)⟩
  | [], _ :: _, h, _ => h
  | _ :: _, [], h, _ => h
theorem AtIts.app {h : Heap} {i : Nat} : ∀ {its as : List Addr} {t a : Addr}, AtIts h i its as → h.IsTupleIter t a i → AtIts h i (its ++ [t]) (as ++ [a])
  | [], [], _, _, _, q => ⟨q, trivial⟩
  | _ :: _, _ :: _, _, _, ⟨h1, h2⟩, q => ⟨h1, h2.app q⟩
  | [], _ :: _, _, _, h, _ => h.elim
  | _ :: _, [], _, _, h, _ => h.elim
theorem iterAll_tups {prog : Program} {w : World} {A : Around} {E : Value → Shared → Prop} {hp : Heap} {g : Array GenState} {d : Drawn} {tk : Nat} {os : OsState} {as : List Addr} {Q : List Value → Shared → Prop} (ht : ∀ a ∈ as, ∃ its, hp.IsTuple a its)
    (h : ∀ h2, h2.objs.size = hp.objs.size + as.length → (∀ b o, hp.get? b = some o → h2.get? b = some o) → AtIts h2 0 (itsFrom hp.objs.size as) as → Q ((itsFrom hp.objs.size as).map Value.ref) ⟨h2, g, d, tk, os⟩) :
    wpAny (model prog w) A (Builtin.SmallTypes.iterAll (as.map Value.ref)) Q E ⟨hp, g, d, tk, os⟩ := by
  unfold Builtin.SmallTypes.iterAll
  refine wpAny_bind (wpAny_turns (fun (rs : List Value) (b : Array Value) s2 => ∃ dn rl h2, as = dn ++ rl ∧ rs = rl.map Value.ref ∧ b = ((itsFrom hp.objs.size dn).map Value.ref).toArray ∧ s2 = ⟨h2, g, d, tk, os⟩ ∧ h2.objs.size = hp.objs.size + dn.length ∧ (∀ b o, hp.get? b = some o → h2.get? b = some o) ∧ AtIts h2 0 (itsFrom hp.objs.size dn) dn) ?_ ?_ _ _ _ ⟨[], as, hp, rfl, rfl, rfl, rfl, rfl, fun _ _ e => e, trivial⟩)
  · rintro x rest b s2 ⟨dn, rl, h2, ea, er, rfl, rfl, hsz, hk, hi⟩
    cases rl with
    | nil => cases er
    | cons p rl =>
      rw [List.map_cons] at er
      obtain ⟨rfl, rfl⟩ := List.cons.inj er
      subst ea
      obtain ⟨its, hp1⟩ := ht p (List.mem_append_right _ (List.mem_cons_self ..))
      have hp2 : h2.IsTuple p its := let ⟨o, ho, r⟩ := hp1; ⟨o, hk _ _ ho, r⟩
      refine wpAny_bind (wpAny_holding (wpAny_pyIter_tuple (s := ⟨h2, g, d, tk, os⟩) hp2 (wpAny_pure ⟨_, rfl, dn ++ [p], rl, _, by simp, rfl, ?_, rfl, ?_, fun b o e => Heap.get?_push_of_some _ (hk b o e), ?_⟩)))
      · rw [itsFrom_app, List.map_append, hsz]; simp
      · show (Heap.push _ _).objs.size = _
        rw [Heap.size_push, hsz, List.length_append]; rfl
      · rw [itsFrom_app]
        refine AtIts.app (hi.keep fun t _ o e => Heap.get?_push_of_some _ e) ?_
        rw [← hsz]
        exact ⟨_, Heap.get?_push_size _ rfl, rfl, rfl⟩
  · rintro b s2 ⟨dn, rl, h2, ea, er, rfl, rfl, hsz, hk, hi⟩
    have erl : rl = [] := by
      cases rl with
      | nil => rfl
      | cons p r => cases er
    subst erl
    rw [List.append_nil] at ea
    subst ea
    exact wpAny_pure (h h2 hsz hk hi)
theorem meets_zip_newN {as : List Addr} (h0 : as ≠ []) (h4 : as.length ≤ 4) :
    Meets (Builtin.«zip.__new__» ⟨.type "zip" :: as.map Value.ref, []⟩) (fun _ R s => (∀ a ∈ as, ∃ its, s.heap.IsTuple a its) ∧
      ∀ h', IsZipF h' (s.heap.objs.size + as.length + 2) (s.heap.objs.size + as.length) (s.heap.objs.size + as.length + 1) .none (.bool false) → IsSeqT h' (s.heap.objs.size + as.length) (((itsFrom s.heap.objs.size as).map Value.ref).toArray) →
        (∃ arr, IsSeqT h' (s.heap.objs.size + as.length + 1) arr ∧ arr.size = as.length) → (∀ b o, s.heap.get? b = some o → h'.get? b = some o) → AtIts h' 0 (itsFrom s.heap.objs.size as) as → h'.objs.size = s.heap.objs.size + as.length + 3 →
        R (.ok (.ret (.ref (s.heap.objs.size + as.length + 2)))) { s with heap := h' }) :=
  .of_wp fun prog w A R s h => by
    obtain ⟨hp, g, d, tk, os⟩ := s; obtain ⟨ht, h⟩ := h
    have hsub := sub_zip
    have q1 : ∀ {A' : Around} {E : Value → Shared → Prop} {Q : List Value → Shared → Prop}, (∀ h2, h2.objs.size = hp.objs.size + as.length → (∀ b o, hp.get? b = some o → h2.get? b = some o) → AtIts h2 0 (itsFrom hp.objs.size as) as → Q ((itsFrom hp.objs.size as).map Value.ref) ⟨h2, g, d, tk, os⟩) →
        wpAny (model prog w) A' (Builtin.SmallTypes.iterAll (as.map Value.ref)) Q E ⟨hp, g, d, tk, os⟩ := fun q => iterAll_tups ht q
    have hl : ((itsFrom hp.objs.size as).map Value.ref).length ≤ sizeLine := by rw [List.length_map, itsFrom_len]; exact Nat.le_trans h4 (by decide)
    have hl2 : (((itsFrom hp.objs.size as).map Value.ref).map fun _ => Value.none).length ≤ sizeLine := by rw [List.length_map, List.length_map, itsFrom_len]; exact Nat.le_trans h4 (by decide)
    have q2 : ∀ {A' : Around} {E : Value → Shared → Prop} {Q : Value × List Value → Shared → Prop} {s : Shared}, Q (.type "zip", as.map Value.ref) s → wpAny (model prog w) A' (Builtin.SmallTypes.newClass "zip" ⟨.type "zip" :: as.map Value.ref, []⟩) Q E s := fun q => by
      unfold Builtin.SmallTypes.newClass
      wp_walk
      exact q
    unfold Builtin.«zip.__new__»
    refine wpAny_bind (q2 ?_)
    refine wpAny_bind (q1 fun h2 hsz hk hi => ?_)
    refine wpAny_bind (wpAny_newTuple ?_ hl)
    refine wpAny_bind (wpAny_newTuple ?_ hl2)
    have ha : (((itsFrom hp.objs.size as).map Value.ref).map fun _ => Value.none).toArray.size = as.length := by simp [itsFrom_len]
    generalize ((itsFrom hp.objs.size as).map Value.ref).map (fun _ => Value.none) = nones at hl2 ha ⊢
    have g1 : (h2.push { cls := .type "tuple", data := .seq ((itsFrom hp.objs.size as).map Value.ref).toArray }).get? h2.objs.size = some { cls := .type "tuple", data := .seq ((itsFrom hp.objs.size as).map Value.ref).toArray } := Heap.get?_push_size _ rfl
    have k1 : ∀ b o, h2.get? b = some o → (h2.push { cls := .type "tuple", data := .seq ((itsFrom hp.objs.size as).map Value.ref).toArray }).get? b = some o := fun b o e => Heap.get?_push_of_some _ e
    have s1 : (h2.push { cls := .type "tuple", data := .seq ((itsFrom hp.objs.size as).map Value.ref).toArray }).objs.size = h2.objs.size + 1 := Heap.size_push ..
    show wpAny _ _ _ _ _ ⟨(h2.push { cls := .type "tuple", data := .seq ((itsFrom hp.objs.size as).map Value.ref).toArray }).push { cls := .type "tuple", data := .seq nones.toArray }, g, d, tk, os⟩
    show wpAny _ _ (Builtin.SmallTypes.newRecord (.type "zip") (Builtin.SmallTypes.ownedTupleFields ++ [.bool false, .ref h2.objs.size, .ref (h2.push { cls := .type "tuple", data := .seq ((itsFrom hp.objs.size as).map Value.ref).toArray }).objs.size]) >>= _) _ _ _
    generalize h2.push { cls := .type "tuple", data := .seq ((itsFrom hp.objs.size as).map Value.ref).toArray } = h3 at g1 k1 s1 ⊢
    have g2 : (h3.push { cls := .type "tuple", data := .seq nones.toArray }).get? h3.objs.size = some { cls := .type "tuple", data := .seq nones.toArray } := Heap.get?_push_size _ rfl
    have k2 : ∀ b o, h3.get? b = some o → (h3.push { cls := .type "tuple", data := .seq nones.toArray }).get? b = some o := fun b o e => Heap.get?_push_of_some _ e
    have s2 : (h3.push { cls := .type "tuple", data := .seq nones.toArray }).objs.size = h3.objs.size + 1 := Heap.size_push ..
    generalize h3.push { cls := .type "tuple", data := .seq nones.toArray } = h4' at g2 k2 s2 ⊢
    unfold Builtin.SmallTypes.newRecord
    wp_walk
    have e3 : h3.objs.size = hp.objs.size + as.length + 1 := by rw [s1, hsz]
    have e4 : h4'.objs.size = hp.objs.size + as.length + 2 := by rw [s2, e3]
    have up : ∀ b o, h4'.get? b = some o → (h4'.push { cls := .type "zip", data := .fields #[Value.none, Value.bool false, Value.bool false, Value.ref h2.objs.size, Value.ref h3.objs.size] }).get? b = some o := fun b o e => Heap.get?_push_of_some _ e
    have gz : (h4'.push { cls := .type "zip", data := .fields #[Value.none, Value.bool false, Value.bool false, Value.ref h2.objs.size, Value.ref h3.objs.size] }).get? h4'.objs.size = some { cls := .type "zip", data := .fields #[Value.none, Value.bool false, Value.bool false, Value.ref h2.objs.size, Value.ref h3.objs.size] } := Heap.get?_push_size _ rfl
    have sz : (h4'.push { cls := .type "zip", data := .fields #[Value.none, Value.bool false, Value.bool false, Value.ref h2.objs.size, Value.ref h3.objs.size] }).objs.size = h4'.objs.size + 1 := Heap.size_push ..
    refine ⟨_, rfl, ?_⟩
    show R (.ok (.ret (.ref h4'.objs.size))) ⟨h4'.push { cls := .type "zip", data := .fields #[Value.none, Value.bool false, Value.bool false, Value.ref h2.objs.size, Value.ref h3.objs.size] }, g, d, tk, os⟩
    generalize h4'.push { cls := .type "zip", data := .fields #[Value.none, Value.bool false, Value.bool false, Value.ref h2.objs.size, Value.ref h3.objs.size] } = h5 at up gz sz ⊢
    rw [e3, hsz] at gz
    rw [e4] at gz sz ⊢
    rw [e3] at g2
    rw [hsz] at g1
    exact h h5 gz (up _ _ (k2 _ _ g1)) ⟨nones.toArray, up _ _ g2, ha⟩ (fun b o e => up _ _ (k2 _ _ (k1 _ _ (hk _ _ e)))) (hi.keep fun t _ o e => up _ _ (k2 _ _ (k1 _ _ e))) sz
theorem call_zipN {prog : Program} {w : World} {A : Around} {E : Value → Shared → Prop} {s : Shared} {as : List Addr} {Q : Value → Shared → Prop} (h0 : as ≠ []) (h4 : as.length ≤ 4) (ht : ∀ a ∈ as, ∃ its, s.heap.IsTuple a its)
    (h : ∀ h', IsZipF h' (s.heap.objs.size + as.length + 2) (s.heap.objs.size + as.length) (s.heap.objs.size + as.length + 1) .none (.bool false) → IsSeqT h' (s.heap.objs.size + as.length) (((itsFrom s.heap.objs.size as).map Value.ref).toArray) →
        (∃ arr, IsSeqT h' (s.heap.objs.size + as.length + 1) arr ∧ arr.size = as.length) → (∀ b o, s.heap.get? b = some o → h'.get? b = some o) → AtIts h' 0 (itsFrom s.heap.objs.size as) as → h'.objs.size = s.heap.objs.size + as.length + 3 →
        Q (.ref (s.heap.objs.size + as.length + 2)) { s with heap := h' }) :
    wpAny (model prog w) A (call (.type "zip") (as.map Value.ref)) Q E s := by
  obtain ⟨c1, c2, c3⟩ := tc_zip (as.map Value.ref) (by cases as with | nil => exact absurd rfl h0 | cons a r => exact fun e => by cases e) (by rw [List.length_map]; exact h4)
  refine callType_new F.called_zip (by decide) c1 c2 c3 F.entry_zip_new (meets_zip_newN h0 h4) ⟨ht, fun h' q1 q2 q3 q4 q5 q6 => ?_⟩
  exact ⟨⟨_, q1, rfl⟩, h h' q1 q2 q3 q4 q5 q6⟩
/-! ### the turn -/
def RowsAt (K : PySem.W.Frag) (H : Hp) : List Addr → List (List V) → Prop
  | a :: as, r :: rs => SqT K H a r ∧ RowsAt K H as rs
  | [], [] => True
  | _, _ => False
theorem RowsAt.len {K : PySem.W.Frag} {H : Hp} : ∀ {as rs}, RowsAt K H as rs → as.length = rs.length
  | [], [], _ => rfl
  | _ :: _, _ :: _, ⟨_, h⟩ => congrArg (· + 1) h.len
  | [], _ :: _, h => h.elim
  | _ :: _, [], h => h.elim
def xsOf (h : Heap) (a : Addr) : Array Value := match h.get? a with
  | some ⟨_, _, .seq its _, _⟩ => its
  | _ => #[]
theorem xsOf_eq {h : Heap} {a : Addr} {its : Array Value} (x : h.IsTuple a its) : xsOf h a = its := by
  obtain ⟨⟨c, dc, dt, sl⟩, ho, _, n, hd⟩ := x
  simp only at hd
  subst hd
  unfold xsOf
  rw [ho]
def mkL (h : Heap) : List Addr → List Addr → List ZIt
  | t :: its, a :: as => ⟨t, a, xsOf h a⟩ :: mkL h its as
  | _, _ => []
theorem mkL_it (h : Heap) : ∀ {its as : List Addr}, its.length = as.length → (mkL h its as).map (·.it) = its
  | [], [], _ => rfl
  | t :: its, a :: as, e => congrArg (t :: ·) (mkL_it h (Nat.succ.inj e))
  | [], _ :: _, e => by cases e
  | _ :: _, [], e => by cases e
theorem mkL_tup (h : Heap) : ∀ {its as : List Addr}, its.length = as.length → (mkL h its as).map (·.tup) = as
  | [], [], _ => rfl
  | t :: its, a :: as, e => congrArg (a :: ·) (mkL_tup h (Nat.succ.inj e))
  | [], _ :: _, e => by cases e
  | _ :: _, [], e => by cases e
theorem AtIts.mk {h g : Heap} {i : Nat} : ∀ {its as : List Addr}, AtIts h i its as → ∀ p ∈ mkL g its as, h.IsTupleIter p.it p.tup i
  | [], [], _, _, hp => nomatch hp
  | t :: its, a :: as, ⟨h1, h2⟩, p, hp => by
    rcases List.mem_cons.mp hp with rfl | hp
    · exact h1
    · exact h2.mk p hp
  | [], _ :: _, h, _, _ => h.elim
  | _ :: _, [], h, _, _ => h.elim
theorem AtIts.of {h g : Heap} {i : Nat} : ∀ {its as : List Addr}, its.length = as.length → (∀ p ∈ mkL g its as, h.IsTupleIter p.it p.tup i) → AtIts h i its as
  | [], [], _, _ => trivial
  | t :: its, a :: as, e, q => ⟨q _ (List.mem_cons_self ..), AtIts.of (Nat.succ.inj e) fun p hp => q p (List.mem_cons_of_mem _ hp)⟩
  | [], _ :: _, e, _ => by cases e
  | _ :: _, [], e, _ => by cases e
theorem rows_facts {X : Cx} {pins : List (Addr × Obj)} {σ : L2.St} {H : Hp} {s : Shared} (I : L2.Inv X pins σ H s) : ∀ {its as : List Addr} {rows : List (List V)}, its.length = as.length → RowsAt X.K H as rows →
    (∀ p ∈ mkL s.heap its as, s.heap.IsTuple p.tup p.xs) ∧ (∀ i, (∀ r ∈ rows, i < r.length) → (∀ p ∈ mkL s.heap its as, i < p.xs.size) ∧ Vals (rows.map fun r => (r[i]?).getD .non) ((mkL s.heap its as).map (ZOut i))) ∧ (∀ i, (∀ r ∈ rows, r.length = i) → ∀ p ∈ mkL s.heap its as, i = p.xs.size)
  | [], [], [], _, _ => ⟨fun _ h => absurd h (List.not_mem_nil), fun i _ => ⟨fun _ h => absurd h (List.not_mem_nil), .nil⟩, fun i _ _ h => absurd h (List.not_mem_nil)⟩
  | t :: its, a :: as, r :: rs, e, ⟨q1, q2⟩ => by
    obtain ⟨h1, h2, h3⟩ := rows_facts I (Nat.succ.inj e) q2
    obtain ⟨ys, rv, p1, _⟩ := I.tuple q1
    have p1' : s.heap.IsTuple a ys.toArray := p1
    have ex := xsOf_eq p1'
    have hl := rv.length
    refine ⟨fun p hp => ?_, fun i hi => ⟨fun p hp => ?_, ?_⟩, fun i hi p hp => ?_⟩
    · rcases List.mem_cons.mp hp with rfl | hp
      · show s.heap.IsTuple a (xsOf s.heap a)
        rw [ex]; exact p1'
      · exact h1 p hp
    · rcases List.mem_cons.mp hp with rfl | hp
      · show i < (xsOf s.heap a).size
        rw [ex, List.size_toArray, ← hl]; exact hi r (List.mem_cons_self ..)
      · exact (h2 i fun x hx => hi x (List.mem_cons_of_mem _ hx)).1 p hp
    · refine .cons ?_ (h2 i fun x hx => hi x (List.mem_cons_of_mem _ hx)).2
      have hi' := hi r (List.mem_cons_self ..)
      have er : r[i]? = some r[i] := List.getElem?_eq_getElem hi'
      obtain ⟨u, hu, ru⟩ := rv.get er
      show RelV ((r[i]?).getD .non) (((xsOf s.heap a)[i]?).getD .none)
      rw [ex, er, List.getElem?_toArray, hu]
      exact ru
    · rcases List.mem_cons.mp hp with rfl | hp
      · show i = (xsOf s.heap a).size
        rw [ex, List.size_toArray, ← hl]; exact (hi r (List.mem_cons_self ..)).symm
      · exact h3 i (fun x hx => hi x (List.mem_cons_of_mem _ hx)) p hp
  | [], [], _ :: _, _, h => h.elim
  | [], _ :: _, _, e, _ => by cases e
  | _ :: _, [], _, e, _ => by cases e
  | _ :: _, _ :: _, [], _, h => h.elim
theorem rows_inj {X : Cx} {pins : List (Addr × Obj)} {σ : L2.St} {H : Hp} {s : Shared} (I : L2.Inv X pins σ H s) : ∀ {as : List Addr} {rs rs' : List (List V)}, RowsAt X.K H as rs → RowsAt X.K H as rs' → rs = rs'
  | [], [], [], _, _ => rfl
  | a :: as, r :: rs, r' :: rs', ⟨q1, q2⟩, ⟨p1, p2⟩ => by rw [I.tuple_inj q1 p1, rows_inj I q2 p2]
  | [], _ :: _, _, h, _ => h.elim
  | [], [], _ :: _, _, h => h.elim
  | _ :: _, [], _, h, _ => h.elim
  | _ :: _, _ :: _, [], _, h => h.elim
def ItzN (K : PySem.W.Frag) (as : List Addr) : It where
  go := fun i H => ∃ rows, RowsAt K H as rows ∧ ∀ r ∈ rows, i < r.length
  yld := fun i H v H' => ∃ T col, v = V.ref T ∧ H T = none ∧ H' = upd H T (HO.tup col) ∧ ∀ rows, RowsAt K H as rows → col = rows.map fun r => (r[i]?).getD .non
  stop := fun i H => ∃ rows, RowsAt K H as rows ∧ ∀ r ∈ rows, r.length = i
theorem turn_zn {P : Program} {w : World} {K : PySem.W.Frag} {x : Str} {tpos : Pos} {z TI TO : Addr} {its as : List Addr} (S : ∀ h, ZSep z TI TO (mkL h its as)) (hl : its.length = as.length) (h0 : as ≠ []) (h4 : as.length ≤ 4) :
    Turn P w K (.Name x tpos) (ItzN K as) (z :: TI :: TO :: its) z (fun i h => (∃ f0 f1, IsZipF h z TI TO f0 f1 ∧ (f0 = .none ∨ ∃ T : Nat, f0 = rawInt T)) ∧ IsSeqT h TI ((its.map Value.ref).toArray) ∧ (∃ arr, IsSeqT h TO arr ∧ arr.size = as.length) ∧ AtIts h i its as) where
  mem := by simp
  obj := fun i h st c hc => by
    obtain ⟨⟨f0, f1, hz, _⟩, hTI, ⟨arr, hTO, _⟩, hi⟩ := st
    rcases List.mem_cons.mp hc with q | hc
    · rw [q]; exact ⟨_, hz, fun v q => nomatch q⟩
    · rcases List.mem_cons.mp hc with q | hc
      · rw [q]; exact ⟨_, hTI, fun v q => nomatch q⟩
      · rcases List.mem_cons.mp hc with q | hc
        · rw [q]; exact ⟨_, hTO, fun v q => nomatch q⟩
        · rw [← mkL_it h hl] at hc
          obtain ⟨p, hp, rfl⟩ := List.mem_map.mp hc
          obtain ⟨o, e, _, d⟩ := hi.mk p hp
          exact ⟨o, e, fun v q => by rw [d] at q; cases q⟩
  keep := fun i h h' st k => by
    obtain ⟨⟨f0, f1, hz, hf⟩, hTI, ⟨arr, hTO, ha⟩, hi⟩ := st
    exact ⟨⟨f0, f1, k z (by simp) _ hz, hf⟩, k TI (by simp) _ hTI, ⟨arr, k TO (by simp) _ hTO, ha⟩, hi.keep fun t ht o e => k t (by simp [ht]) o e⟩
  item := by
    intro X hP hw hK hc i pins s σ H E I hf st hg
    subst hP hw
    obtain ⟨⟨f0, f1, hz, hf0⟩, hTI, ⟨arr, hTO, ha⟩, hi⟩ := st
    obtain ⟨rows, hr, hlt⟩ := hg
    have hr' : RowsAt X.K H as rows := by rw [hK]; exact hr
    obtain ⟨t1, t2, _⟩ := rows_facts I hl hr'
    obtain ⟨t3, t4⟩ := t2 i hlt
    have eit := mkL_it s.heap hl
    have eL : (mkL s.heap its as).length = as.length := by rw [← List.length_map (f := (·.it)), eit, hl]
    have hne : mkL s.heap its as ≠ [] := fun e => by rw [e] at eL; exact h0 (List.length_eq_zero_iff.mp eL.symm)
    have eref : (mkL s.heap its as).map (fun p => Value.ref p.it) = its.map Value.ref := by
      have := congrArg (List.map Value.ref) eit
      rw [List.map_map] at this
      exact this
    refine pyNext_zn_item (S s.heap) hne (by rw [eL]; exact h4) hz hf0 (by rw [eref]; exact hTI) hTO (by rw [eL]; exact ha) hi.mk t1 t3 fun h' g0 g1 arr' b1 b2 b3 b4 b5 b6 b7 b8 => ?_
    refine ⟨_, rfl, ?_⟩
    have hTn : H s.heap.objs.size = none := I.hok.fresh (Nat.le_refl _)
    refine wpAny_pure ⟨.ref s.heap.objs.size, upd H s.heap.objs.size (.tup (rows.map fun r => (r[i]?).getD .non)), I.turnedNew (t' := s.toks) (ch := z :: TI :: TO :: its) (fun c o hb q => b8 c o (fun e => hb (by simp [e])) (fun e => hb (by simp [e])) (fun p hp e => hb (by
      have : p.it ∈ its := by rw [← eit]; exact List.mem_map_of_mem hp
      simp [e, this])) q) hf (Nat.le_refl _) ?_, rfl, ⟨_, _, rfl, hTn, rfl, fun rows' hr'' => by rw [rows_inj I hr' (by rw [hK]; exact hr'')]⟩, ⟨⟨g0, g1, b1, b2⟩, ?_, ⟨arr', b3, by rw [b4, eL]⟩, AtIts.of hl b5⟩, fun c hcm => ?_⟩
    · refine ⟨?_, _, t4, ⟨_, b6, rfl, _, rfl⟩⟩
      rw [List.length_map, ← hr.len]
      exact Nat.le_trans h4 (by decide)
    · exact b8 _ _ (S s.heap).TIz (S s.heap).TITO (fun p hp => ((S s.heap).iTI p hp).symm) hTI
    · have hlt : c < s.heap.objs.size := by
        rcases List.mem_cons.mp hcm with q | hcm
        · rw [q]; exact Heap.lt_size hz
        · rcases List.mem_cons.mp hcm with q | hcm
          · rw [q]; exact Heap.lt_size hTI
          · rcases List.mem_cons.mp hcm with q | hcm
            · rw [q]; exact Heap.lt_size hTO
            · rw [← eit] at hcm
              obtain ⟨p, hp, rfl⟩ := List.mem_map.mp hcm
              obtain ⟨_, e, _⟩ := hi.mk p hp
              exact Heap.lt_size e
      rw [upd_ne (Nat.ne_of_lt hlt)]
      exact (hf c hcm).1
  done := by
    intro X hP hw hK hc i pins s σ H E I hf st hg
    subst hP hw
    obtain ⟨⟨f0, f1, hz, hf0⟩, hTI, ⟨arr, hTO, ha⟩, hi⟩ := st
    obtain ⟨rows, hr, hlt⟩ := hg
    have hr' : RowsAt X.K H as rows := by rw [hK]; exact hr
    obtain ⟨t1, _, t2⟩ := rows_facts I hl hr'
    have eit := mkL_it s.heap hl
    have eL : (mkL s.heap its as).length = as.length := by rw [← List.length_map (f := (·.it)), eit, hl]
    have hne : mkL s.heap its as ≠ [] := fun e => by rw [e] at eL; exact h0 (List.length_eq_zero_iff.mp eL.symm)
    have eref : (mkL s.heap its as).map (fun p => Value.ref p.it) = its.map Value.ref := by
      have := congrArg (List.map Value.ref) eit
      rw [List.map_map] at this
      exact this
    refine pyNext_zn_end (I.ok.hd hc) (S s.heap) hne hz hf0 (by rw [eref]; exact hTI) hTO hi.mk t1 (t2 i hlt) fun h' hk => ⟨rfl, ?_⟩
    exact I.turnedL (t' := s.toks) (ch := z :: TI :: TO :: its) (fun c o hb q => hk c o (fun e => hb (by simp [e])) (fun e => hb (by simp [e])) (fun p hp e => hb (by
      have : p.it ∈ its := by rw [← eit]; exact List.mem_map_of_mem hp
      simp [e, this])) q) hf
  self := fun A i s Q E st h => by
    obtain ⟨⟨f0, f1, hz, _⟩, _⟩ := st
    exact pyIter_zn hz h
/-! ### it begins -/
theorem itsFrom_mem : ∀ {n : Nat} {as : List Addr} {t : Nat}, t ∈ itsFrom n as → @LE.le Nat _ n t ∧ @LT.lt Nat _ t (n + as.length)
  | n, _ :: as, t, h => by
    rcases List.mem_cons.mp h with h | h
    · have h' : @Eq Nat t n := h
      constructor
      · omega
      · simp only [List.length_cons]; omega
    · obtain ⟨h1, h2⟩ := itsFrom_mem h
      simp only [List.length_cons]
      constructor <;> omega
theorem itsFrom_nd : ∀ (n : Nat) (as : List Addr), (itsFrom n as).Nodup
  | _, [] => List.nodup_nil
  | n, _ :: as => List.nodup_cons.mpr ⟨fun h => by have h' : @LE.le Nat _ (n + 1) n := (itsFrom_mem h).1; omega, itsFrom_nd (n + 1) as⟩
theorem sep_of {N : Nat} {as : List Addr} (ha : ∀ a ∈ as, @LT.lt Nat _ a N) (h : Heap) : ZSep (N + as.length + 2) (N + as.length) (N + as.length + 1) (mkL h (itsFrom N as) as) := by
  have hl := itsFrom_len N as
  have i1 : ∀ p ∈ mkL h (itsFrom N as) as, @LE.le Nat _ N p.it ∧ @LT.lt Nat _ p.it (N + as.length) := fun p hp => itsFrom_mem (by
    have : p.it ∈ (mkL h (itsFrom N as) as).map (·.it) := List.mem_map_of_mem hp
    rw [mkL_it h hl] at this; exact this)
  have t1 : ∀ p ∈ mkL h (itsFrom N as) as, @LT.lt Nat _ p.tup N := fun p hp => ha _ (by
    have : p.tup ∈ (mkL h (itsFrom N as) as).map (·.tup) := List.mem_map_of_mem hp
    rw [mkL_tup h hl] at this; exact this)
  refine ⟨?_, ?_, ?_, by rw [mkL_it h hl]; exact itsFrom_nd N as, fun p hp => ?_, fun p hp => ?_, fun p hp => ?_, fun p hp => ?_, fun p hp => ?_, fun p hp q hq => ?_⟩
  · show ¬ @Eq Nat (N + as.length) (N + as.length + 2)
    omega
  · show ¬ @Eq Nat (N + as.length + 1) (N + as.length + 2)
    omega
  · show ¬ @Eq Nat (N + as.length) (N + as.length + 1)
    omega
  · have := i1 p hp
    show ¬ @Eq Nat p.it (N + as.length + 2)
    omega
  · have := i1 p hp
    show ¬ @Eq Nat p.it (N + as.length)
    omega
  · have := i1 p hp
    show ¬ @Eq Nat p.it (N + as.length + 1)
    omega
  · have := t1 p hp
    show ¬ @Eq Nat p.tup (N + as.length + 2)
    omega
  · have := t1 p hp
    show ¬ @Eq Nat p.tup (N + as.length + 1)
    omega
  · have := t1 p hp
    have := i1 q hq
    show ¬ @Eq Nat p.tup q.it
    omega
theorem vals_refs : ∀ {as : List Addr} {us : List Value}, Vals (as.map V.ref) us → us = as.map Value.ref
  | [], _, .nil => rfl
  | a :: as, _, .cons r rr => by
    cases r
    rw [vals_refs rr]; rfl
def iZipS (K : PySem.W.Frag) (te : TE) : TI := fun σ H R => te σ H fun v H1 => ∃ a as rows, v = V.ref a ∧ SqT K H1 a (as.map V.ref) ∧ as ≠ [] ∧ as.length ≤ 4 ∧ RowsAt K H1 as rows ∧ R (ItzN K as) H1
theorem rows_tups {X : Cx} {pins : List (Addr × Obj)} {σ : L2.St} {H : Hp} {s : Shared} (I : L2.Inv X pins σ H s) : ∀ {as : List Addr} {rs : List (List V)}, RowsAt X.K H as rs → ∀ a ∈ as, ∃ its, s.heap.IsTuple a its
  | a :: as, r :: rs, ⟨q1, q2⟩, b, hb => by
    rcases List.mem_cons.mp hb with rfl | hb
    · obtain ⟨its, _, p, _⟩ := I.tuple q1
      exact ⟨_, p⟩
    · exact rows_tups I q2 b hb
  | [], [], _, _, hb => absurd hb (List.not_mem_nil)
  | [], _ :: _, h, _, _ => h.elim
  | _ :: _, [], h, _, _ => h.elim
theorem pi_zipS {X : Cx} {e : Expr} {te : TE} {x : Str} {p pos sp tpos : Pos} (hg : Gl X "zip") (hm : X.mg "zip" = none) (he : PE X e te) (hst : starEach [.Starred e sp] X.env = [(true, eval e X.env)] := by rfl) :
    PI X (.Name x tpos) (.Call (.Name "zip" p) [.Starred e sp] [] pos) (iZipS X.K te) := by
  refine ⟨fun pins s σ H R I h => ?_⟩
  refine Call_ (ld_blt I hg hm PyProof.Rows.boot_zip ?_)
  rw [hst]
  refine PySem.W.ks_call (P := fun _ => True) rfl (fun _ _ => ⟨.machine, .inr (.inl rfl), PySem.W.Looks.of_pure rfl⟩) (PySem.W.ks_lone ?_)
  refine thn (he.run pins s σ H _ I h) fun v s1 ⟨y, H1, I1, ry, a, as, rows, ey, hx, h0, h4, hr, q⟩ => ?_
  subst ey
  obtain rfl : v = Value.ref a := ry
  refine StX.star_any I1 (.inl hx) fun us s2 I2 rv => ⟨trivial, ?_⟩
  rw [vals_refs rv, List.nil_append]
  have hts := rows_tups I2 hr
  refine call_zipN h0 h4 hts fun h' hz hTI hTO hk hi hsz => pyIter_zn hz ?_
  have I3 : L2.Inv X pins σ H1 { s2 with heap := h' } := I2.kept (t' := s2.toks) hk
  have hlt : ∀ a ∈ as, a < s2.heap.objs.size := fun a ha => let ⟨_, o, ho, _⟩ := hts a ha; Heap.lt_size ho
  refine ⟨s2.heap.objs.size + as.length + 2, (s2.heap.objs.size + as.length + 2) :: (s2.heap.objs.size + as.length) :: (s2.heap.objs.size + as.length + 1) :: itsFrom s2.heap.objs.size as, _, _, H1, rfl, I3,
    turn_zn (fun h => sep_of hlt h) (itsFrom_len _ _) h0 h4, ⟨⟨_, _, hz, .inl rfl⟩, hTI, hTO, hi⟩, fun c hc => ?_, q⟩
  have hle : @LE.le Nat _ s2.heap.objs.size c := by
    rcases List.mem_cons.mp hc with z | hc
    · have z' : @Eq Nat c (s2.heap.objs.size + as.length + 2) := z
      omega
    · rcases List.mem_cons.mp hc with z | hc
      · have z' : @Eq Nat c (s2.heap.objs.size + as.length) := z
        omega
      · rcases List.mem_cons.mp hc with z | hc
        · have z' : @Eq Nat c (s2.heap.objs.size + as.length + 1) := z
          omega
        · exact (itsFrom_mem hc).1
  exact I2.fpOk hle (I2.hok.fresh hle)
/-! ### by data -/
theorem RowsAt.ex {K : PySem.W.Frag} {H H' : Hp} (e : Ex H H') : ∀ {as rs}, RowsAt K H as rs → RowsAt K H' as rs
  | [], [], _ => trivial
  | _ :: _, _ :: _, ⟨h1, h2⟩ => ⟨Ex.sqt e h1, h2.ex e⟩
  | [], _ :: _, h => h.elim
  | _ :: _, [], h => h.elim
def RowsRd (K : Kx) (M : Hp) : List (List V) → List (List PyData) → Prop
  | r :: rs, d :: ds => RdA K M r d ∧ RowsRd K M rs ds
  | [], [] => True
  | _, _ => False
theorem rows_of {K : Kx} {M : Hp} : ∀ {vs : List V} {rows : List (List PyData)}, RdA K M vs (rows.map PyData.tuple) → ∃ as rws, vs = as.map V.ref ∧ RowsAt K M as rws ∧ RowsRd K M rws rows
  | _, [], .nil => ⟨[], [], rfl, trivial, trivial⟩
  | _, r :: rows, .cons h hh => by
    obtain ⟨a, xs, rfl, h1, h2⟩ := Rd.inv_tuple h
    obtain ⟨as, rws, rfl, q1, q2⟩ := rows_of hh
    exact ⟨a :: as, xs :: rws, rfl, ⟨h1, q1⟩, h2, q2⟩
theorem RowsRd.len {K : Kx} {M : Hp} {m : Nat} : ∀ {rws : List (List V)} {rows : List (List PyData)}, RowsRd K M rws rows → (∀ r ∈ rows, r.length = m) → ∀ r ∈ rws, r.length = m
  | r :: rws, d :: rows, ⟨h1, h2⟩, hm, x, hx => by
    rcases List.mem_cons.mp hx with rfl | hx
    · rw [h1.length]; exact hm d (List.mem_cons_self ..)
    · exact RowsRd.len h2 (fun r hr => hm r (List.mem_cons_of_mem _ hr)) x hx
  | [], [], _, _, _, hx => absurd hx (List.not_mem_nil)
  | [], _ :: _, h, _, _, _ => h.elim
  | _ :: _, [], h, _, _, _ => h.elim
theorem RowsRd.col {K : Kx} {M : Hp} {m i : Nat} (hi : i < m) : ∀ {rws : List (List V)} {rows : List (List PyData)}, RowsRd K M rws rows → (∀ r ∈ rows, r.length = m) → RdA K M (rws.map fun r => (r[i]?).getD .non) (rows.map fun r => (r[i]?).getD .none)
  | [], [], _, _ => .nil
  | r :: rws, d :: rows, ⟨h1, h2⟩, hm => by
    refine .cons ?_ (RowsRd.col hi h2 fun r hr => hm r (List.mem_cons_of_mem _ hr))
    have hl : i < d.length := by rw [hm d (List.mem_cons_self ..)]; exact hi
    have e : d[i]? = some (d[i]'hl) := List.getElem?_eq_getElem hl
    obtain ⟨v, q1, q2⟩ := h1.get e
    show Rd K.fg M ((r[i]?).getD .non) ((d[i]?).getD .none)
    rw [e, q1]
    exact q2
  | [], _ :: _, h, _ => h.elim
  | _ :: _, [], h, _ => h.elim
/-- the columns of rows of one length -/
def colsD (m : Nat) (rows : List (List PyData)) : List Vl := (List.range m).map fun i => .d (.tuple (rows.map fun r => (r[i]?).getD .none))
theorem WOk.cols {K : Kx} {M0 : Hp} {as : List Addr} {rws : List (List V)} {rows : List (List PyData)} {m : Nat} (hr : RowsAt K M0 as rws) (hd : RowsRd K M0 rws rows) (hm : ∀ r ∈ rows, r.length = m) : WOk K M0 (ItzN K as) (colsD m rows) := by
  have hlen : (colsD m rows).length = m := by simp [colsD]
  have hm' := hd.len hm
  refine ⟨fun H => RowsAt K H as rws, fun i H v H' => ∃ T, v = V.ref T ∧ H T = none ∧ H' = upd H T (.tup (rws.map fun r => (r[i]?).getD .non)), ?_, fun H e => hr.ex e, fun i H x H' hi e y => ?_⟩
  · rw [hlen]
    refine ⟨fun i H hi q => ⟨rws, q, fun r h => by rw [hm' r h]; exact hi⟩, fun H q => ⟨rws, q, hm'⟩, fun i H v H' _ q y => ?_⟩
    obtain ⟨T, col, h1, h2, h3, h4⟩ := y
    exact ⟨T, h1, h2, by rw [h3, h4 rws q]⟩
  · rw [hlen] at hi
    obtain ⟨T, rfl, hn, rfl⟩ := y
    have n0 : M0 T = none := by
      cases q : M0 T with
      | none => rfl
      | some o => rw [e T o q] at hn; cases hn
    have ex : Ex M0 (upd M0 T (.tup (rws.map fun r => (r[i]?).getD .non))) := fun a o e => by rw [upd_ne (ne_of_none e n0)]; exact e
    refine ⟨.d (.tuple (rows.map fun r => (r[i]?).getD .none)), by simp [colsD, hi], .inr ⟨T, _, hn, rfl, ?_⟩⟩
    exact Rd.tup (.inl (.inl upd_same)) ((hd.col hi hm).mono ex)
def asStar (R : List Vl → Prop) : Vl → Prop := fun v => ∃ rows m, v = .d (.tuple (rows.map PyData.tuple)) ∧ rows ≠ [] ∧ rows.length ≤ 4 ∧ (∀ r ∈ rows, r.length = m) ∧ R (colsD m rows)
theorem RowsRd.nlen {K : Kx} {M : Hp} : ∀ {rws : List (List V)} {rows : List (List PyData)}, RowsRd K M rws rows → rws.length = rows.length
  | [], [], _ => rfl
  | _ :: _, _ :: _, ⟨_, h⟩ => congrArg (· + 1) h.nlen
  | [], _ :: _, h => h.elim
  | _ :: _, [], h => h.elim
/-- for x in zip(*e) -/
theorem i_zipS {F : Fm} {e : Expr} {x : Str} {p pos sp tpos : Pos} {n : Nat} {f : FE} (hm : F.mg "zip" = none) (he : Ee F e n f) (hg : ∀ i, Gl (F.X i) "zip" := by intro _; rfl)
    (hst : ∀ i, starEach [.Starred e sp] (F.X i).env = [(true, eval e (F.X i).env)] := by intro _; rfl) :
    Ei F (.Name x tpos) (.Call (.Name "zip" p) [.Starred e sp] [] pos) n (fun ρ R => f ρ (asStar R)) := by
  obtain ⟨t, pt, st⟩ := he
  refine ⟨iZipS F.K t, fun i => by have := pi_zipS (x := x) (tpos := tpos) (p := p) (pos := pos) (sp := sp) (hg i) (by rw [F.eM]; exact hm) (pt i) (hst i); rw [F.eK i] at this; exact this, fun C σ ρ H R Q hm' G hf k => st C σ ρ H _ _ hm' G hf fun v H1 y m l u t1 ox h1 => ?_⟩
  obtain ⟨rows, mm, rfl, h0, h4, hlen, hR⟩ := h1
  obtain ⟨a, vs, rfl, ha, ra⟩ := Rd.inv_tuple ox
  obtain ⟨as, rws, rfl, hr, hd⟩ := rows_of ra
  have e1 : as.length = rows.length := by rw [hr.len, hd.nlen]
  refine ⟨a, as, rws, rfl, Ex.sqt mask_le ha, fun z => h0 (by subst z; exact List.length_eq_zero_iff.mp e1.symm), by rw [e1]; exact h4, hr.ex mask_le, k _ H1 _ m l u t1 (WOk.cols hr hd hlen) hR⟩
/-- the scope of a comprehension's block -/
theorem blk_scope {F : Fm} {sc : Scope} (i : (F.blk sc).I) : ((F.blk sc).X i).env.scope = relabel sc (F.X i.1).env := rfl
theorem relab {x : Str} {f : Str × NameKind → Str × NameKind} (hf : ∀ p, f p = p ∨ f p = (p.1, .cell)) : ∀ {names : List (Str × NameKind)}, names.lookup x = some .cell ∨ names.lookup x = some .free →
    (names.map f).lookup x = some .cell ∨ (names.map f).lookup x = some .free
  | [], h => by rcases h with h | h <;> cases h
  | (n, k) :: r, h => by
    have ih := @relab x f hf r
    rw [List.map_cons]
    rcases hf (n, k) with e1 | e1
    · rw [e1]
      simp only [List.lookup_cons] at h ⊢
      cases e : x == n with
      | true => simpa only [e] using h
      | false => rw [e] at h; exact ih h
    · rw [e1]
      simp only [List.lookup_cons] at h ⊢
      cases e : x == n with
      | true => exact .inl rfl
      | false => rw [e] at h; exact ih h
theorem blkOk_in {N : List Str} {sc scope : Scope} {own : List (Str × Nat)} {env : PySem.Env} (h : L2.blkC N sc scope own = true) : L2.BlkOk N (relabel sc env) scope own := by
  obtain ⟨h1, h2, h3, h4, h5⟩ := L2.blkOk_by h
  refine ⟨h1, h2, h3, fun y hy e => relab (fun p => ?_) (h4 y hy e), h5⟩
  obtain ⟨n, k⟩ := p
  by_cases c : (k == NameKind.free && env.scope.kind == .function && env.kindOf n == some .cell) = true
  · exact .inr (if_pos c)
  · exact .inl (if_neg c)
end Px

set_option Elab.async false
set_option linter.all false
set_option maxRecDepth 100000
set_option maxHeartbeats 4000000
set_option exponentiation.threshold 10000
/-! W4: rows of answers, means of rounds. -/
namespace Px
open PySem PySem.Spec PyProof.Rows L2
def extR (w : Nat) (r : List Nat) : List (List Nat) := (List.range w).map fun a => r ++ [a]
def rowsN (w : Nat) : Nat → List (List Nat)
  | 0 => [[]]
  | n + 1 => (rowsN w n).flatMap (extR w)
def natRow (r : List Nat) : PyData := .tuple (r.map fun (a : Nat) => .int (a : Nat))
theorem rows_mem {w : Nat} : ∀ {n : Nat} {r : List Nat}, r ∈ rowsN w n → r.length = n ∧ ∀ a ∈ r, a < w
  | 0, r, h => by simp [rowsN] at h; subst h; simp
  | n + 1, r, h => by
    simp only [rowsN, List.mem_flatMap, extR, List.mem_map, List.mem_range] at h
    obtain ⟨r', h1, a, h2, rfl⟩ := h
    obtain ⟨e1, e2⟩ := rows_mem h1
    refine ⟨by simp [e1], fun b hb => ?_⟩
    rcases List.mem_append.mp hb with hb | hb
    · exact e2 b hb
    · rw [List.mem_singleton.mp hb]; exact h2
theorem flat_len {α β : Type} {f : α → List β} {w : Nat} (h : ∀ a, (f a).length = w) : ∀ l : List α, (l.flatMap f).length = l.length * w
  | [] => by simp
  | a :: l => by rw [List.flatMap_cons, List.length_append, h, flat_len h l, List.length_cons, Nat.succ_mul]; omega
theorem rows_len (w : Nat) : ∀ n : Nat, (rowsN w n).length = w ^ n
  | 0 => rfl
  | n + 1 => by
    rw [rowsN, flat_len (w := w) (fun r => by simp [extR]), rows_len w n, Nat.pow_succ]
def fRows : FS := fun xs R => ∃ w n : Nat, xs = [.d (.int (w : Nat)), .d (.int (n : Nat))] ∧ 1 ≤ w ∧ w ≤ 4 ∧ n ≤ 3 ∧ R (.d (.list ((rowsN w n).map natRow)))
def fRight : FS := fun xs R => xs = [.st] ∧ R (.d (.bool true))
def fTabRight : FS := fun xs R => ∃ n w T, xs = [.st, .d (tabD T)] ∧ TabOk n w T ∧ R (.d (.bool true))
def meanP (ps : List (Rat × Rat)) : Rat × Rat := pMul (tot ps) (Rat.divInt 1 ps.length)
def mixD : List (Rat × Rat) → PyData
  | [] => .none
  | p :: ps => pt (meanP (p :: ps))
theorem tot_snoc (ps : List (Rat × Rat)) (p : Rat × Rat) : tot (ps ++ [p]) = pAdd (tot ps) p := by unfold tot; rw [List.foldl_append]; rfl
theorem mean_back {ps : List (Rat × Rat)} (h : 0 < ps.length) : pMul (meanP ps) (Rat.divInt ps.length 1) = tot ps := by
  have UW := unit_whole h
  unfold meanP pMul
  refine Prod.ext ?_ ?_
  · show (tot ps).1 * Rat.divInt 1 ps.length * Rat.divInt ps.length 1 = _
    rw [Rat.mul_assoc, UW, Rat.mul_one]
  · show (tot ps).2 * Rat.divInt 1 ps.length * Rat.divInt ps.length 1 = _
    rw [Rat.mul_assoc, UW, Rat.mul_one]
theorem tot_b {b : Nat} : ∀ {ps : List (Rat × Rat)} {t : Rat × Rat} {n : Nat}, Pb n t → (∀ p ∈ ps, Pb b p) → Pb (n + (b + 1) * ps.length) (ps.foldl pAdd t)
  | [], t, n, h, _ => h
  | p :: ps, t, n, h, hp => by
    have := tot_b (ps := ps) (h.add2 (hp p (by simp))) fun q hq => hp q (List.mem_cons_of_mem _ hq)
    refine Pb.mono this ?_
    simp only [List.length_cons, Nat.mul_succ]
    omega
theorem tot_b' {b : Nat} {ps : List (Rat × Rat)} (hp : ∀ p ∈ ps, Pb b p) : Pb (1 + (b + 1) * ps.length) (tot ps) := tot_b ⟨fz 1 (by decide), fz 1 (by decide)⟩ hp
theorem unit_b {n : Nat} (h : 0 < n) (h2 : n < 1000) : Fb 10 (Rat.divInt 1 n) := Fb.red (by omega) (Bd.lit (by decide)) (Bd.of_lt (j := 1000) (by omega) (by decide))
theorem whole_b {n : Nat} (h2 : n < 1000) : Fb 10 (Rat.divInt n 1) := Fb.red (by decide) (Bd.of_lt (j := 1000) (by omega) (by decide)) (Bd.lit (by decide))
theorem meanP_b {b : Nat} {ps : List (Rat × Rat)} (h0 : 0 < ps.length) (h1 : ps.length < 1000) (hp : ∀ p ∈ ps, Pb b p) : Pb (1 + (b + 1) * ps.length + 10) (meanP ps) := (tot_b' hp).mul (unit_b h0 h1)
theorem shw_pt {p : Rat × Rat} (h : Pb 1600 p) : shw (pt p) := ⟨okI_pt h, Nat.le_of_ble_eq_true rfl, Nat.le_of_ble_eq_true rfl⟩
/-! ### the mean over all rows of answers -/
def prob (cs : List Rat) (row : List Nat) : Rat := row.foldl (fun t a => t * cs.getD a 0) 1
def gain (gs : List (Nat → Rat)) (row : List Nat) : Rat := sm (gs.zip row) fun p => p.1 p.2
theorem zip_snoc {α β : Type} : ∀ (l : List α) (m : List β) (b : β) (h : m.length < l.length), l.zip (m ++ [b]) = l.zip m ++ [(l[m.length], b)]
  | [], _, _, h => by simp at h
  | a :: l, [], b, h => by simp
  | a :: l, c :: m, b, h => by
    simp only [List.cons_append, List.zip_cons_cons, List.length_cons]
    rw [zip_snoc l m b (by simpa using h)]
    rfl
theorem prob_snoc (cs : List Rat) (row : List Nat) (a : Nat) : prob cs (row ++ [a]) = prob cs row * cs.getD a 0 := by unfold prob; rw [List.foldl_append]; rfl
theorem gain_snoc (gs : List (Nat → Rat)) (row : List Nat) (a n : Nat) (hn : row.length = n) (h : n < gs.length) : gain gs (row ++ [a]) = gain gs row + gs[n] a := by
  subst hn
  unfold gain
  rw [zip_snoc _ _ _ h, sm_append]
  simp only [sm]
  grind
theorem sum_odds {cs : List Rat} {w : Nat} (h : cs.length = w) (hs : sm cs id = 1) : sm (List.range w) (fun a => cs.getD a 0) = 1 := by
  have : (List.range w).map (fun a => cs.getD a 0) = cs := by
    apply List.ext_getElem
    · simp [h]
    · intro i h1 h2
      simp [List.getD_eq_getElem?_getD, h2]
  have e := sm_map (fun a => cs.getD a 0) id (List.range w)
  rw [this, hs] at e
  exact e.symm
theorem rows_prob {cs : List Rat} {w : Nat} (h1 : sm (List.range w) (fun a => cs.getD a 0) = 1) : ∀ n : Nat, sm (rowsN w n) (prob cs) = 1
  | 0 => by simp [rowsN, sm, prob]; grind
  | n + 1 => by
    rw [rowsN, sm_flatMap]
    have : ∀ r ∈ rowsN w n, sm (extR w r) (prob cs) = prob cs r := fun r _ => by
      rw [extR, sm_map]
      have e : ∀ a ∈ List.range w, prob cs (r ++ [a]) = cs.getD a 0 * prob cs r := fun a _ => by rw [prob_snoc]; grind
      rw [sm_congr e, sm_mul, h1]
      grind
    rw [sm_congr this, rows_prob h1 n]
theorem rows_gain {cs : List Rat} {w : Nat} (gs : List (Nat → Rat)) (h1 : sm (List.range w) (fun a => cs.getD a 0) = 1) : ∀ n : Nat, n ≤ gs.length → sm (rowsN w n) (fun r => gain gs r * prob cs r) = sm (gs.take n) fun g => sm (List.range w) fun a => g a * cs.getD a 0
  | 0, _ => by simp [rowsN, sm, prob, gain]; grind
  | n + 1, hn => by
    rw [rowsN, sm_flatMap, List.take_succ_eq_append_getElem (by omega), sm_append]
    have : ∀ r ∈ rowsN w n, sm (extR w r) (fun r => gain gs r * prob cs r) = gain gs r * prob cs r + prob cs r * (sm (List.range w) fun a => gs[n] a * cs.getD a 0) := fun r hr => by
      have hl := (rows_mem hr).1
      rw [extR, sm_map]
      have e : ∀ a ∈ List.range w, gain gs (r ++ [a]) * prob cs (r ++ [a]) = cs.getD a 0 * (gain gs r * prob cs r) + (gs[n] a * cs.getD a 0) * prob cs r := fun a _ => by
        rw [prob_snoc, gain_snoc gs r a n hl (by omega)]
        grind
      rw [sm_congr e, sm_add, sm_mul, sm_mul, h1]
      grind
    rw [sm_congr this, sm_add, rows_gain gs h1 n (by omega), sm_mul, rows_prob h1 n]
    simp only [sm]
    grind
theorem getD_range {cs : List Rat} {w : Nat} (h : cs.length = w) : (List.range w).map (fun a => cs.getD a 0) = cs := by
  apply List.ext_getElem
  · simp [h]
  · intro i h1 h2
    simp [List.getD_eq_getElem?_getD, h2]
theorem dot_range {cs : List Rat} {w : Nat} (h : cs.length = w) (f : Nat → Rat) : dot ((List.range w).map f) cs = sm (List.range w) fun a => f a * cs.getD a 0 := by
  have e := getD_range h
  have : dot ((List.range w).map f) ((List.range w).map fun a => cs.getD a 0) = sm (List.range w) fun a => f a * cs.getD a 0 := by
    rw [dot, List.zip_map', sm_map]
  rw [e] at this
  exact this
theorem fold_fst : ∀ (ps : List (Rat × Rat)) (t : Rat × Rat), (ps.foldl pAdd t).1 = t.1 + sm ps (·.1)
  | [], t => by simp [sm]; grind
  | p :: ps, t => by rw [List.foldl_cons, fold_fst ps]; simp only [sm, pAdd]; grind
theorem fold_snd : ∀ (ps : List (Rat × Rat)) (t : Rat × Rat), (ps.foldl pAdd t).2 = t.2 + sm ps (·.2)
  | [], t => by simp [sm]; grind
  | p :: ps, t => by rw [List.foldl_cons, fold_snd ps]; simp only [sm, pAdd]; grind
theorem tot_fst (ps : List (Rat × Rat)) : (tot ps).1 = sm ps (·.1) := by rw [tot, fold_fst]; grind
theorem tot_snd (ps : List (Rat × Rat)) : (tot ps).2 = sm ps (·.2) := by rw [tot, fold_snd]; grind
def paidL (T : List (List Cell)) (l : List (List Rat × Nat)) : List (Rat × Rat) := l.map fun p => payAt T p.1 p.2
def termR (T : List (List Cell)) (hs : List (List Rat)) (cs : List Rat) (r : List Nat) : Rat × Rat := pMul (meanP (paidL T (hs.zip r))) (prob cs r)
theorem all_rows {T : List (List Cell)} {hs : List (List Rat)} {cs : List Rat} {w : Nat} (hc : ShOk w cs) :
    (sm (rowsN w hs.length) (fun r => (termR T hs cs r).1), sm (rowsN w hs.length) (fun r => (termR T hs cs r).2)) = meanP (hs.map fun h => payBy T h cs w) := by
  have h1 := sum_odds hc.len hc.sum
  have one : ∀ (c : Rat × Rat → Rat) (F : List Rat → Nat → Rat), (∀ ps : List (Rat × Rat), c (tot ps) = sm ps c) → (∀ p : Rat × Rat, ∀ q : Rat, c (pMul p q) = c p * q) → (∀ h a, F h a = c (payAt T h a)) → (∀ h, c (payBy T h cs w) = sm (List.range w) fun a => F h a * cs.getD a 0) →
      sm (rowsN w hs.length) (fun r => c (termR T hs cs r)) = c (meanP (hs.map fun h => payBy T h cs w)) := by
    intro c F c1 c2 c3 c4
    have e : ∀ r ∈ rowsN w hs.length, c (termR T hs cs r) = (gain (hs.map F) r * prob cs r) * Rat.divInt 1 hs.length := fun r hr => by
      have hl := (rows_mem hr).1
      have hz : (paidL T (hs.zip r)).length = hs.length := by rw [paidL, List.length_map, List.length_zip]; omega
      rw [termR, c2, meanP, c2, c1, hz, gain, zip_mapL, sm_map, paidL, sm_map]
      simp only [c3]
      grind
    rw [sm_congr e, sm_mul, rows_gain (hs.map F) h1 hs.length (by simp), meanP, c2, c1, List.length_map, sm_map]
    have e2 : (hs.map F).take hs.length = hs.map F := by rw [List.take_of_length_le (by simp)]
    rw [e2, sm_map]
    simp only [c4]
  refine Prod.ext ?_ ?_
  · exact one (·.1) (fun h a => (payAt T h a).1) tot_fst (fun _ _ => rfl) (fun _ _ => rfl) fun h => by
      show dot (((List.range w).map (payAt T h)).map (·.1)) cs = _
      rw [List.map_map, dot_range hc.len]
      rfl
  · exact one (·.2) (fun h a => (payAt T h a).2) tot_snd (fun _ _ => rfl) (fun _ _ => rfl) fun h => by
      show dot (((List.range w).map (payAt T h)).map (·.2)) cs = _
      rw [List.map_map, dot_range hc.len]
      rfl
theorem ShOk.getD {n : Nat} {qs : List Rat} (h : ShOk n qs) {j : Nat} (hj : j < n) : Fb 5 (qs.getD j 0) := by
  have : j < qs.length := by rw [h.len]; exact hj
  rw [List.getD_eq_getElem?_getD, List.getElem?_eq_getElem this]
  exact h.bd _ (List.getElem_mem this)
theorem mixD_snoc (ps : List (Rat × Rat)) (p : Rat × Rat) : mixD (ps ++ [p]) = pt (meanP (ps ++ [p])) := by cases ps <;> rfl
end Px

set_option Elab.async false
set_option linter.all false
set_option maxRecDepth 100000
set_option maxHeartbeats 4000000
set_option exponentiation.threshold 10000
/-! W2: sizes of shown data; convex sums; gaps of pays. -/
namespace Px
open PySem PySem.Spec PyProof.Rows L2
/-! ### what is shown -/
structure Sz (n D : Nat) (d : PyData) : Prop where
  ok : okI d = true
  nd : nods d ≤ n
  dp : d.depth ≤ D
theorem Sz.shw {n D : Nat} {d : PyData} (h : Sz n D d) (h1 : n ≤ 30000 := by decide) (h2 : D ≤ 60 := by decide) : shw d := ⟨h.ok, Nat.le_trans h.nd h1, Nat.le_trans h.dp h2⟩
theorem Sz.mono {n D n' D' : Nat} {d : PyData} (h : Sz n D d) (h1 : n ≤ n') (h2 : D ≤ D') : Sz n' D' d := ⟨h.ok, Nat.le_trans h.nd h1, Nat.le_trans h.dp h2⟩
theorem sz_all {n D : Nat} : ∀ {xs : List PyData}, (∀ x ∈ xs, Sz n D x) → okIs xs = true ∧ nodsA xs ≤ n * xs.length ∧ PyData.depthAll xs ≤ D
  | [], _ => ⟨rfl, Nat.zero_le _, Nat.zero_le _⟩
  | x :: xs, h => by
    obtain ⟨a, b, c⟩ := sz_all (xs := xs) fun y hy => h y (List.mem_cons_of_mem _ hy)
    obtain ⟨a', b', c'⟩ := h x (by simp)
    refine ⟨by simp only [okIs, a, a', Bool.and_true], ?_, ?_⟩
    · simp only [nodsA, List.length_cons, Nat.mul_succ]; omega
    · simp only [PyData.depthAll]; omega
theorem Sz.tup {n D k : Nat} {xs : List PyData} (h : ∀ x ∈ xs, Sz n D x) (hk : xs.length ≤ k) : Sz (1 + n * k) (D + 1) (.tuple xs) := by
  obtain ⟨a, b, c⟩ := sz_all h
  have : n * xs.length ≤ n * k := Nat.mul_le_mul_left _ hk
  refine ⟨a, ?_, ?_⟩
  · simp only [nods]; omega
  · simp only [PyData.depth]; omega
theorem Sz.lst {n D k : Nat} {xs : List PyData} (h : ∀ x ∈ xs, Sz n D x) (hk : xs.length ≤ k) : Sz (1 + n * k) (D + 1) (.list xs) := by
  obtain ⟨a, b, c⟩ := sz_all h
  have : n * xs.length ≤ n * k := Nat.mul_le_mul_left _ hk
  refine ⟨a, ?_, ?_⟩
  · simp only [nods]; omega
  · simp only [PyData.depth]; omega
theorem Sz.int {i : Int} (h : Bd 1600 i) : Sz 1 0 (.int i) := by
  have p : 2 ^ 1600 ≤ 10 ^ 500 := Nat.le_of_ble_eq_true rfl
  refine ⟨?_, Nat.le_refl _, Nat.le_refl _⟩
  simp only [okI, decide_eq_true_eq]
  exact Nat.lt_of_lt_of_le h p
theorem Sz.bool {b : Bool} : Sz 1 0 (.bool b) := ⟨rfl, Nat.le_refl _, Nat.le_refl _⟩
theorem Sz.none : Sz 1 0 .none := ⟨rfl, Nat.le_refl _, Nat.le_refl _⟩
theorem Sz.fq {q : Rat} (h : Fb 1600 q) : Sz 3 1 (fq q) := ⟨okI_fq h, Nat.le_refl _, Nat.le_refl _⟩
theorem Sz.pt {p : Rat × Rat} (h : Pb 1600 p) : Sz 7 2 (pt p) := ⟨okI_pt h, Nat.le_refl _, Nat.le_refl _⟩
theorem Sz.cell {c : Cell} (h : CellOk c) : Sz 3 1 (cellD c) := by
  obtain ⟨⟨h1, h2⟩, h3, h4⟩ := h
  refine (Sz.tup (n := 1) (D := 0) (k := 2) (fun x hx => ?_) (Nat.le_refl _)).mono (by decide) (by decide)
  simp only [List.mem_cons, List.not_mem_nil, or_false] at hx
  rcases hx with rfl | rfl
  · exact Sz.int ((Bd.of_lt (n := 10) (j := 100) (by omega) (by decide)).mono (by decide))
  · exact Sz.int ((Bd.of_lt (n := 10) (j := 100) (by omega) (by decide)).mono (by decide))
theorem Sz.tab {n w : Nat} {T : List (List Cell)} (h : TabOk n w T) : Sz 53 3 (tabD T) := by
  refine (Sz.tup (n := 13) (D := 2) (k := 4) (fun x hx => ?_) (by rw [List.length_map, h.len]; exact h.n4)).mono (by decide) (by decide)
  obtain ⟨r, hr, rfl⟩ := List.mem_map.mp hx
  refine (Sz.tup (n := 3) (D := 1) (k := 4) (fun x hx => ?_) (by rw [List.length_map, h.row r hr]; exact h.w4)).mono (by decide) (by decide)
  obtain ⟨c, hc, rfl⟩ := List.mem_map.mp hx
  exact Sz.cell (h.cell r hr c hc)
theorem Sz.sh {n : Nat} {qs : List Rat} (h : ShOk n qs) (h4 : n ≤ 4) : Sz 13 2 (shD qs) := by
  refine (Sz.tup (n := 3) (D := 1) (k := 4) (fun x hx => ?_) (by rw [List.length_map, h.len]; exact h4)).mono (by decide) (by decide)
  obtain ⟨q, hq, rfl⟩ := List.mem_map.mp hx
  exact Sz.fq ((h.bd q hq).mono (by decide))
/-! ### written values -/
theorem lit2 {q : Rat} {n d : Int} (h : q.num = n) (h2 : (q.den : Int) = d) : PyData.tuple [.int n, .int d] = fq q := by
  subst h
  subst h2
  rfl
theorem litp {p : Rat × Rat} {a b c d : Int} (h1 : p.1.num = a) (h2 : (p.1.den : Int) = b) (h3 : p.2.num = c) (h4 : (p.2.den : Int) = d) : PyData.tuple [.tuple [.int a, .int b], .tuple [.int c, .int d]] = pt p := by
  rw [lit2 h1 h2, lit2 h3 h4]
  rfl
instance {n : Nat} {i : Int} : Decidable (Bd n i) := by unfold Bd; infer_instance
instance {n : Nat} {q : Rat} : Decidable (Fb n q) := by unfold Fb; infer_instance
instance {c : Cell} : Decidable (CellOk c) := by unfold CellOk; infer_instance
/-! ### convex sums -/
section
variable {α : Type}
theorem sq_nn (a : Rat) : 0 ≤ a * a := sq_nonneg a
theorem sm_sub (φ ψ : α → Rat) : ∀ l : List α, sm l (fun a => φ a - ψ a) = sm l φ - sm l ψ
  | [] => by simp [sm]; grind
  | a :: l => by simp only [sm, sm_sub φ ψ l]; grind
theorem jensen (L : List (α × Rat)) (f : α → Rat) (z : Rat) (h1 : sm L (·.2) = 1) (h0 : ∀ p ∈ L, 0 ≤ p.2) : (sm L (fun p => f p.1 * p.2) - z) * (sm L (fun p => f p.1 * p.2) - z) ≤ sm L fun p => (f p.1 - z) * (f p.1 - z) * p.2 := by
  generalize hμ : sm L (fun p => f p.1 * p.2) = μ
  have e : ∀ p ∈ L, (f p.1 - z) * (f p.1 - z) * p.2 = (f p.1 - μ) * (f p.1 - μ) * p.2 + ((f p.1 * p.2) * (2 * (μ - z)) + p.2 * ((μ - z) * (μ - z) - μ * (2 * (μ - z)))) := fun p _ => by grind
  rw [sm_congr e, sm_add, sm_add, sm_mul, sm_mul, h1, hμ]
  have nn : 0 ≤ sm L fun p => (f p.1 - μ) * (f p.1 - μ) * p.2 := sm_nonneg fun p hp => Rat.mul_nonneg (sq_nn _) (h0 p hp)
  grind
theorem convex_near (L : List (α × Rat)) (P : α → Rat × Rat) (z : Rat × Rat) (m : Rat) (h1 : sm L (·.2) = 1) (h0 : ∀ p ∈ L, 0 ≤ p.2) (hm : ∀ p ∈ L, pSq (P p.1) z ≤ m) :
    pSq (sm L (fun p => (P p.1).1 * p.2), sm L (fun p => (P p.1).2 * p.2)) z ≤ m := by
  have a := jensen L (fun x => (P x).1) z.1 h1 h0
  have b := jensen L (fun x => (P x).2) z.2 h1 h0
  have c : sm L (fun p => ((P p.1).1 - z.1) * ((P p.1).1 - z.1) * p.2) + sm L (fun p => ((P p.1).2 - z.2) * ((P p.1).2 - z.2) * p.2) ≤ m := by
    rw [← sm_add]
    have e : ∀ p ∈ L, ((P p.1).1 - z.1) * ((P p.1).1 - z.1) * p.2 + ((P p.1).2 - z.2) * ((P p.1).2 - z.2) * p.2 ≤ p.2 * m := fun p hp => by
      have h2 := hm p hp
      have h3 := h0 p hp
      have h4 := Rat.mul_le_mul_of_nonneg_left h2 h3
      have : ((P p.1).1 - z.1) * ((P p.1).1 - z.1) * p.2 + ((P p.1).2 - z.2) * ((P p.1).2 - z.2) * p.2 = p.2 * pSq (P p.1) z := by unfold pSq; grind
      rw [this]
      exact h4
    refine Rat.le_trans (sm_le e) ?_
    rw [sm_mul, h1]
    grind
  unfold pSq
  grind
end
theorem pSq_comm (p q : Rat × Rat) : pSq p q = pSq q p := by unfold pSq; grind
theorem zip_sum : ∀ {α : Type} (l : List α) (qs : List Rat), qs.length ≤ l.length → sm (l.zip qs) (·.2) = sm qs id
  | _, _, [], _ => by simp [sm]
  | _, [], q :: qs, h => by simp at h
  | _, a :: l, q :: qs, h => by simp only [List.zip_cons_cons, sm, id, zip_sum l qs (by simpa using h)]
theorem payAt_zip (T : List (List Cell)) (qs : List Rat) (j : Nat) : payAt T qs j = (sm (T.zip qs) (fun p => (cq (nth p.1 j)).1 * p.2), sm (T.zip qs) (fun p => (cq (nth p.1 j)).2 * p.2)) := by
  rw [payAt, dot, dot, zip_mapL, zip_mapL, sm_map, sm_map]
theorem payAt_near {n w : Nat} {T : List (List Cell)} {qs : List Rat} {j : Nat} {z : Rat × Rat} {m : Rat} (h : TabOk n w T) (hq : ShOk n qs) (hm : ∀ r ∈ T, pSq (cq (nth r j)) z ≤ m) : pSq (payAt T qs j) z ≤ m := by
  rw [payAt_zip]
  refine convex_near (T.zip qs) (fun r => cq (nth r j)) z m ?_ (fun p hp => hq.nn _ (List.of_mem_zip hp).2) fun p hp => hm _ (List.of_mem_zip hp).1
  rw [zip_sum T qs (by rw [hq.len, h.len]; exact Nat.le_refl _), hq.sum]
/-! ### gaps -/
def gapI (c d : Cell) : Int := (c.1 - d.1) ^ 2 + (c.2 - d.2) ^ 2
def gaps (T : List (List Cell)) : List Int := T.flatten.flatMap fun c => T.flatten.map (gapI c)
theorem gap_sq (c d : Cell) : pSq (cq c) (cq d) = ((gapI c d : Int) : Rat) := by
  unfold pSq cq gapI
  rw [Rat.intCast_add, Int.pow_succ, Int.pow_succ, Int.pow_zero, Int.pow_succ, Int.pow_succ, Int.pow_zero]
  simp only [Int.one_mul, Rat.intCast_mul, Rat.intCast_sub]
theorem gap_mem {n w : Nat} {T : List (List Cell)} (h : TabOk n w T) {r s : List Cell} (hr : r ∈ T) (hs : s ∈ T) {i j : Nat} (hi : i < w) (hj : j < w) : gapI (nth r i) (nth s j) ∈ gaps T := by
  have mem : ∀ {r : List Cell} {i : Nat}, r ∈ T → i < w → nth r i ∈ T.flatten := fun {r i} hr hi => by
    have : i < r.length := by rw [h.row r hr]; exact hi
    unfold nth
    rw [List.getD_eq_getElem?_getD, List.getElem?_eq_getElem this]
    exact List.mem_flatten.mpr ⟨r, hr, List.getElem_mem this⟩
  exact List.mem_flatMap.mpr ⟨_, mem hr hi, List.mem_map.mpr ⟨_, mem hs hj, rfl⟩⟩
theorem pays_near {n w : Nat} {T : List (List Cell)} {qs os : List Rat} {i j : Nat} {m : Int} (h : TabOk n w T) (hq : ShOk n qs) (ho : ShOk n os) (hi : i < w) (hj : j < w) (hm : ∀ y ∈ gaps T, y ≤ m) : pSq (payAt T qs i) (payAt T os j) ≤ (m : Rat) := by
  refine payAt_near h hq fun r hr => ?_
  rw [pSq_comm]
  refine payAt_near h ho fun s hs => ?_
  rw [pSq_comm, gap_sq]
  exact Rat.intCast_le_intCast.mpr (hm _ (gap_mem h hr hs hi hj))
theorem gap_b {c d : Cell} (hc : CellOk c) (hd : CellOk d) : 0 ≤ gapI c d ∧ gapI c d ≤ 80000 := by
  obtain ⟨⟨a1, a2⟩, a3, a4⟩ := hc
  obtain ⟨⟨b1, b2⟩, b3, b4⟩ := hd
  have sq : ∀ x : Int, -200 ≤ x → x ≤ 200 → 0 ≤ x ^ 2 ∧ x ^ 2 ≤ 40000 := fun x h1 h2 => by
    rw [Int.pow_succ, Int.pow_succ, Int.pow_zero, Int.one_mul]
    constructor
    · rcases Int.le_total 0 x with h | h
      · exact Int.mul_nonneg h h
      · exact Int.mul_nonneg_of_nonpos_of_nonpos h h
    · have e : 40000 - x * x = (200 - x) * (200 + x) := by grind
      have : 0 ≤ (200 - x) * (200 + x) := Int.mul_nonneg (by omega) (by omega)
      omega
  have s1 := sq (c.1 - d.1) (by omega) (by omega)
  have s2 := sq (c.2 - d.2) (by omega) (by omega)
  unfold gapI
  omega
theorem flat_ok {n w : Nat} {T : List (List Cell)} (h : TabOk n w T) : (∀ c ∈ T.flatten, CellOk c) ∧ T.flatten.length = n * w := by
  refine ⟨fun c hc => ?_, ?_⟩
  · obtain ⟨r, hr, hc⟩ := List.mem_flatten.mp hc
    exact h.cell r hr c hc
  · rw [← h.len]
    have : ∀ T : List (List Cell), (∀ r ∈ T, r.length = w) → T.flatten.length = T.length * w := fun T => by
      induction T with
      | nil => intro _; simp
      | cons r T ih => intro h; rw [List.flatten_cons, List.length_append, h r (by simp), ih fun s hs => h s (List.mem_cons_of_mem _ hs), List.length_cons, Nat.succ_mul]; omega
    exact this T h.row
def fGapOf : FS := fun xs R => ∃ c d, xs = [.d (cellD c), .d (cellD d)] ∧ CellOk c ∧ CellOk d ∧ R (.d (.int (gapI c d)))
def fGap : FS := fun xs R => ∃ n w T, xs = [.d (tabD T)] ∧ TabOk n w T ∧ ∀ m, isMax (gaps T) m → R (.d (.int m))
def fWidest : FS := fun xs R => ∃ n w T, xs = [.d (tabD T)] ∧ TabOk n w T ∧ ∀ m, isMax (gaps T) m → R (.d (.tuple [.int m, .int 1]))
def overC (r : List Cell) (os : List Rat) : Rat × Rat := (sm (r.zip os) (fun p => (cq p.1).1 * p.2), sm (r.zip os) (fun p => (cq p.1).2 * p.2))
def fPaidOver : FS := fun xs R => ∃ (w : Nat) (r : List Cell) (os : List Rat), xs = [.d (rowD r), .d (shD os)] ∧ r.length = w ∧ w ≤ 4 ∧ (∀ c ∈ r, CellOk c) ∧ ShOk w os ∧ R (.d (pt (overC r os)))
theorem row_range {r : List Cell} {w : Nat} (h : r.length = w) : (List.range w).map (nth r) = r := by
  apply List.ext_getElem
  · simp [h]
  · intro i h1 h2
    simp [nth, List.getD_eq_getElem?_getD, h2]
theorem over_range {r : List Cell} {os : List Rat} {w : Nat} (h : r.length = w) (ho : os.length = w) (f : Cell → Rat) : sm (r.zip os) (fun p => f p.1 * p.2) = sm (List.range w) fun j => f (nth r j) * os.getD j 0 := by
  have e1 := row_range h
  have e2 := getD_range ho
  have : sm (((List.range w).map (nth r)).zip ((List.range w).map fun a => os.getD a 0)) (fun p => f p.1 * p.2) = sm (List.range w) fun j => f (nth r j) * os.getD j 0 := by
    rw [List.zip_map', sm_map]
  rw [e1, e2] at this
  exact this
theorem payBy_range {T : List (List Cell)} {qs os : List Rat} {w : Nat} (ho : os.length = w) : payBy T qs os w = (sm (List.range w) (fun j => (payAt T qs j).1 * os.getD j 0), sm (List.range w) (fun j => (payAt T qs j).2 * os.getD j 0)) := by
  unfold payBy dotP
  rw [List.map_map, List.map_map, dot_range ho, dot_range ho]
  rfl
theorem other_eq {n w : Nat} {T : List (List Cell)} {qs os : List Rat} (h : TabOk n w T) (ho : os.length = w) : (sm (T.zip qs) (fun p => (overC p.1 os).1 * p.2), sm (T.zip qs) (fun p => (overC p.1 os).2 * p.2)) = payBy T qs os w := by
  rw [payBy_range ho]
  have one : ∀ f : Cell → Rat, sm (T.zip qs) (fun p => sm (p.1.zip os) (fun c => f c.1 * c.2) * p.2) = sm (List.range w) fun j => sm (T.zip qs) (fun p => f (nth p.1 j) * p.2) * os.getD j 0 := fun f => by
    have e : ∀ p ∈ T.zip qs, sm (p.1.zip os) (fun c => f c.1 * c.2) * p.2 = sm (List.range w) fun j => f (nth p.1 j) * os.getD j 0 * p.2 := fun p hp => by
      rw [over_range (h.row _ (List.of_mem_zip hp).1) ho, ← sm_mul]
    rw [sm_congr e, sm_comm]
    refine sm_congr fun j _ => ?_
    rw [← sm_mul]
    exact sm_congr fun p _ => by grind
  refine Prod.ext ?_ ?_
  · show sm (T.zip qs) (fun p => sm (p.1.zip os) (fun c => (cq c.1).1 * c.2) * p.2) = sm (List.range w) fun j => (payAt T qs j).1 * os.getD j 0
    rw [one fun c => (cq c).1]
    simp only [payAt_zip]
  · show sm (T.zip qs) (fun p => sm (p.1.zip os) (fun c => (cq c.1).2 * c.2) * p.2) = sm (List.range w) fun j => (payAt T qs j).2 * os.getD j 0
    rw [one fun c => (cq c).2]
    simp only [payAt_zip]
theorem overC_b {w : Nat} {r : List Cell} {os : List Rat} (w4 : w ≤ 4) (hr : r.length = w) (hc : ∀ c ∈ r, CellOk c) (ho : ShOk w os) : Pb 60 (overC r os) := by
  have one : ∀ f : Cell → Rat, (∀ c ∈ r, Fb 7 (f c)) → Fb 60 (sm (r.zip os) fun p => f p.1 * p.2) := fun f hf => by
    have := dot_fb (a := 7) (b := 5) (vs := r.map f) (ss := os) (fun v hv => by obtain ⟨c, hc, rfl⟩ := List.mem_map.mp hv; exact hf c hc) ho.bd
    rw [dot, zip_mapL, sm_map, List.length_map] at this
    exact this.mono (by omega)
  exact ⟨one (fun c => (cq c).1) fun c h => (cq_b (hc c h)).1, one (fun c => (cq c).2) fun c h => (cq_b (hc c h)).2⟩
theorem gaps_b {n w : Nat} {T : List (List Cell)} (h : TabOk n w T) {m : Int} (hm : m ∈ gaps T) : 0 ≤ m ∧ m ≤ 80000 := by
  obtain ⟨fok, _⟩ := flat_ok h
  obtain ⟨c, hc, hm⟩ := List.mem_flatMap.mp hm
  obtain ⟨d, hd, rfl⟩ := List.mem_map.mp hm
  exact gap_b (fok c hc) (fok d hd)
theorem isMax_eq {l : List Int} {a b : Int} (ha : isMax l a) (hb : isMax l b) : a = b := by
  have h1 := ha.2 b hb.1
  have h2 := hb.2 a ha.1
  omega
/-- a comprehension with two walks, by functions -/
theorem lc2_map {α β : Type} {fg fg1 : FG} {ft ft1 : FT} {fi1 : FI} {fe : FE} {L1 : List Nat} {ρ : En} (f : α → Vl) (m : α → List β) (h : α → β → PyData) : ∀ (l : List α) (acc : List PyData) (R : List PyData → Prop),
    (∀ a ∈ l, ∀ (acc : List PyData) (K : List PyData → Prop) (T' : Prop), K (acc ++ (m a).map (h a)) → fg (f a) ρ fun ρ2 => ft ρ2 fun b => if b = true then fi1 ρ2 fun items1 => items1.length ≤ 999 ∧ lcF fg1 ft1 fe (wipeE ρ2 L1) items1 acc K else T') →
    R (acc ++ l.flatMap fun a => (m a).map (h a)) → lc2F fg ft fi1 fg1 ft1 fe L1 ρ (l.map f) acc R
  | [], acc, R, _, q => by
    show R acc
    simpa using q
  | a :: l, acc, R, st, q => by
    refine st a (by simp) acc _ _ ?_
    refine lc2_map f m h l _ R (fun b hb => st b (List.mem_cons_of_mem _ hb)) ?_
    simpa [List.append_assoc] using q
end Px

set_option Elab.async false
set_option linter.all false
set_option maxRecDepth 100000
set_option maxHeartbeats 4000000
set_option exponentiation.threshold 10000
/-! W3: lines, how far points are beyond them, lines pushed to pairs. -/
namespace Px
open PySem PySem.Spec PyProof.Rows L2
abbrev Line := Int × Int × Int
def lineD (s : Line) : PyData := .tuple [.int s.1, .int s.2.1, .int s.2.2]
def LineB (n : Nat) (s : Line) : Prop := Bd n s.1 ∧ Bd n s.2.1 ∧ Bd n s.2.2
/-- how far a point is beyond a line -/
def abv (s : Line) (p : Rat × Rat) : Rat := (s.1 : Rat) * p.1 + (s.2.1 : Rat) * p.2 - (s.2.2 : Rat)
def lin (a b : Int) (c : Cell) : Int := a * c.1 + b * c.2
theorem fEq_ii {neg : Bool} {a b c d : Int} {R : Vl → Prop} : fEq neg (.d (.tuple [.int a, .int b])) (.d (.tuple [.int c, .int d])) R = R (.d (.bool (neg ^^ decide (a = c ∧ b = d)))) := by
  have e : PyData.eqv (.tuple [.int a, .int b]) (.tuple [.int c, .int d]) = decide (a = c ∧ b = d) := by
    have e : PyData.eqv (.tuple [.int a, .int b]) (.tuple [.int c, .int d]) = ((a == c) && ((b == d) && true)) := rfl
    rw [e, Bool.and_true, Bool.decide_and]
    congr 1
  have u : fEq neg (.d (.tuple [.int a, .int b])) (.d (.tuple [.int c, .int d])) R = (SeqAt.shaped (.tuple [.int a, .int b]) = true ∧ SeqAt.shaped (.tuple [.int c, .int d]) = true ∧ R (.d (.bool (neg ^^ PyData.eqv (.tuple [.int a, .int b]) (.tuple [.int c, .int d]))))) := rfl
  have s : ∀ a b : Int, SeqAt.shaped (.tuple [.int a, .int b]) = true := fun _ _ => rfl
  rw [u, e, s, s]
  simp
theorem cut2 {a b c : PyData} : cutD [a, b, c] none (some 2) = [a, b] := rfl
def fSide : FS := fun xs R => ∃ c : Cell, xs = [.st, .d (cellD c)] ∧ CellOk c ∧ ∀ a b r : Int, (a ≠ 0 ∨ b ≠ 0) → -3 ≤ a → a ≤ 3 → -3 ≤ b → b ≤ 3 → 0 ≤ r → r ≤ 9 → R (.d (lineD (a, b, a * c.1 + b * c.2 + r)))
def fSum : FS := fun xs R => ∃ (qs : List Rat) (a : Nat), xs = [.d (.list (qs.map fq))] ∧ (∀ q ∈ qs, Fb a q) ∧ (a + 1) * qs.length ≤ 7000 ∧ R (.d (fq (sm qs id)))
def fAbove : FS := fun xs R => ∃ (s : Line) (p : Rat × Rat) (n m : Nat), xs = [.d (lineD s), .d (pt p)] ∧ LineB n s ∧ Pb m p ∧ 0 < n ∧ n + m ≤ 1500 ∧ R (.d (fq (abv s p)))
def fPushed : FS := fun xs R => ∃ (s : Line) (cs : List Cell), xs = [.d (lineD s), .d (.list (cs.map cellD))] ∧ cs ≠ [] ∧ cs.length ≤ 1000 ∧ LineB 30 s ∧ (∀ c ∈ cs, CellOk c) ∧ ∀ m, isMax (cs.map (lin s.1 s.2.1)) m → R (.d (lineD (s.1, s.2.1, m)))
def IsPay (T : List (List Cell)) (n w : Nat) (p : Rat × Rat) : Prop := ∃ qs j, ShOk n qs ∧ j < w ∧ p = payAt T qs j
def fRowDraw : FS := fun xs R => ∃ n w T, xs = [.st, .d (tabD T)] ∧ TabOk n w T ∧ ∀ ps : List (Rat × Rat), 0 < ps.length → ps.length ≤ 6 → (∀ p ∈ ps, IsPay T n w p) → R (.d (.list (ps.map pt)))
/-! ### what stays within lines -/
def linQ (a b : Int) (p : Rat × Rat) : Rat := (a : Rat) * p.1 + (b : Rat) * p.2
section
variable {α : Type}
theorem lin_convex (L : List (α × Rat)) (P : α → Rat × Rat) (a b : Int) (m : Rat) (h1 : sm L (·.2) = 1) (h0 : ∀ p ∈ L, 0 ≤ p.2) (hm : ∀ p ∈ L, linQ a b (P p.1) ≤ m) :
    linQ a b (sm L (fun p => (P p.1).1 * p.2), sm L (fun p => (P p.1).2 * p.2)) ≤ m := by
  have e : linQ a b (sm L (fun p => (P p.1).1 * p.2), sm L (fun p => (P p.1).2 * p.2)) = sm L fun p => p.2 * linQ a b (P p.1) := by
    unfold linQ
    have e1 : ∀ p ∈ L, p.2 * ((a : Rat) * (P p.1).1 + (b : Rat) * (P p.1).2) = (P p.1).1 * p.2 * (a : Rat) + (P p.1).2 * p.2 * (b : Rat) := fun p _ => by grind
    rw [sm_congr e1, sm_add, sm_mul, sm_mul]
    grind
  rw [e]
  have e2 : ∀ p ∈ L, p.2 * linQ a b (P p.1) ≤ p.2 * m := fun p hp => Rat.mul_le_mul_of_nonneg_left (hm p hp) (h0 p hp)
  refine Rat.le_trans (sm_le e2) ?_
  rw [sm_mul, h1]
  grind
end
theorem linQ_cell (a b : Int) (c : Cell) : linQ a b (cq c) = ((lin a b c : Int) : Rat) := by
  unfold linQ cq lin
  rw [Rat.intCast_add, Rat.intCast_mul, Rat.intCast_mul]
theorem payAt_line {n w : Nat} {T : List (List Cell)} {qs : List Rat} {j : Nat} {a b : Int} {m : Rat} (h : TabOk n w T) (hq : ShOk n qs) (hm : ∀ r ∈ T, linQ a b (cq (nth r j)) ≤ m) : linQ a b (payAt T qs j) ≤ m := by
  rw [payAt_zip]
  refine lin_convex (T.zip qs) (fun r => cq (nth r j)) a b m ?_ (fun p hp => hq.nn _ (List.of_mem_zip hp).2) fun p hp => hm _ (List.of_mem_zip hp).1
  rw [zip_sum T qs (by rw [hq.len, h.len]; exact Nat.le_refl _), hq.sum]
theorem payBy_line {n w : Nat} {T : List (List Cell)} {qs os : List Rat} {a b : Int} {m : Rat} (h : TabOk n w T) (hq : ShOk n qs) (ho : ShOk w os) (hm : ∀ r ∈ T, ∀ j < w, linQ a b (cq (nth r j)) ≤ m) : linQ a b (payBy T qs os w) ≤ m := by
  have e : payBy T qs os w = (sm ((List.range w).zip os) (fun p => (payAt T qs p.1).1 * p.2), sm ((List.range w).zip os) (fun p => (payAt T qs p.1).2 * p.2)) := by
    unfold payBy dotP dot
    rw [List.map_map, List.map_map, zip_mapL, zip_mapL, sm_map, sm_map]
    rfl
  rw [e]
  refine lin_convex ((List.range w).zip os) (payAt T qs) a b m ?_ (fun p hp => ho.nn _ (List.of_mem_zip hp).2) fun p hp => ?_
  · rw [zip_sum _ os (by rw [ho.len]; simp), ho.sum]
  · have hj : p.1 < w := by simpa using (List.of_mem_zip hp).1
    exact payAt_line h hq fun r hr => hm r hr _ hj
theorem abv_lin (s : Line) (p : Rat × Rat) : abv s p = linQ s.1 s.2.1 p - (s.2.2 : Rat) := rfl
theorem abv_le {s : Line} {p : Rat × Rat} (h : linQ s.1 s.2.1 p ≤ (s.2.2 : Rat)) : ¬ 0 < (abv s p).num := by
  intro hp
  have h1 : 0 ≤ -abv s p := by
    rw [abv_lin]
    grind
  have h2 := Rat.num_nonneg.mpr h1
  rw [Rat.neg_num] at h2
  omega
theorem mean_near {ps : List (Rat × Rat)} {z : Rat × Rat} {m : Rat} (h0 : 0 < ps.length) (hm : ∀ p ∈ ps, pSq p z ≤ m) : pSq (meanP ps) z ≤ m := by
  have hn : Rat.divInt 1 ps.length * (ps.length : Rat) = 1 := by
    have := unit_whole h0
    have e : Rat.divInt (ps.length : Nat) 1 = (ps.length : Rat) := fq_inj.mp (whole_q.symm.trans rfl)
    rw [e] at this
    exact this
  have hc : ∀ (ps : List (Rat × Rat)) (c : Rat), sm ps (fun _ => c) = c * (ps.length : Rat) := fun ps c => by
    induction ps with
    | nil => simp [sm]
    | cons p ps ih =>
      simp only [sm, ih, List.length_cons]
      have : ((ps.length + 1 : Nat) : Rat) = (ps.length : Rat) + 1 := by rw [Rat.natCast_add]; rfl
      rw [this]
      grind
  have e : meanP ps = (sm (ps.map fun p => (p, Rat.divInt 1 ps.length)) (fun p => (id p.1).1 * p.2), sm (ps.map fun p => (p, Rat.divInt 1 ps.length)) (fun p => (id p.1).2 * p.2)) := by
    rw [meanP, pMul, tot_fst, tot_snd, sm_map, sm_map, ← sm_mul, ← sm_mul]
    rfl
  rw [e]
  refine convex_near (ps.map fun p => (p, Rat.divInt 1 ps.length)) id z m ?_ (fun p hp => ?_) fun p hp => ?_
  · rw [sm_map, hc, hn]
  · obtain ⟨p, _, rfl⟩ := List.mem_map.mp hp
    exact divInt_nn (p := 1) h0
  · obtain ⟨p, hp', rfl⟩ := List.mem_map.mp hp
    exact hm p hp'
theorem means_near {n w : Nat} {T : List (List Cell)} {ps rs : List (Rat × Rat)} {m : Int} (h : TabOk n w T) (hm : ∀ y ∈ gaps T, y ≤ m) (p0 : 0 < ps.length) (r0 : 0 < rs.length) (hp : ∀ p ∈ ps, IsPay T n w p) (hr : ∀ p ∈ rs, IsPay T n w p) : pSq (meanP ps) (meanP rs) ≤ (m : Rat) := by
  refine mean_near p0 fun p hp' => ?_
  rw [pSq_comm]
  refine mean_near r0 fun r hr' => ?_
  obtain ⟨qs, j, hq, hj, rfl⟩ := hp p hp'
  obtain ⟨os, i, ho, hi, rfl⟩ := hr r hr'
  exact pays_near h ho hq hi hj hm
theorem isPay_b {n w : Nat} {T : List (List Cell)} {p : Rat × Rat} (h : TabOk n w T) (hp : IsPay T n w p) : Pb 60 p := by
  obtain ⟨qs, j, hq, hj, rfl⟩ := hp
  exact payAt_b h hq hj
end Px

set_option Elab.async false
set_option linter.all false
set_option maxRecDepth 100000
set_option maxHeartbeats 2000000
/-! PyX: defs that may raise: an exception of a class of the program's own with one field. -/
namespace Px
open PySem PySem.Spec PyProof.Rows L2
/-- an exception: its class's name, its field's name, the field's value -/
structure Bad where
  cls : Str
  fld : Str
  val : Vl
def BadOk (K : Kx) (mg : Str → Option Value) (M : Hp) (b : Bad) (cls : Value) (d : Option Addr) (H : Hp) : Prop :=
  ∃ C dd fs v, mg b.cls = some (.ref C) ∧ cls = .ref C ∧ d = some dd ∧ H dd = some (.xd fs) ∧ fs.lookup b.fld = some v ∧ VlOk K M v b.val
theorem BadOk.mono {K : Kx} {mg : Str → Option Value} {M M' H : Hp} {b : Bad} {cls : Value} {d : Option Addr} (e : Ex M M') (h : BadOk K mg M b cls d H) : BadOk K mg M' b cls d H := by
  obtain ⟨C, dd, fs, v, h1, h2, h3, h4, h5, h6⟩ := h
  exact ⟨C, dd, fs, v, h1, h2, h3, h4, h5, h6.mono e⟩
/-- what is wanted of exceptions, from where one stands -/
structure LkX (K : Kx) (mg : Str → Option Value) (C : Ct) (c : Nat) (M : Hp) (W : WX) (EX : En → Bad → Prop) : Prop where
  ex : ∀ cls d σ' ρ' H' b m, C.m ≤ m → m ≤ C.m + c → Good K (C.up m) σ' ρ' H' → Ex M (mq C σ' ρ' H') → BadOk K mg (mq C σ' ρ' H') b cls d H' → EX ρ' b → W cls d σ' H'
theorem LkX.go {K : Kx} {mg : Str → Option Value} {C : Ct} {c c' m1 : Nat} {M M' : Hp} {W : WX} {EX : En → Bad → Prop} (l : LkX K mg C c M W EX) (h1 : C.m ≤ m1) (h2 : m1 + c' ≤ C.m + c) (e : Ex M M') : LkX K mg (C.up m1) c' M' W EX :=
  ⟨fun cls d σ' ρ' H' b m a1 a2 G x => l.ex cls d σ' ρ' H' b m (Nat.le_trans h1 a1) (Nat.le_trans a2 h2) G (e.trans x)⟩
abbrev FX := En → (Vl → Prop) → (En → Bad → Prop) → Prop
abbrev FStX := En → SEn → (En → Bad → Prop) → Prop
def SEX (K : Kx) (mg : Str → Option Value) (E : WX) (t : TE) (c : Nat) (f : FX) : Prop := ∀ (C : Ct) (σ : Sg) (ρ : En) (H : Hp) (R : Vl → Prop) (EX : En → Bad → Prop) (Q : VK), C.m + c ≤ lim → Good K C σ ρ H → f ρ R EX →
  (∀ v H' x m, C.m ≤ m → m ≤ C.m + c → Tr C.S (K.SI m) H H' → VlOk K (mq C σ ρ H') v x → R x → Q v H') → LkX K mg C c (mq C σ ρ H) E EX → t σ H Q
def SSX (K : Kx) (mg : Str → Option Value) (E : WX) (t : TS) (c : Nat) (f : FStX) : Prop := ∀ (C : Ct) (σ : Sg) (ρ : En) (H : Hp) (N : SEn) (EX : En → Bad → Prop) (D : Ends), C.m + c ≤ lim → Good K C σ ρ H → f ρ N EX → Lk K C c (mq C σ ρ H) N D → LkX K mg C c (mq C σ ρ H) E EX → t D σ H
/-- a frame from which exceptions go out -/
structure Fx where
  F : Fm
  E : WX
  tk : ∀ i, L2.Takes (F.X i) E
structure Xe (G : Fx) (e : Expr) (c : Nat) (f : FX) : Prop where
  ex : ∃ t, (∀ i, PE (G.F.X i) e t) ∧ SEX G.F.K G.F.mg G.E t c f
structure X1 (G : Fx) (st : Stmt) (c : Nat) (f : FStX) : Prop where
  ex : ∃ t, (∀ i, PS (G.F.X i) st t) ∧ SSX G.F.K G.F.mg G.E t c f
structure Xs (G : Fx) (sts : List Stmt) (c : Nat) (f : FStX) : Prop where
  ex : ∃ t, (∀ i, PSs (G.F.X i) sts t) ∧ SSX G.F.K G.F.mg G.E t c f
section
variable {G : Fx} {st : Stmt} {sts a b : List Stmt} {e : Expr} {pos p p' : Pos} {f g : FStX} {fx : FX} {fs : FSt} {ft : FT} {fe : FE} {x : Str} {n na nb c : Nat}
/-- what raises nothing -/
theorem x_of (h : E1 G.F st n fs) : X1 G st n (fun ρ N _ => fs ρ N) := by
  obtain ⟨t, pt, s⟩ := h
  exact ⟨t, pt, fun C σ ρ H N EX D hm G' hf l _ => s C σ ρ H N D hm G' hf l⟩
theorem xe_of (h : Ee G.F e n fe) : Xe G e n (fun ρ R _ => fe ρ R) := by
  obtain ⟨t, pt, s⟩ := h
  exact ⟨t, pt, fun C σ ρ H R EX Q hm G' hf k _ => s C σ ρ H R Q hm G' hf k⟩
theorem xs_nil : Xs G [] 0 (fun ρ N _ => N.nx ρ) := ⟨_, fun _ => pss_nil, fun C σ ρ H N _ D _ G' h l _ => l.nx σ ρ H C.m (Nat.le_refl _) le0 G' (Ex.refl _) h⟩
theorem xs_cons (h : X1 G st na f) (hs : Xs G sts nb g) : Xs G (st :: sts) (na + nb) (fun ρ N EX => f ρ { N with nx := fun ρ' => g ρ' N EX } EX) := by
  obtain ⟨t, pt, s1⟩ := h
  obtain ⟨u, pu, s2⟩ := hs
  exact ⟨_, fun i => pss_cons (pt i) (pu i), fun C σ ρ H N EX D hm G' hf l lx => s1 C σ ρ H { N with nx := fun ρ' => g ρ' N EX } EX { D with nx := u D } (by omega) G' hf
    ⟨fun σ' ρ' H' m a b G'' x h => s2 (C.up m) σ' ρ' H' N EX D (by show m + nb ≤ lim; omega) G'' h (l.go a (by omega) x) (lx.go a (by omega) x), fun σ' ρ' H' m a b => l.bk σ' ρ' H' m a (by omega), fun σ' ρ' H' m a b => l.ct σ' ρ' H' m a (by omega), fun v H' x m a b => l.rt v H' x m a (by omega)⟩ (lx.go (Nat.le_refl _) (by omega) (Ex.refl _))⟩
theorem x_expr (he : Xe G e n fx) (hs : ∀ j, swapsWith e none pos.line (G.F.X j).env = pure false := by intro _; rfl) : X1 G (.Expr e pos) n (fun ρ N EX => fx ρ (fun _ => N.nx ρ) EX) := by
  obtain ⟨t, pt, s⟩ := he
  exact ⟨_, fun j => ps_expr (pt j) (hs j), fun C σ ρ H N EX D hm G' hf l lx => s C σ ρ H _ EX _ hm G' hf (fun v H1 y m l1 u1 t1 oy h1 => l.nx σ ρ H1 m l1 u1 (G'.tr t1) (G'.ex t1) h1) lx⟩
theorem x_set (i : Nat) (hi : G.F.N[i]? = some x) (he : Xe G e n fx) (hx : ∀ j, Loc (G.F.X j).env.scope x := by intro _; first | exact .inl rfl | exact .inr rfl)
    (hf : ∀ j, (G.F.X j).fn x = true ∨ (G.F.X j).env.scope.names.lookup x = some .local := by intro _; exact .inl rfl) (hs : ∀ j, swapsWith e (some (.Name x p')) pos.line (G.F.X j).env = pure false := by intro _; rfl) :
    X1 G (.Assign [.Name x p'] e pos) n (fun ρ N EX => fx ρ (fun y => i < ρ.length ∧ N.nx (ρ.set i (.v y))) EX) := by
  obtain ⟨t, pt, s⟩ := he
  refine ⟨_, fun j => ps_set (by rw [G.F.eN]; exact G.F.nd) (by rw [G.F.eN]; exact hi) (hx j) (pt j) (hs j) (hf j), fun C σ ρ H N EX D hm G' hf' l lx => s C σ ρ H _ EX _ hm G' hf' (fun v H1 y m l1 u1 t1 oy h1 => ?_) lx⟩
  obtain ⟨G2, ex⟩ := (G'.tr t1).set h1.1 oy
  exact l.nx _ _ _ m l1 u1 G2 ((G'.ex t1).trans ex) h1.2
theorem x_ret (he : Xe G e n fx) : X1 G (.Return (some e) pos) n (fun ρ N EX => fx ρ N.rt EX) := by
  obtain ⟨t, pt, s⟩ := he
  exact ⟨_, fun j => ps_ret (pt j), fun C σ ρ H N EX D hm G' hf l lx => s C σ ρ H _ EX _ hm G' hf (fun v H1 y m l1 u1 t1 oy h1 => l.rt v H1 y m l1 u1 t1.2 (G'.tr t1).fr (oy.mono (mask_sub fun a h => .inl h)) h1) lx⟩
theorem x_if (hc : Et G.F e n ft) (ha : Xs G a na f) (hb : Xs G b nb g) : X1 G (.If e a b pos) (n + (na + nb)) (fun ρ N EX => ft ρ fun k => if k = true then f ρ N EX else g ρ N EX) := by
  obtain ⟨t, pt, s⟩ := hc
  obtain ⟨u, pu, su⟩ := ha
  obtain ⟨w, pw, sw⟩ := hb
  refine ⟨_, fun i => ps_if (pt i) (pu i) (pw i), fun C σ ρ H N EX D hm G' hf l lx => s C σ ρ H _ _ (by omega) G' hf fun k H1 m l1 u1 t1 h1 => ?_⟩
  cases k with
  | true => exact su (C.up m) σ ρ H1 N EX D (by show m + na ≤ lim; omega) (G'.tr t1) h1 (l.go l1 (by omega) (G'.ex t1)) (lx.go l1 (by omega) (G'.ex t1))
  | false => exact sw (C.up m) σ ρ H1 N EX D (by show m + nb ≤ lim; omega) (G'.tr t1) h1 (l.go l1 (by omega) (G'.ex t1)) (lx.go l1 (by omega) (G'.ex t1))
end
/-! ### calls of defs that may raise -/
abbrev FSX := List Vl → (Vl → Prop) → (Bad → Prop) → Prop
def spFX (K : Kx) (mg : Str → Option Value) (n c : Nat) (f : FSX) : Sp := fun vs H Q E => ∃ (B : Addr → Prop) (m : Nat) (xs : List Vl) (R : Vl → Prop) (EX : Bad → Prop), CtOk B K.S K.SI ∧ K.SI m H ∧ m + c ≤ lim ∧ (∀ a, B a → H a ≠ none) ∧ xs.length = n ∧ VlA K (mask B H) vs xs ∧ f xs R EX ∧
  (∀ v H' x m', m ≤ m' → m' ≤ m + c → Tr K.S (K.SI m') H H' → VlOk K (mask B H') v x → R x → Q v H') ∧
  ∀ cls d H' b m', m ≤ m' → m' ≤ m + c → Tr K.S (K.SI m') H H' → BadOk K mg (mask B H') b cls d H' → EX b → E cls d H'
structure DfX (P : Program) (w : World) (K : Kx) (mg : Str → Option Value) (base : Heap) (x : Str) (st : Stmt) (ps : List Str) (k cf : Nat) (fx : FSX) : Prop where
  ex : ∃ fa fd, FnG P w K mg base (L2.CX P w) k fa fd ps (spFX K mg ps.length cf fx) ∧ mg x = some (.ref fa) ∧ Fun K x x st fa fd
section
variable {X : Cx} {k : Nat} {f : Addr} {fd : FuncData} {ps : List Str} {sp : Sp} {E : L2.St → XK} {x : Str} {p pos : Pos} {e : Expr} {es : List Expr} {t : TA} {CX : CXT}
theorem goGS {pins : List (Addr × Obj)} {σ : L2.St} {H : Hp} {s : Shared} {Q : VK} {us : List Value} {vs : List V} (F : FnG X.prog X.w X.K X.mg X.base CX k f fd ps sp)
    (hg : X.A.guards = some []) (hr : Room k X.A) (hx : PassesAt CX X σ (E σ)) (I : L2.Inv X pins σ H s) (hb : us.length = ps.length → BindsTo s fd ⟨us, []⟩ (ps.zip us)) (r : Vals vs us) (q : sp vs H Q (E σ)) :
    wpAny (model X.prog X.w) X.A (call (.ref f) us []) (EP X pins σ Q) X.xe s := by
  have hl : us.length = ps.length := by rw [← r.length]; exact F.arity _ _ _ _ q
  refine wpAny_call (codeAny_mono (F.runs X.A X.stack s H ⟨us, []⟩ us vs Q (E σ) hg hr I.env0 (hb hl) r q) fun r s' hq => ?_)
  cases r with
  | error e => exact hx pins H s e s' I hq
  | ok fl =>
    cases fl with
    | ret u => exact I.after hq
    | next => exact False.elim hq
    | brk => exact False.elim hq
    | cont => exact False.elim hq
theorem peG_callS (F : FnG X.prog X.w X.K X.mg X.base CX k f fd ps sp) (hg : X.A.guards = some []) (hr : Room k X.A) (hx : ∀ σ, PassesAt CX X σ (E σ)) (gl : Gl X x) (hm : X.mg x = some (.ref f)) (hk : PySem.W.keepIn X.K (.ref f) = true)
    (hb : Binds X.K fd ps []) (ha : PA X (e :: es) t) (hdb : (x == ("__debug__" : Str)) = false := by decide) (he : starEach (e :: es) X.env = (false, eval e X.env) :: starEach es X.env := by rfl)
    (hpl : (backTo pos (starEach es X.env)).any (·.1) = false := by rfl) : PE X (.Call (.Name x p) (e :: es) [] pos) (tCallS sp E t) := by
  refine ⟨fun pins s σ H Q I h => wpAny_Call_Name_kw (ld_glob I gl hm ?_ hdb)⟩
  refine PySem.W.callWith_K (h₀ := X.base) I.ok.mod.kin hk (thn (ha.run pos pins s σ H _ I h) fun us s1 ⟨vs, H1, I1, r, q⟩ => ⟨I1.kIn, ?_⟩) he hpl
  exact goGS F hg hr (hx σ) I1 (fun hl => by have := hb s1 us I1.kIn (by simpa using hl); simpa using this) r q
end
section
variable {G : Fx} {e : Expr} {es : List Expr} {pos p : Pos} {x : Str} {st : Stmt} {ps : List Str} {k cf nf : Nat} {ff : FA} {fx : FSX}
theorem e_defX (D : DfX G.F.P G.F.w G.F.K G.F.mg G.F.base x st ps k cf fx) (hb : BindP x st ps) (ha : Ea G.F (e :: es) nf ff) (hk : k ≤ G.F.k := by exact Nat.le_of_ble_eq_true rfl) (hg : ∀ i, Gl (G.F.X i) x := by intro _; rfl) (hdb : (x == ("__debug__" : Str)) = false := by decide)
    (he : ∀ i, starEach (e :: es) (G.F.X i).env = (false, eval e (G.F.X i).env) :: starEach es (G.F.X i).env := by intro _; rfl) (hpl : ∀ i, (backTo pos (starEach es (G.F.X i).env)).any (·.1) = false := by intro _; rfl) :
    Xe G (.Call (.Name x p) (e :: es) [] pos) (nf + cf) (fun ρ R EX => ff ρ fun xs => xs.length = ps.length ∧ fx xs R (EX ρ)) := by
  obtain ⟨fa, fd, Fn, hm, Fu⟩ := D
  obtain ⟨t, pt, st'⟩ := ha
  refine ⟨tCallS (spFX G.F.K G.F.mg ps.length cf fx) (WE G.E) t, fun j => ?_, fun C σ ρ H R EX Q hm' G' hf kk lx => ?_⟩
  · have q1 := G.F.eK j
    have q2 := G.F.eM j
    have q3 := G.F.eP j
    have q4 := G.F.eW j
    have q5 := G.F.eB j
    exact peG_callS (CX := L2.CX G.F.P G.F.w) (by rw [q1, q2, q3, q4, q5]; exact Fn) (G.F.gu j) ((G.F.room j).mono hk) (by rw [← q3, ← q4]; exact fun σ => passAt (G.tk j) σ) (hg j) (by rw [q2]; exact hm) (by rw [q1]; exact Fu.kp) (by rw [q1]; exact Fu.binds hb) (pt j) hdb (he j) (hpl j)
  · refine st' C σ ρ H _ _ (by omega) G' hf fun vs H1 xs m1 l1 u1 t1 oxs h1 => ?_
    have G1 := G'.tr t1
    show spFX G.F.K G.F.mg ps.length cf fx vs H1 Q (WE G.E σ)
    refine ⟨bar C.B σ ρ, m1, xs, R, EX ρ, G1.ctAll, G1.si, by omega, G1.bdAll, h1.1, oxs, h1.2, fun v H' z m l u t2 oz hz => ?_, fun cls d H' b m l u t2 ob hb' => ?_⟩
    · have t2' : Tr C.S (G.F.K.SI m) H1 H' := by rw [G'.eS]; exact t2
      exact kk v H' z m (Nat.le_trans l1 l) (by omega) (t1.trans t2') oz hz
    · have t2' : Tr C.S (G.F.K.SI m) H1 H' := by rw [G'.eS]; exact t2
      exact lx.ex cls d σ ρ H' b m (Nat.le_trans l1 l) (by omega) (G1.tr t2') ((G'.ex t1).trans (G1.ex t2')) ob hb'
end
def fmX (P : Program) (w : World) (K : Kx) (mg : Str → Option Value) (base : Heap) (N : List Str) (qual : Str) (st : Stmt) (fa : Addr) (cd : Value) (A : Around) (outer : List PySem.Env) (s : Shared) (H : Hp) (E : XK) (k : Nat) (nd : N.Nodup)
    (hr : Room k (A.deeper (envOfC qual (defScope st) s.heap.objs.size fa cd))) (hg : A.guards = some []) : Fx where
  F := Fm.one (cxOf (L2.CX P w) P w K mg base N qual (defScope st) fa cd A outer s H E) K rfl k nd rfl hr hg (passes_of rfl)
  E := fun cls d _ H => E cls d H
  tk := fun _ => takes_of rfl rfl rfl rfl
theorem fnX_make {P : Program} {w : World} {K : Kx} {mg : Str → Option Value} {base : Heap} {k cf : Nat} {fa : Addr} {x qual : Str} {st : Stmt} {fd : FuncData} {N ps : List Str} {f : FSX} (Fu : Fun K x qual st fa fd) (S : FnScope N ps (defScope st)) (hN : ps.length ≤ N.length)
    (body : ∀ (cd : Value) (A : Around) (outer : List PySem.Env) (s : Shared) (H : Hp) (E : XK) (hr : Room k (A.deeper (envOfC qual (defScope st) s.heap.objs.size fa cd))) (hg : A.guards = some []),
      ∃ c g, c ≤ cf ∧ Xs (fmX P w K mg base N qual st fa cd A outer s H E k S.nd hr hg) (defBody st) c g ∧
        ∀ (xs : List Vl) (R : Vl → Prop) (EX : Bad → Prop), xs.length = ps.length → f xs R EX → g (xs.map Sl.v ++ List.replicate (N.length - ps.length) Sl.non) { nx := fun _ => R (.d .none), rt := R } fun _ => EX) :
    FnG P w K mg base (L2.CX P w) (k + 1) fa fd ps (spFX K mg ps.length cf f) := by
  refine FnG.make Fu S (fun vs H Q E h => ?_) fun cd A outer s H vs Q E hg hr h => ?_
  · obtain ⟨B, m, xs, R, EX, _, _, _, _, hl, r, _⟩ := h
    rw [r.length, hl]
  · obtain ⟨B, m, xs, R, EX, ct, si, hm, bd, hl, r, hf, kk, kx⟩ := h
    obtain ⟨c, g, hc, ⟨t, pt, s1⟩, hgg⟩ := body cd A outer s H E hr hg
    refine ⟨t, pt (), ?_⟩
    have hvl : vs.length = ps.length := by rw [r.length, hl]
    have est : L2.start N vs = vs.map some ++ List.replicate (N.length - ps.length) none := by unfold L2.start; rw [hvl]
    rw [est]
    have m0 : ∀ a, bar B (vs.map some ++ List.replicate (N.length - ps.length) none) (xs.map Sl.v ++ List.replicate (N.length - ps.length) Sl.non) a → B a := fun a z => by
      rcases z with z | ⟨i, ys, z, _⟩
      · exact z
      · exact (no_own z).elim
    refine s1 ⟨B, K.S, H, m⟩ _ (xs.map Sl.v ++ List.replicate (N.length - ps.length) Sl.non) H _ (fun _ => EX) _ (by show m + c ≤ lim; omega) ⟨rfl, ct, si, bd, fun a o _ e => e, by simp [r.length], fun i y e => ?_, fun i ys e => (no_own e).elim, fun i j ys zs p e => (no_own e).elim⟩ (hgg xs R EX hl hf) ⟨?_, ?_, ?_, ?_⟩ ⟨?_⟩
    · obtain ⟨v, a, b⟩ := VlA.of_start _ r i y e
      exact ⟨v, a, b.mono (mask_sub m0)⟩
    · exact fun σ' ρ' H' m' a b G' _ h' => kk .non H' (.d .none) m' a (by have : m' ≤ m + c := b; omega) ⟨fun a o n e => G'.fr a o n e, G'.si⟩ Rd.non h'
    · exact fun _ _ _ _ _ _ _ _ z => z.elim
    · exact fun _ _ _ _ _ _ _ _ z => z.elim
    · exact fun v H' y m' a b si' fr' o h' => kk v H' y m' a (by have : m' ≤ m + c := b; omega) ⟨fr', si'⟩ o h'
    · exact fun cls d σ' ρ' H' b m' a b' G' _ ob hb => kx cls d H' b m' a (by have : m' ≤ m + c := b'; omega) ⟨fun a o n e => G'.fr a o n e, G'.si⟩ (ob.mono (mask_sub fun a h => .inl h)) hb
/-! ### raise C(e), C a class of the program's own whose __init__ keeps its one argument -/
/-- self.f = v in the new exception -/
def spI (K : PySem.W.Frag) (C : Addr) (f : Str) : Sp := fun vs H Q _ => ∃ a v, vs = [V.ref a, v] ∧ OexC K C ∧ PySem.W.findIn K (.ref C) f = some none ∧ H a = some (exo a C none) ∧
  ∀ dx, H dx = none → dx ≠ a → Q .non (upd (upd H dx (exd dx [(f, v)])) a (exo a C (some dx)))
/-- the class C of the name x, its field f -/
structure Cl (P : Program) (w : World) (K : Kx) (mg : Str → Option Value) (base : Heap) (x f : Str) : Prop where
  ex : ∃ (C fI : Addr) (fd : FuncData) (ps : List Str), mg x = some (.ref C) ∧ OexC K.fg C ∧ PySem.W.findIn K.fg (.ref C) "__init__" = some (some (.ref fI)) ∧ PySem.W.typeIn K.fg (.ref fI) = some (.type "function") ∧
    FnOk P w K.fg mg base (L2.CX P w) 1 fI fd ps (spI K.fg C f) ∧ Binds K.fg fd ps [] ∧ PySem.W.findIn K.fg (.ref C) f = some none
section
variable {G : Fx} {e : Expr} {pos p pos' : Pos} {x f : Str} {nf : Nat} {ff : FA}
theorem x_raise (D : Cl G.F.P G.F.w G.F.K G.F.mg G.F.base x f) (ha : Ea G.F [e] nf ff) (hk : 2 ≤ G.F.k := by exact Nat.le_of_ble_eq_true rfl) (hg : ∀ i, Gl (G.F.X i) x := by intro _; rfl) (hdb : (x == ("__debug__" : Str)) = false := by decide)
    (he : ∀ i, starEach [e] (G.F.X i).env = (false, eval e (G.F.X i).env) :: starEach [] (G.F.X i).env := by intro _; rfl) (hpl : ∀ i, (backTo pos (starEach [] (G.F.X i).env)).any (·.1) = false := by intro _; rfl) :
    X1 G (.Raise (some (.Call (.Name x p) [e] [] pos)) none pos') nf (fun ρ N EX => ff ρ fun xs => ∃ v, xs = [v] ∧ EX ρ ⟨x, f, v⟩) := by
  obtain ⟨C, fI, fd, ps, hm, T, iC, tI, Fn, hb, hno⟩ := D
  obtain ⟨t, pt, st'⟩ := ha
  refine ⟨fun _ σ H => tMkO C (spI G.F.K.fg C f) [] t σ H fun cls d H' => G.E cls d σ H', fun j => ?_, fun C' σ ρ H N EX D hm' G' hf l lx => ?_⟩
  · have q1 := G.F.eK j
    have q2 := G.F.eM j
    have q3 := G.F.eP j
    have q4 := G.F.eW j
    have q5 := G.F.eB j
    exact ps_raise (W := G.E) (G.F.calm j) (G.tk j) (pmk_oex (CX := L2.CX G.F.P G.F.w) (by rw [q1]; exact T) (by rw [q1]; exact iC) (by rw [q1]; exact tI) (by rw [q1, q2, q3, q4, q5]; exact Fn) ((G.F.room j).mono hk) (by rw [q1]; exact hb) .nil
      (by rw [← q3, ← q4]; exact passes_call (G.tk j) fun _ _ _ _ h => h.elim) (hg j) (by rw [q2]; exact hm) (pt j) hdb (he j) (hpl j))
  · show t σ H fun vs H1 => _
    refine st' C' σ ρ H _ _ hm' G' hf fun vs H1 xs m1 l1 u1 t1 oxs h1 => ?_
    obtain ⟨y, rfl, hy⟩ := h1
    obtain ⟨v, rfl, oy⟩ := oxs.one
    refine ⟨by simp, fun a ha => ?_⟩
    refine ⟨a, v, rfl, T, hno, upd_same, fun dx hdx hne => ⟨rfl, dx, [(f, v)], upd_same, ?_, ?_, ?_⟩⟩
    · rw [upd_ne hne]; exact upd_same
    · have := hdx
      rw [upd_ne hne] at this
      exact this
    · have hd1 : H1 dx = none := by
        have := hdx
        rw [upd_ne hne] at this
        exact this
      have eH : upd (del (upd (upd (upd H1 a (exo a C none)) dx (exd dx [(f, v)])) a (exo a C (some dx))) a) dx (.xd [(f, v)]) = upd H1 dx (.xd [(f, v)]) := by
        funext b
        by_cases e1 : b = dx
        · subst e1; rw [upd_same, upd_same]
        · rw [upd_ne e1, upd_ne e1]
          by_cases e2 : b = a
          · subst e2; rw [del_same]; exact ha.symm
          · rw [del_ne e2, upd_ne e2, upd_ne e1, upd_ne e2]
      rw [eH]
      have G1 := G'.tr t1
      have tn := G1.new (o := .xd [(f, v)]) hd1
      exact lx.ex (.ref C) (some dx) σ ρ _ ⟨x, f, y⟩ m1 l1 u1 (G1.tr tn) ((G'.ex t1).trans (G1.ex tn)) ⟨C, dx, [(f, v)], v, hm, rfl, rfl, upd_same, by simp, oy.mono (G1.ex tn)⟩ hy
end
end Px

set_option Elab.async false
set_option linter.all false
set_option maxRecDepth 100000
set_option maxHeartbeats 2000000
/-! PyX2: tests that may raise, loops whose body may raise. -/
namespace Px
open PySem PySem.Spec PyProof.Rows L2
abbrev FTX := En → (Bool → Prop) → (En → Bad → Prop) → Prop
def STX (K : Kx) (mg : Str → Option Value) (E : WX) (t : TT) (c : Nat) (f : FTX) : Prop := ∀ (C : Ct) (σ : Sg) (ρ : En) (H : Hp) (R : Bool → Prop) (EX : En → Bad → Prop) (Q : Bool → Hp → Prop), C.m + c ≤ lim → Good K C σ ρ H → f ρ R EX →
  (∀ b H' m, C.m ≤ m → m ≤ C.m + c → Tr C.S (K.SI m) H H' → R b → Q b H') → LkX K mg C c (mq C σ ρ H) E EX → t σ H Q
structure Xt (G : Fx) (e : Expr) (c : Nat) (f : FTX) : Prop where
  ex : ∃ t, (∀ i, PT (G.F.X i) e t) ∧ STX G.F.K G.F.mg G.E t c f
section
variable {G : Fx} {st : Stmt} {sts a b : List Stmt} {e tg iter : Expr} {pos p : Pos} {f g : FStX} {fx : FX} {ft : FT} {fxt : FTX} {fg : FG} {fi : FI} {n na nb ni c : Nat}
theorem xt_of (h : Et G.F e n ft) : Xt G e n (fun ρ R _ => ft ρ R) := by
  obtain ⟨t, pt, s⟩ := h
  exact ⟨t, pt, fun C σ ρ H R EX Q hm G' hf k _ => s C σ ρ H R Q hm G' hf k⟩
theorem xt_val (h : Xe G e n fx) (he : ∀ i whole, isTrue e (G.F.X i).env whole = (do let v ← whole; standAt e.pos; holding [v] (truthy v)) := by intro _ _; rfl) : Xt G e n (fun ρ R EX => fx ρ (asTru R) EX) := by
  obtain ⟨t, pt, st⟩ := h
  refine ⟨_, fun i => by have := pt_truth (pt i) (he i); rw [G.F.eK i] at this; exact this, fun C σ ρ H R EX Q hm G' hf k lx => st C σ ρ H _ EX _ hm G' hf (fun v H1 x m l u t1 ox h1 => ?_) lx⟩
  match x, h1, ox with
  | .d .none, h1, ox => cases Rd.inv_none ox; exact ⟨false, rfl, k _ _ m l u t1 h1⟩
  | .d (.bool b), h1, ox => cases Rd.inv_bool ox; exact ⟨b, rfl, k _ _ m l u t1 h1⟩
  | .d (.int n), h1, ox => cases Rd.inv_int ox; exact ⟨n != 0, rfl, k _ _ m l u t1 h1⟩
  | .d (.list xs), h1, ox =>
    obtain ⟨p, vs, rfl, hp, hr⟩ := Rd.inv_list ox
    exact ⟨!xs.isEmpty, .inl ⟨vs, SqL.of (mask_le _ _ hp), isEmptyRd hr⟩, k _ _ m l u t1 h1⟩
  | .d (.tuple xs), h1, ox =>
    obtain ⟨p, vs, rfl, hp, hr⟩ := Rd.inv_tuple ox
    exact ⟨!xs.isEmpty, .inr (.inl ⟨vs, Ex.sqt mask_le hp, isEmptyRd hr⟩), k _ _ m l u t1 h1⟩
theorem xt_not (h : Xt G e n fxt) : Xt G (.UnaryOp .Not e pos) n (fun ρ R EX => fxt ρ (fun b => R (!b)) EX) := by
  obtain ⟨t, pt, st⟩ := h
  exact ⟨_, fun i => pt_not (pt i), fun C σ ρ H R EX Q hm G' hf k lx => st C σ ρ H _ EX _ hm G' hf (fun b H1 m l u t1 h1 => k _ H1 m l u t1 h1) lx⟩
theorem x_ift (hc : Xt G e n fxt) (ha : Xs G a na f) (hb : Xs G b nb g) : X1 G (.If e a b pos) (n + (na + nb)) (fun ρ N EX => fxt ρ (fun k => if k = true then f ρ N EX else g ρ N EX) EX) := by
  obtain ⟨t, pt, s⟩ := hc
  obtain ⟨u, pu, su⟩ := ha
  obtain ⟨w, pw, sw⟩ := hb
  refine ⟨_, fun i => ps_if (pt i) (pu i) (pw i), fun C σ ρ H N EX D hm G' hf l lx => s C σ ρ H _ EX _ (by omega) G' hf (fun k H1 m l1 u1 t1 h1 => ?_) (lx.go (Nat.le_refl _) (by omega) (Ex.refl _))⟩
  cases k with
  | true => exact su (C.up m) σ ρ H1 N EX D (by show m + na ≤ lim; omega) (G'.tr t1) h1 (l.go l1 (by omega) (G'.ex t1)) (lx.go l1 (by omega) (G'.ex t1))
  | false => exact sw (C.up m) σ ρ H1 N EX D (by show m + nb ≤ lim; omega) (G'.tr t1) h1 (l.go l1 (by omega) (G'.ex t1)) (lx.go l1 (by omega) (G'.ex t1))
def loopX (fg : FG) (fb : FStX) (N : SEn) (EX : En → Bad → Prop) : List Vl → En → Prop
  | [], ρ => N.nx ρ
  | x :: xs, ρ => fg x ρ fun ρ1 => fb ρ1 { nx := loopX fg fb N EX xs, rt := N.rt, bk := N.nx, ct := loopX fg fb N EX xs } EX
theorem x_for {L : List Nat} (hi : Ei G.F tg iter ni fi) (hg : Eg G.F tg L fg) (hb : Xs G sts n f) (hs : ∀ j x, foldedSetIterable iter (G.F.X j).env x = pure x := by intro _ _; rfl) :
    X1 G (.For tg iter sts [] pos) (ni + big * n) (fun ρ N EX => fi ρ fun items => (n = 0 ∨ items.length ≤ big) ∧ loopX fg f N EX items ρ) := by
  obtain ⟨wi, pi, si⟩ := hi
  obtain ⟨g, pg, sg⟩ := hg
  obtain ⟨t, pt, s⟩ := hb
  refine ⟨_, fun i => ps_for (G.F.own i) (G.F.calm i) (pi i) (pg i) (pt i) (hs := hs i), fun C σ ρ H N EX D hm G0 hf l lx => si C σ ρ H _ _ (by omega) G0 hf fun J H1 items m1 l1 u1 t1 wok h1 => ?_⟩
  obtain ⟨hbig, h1⟩ := h1
  obtain ⟨Gd, Y, walk, hG, hY⟩ := wok
  have G1 := G0.tr t1
  have tot : items.length * n ≤ big * n := by
    rcases hbig with z | z
    · subst z; simp
    · exact Nat.mul_le_mul_right n z
  refine for_it walk (fun i σ' H' => ∃ ρ' m, m1 ≤ m ∧ m ≤ m1 + i * n ∧ Good G.F.K (C.up m) σ' ρ' H' ∧ Ex (mq C σ ρ H1) (mq C σ' ρ' H') ∧ loopX fg f N EX (items.drop i) ρ') ⟨ρ, m1, Nat.le_refl _, by omega, G1, Ex.refl _, by simpa using h1⟩ ?_ ?_ ?_
  · rintro i σ' H' _ ⟨ρ', _, _, _, _, ex, _⟩
    exact hG H' (ex.trans mask_le)
  · rintro i x σ' H' H'' hi' ⟨ρ', m, lm, um, G', ex, hl⟩ y
    have hx : items[i]? = some items[i] := List.getElem?_eq_getElem hi'
    obtain ⟨it, e1, e2⟩ := hY i H' x H'' hi' (ex.trans mask_le) y
    rw [hx] at e1
    have e1 : items[i] = it := Option.some.inj e1
    rw [List.drop_eq_getElem_cons hi', e1] at hl
    have hstep : (i + 1) * n ≤ items.length * n := Nat.mul_le_mul_right n hi'
    rw [Nat.add_mul, Nat.one_mul] at hstep
    have step : Tr C.S (G.F.K.SI m) H' H'' ∧ VlOk G.F.K (mq C σ' ρ' H'') x it := by
      rcases e2 with ⟨rfl, o⟩ | ⟨T, o, n, rfl, ok⟩
      · exact ⟨Tr.refl G'.si, o.mono ex⟩
      · have tt := G'.new (o := o) n
        refine ⟨tt, ok.mono fun a u z => ?_⟩
        by_cases ea : a = T
        · subst ea
          rw [upd_same] at z
          cases z
          exact G'.mq_new n
        · rw [upd_ne ea] at z
          exact (G'.ex tt) a u (ex a u z)
    obtain ⟨t2, ox⟩ := step
    have G2 := G'.tr t2
    refine sg (C.up m) σ' ρ' H'' x it _ _ G2 ox hl fun σ2 ρ2 G3 x3 _ h3 => ?_
    have exA : Ex (mq C σ ρ H1) (mq C σ2 ρ2 H'') := (ex.trans (G'.ex t2)).trans x3
    have up : ∀ {m4 : Nat}, m ≤ m4 → m4 ≤ m + n → m1 ≤ m4 ∧ m4 ≤ m1 + (i + 1) * n := fun a b => ⟨by omega, turn_up um b⟩
    refine s (C.up m) σ2 ρ2 H'' _ EX _ (by show m + n ≤ lim; omega) G3 h3 ⟨fun σ4 ρ4 H4 m4 a b G4 x4 h4 => ⟨ρ4, m4, (up a b).1, (up a b).2, G4, exA.trans x4, h4⟩, fun σ4 ρ4 H4 m4 a b G4 x4 h4 => l.nx σ4 ρ4 H4 m4 (Nat.le_trans (Nat.le_trans l1 lm) a) (by have : m4 ≤ m + n := b; omega) G4 (((G0.ex t1).trans exA).trans x4) h4,
      fun σ4 ρ4 H4 m4 a b G4 x4 h4 => ⟨ρ4, m4, (up a b).1, (up a b).2, G4, exA.trans x4, h4⟩, fun v H4 y m4 a b => l.rt v H4 y m4 (Nat.le_trans (Nat.le_trans l1 lm) a) (by have : m4 ≤ m + n := b; omega)⟩ (lx.go (Nat.le_trans l1 lm) (by omega) ((G0.ex t1).trans exA))
  · rintro σ' H' ⟨ρ', m, lm, um, G', ex, hl⟩
    rw [List.drop_length] at hl
    exact l.nx σ' ρ' H' m (Nat.le_trans l1 lm) (by omega) G' ((G0.ex t1).trans ex) hl
end
/-! ### displays with calls that may raise -/
abbrev FAX := En → (List Vl → Prop) → (En → Bad → Prop) → Prop
def SAX (K : Kx) (mg : Str → Option Value) (E : WX) (t : TA) (c : Nat) (f : FAX) : Prop := ∀ (C : Ct) (σ : Sg) (ρ : En) (H : Hp) (R : List Vl → Prop) (EX : En → Bad → Prop) (Q : List V → Hp → Prop), C.m + c ≤ lim → Good K C σ ρ H → f ρ R EX →
  (∀ vs H' xs m, C.m ≤ m → m ≤ C.m + c → Tr C.S (K.SI m) H H' → VlA K (mq C σ ρ H') vs xs → R xs → Q vs H') → LkX K mg C c (mq C σ ρ H) E EX → t σ H Q
structure Xa (G : Fx) (es : List Expr) (c : Nat) (f : FAX) : Prop where
  ex : ∃ t, (∀ i, PA (G.F.X i) es t) ∧ SAX G.F.K G.F.mg G.E t c f
section
variable {G : Fx} {e : Expr} {es : List Expr} {pos : Pos} {fx : FX} {fa : FAX} {ff : FA} {n na nb : Nat}
theorem xa_of (h : Ea G.F es n ff) : Xa G es n (fun ρ R _ => ff ρ R) := by
  obtain ⟨t, pt, s⟩ := h
  exact ⟨t, pt, fun C σ ρ H R EX Q hm G' hf k _ => s C σ ρ H R Q hm G' hf k⟩
theorem xa_cons (h : Xe G e na fx) (hr : Xa G es nb fa) (hs : ∀ i, starEach (e :: es) (G.F.X i).env = (false, eval e (G.F.X i).env) :: starEach es (G.F.X i).env := by intro _; rfl) :
    Xa G (e :: es) (na + nb) (fun ρ R EX => fx ρ (fun x => fa ρ (fun xs => R (x :: xs)) EX) EX) := by
  obtain ⟨t, pt, st⟩ := h
  obtain ⟨u, pu, su⟩ := hr
  refine ⟨_, fun i => pa_cons (pt i) (pu i) (hs i), fun C σ ρ H R EX Q hm G' hf k lx => st C σ ρ H _ EX _ (by omega) G' hf (fun v H1 x m1 l1 u1 t1 ox h1 => ?_) (lx.go (Nat.le_refl _) (by omega) (Ex.refl _))⟩
  refine su (C.up m1) σ ρ H1 _ EX _ (by show m1 + nb ≤ lim; omega) (G'.tr t1) h1 (fun vs H2 xs m2 l2 u2 t2 oxs h2 => ?_) (lx.go l1 (by omega) (G'.ex t1))
  exact k _ H2 _ m2 (Nat.le_trans l1 l2) (by have : m2 ≤ m1 + nb := u2; omega) (t1.trans t2) (.cons (ox.mono ((G'.tr t1).ex t2)) oxs) h2
theorem xe_tup {x1 : Nat} (h : Xa G es n fa) : Xe G (.Tuple es x1 pos) n (fun ρ R EX => fa ρ (fun xs => xs.length ≤ 1000000 ∧ allD xs fun ds => R (.d (.tuple ds))) EX) := by
  obtain ⟨t, pt, st⟩ := h
  refine ⟨_, fun i => pe_tup (pt i), fun C σ ρ H R EX Q hm G' hf k lx => st C σ ρ H _ EX _ hm G' hf (fun vs H1 xs m l u t1 oxs h1 => ?_) lx⟩
  obtain ⟨hl, h1⟩ := h1
  obtain ⟨ds, rfl, h2⟩ := allD_of h1
  have G1 := G'.tr t1
  refine ⟨small_le (by rw [oxs.length]; exact hl), fun p hp => k _ _ (.d (.tuple ds)) m l u (t1.trans (G1.new hp)) ?_ h2⟩
  exact .tup (.inl (.inl (G1.mq_new hp))) (oxs.data.mono (G1.ex (G1.new hp)))
theorem xe_lst (h : Xa G es n fa) : Xe G (.List es pos) n (fun ρ R EX => fa ρ (fun xs => xs.length ≤ 1000000 ∧ allD xs fun ds => R (.d (.list ds))) EX) := by
  obtain ⟨t, pt, st⟩ := h
  refine ⟨_, fun i => pe_lst (pt i), fun C σ ρ H R EX Q hm G' hf k lx => st C σ ρ H _ EX _ hm G' hf (fun vs H1 xs m l u t1 oxs h1 => ?_) lx⟩
  obtain ⟨hl, h1⟩ := h1
  obtain ⟨ds, rfl, h2⟩ := allD_of h1
  have G1 := G'.tr t1
  refine ⟨small_le (by rw [oxs.length]; exact hl), fun p hp => k _ _ (.d (.list ds)) m l u (t1.trans (G1.new hp)) ?_ h2⟩
  exact .lst (G1.mq_new hp) (oxs.data.mono (G1.ex (G1.new hp)))
end
end Px

set_option Elab.async false
set_option linter.all false
set_option maxRecDepth 100000
set_option maxHeartbeats 2000000
/-! PyTry: try: .. except C as n: .. -/
namespace Px
open PySem PySem.Spec PyProof.Rows L2
def Fm.tr (F : Fm) (W : WX) : Fm where
  I := {q : F.I × List (Addr × Obj) × (Value → Shared → Prop) // L2.Takes ((F.X q.1).tr q.2.1 q.2.2) W ∧ PassesOwn (model (F.X q.1).prog (F.X q.1).w) (F.X q.1).A (F.X q.1).env q.2.2}
  X := fun q => (F.X q.1.1).tr q.1.2.1 q.1.2.2
  K := F.K
  mg := F.mg
  N := F.N
  P := F.P
  w := F.w
  base := F.base
  k := F.k
  eK := fun q => F.eK q.1.1
  eM := fun q => F.eM q.1.1
  eN := fun q => F.eN q.1.1
  eP := fun q => F.eP q.1.1
  eW := fun q => F.eW q.1.1
  eB := fun q => F.eB q.1.1
  nd := F.nd
  calm := fun q => F.calm q.1.1
  room := fun q => F.room q.1.1
  gu := fun q => F.gu q.1.1
  own := fun q => q.2.2
/-- within a try -/
def Fx.tr (G : Fx) (W : WX) : Fx := ⟨G.F.tr W, W, fun q => q.2.1⟩
/-- what a clause's suite does, the exception b in hand, its name's slot i -/
structure HdOk (K : Kx) (mg : Str → Option Value) (ts : Addr → Value → Option Addr → TS) (i : Nat) (c : Nat) (h : En → Bad → SEn → Prop) : Prop where
  ok : ∀ (C : Ct) (σ : Sg) (ρ : En) (H : Hp) (b : Bad) (cls : Value) (d : Option Addr) (a : Addr) (N : SEn) (D : Ends), C.m + c ≤ lim → Good K C σ ρ H → BadOk K mg (mq C σ ρ H) b cls d H → H a = none → h ρ b N → Lk K C c (mq C σ ρ H) N D →
    ts a cls d { nx := fun σ' H' => D.nx (σ'.set i none) H', rt := D.rt, bk := fun σ' H' => D.bk (σ'.set i none) H', ct := fun σ' H' => D.ct (σ'.set i none) H' } (σ.set i (some (.ref a))) H
structure Hd (G : Fx) (i : Nat) (sts : List Stmt) (c : Nat) (h : En → Bad → SEn → Prop) : Prop where
  ex : ∃ ts, (∀ j a oe cls d pn, Zc cls d oe → (∃ vs, oe.data = .fields vs) → PSs ((G.F.X j).suite a ((a, oe) :: pn)) sts (ts a cls d)) ∧ HdOk G.F.K G.F.mg ts i c h
/-- a class that a clause names -/
structure ClH (K : Kx) (mg : Str → Option Value) (x : Str) : Prop where
  ex : ∃ C, mg x = some (.ref C) ∧ PySem.W.exmOne K.fg (.ref C) (.ref C) = some true
theorem x_try {G : Fx} {body suite : List Stmt} {b₀ : Stmt} {x n : Str} {np pos pos' : Pos} {c1 c2 : Nat} {f : FStX} {h : En → Bad → SEn → Prop} (Cl : ClH G.F.K G.F.mg x) (i : Nat) (hi : G.F.N[i]? = some n) (hb : ∀ W, Xs (G.tr W) body c1 f) (hd : Hd G i (b₀ :: suite) c2 h)
    (hln : ∀ j, (G.F.X j).env.kindOf n = some .local := by intro _; rfl) (hg : ∀ j, Gl (G.F.X j) x := by intro _; rfl) (hdb : (x == ("__debug__" : Str)) = false := by decide)
    (hs : ∀ j, (G.F.X j).stack = (G.F.X j).env :: (G.F.X j).outer := by intro _; rfl) (hf : ∀ j, (G.F.X j).env.frame = some (G.F.X j).env.locals := by intro _; rfl) :
    X1 G (.Try body [.ExceptHandler (some (.Name x np)) (some n) (b₀ :: suite) pos'] [] [] pos) (c1 + c2) (fun ρ N EX => f ρ N fun ρ' b => b.cls = x ∧ h ρ' b N) := by
  obtain ⟨C, hm, exm⟩ := Cl
  obtain ⟨ts, pts, sts⟩ := hd
  have tb : ∀ W : WX, ∃ t, (∀ i, PSs ((G.tr W).F.X i) body t) ∧ SSX (G.tr W).F.K (G.tr W).F.mg (G.tr W).E t c1 f := fun W => (hb W).ex
  refine ⟨fun D σ H => (tb (wAs G.F.K.fg (.ref C) i ts G.E D)).choose D σ H, fun j => ?_, fun C' σ ρ H N EX D hm' G' hf' l lx => ?_⟩
  · have q := ps_try_as (X := G.F.X j) (tb := fun W => (tb W).choose) (ts := ts) (Wout := G.E) (c := .ref C) (pos := pos) (pos' := pos') (np := np) (hs j) (hf j) (by rw [G.F.eN]; exact G.F.nd) (by rw [G.F.eN]; exact hi) (hln j) ⟨hg j, hdb, .inl (by rw [G.F.eM]; exact hm)⟩ (G.tk j)
      (fun W pn xe t1 t2 => (tb W).choose_spec.1 ⟨(j, pn, xe), t1, t2⟩) (fun a oe cls d pn z v => pts j a oe cls d pn z v)
    rw [G.F.eK] at q
    exact q
  · refine (tb (wAs G.F.K.fg (.ref C) i ts G.E D)).choose_spec.2 C' σ ρ H N _ D (by omega) G' hf' (l.go (Nat.le_refl _) (by omega) (Ex.refl _)) ⟨fun cls d σ' ρ' H' b m a1 a2 G2 x2 ob hb' => ?_⟩
    obtain ⟨ec, hh⟩ := hb'
    obtain ⟨C2, dd, fs, v, e1, e2, e3⟩ := id ob
    rw [ec] at e1
    have e1' : some (Value.ref C) = some (Value.ref C2) := hm.symm.trans e1
    cases e1'
    subst e2
    exact ⟨true, exm, fun _ a ha => sts.ok (C'.up m) σ' ρ' H' b _ d a N D (by show m + c2 ≤ lim; omega) G2 ob ha hh (l.go a1 (by omega) x2), fun z => by cases z⟩
/-! ### what a suite may say of the exception -/
/-- isinstance(e, c), e the exception in hand, with a dict of its own -/
def rIsED (K : PySem.W.Frag) (D a : Addr) (cls : Value) (d : Option Addr) : List V → Hp → VK → Prop := fun xs H Q => ∃ (c : V) (cv : Value) (b : Bool) (dd : Addr) (fs : List (Str × V)), xs = [.ref a, c] ∧ cls = .ref D ∧ d = some dd ∧ H dd = some (.xd fs) ∧ (∀ u, RelV c u → u = cv) ∧ PySem.W.kitOne K (.ref D) cv = some b ∧ Q (.bl b) H
theorem call_isED {X : Cx} {a D : Addr} {oe : Obj} {cls : Value} {d : Option Addr} {pn : List (Addr × Obj)} (C : ExcC X.K D) (hz : Zc cls d oe) (hf : ∃ vs, oe.data = .fields vs) : CallR (X.suite a ((a, oe) :: pn)) (.builtin "isinstance") (rIsED X.K D a cls d) := by
  intro pins s σ H xs us Q I r h
  obtain ⟨c, cv, b, dd, fs, rfl, rfl, rfl, ea, hcv, e, q⟩ := h
  cases r with
  | cons rx rr =>
    cases rr with
    | cons rt rr =>
      cases rr
      cases rx
      have ec := hcv _ rt
      subst ec
      obtain ⟨hget, _⟩ := I.pin (a, oe) (List.mem_append.mpr (.inl List.mem_cons_self))
      obtain ⟨vs, hv⟩ := hf
      have hx : ObjOk X.prog X.w H s.heap dd (.xd fs) := I.hok dd _ ea
      obtain ⟨mA, hns, hr⟩ := hx
      obtain ⟨od, ho, hl⟩ := lookIn_ns hns
      have J : PySem.W.InstAt s.heap a oe D (some od) := ⟨hget, hz.1, by unfold PySem.W.notCls; rw [hv] <;> rfl, by rw [hz.2]; exact ho⟩
      have hcl : (PySem.W.clsIn X.K D).isSome = true := by
        obtain ⟨cd, hc, _⟩ := PySem.W.any_some C.hd
        rw [hc]; rfl
      exact PySem.W.kia_one (PySem.W.kitx_exc hcl C.hg C.hk C.hs C.ha C.hn C.ht C.hm) I.kIn J e (fun z => nomatch z) fun tk => ⟨.bl b, H, I.kept (t' := tk) fun _ _ z => z, rfl, q⟩
/-- a frame that lets nothing out -/
def Fx.of (F : Fm) : Fx := ⟨F, fun _ _ _ _ => False, fun _ _ _ ⟨_, _, _, _, _, _, _, _, _, _, _, _, _, _, _, _, w⟩ => w.elim⟩
theorem e1_of {F : Fm} {st : Stmt} {c : Nat} {f : FStX} (h : X1 (Fx.of F) st c f) : E1 F st c (fun ρ N => f ρ N fun _ _ => False) := by
  obtain ⟨t, pt, s⟩ := h
  exact ⟨t, pt, fun C σ ρ H N D hm G hf l => s C σ ρ H N _ D hm G hf l ⟨fun _ _ _ _ _ _ _ _ _ _ _ _ h => h.elim⟩⟩
/-- what the class x says of itself: its field f, its being an S -/
structure ClF (K : Kx) (mg : Str → Option Value) (x f S : Str) : Prop where
  ex : ∃ C s, mg x = some (.ref C) ∧ mg S = some (.ref s) ∧ XfC K.fg C ∧ PySem.W.findIn K.fg (.ref C) f = some none ∧ ExcC K.fg C ∧ PySem.W.kitOne K.fg (.ref C) (.ref s) = some true
theorem Good.non {K : Kx} {C : Ct} {σ : Sg} {ρ : En} {H : Hp} (G : Good K C σ ρ H) (i : Nat) : Good K C (σ.set i none) (ρ.set i .non) H ∧ Ex (mq C σ ρ H) (mq C (σ.set i none) (ρ.set i .non) H) := by
  have ex : Ex (mq C σ ρ H) (mq C (σ.set i none) (ρ.set i .non) H) := mask_sub fun a h => by
    rcases h with h | ⟨j, xs, h1, h2⟩
    · exact .inl h
    · rcases set_at h1 with ⟨_, e, _⟩ | ⟨ne, e1⟩
      · cases e
      · rw [set_oth ne] at h2
        exact .inr ⟨j, xs, e1, h2⟩
  refine ⟨⟨G.eS, G.ct, G.si, G.bd, G.fr, by simp [G.len], fun j y e => ?_, fun j xs e => ?_, fun j k xs ys p e1 e2 e3 e4 => ?_⟩, ex⟩
  · rcases set_at e with ⟨_, e, _⟩ | ⟨ne, e⟩
    · cases e
    · obtain ⟨w, h1, h2⟩ := G.sl j y e
      exact ⟨w, by rw [set_oth ne]; exact h1, h2.mono ex⟩
  · rcases set_at e with ⟨_, e, _⟩ | ⟨ne, e⟩
    · cases e
    · obtain ⟨p, vs, h1, h2, h3, h4, h5⟩ := G.ow j xs e
      exact ⟨p, vs, by rw [set_oth ne]; exact h1, h2, h3.mono ex, h4, h5⟩
  · rcases set_at e1 with ⟨_, e, _⟩ | ⟨n1, e1⟩
    · cases e
    · rcases set_at e2 with ⟨_, e, _⟩ | ⟨n2, e2⟩
      · cases e
      · rw [set_oth n1] at e3
        rw [set_oth n2] at e4
        exact G.inj j k xs ys p e1 e2 e3 e4
/-- y = (word, e.f, isinstance(e, S)) -/
theorem hd_told {G : Fx} {x f S n y wd : Str} {kt kc : Nat} {py p1 p2 p3 p4 p5 p6 p7 p8 pos : Pos} (T : ClF G.F.K G.F.mg x f S) (i j : Nat) (hi : G.F.N[i]? = some n) (hj : G.F.N[j]? = some y) (hij : i ≠ j) (hm : G.F.mg "isinstance" = none)
    (hv : ∀ q, Vis (G.F.X q).env.scope n := by intro _; first | exact .inl rfl | exact .inr (.inl rfl)) (hx : ∀ q, Loc (G.F.X q).env.scope y := by intro _; first | exact .inl rfl | exact .inr rfl)
    (hf : ∀ q, (G.F.X q).fn y = true ∨ (G.F.X q).env.scope.names.lookup y = some .local := by intro _; exact .inl rfl) (hg : ∀ q, Gl (G.F.X q) "isinstance" := by intro _; rfl) (hgS : ∀ q, Gl (G.F.X q) S := by intro _; rfl)
    (hd1 : (n == ("__debug__" : Str)) = false := by decide) (hd2 : (n == ("__classdict__" : Str)) = false := by decide) (hd3 : (S == ("__debug__" : Str)) = false := by decide)
    (hb : ∀ q, attributeBase (.Name n p2) f (G.F.X q).env (eval (.Name n p2) (G.F.X q).env) = eval (.Name n p2) (G.F.X q).env := by intro _; rfl)
    (hs : ∀ q, swapsWith (.Tuple [.Constant (.str wd) kc p1, .Attribute (.Name n p2) f p3, .Call (.Name "isinstance" p4) [.Name n p5, .Name S p6] [] p7] kt p8) (some (.Name y py)) pos.line (G.F.X q).env = pure false := by intro _; rfl) :
    Hd G i [.Assign [.Name y py] (.Tuple [.Constant (.str wd) kc p1, .Attribute (.Name n p2) f p3, .Call (.Name "isinstance" p4) [.Name n p5, .Name S p6] [] p7] kt p8) pos] 0
      (fun ρ b N => b.cls = x ∧ b.fld = f ∧ ∃ dv, b.val = .d dv ∧ i < ρ.length ∧ j < ρ.length ∧ N.nx ((ρ.set i .non).set j (.v (.d (.tuple [.str wd, dv, .bool true]))))) := by
  obtain ⟨C, s, m1, m2, TX, hno, TC, hk⟩ := T
  refine ⟨fun a cls d => tAsg (tTup (tCons (tC (.str wd)) (tCons (tXf a cls d C f (tVar i)) (tCons (tCB (rIsED G.F.K.fg C a cls d) (tCons (tVar i) (tCons (tC (.ref s)) tNil))) tNil)))) (gName j), fun q a oe cls d pn hz hvs => ?_, ⟨?_⟩⟩
  · have q1 := G.F.eK q
    have z : CallR ((G.F.X q).suite a ((a, oe) :: pn)) (.builtin "isinstance") (rIsED G.F.K.fg C a cls d) := by
      have z := call_isED (X := G.F.X q) (D := C) (a := a) (oe := oe) (cls := cls) (d := d) (pn := pn) (by rw [q1]; exact TC) hz hvs
      rw [q1] at z
      exact z
    have pv : ∀ pp : Pos, PE ((G.F.X q).suite a ((a, oe) :: pn)) (.Name n pp) (tVar i) := fun pp => pe_var (by show (G.F.X q).N[i]? = some n; rw [G.F.eN]; exact hi) (hv q) hd1 hd2
    exact pss_one (ps_set (by show (G.F.X q).N.Nodup; rw [G.F.eN]; exact G.F.nd) (by show (G.F.X q).N[j]? = some y; rw [G.F.eN]; exact hj) (hx q)
      (pe_tup (pa_cons pe_str (pa_cons (pe_xf (by rw [q1]; exact TX) (by rw [q1]; exact hno) hz hvs (pv _) (hb q))
        (pa_cons (pe_callB z (hg q) (by show (G.F.X q).mg _ = _; rw [G.F.eM]; exact hm) rfl (pa_cons (pv _) (pa_cons (pe_glob (v := .ref s) (hgS q) (by show (G.F.X q).mg _ = _; rw [G.F.eM]; exact m2) rfl hd3) pa_nil)) (by decide) (by decide)) pa_nil))))
      (hs q) (hf q))
  · intro C' σ ρ H b cls d a N D hm' G' ob ha hh l
    obtain ⟨ec, ef, dv, ev, hil, hjl, hN⟩ := hh
    obtain ⟨C2, dd, fs, v, e1, e2, e3, e4, e5, e6⟩ := ob
    rw [ec, m1] at e1
    cases e1
    rw [ef] at e5
    have hiσ : i < σ.length := by rw [← G'.len]; exact hil
    have hget : (σ.set i (some (V.ref a)))[i]? = some (some (V.ref a)) := set_self hiσ
    refine ⟨.ref a, hget, rfl, e2, dd, fs, v, e3, e4, e5, .ref a, hget, .ref s, .ref s, true, dd, fs, rfl, e2, e3, e4, fun u hu => hu, hk, (show 3 ≤ sizeLine by decide), fun p hp => ?_⟩
    show D.nx (((σ.set i (some (.ref a))).set j (some (.ref p))).set i none) (upd H p (.tup [.str wd, v, .bl true]))
    have eσ : ((σ.set i (some (V.ref a))).set j (some (V.ref p))).set i none = (σ.set i none).set j (some (V.ref p)) := by
      rw [List.set_comm _ _ (Ne.symm hij)]
      rw [List.set_set]
    rw [eσ]
    obtain ⟨G1, x1⟩ := G'.non i
    have tn := G1.new (o := .tup [.str wd, v, .bl true]) hp
    have G2 := G1.tr tn
    have ov : VlOk G.F.K (mq C' (σ.set i none) (ρ.set i .non) (upd H p (.tup [.str wd, v, .bl true]))) (.ref p) (.d (.tuple [.str wd, dv, .bool true])) := by
      have o1 : Rd G.F.K.fg (mq C' (σ.set i none) (ρ.set i .non) (upd H p (.tup [.str wd, v, .bl true]))) v dv := by
        rw [ev] at e6
        exact (VlOk.mono x1 e6 : VlOk _ _ v (.d dv)).mono (G1.ex tn)
      exact Rd.tup (.inl (.inl (G1.mq_new hp))) (.cons (.str _) (.cons o1 (.cons (.bl _) .nil)))
    obtain ⟨G3, x3⟩ := G2.set (i := j) (by simpa using hjl) ov
    exact l.nx _ _ _ C'.m (Nat.le_refl _) (Nat.le_add_right _ _) G3 ((x1.trans (G1.ex tn)).trans x3) hN
/-! ### suites: y = e, y = (e, ..), e a text, the exception's field, isinstance of it -/
/-- an expression of a suite that lays nothing down; the exception's name has slot i -/
structure He (G : Fx) (i : Nat) (x : Str) (e : Expr) (g : Bad → (Vl → Prop) → Prop) : Prop where
  ex : ∃ te : Addr → Value → Option Addr → TE, (∀ q a oe cls d pn, Zc cls d oe → (∃ vs, oe.data = .fields vs) → PE ((G.F.X q).suite a ((a, oe) :: pn)) e (te a cls d)) ∧
    ∀ (M : Hp) (σ : Sg) (H : Hp) (b : Bad) (cls : Value) (d : Option Addr) (a : Addr) (R : Vl → Prop) (Q : VK), σ[i]? = some (some (.ref a)) → BadOk G.F.K G.F.mg M b cls d H → b.cls = x → g b R → (∀ v y, VlOk G.F.K M v y → R y → Q v H) → te a cls d σ H Q
structure Ha (G : Fx) (i : Nat) (x : Str) (es : List Expr) (g : Bad → (List Vl → Prop) → Prop) : Prop where
  ex : ∃ te : Addr → Value → Option Addr → TA, (∀ q a oe cls d pn, Zc cls d oe → (∃ vs, oe.data = .fields vs) → PA ((G.F.X q).suite a ((a, oe) :: pn)) es (te a cls d)) ∧
    ∀ (M : Hp) (σ : Sg) (H : Hp) (b : Bad) (cls : Value) (d : Option Addr) (a : Addr) (R : List Vl → Prop) (Q : List V → Hp → Prop), σ[i]? = some (some (.ref a)) → BadOk G.F.K G.F.mg M b cls d H → b.cls = x → g b R → (∀ vs ys, VlA G.F.K M vs ys → R ys → Q vs H) → te a cls d σ H Q
section
variable {G : Fx} {i j : Nat} {x f S n y : Str} {e : Expr} {es : List Expr} {p p1 p2 p3 pos : Pos} {g : Bad → (Vl → Prop) → Prop} {ga : Bad → (List Vl → Prop) → Prop}
theorem he_str {wd : Str} {k : Nat} : He G i x (.Constant (.str wd) k p) (fun _ R => R (.d (.str wd))) :=
  ⟨fun _ _ _ => tC (.str wd), fun _ _ _ _ _ _ _ _ => pe_str, fun M σ H b cls d a R Q _ _ _ hg hq => hq (.str wd) (.d (.str wd)) (Rd.str _) hg⟩
theorem he_fld (T : ClF G.F.K G.F.mg x f S) (hi : G.F.N[i]? = some n) (hv : ∀ q, Vis (G.F.X q).env.scope n := by intro _; first | exact .inl rfl | exact .inr (.inl rfl)) (hd1 : (n == ("__debug__" : Str)) = false := by decide) (hd2 : (n == ("__classdict__" : Str)) = false := by decide)
    (hb : ∀ q, attributeBase (.Name n p2) f (G.F.X q).env (eval (.Name n p2) (G.F.X q).env) = eval (.Name n p2) (G.F.X q).env := by intro _; rfl) : He G i x (.Attribute (.Name n p2) f p3) (fun b R => b.fld = f ∧ R b.val) := by
  obtain ⟨C, s, m1, m2, TX, hno, TC, hk⟩ := T
  refine ⟨fun a cls d => tXf a cls d C f (tVar i), fun q a oe cls d pn hz hvs => ?_, fun M σ H b cls d a R Q hs ob ec hg hq => ?_⟩
  · have q1 := G.F.eK q
    exact pe_xf (by rw [q1]; exact TX) (by rw [q1]; exact hno) hz hvs (pe_var (by show (G.F.X q).N[i]? = some n; rw [G.F.eN]; exact hi) (hv q) hd1 hd2) (hb q)
  · obtain ⟨ef, hR⟩ := hg
    obtain ⟨C2, dd, fs, v, e1, e2, e3, e4, e5, e6⟩ := ob
    rw [ec, m1] at e1
    cases e1
    rw [ef] at e5
    exact ⟨.ref a, hs, rfl, e2, dd, fs, v, e3, e4, e5, hq v b.val e6 hR⟩
theorem he_is (T : ClF G.F.K G.F.mg x f S) (hi : G.F.N[i]? = some n) (hm : G.F.mg "isinstance" = none) (hv : ∀ q, Vis (G.F.X q).env.scope n := by intro _; first | exact .inl rfl | exact .inr (.inl rfl)) (hg : ∀ q, Gl (G.F.X q) "isinstance" := by intro _; rfl) (hgS : ∀ q, Gl (G.F.X q) S := by intro _; rfl)
    (hd1 : (n == ("__debug__" : Str)) = false := by decide) (hd2 : (n == ("__classdict__" : Str)) = false := by decide) (hd3 : (S == ("__debug__" : Str)) = false := by decide) : He G i x (.Call (.Name "isinstance" p) [.Name n p1, .Name S p2] [] pos) (fun _ R => R (.d (.bool true))) := by
  obtain ⟨C, s, m1, m2, TX, hno, TC, hk⟩ := T
  refine ⟨fun a cls d => tCB (rIsED G.F.K.fg C a cls d) (tCons (tVar i) (tCons (tC (.ref s)) tNil)), fun q a oe cls d pn hz hvs => ?_, fun M σ H b cls d a R Q hs ob ec hR hq => ?_⟩
  · have q1 := G.F.eK q
    have z : CallR ((G.F.X q).suite a ((a, oe) :: pn)) (.builtin "isinstance") (rIsED G.F.K.fg C a cls d) := by
      have z := call_isED (X := G.F.X q) (D := C) (a := a) (oe := oe) (cls := cls) (d := d) (pn := pn) (by rw [q1]; exact TC) hz hvs
      rw [q1] at z
      exact z
    exact pe_callB z (hg q) (by show (G.F.X q).mg _ = _; rw [G.F.eM]; exact hm) rfl (pa_cons (pe_var (by show (G.F.X q).N[i]? = some n; rw [G.F.eN]; exact hi) (hv q) hd1 hd2) (pa_cons (pe_glob (v := .ref s) (hgS q) (by show (G.F.X q).mg _ = _; rw [G.F.eM]; exact m2) rfl hd3) pa_nil)) (by decide) (by decide)
  · obtain ⟨C2, dd, fs, v, e1, e2, e3, e4, e5, e6⟩ := ob
    rw [ec, m1] at e1
    cases e1
    exact ⟨.ref a, hs, .ref s, .ref s, true, dd, fs, rfl, e2, e3, e4, fun u hu => hu, hk, hq (.bl true) (.d (.bool true)) (Rd.bl _) hR⟩
theorem ha_nil : Ha G i x [] (fun _ R => R []) := ⟨fun _ _ _ => tNil, fun _ _ _ _ _ _ _ _ => pa_nil, fun M σ H b cls d a R Q _ _ _ hg hq => hq [] [] .nil hg⟩
theorem ha_cons (h : He G i x e g) (hr : Ha G i x es ga) (hs : ∀ q a oe pn, starEach (e :: es) ((G.F.X q).suite a ((a, oe) :: pn)).env = (false, eval e (G.F.X q).env) :: starEach es (G.F.X q).env := by intro _ _ _ _; rfl) : Ha G i x (e :: es) (fun b R => g b fun y => ga b fun ys => R (y :: ys)) := by
  obtain ⟨t, pt, st⟩ := h
  obtain ⟨u, pu, su⟩ := hr
  exact ⟨fun a cls d => tCons (t a cls d) (u a cls d), fun q a oe cls d pn hz hv => pa_cons (pt q a oe cls d pn hz hv) (pu q a oe cls d pn hz hv) (hs q a oe pn), fun M σ H b cls d a R Q h1 ob ec hg hq =>
    st M σ H b cls d a _ _ h1 ob ec hg fun v y o1 h2 => su M σ H b cls d a _ _ h1 ob ec h2 fun vs ys o2 h3 => hq _ _ (.cons o1 o2) h3⟩
/-- y = e -/
theorem hd_set {py : Pos} (j : Nat) (hj : G.F.N[j]? = some y) (hij : i ≠ j) (h : He G i x e g) (hx : ∀ q, Loc (G.F.X q).env.scope y := by intro _; first | exact .inl rfl | exact .inr rfl)
    (hf : ∀ q, (G.F.X q).fn y = true ∨ (G.F.X q).env.scope.names.lookup y = some .local := by intro _; exact .inl rfl) (hs : ∀ q, swapsWith e (some (.Name y py)) pos.line (G.F.X q).env = pure false := by intro _; rfl) :
    Hd G i [.Assign [.Name y py] e pos] 0 (fun ρ b N => b.cls = x ∧ (i < ρ.length ∧ j < ρ.length) ∧ g b fun z => N.nx ((ρ.set i .non).set j (.v z))) := by
  obtain ⟨t, pt, st⟩ := h
  refine ⟨fun a cls d => tAsg (t a cls d) (gName j), fun q a oe cls d pn hz hvs => pss_one (ps_set (by show (G.F.X q).N.Nodup; rw [G.F.eN]; exact G.F.nd) (by show (G.F.X q).N[j]? = some y; rw [G.F.eN]; exact hj) (hx q) (pt q a oe cls d pn hz hvs) (hs q) (hf q)), ⟨?_⟩⟩
  intro C' σ ρ H b cls d a N D hm' G' ob ha hh l
  obtain ⟨ec, ⟨hil, hjl⟩, hN⟩ := hh
  have hiσ : i < σ.length := by rw [← G'.len]; exact hil
  obtain ⟨G1, x1⟩ := G'.non i
  refine st (mq C' (σ.set i none) (ρ.set i .non) H) _ H b cls d a _ _ (set_self hiσ) (ob.mono x1) ec hN fun v z oz hz => ?_
  show D.nx (((σ.set i (some (.ref a))).set j (some v)).set i none) H
  rw [show ((σ.set i (some (V.ref a))).set j (some v)).set i none = (σ.set i none).set j (some v) by rw [List.set_comm _ _ (Ne.symm hij), List.set_set]]
  obtain ⟨G3, x3⟩ := G1.set (i := j) (by simpa using hjl) oz
  exact l.nx _ _ _ C'.m (Nat.le_refl _) (Nat.le_add_right _ _) G3 (x1.trans x3) hz
/-- y = (e, ..) -/
theorem hd_setT {py : Pos} {kt : Nat} (j : Nat) (hj : G.F.N[j]? = some y) (hij : i ≠ j) (h : Ha G i x es ga) (hx : ∀ q, Loc (G.F.X q).env.scope y := by intro _; first | exact .inl rfl | exact .inr rfl)
    (hf : ∀ q, (G.F.X q).fn y = true ∨ (G.F.X q).env.scope.names.lookup y = some .local := by intro _; exact .inl rfl) (hs : ∀ q, swapsWith (.Tuple es kt p) (some (.Name y py)) pos.line (G.F.X q).env = pure false := by intro _; rfl) :
    Hd G i [.Assign [.Name y py] (.Tuple es kt p) pos] 0 (fun ρ b N => b.cls = x ∧ (i < ρ.length ∧ j < ρ.length) ∧ ga b fun zs => zs.length ≤ 1000000 ∧ allD zs fun ds => N.nx ((ρ.set i .non).set j (.v (.d (.tuple ds))))) := by
  obtain ⟨t, pt, st⟩ := h
  refine ⟨fun a cls d => tAsg (tTup (t a cls d)) (gName j), fun q a oe cls d pn hz hvs => pss_one (ps_set (by show (G.F.X q).N.Nodup; rw [G.F.eN]; exact G.F.nd) (by show (G.F.X q).N[j]? = some y; rw [G.F.eN]; exact hj) (hx q) (pe_tup (pt q a oe cls d pn hz hvs)) (hs q) (hf q)), ⟨?_⟩⟩
  intro C' σ ρ H b cls d a N D hm' G' ob ha hh l
  obtain ⟨ec, ⟨hil, hjl⟩, hN⟩ := hh
  have hiσ : i < σ.length := by rw [← G'.len]; exact hil
  obtain ⟨G1, x1⟩ := G'.non i
  refine st (mq C' (σ.set i none) (ρ.set i .non) H) _ H b cls d a _ _ (set_self hiσ) (ob.mono x1) ec hN fun vs zs oz hz => ?_
  obtain ⟨hl, hz⟩ := hz
  obtain ⟨ds, rfl, hz2⟩ := allD_of hz
  refine ⟨small_le (by rw [oz.length]; exact hl), fun p hp => ?_⟩
  show D.nx (((σ.set i (some (.ref a))).set j (some (.ref p))).set i none) (upd H p (.tup vs))
  rw [show ((σ.set i (some (V.ref a))).set j (some (V.ref p))).set i none = (σ.set i none).set j (some (V.ref p)) by rw [List.set_comm _ _ (Ne.symm hij), List.set_set]]
  have tn := G1.new (o := .tup vs) hp
  have G2 := G1.tr tn
  have ov : VlOk G.F.K (mq C' (σ.set i none) (ρ.set i .non) (upd H p (.tup vs))) (.ref p) (.d (.tuple ds)) := Rd.tup (.inl (.inl (G1.mq_new hp))) (oz.data.mono (G1.ex tn))
  obtain ⟨G3, x3⟩ := G2.set (i := j) (by simpa using hjl) ov
  exact l.nx _ _ _ C'.m (Nat.le_refl _) (Nat.le_add_right _ _) G3 ((x1.trans (G1.ex tn)).trans x3) hz2
end
end Px

set_option Elab.async false
set_option linter.all false
set_option maxRecDepth 100000
set_option maxHeartbeats 2000000
/-! PyCls: the classes' premises out of the text's facts. -/
namespace Px
open PySem PySem.Spec PyProof.Rows L2
/-- the __init__ of a class of the text -/
def clsInit : Stmt → Stmt
  | .ClassDef _ _ _ body _ _ _ _ _ _ _ => body.getD 0 (.Pass ⟨0, 0, 0, 0⟩)
  | s => s
section
variable {P : Program} {w : World} {K : PySem.W.Frag} {mg : Str → Option Value} {base : Heap} {CX : CXT} {fI C : Addr} {x f y qual : Str} {si : Stmt} {p1 p2 p3 pos : Pos} {dV kV doc pm cd ct oc : Value} {an od : Option Addr} {osl : Array (Option Value)}
theorem init_ok (lk : K.lookup fI = some ⟨oc, od, .func (PySem.W.fnOf "__init__" qual (defArgs si) (defBody si) (defScope si) dV kV doc pm an cd ct), osl⟩) (hcd : PySem.W.codeIn K cd qual = true) (S : FnScope ["self", y] ["self", y] (defScope si))
    (hb : defBody si = [.Assign [.Attribute (.Name "self" p1) f p2] (.Name y p3) pos]) (hy : (y == ("__debug__" : Str)) = false := by decide) (hy2 : (y == ("__classdict__" : Str)) = false := by decide) :
    FnOk P w K mg base CX 1 fI (PySem.W.fnOf "__init__" qual (defArgs si) (defBody si) (defScope si) dV kV doc pm an cd ct) ["self", y] (spI K C f) := by
  have vis : ∀ z ∈ (["self", y] : List Str), Vis (defScope si) z := fun z hz => by
    rcases S.par z hz with q | q
    · exact .inl q
    · exact .inr (.inl q)
  refine fn_of (k := 0) lk hcd S (fun vs H Q E h => by obtain ⟨a, v, rfl, _⟩ := h; rfl) fun A outer s H vs Q E hr h => ⟨tOst K f (tVar 0) (tVar 1), ?_, ?_⟩
  · rw [hb]
    exact pss_one (ps_ost (pe_var rfl (vis "self" (by simp)) (by decide) (by decide)) (pe_var rfl (vis y (by simp)) hy hy2))
  · obtain ⟨a, v, rfl, T, hno, ha, q⟩ := h
    exact ⟨v, rfl, .ref a, rfl, a, C, rfl, T, hno, .inl ⟨ha, q⟩⟩
end
/-- what is read off a class's object: the premises that a head shows by k_is -/
structure ClsFacts (K : PySem.W.Frag) (C fI : Addr) (f : Str) : Prop where
  cls : ∃ nm q N bs bm sn sub ab col dd k0 k1 k2 k3 k5, K.lookup C = some (excClassObj nm q C N bs bm true sn sub ab col dd k0 k1 k2 k3 k5 "ValueError.__new__") ∧ PySem.HandSPX.refsVE bm = true
  sa : PySem.W.findIn K (.ref C) "__setattr__" = some (some (.builtin "object.__setattr__"))
  ga : PySem.W.findIn K (.ref C) "__getattribute__" = some (some (.builtin "BaseException.__getattribute__"))
  gg : PySem.W.findIn K (.ref C) "__getattr__" = some none
  nf : PySem.W.findIn K (.ref C) f = some none
  ini : PySem.W.findIn K (.ref C) "__init__" = some (some (.ref fI))
  tI : PySem.W.typeIn K (.ref fI) = some (.type "function")
  kC : PySem.W.keepIn K (.ref C) = true
  eC : PySem.W.subIn K (.ref C) (.type "BaseException") = some true
  tC : PySem.W.typeIn K (.ref C) = some (.type "type")
  hC : PySem.W.hasDictIn K C = true
  sC : PySem.W.subIn K (.ref C) (.ref C) = some true
  dc : PySem.W.findIn K (.ref C) "__class__" = some (some (.builtin "object.__class__"))
  dg : PySem.W.specialIn K (.builtin "object.__class__") "__get__" = some (some (.builtin "getset_descriptor.__get__"))
  dt : PySem.W.takesIn K (.builtin "object.__class__") = some true
  mo : PySem.W.mroIn K C (.type "object") = some true
theorem ClsFacts.oex {K : PySem.W.Frag} {C fI : Addr} {f : Str} (F : ClsFacts K C fI f) : OexC K C := ⟨F.cls, F.sa, F.eC, F.tC, F.kC⟩
theorem ClsFacts.xf {K : PySem.W.Frag} {C fI : Addr} {f : Str} (F : ClsFacts K C fI f) : XfC K C := ⟨F.ga, F.gg, F.eC, F.hC⟩
theorem ClsFacts.exc {K : PySem.W.Frag} {C fI : Addr} {f : Str} (F : ClsFacts K C fI f) : ExcC K C := ⟨F.ga, F.gg, F.eC, F.hC, F.dc, F.dg, F.dt, F.mo⟩
theorem cl_mk {P : Program} {w : World} {K : Kx} {mg : Str → Option Value} {base : Heap} {C fI : Addr} {x f : Str} {fd : FuncData} {ps : List Str} (F : ClsFacts K.fg C fI f) (hm : mg x = some (.ref C)) (Fn : FnOk P w K.fg mg base (L2.CX P w) 1 fI fd ps (spI K.fg C f)) (hb : Binds K.fg fd ps []) : Cl P w K mg base x f :=
  ⟨C, fI, fd, ps, hm, F.oex, F.ini, F.tI, Fn, hb, F.nf⟩
theorem clh_mk {K : Kx} {mg : Str → Option Value} {C fI : Addr} {x f : Str} (F : ClsFacts K.fg C fI f) (hm : mg x = some (.ref C)) : ClH K mg x := ⟨C, hm, PySem.W.exm_ref F.eC F.hC F.tC F.sC⟩
theorem clf_mk {K : Kx} {mg : Str → Option Value} {C s fI : Addr} {x f S : Str} (F : ClsFacts K.fg C fI f) (hm : mg x = some (.ref C)) (hS : mg S = some (.ref s)) (hk : PySem.W.kitOne K.fg (.ref C) (.ref s) = some true) : ClF K mg x f S := ⟨C, s, hm, hS, F.xf, F.nf, F.exc, hk⟩
/-- all that is asked of a class, read off the text -/
structure ClT (K : PySem.W.Frag) (mg : Str → Option Value) (x f S : Str) : Prop where
  ex : ∃ (C fI s : Addr) (fd : FuncData) (ps : List Str), mg x = some (.ref C) ∧ ClsFacts K C fI f ∧ (∀ (P : Program) (w : World) (base : Heap), FnOk P w K mg base (L2.CX P w) 1 fI fd ps (spI K C f)) ∧ Binds K fd ps [] ∧ mg S = some (.ref s) ∧ PySem.W.kitOne K (.ref C) (.ref s) = some true
theorem ClT.cl {K : Kx} {mg : Str → Option Value} {x f S : Str} (T : ClT K.fg mg x f S) {P : Program} {w : World} {base : Heap} : Cl P w K mg base x f := by
  obtain ⟨C, fI, s, fd, ps, h1, h2, h3, h4, h5, h6⟩ := T
  exact cl_mk h2 h1 (h3 P w base) h4
theorem ClT.clh {K : Kx} {mg : Str → Option Value} {x f S : Str} (T : ClT K.fg mg x f S) : ClH K mg x := by
  obtain ⟨C, fI, s, fd, ps, h1, h2, h3, h4, h5, h6⟩ := T
  exact clh_mk h2 h1
theorem ClT.clf {K : Kx} {mg : Str → Option Value} {x f S : Str} (T : ClT K.fg mg x f S) : ClF K mg x f S := by
  obtain ⟨C, fI, s, fd, ps, h1, h2, h3, h4, h5, h6⟩ := T
  exact clf_mk h2 h1 h5 h6
end Px

set_option Elab.async false
set_option linter.all false
set_option maxRecDepth 100000
set_option maxHeartbeats 2000000
/-! Px: itertools.combinations: the facts of its type, one step. -/
namespace PySem.F
theorem slot_comb_next : Slot "itertools.combinations" "__next__" "itertools.combinations.__next__" :=
  .of (owner := "itertools.combinations") (n := "__next__") (by rw [typeLookup_type, builtinLookup_eq_fast]; kernel_rfl) (by decide +kernel) (by decide +kernel) (by decide +kernel)
    (by first | exact .inl (by decide +kernel) | exact .inr (by decide +kernel)) (by rw [isSubtype_type]; kernel_rfl)
theorem slot_comb_iter : Slot "itertools.combinations" "__iter__" "itertools.combinations.__iter__" :=
  .of (owner := "itertools.combinations") (n := "__iter__") (by rw [typeLookup_type, builtinLookup_eq_fast]; kernel_rfl) (by decide +kernel) (by decide +kernel) (by decide +kernel)
    (by first | exact .inl (by decide +kernel) | exact .inr (by decide +kernel)) (by rw [isSubtype_type]; kernel_rfl)
theorem entry_comb_next : entryFor table "itertools.combinations.__next__" = some Builtin.«itertools.combinations.__next__» := entryFor_of_tree (by kernel_rfl)
theorem entry_comb_new : entryFor table "itertools.combinations.__new__" = some Builtin.«itertools.combinations.__new__» := entryFor_of_tree (by kernel_rfl)
theorem owner_comb : Manifest.owners.lookup (String.ofList ['s', 'n', 'o', 'i', 't', 'a', 'n', 'i', 'b', 'm', 'o', 'c', '.', 's', 'l', 'o', 'o', 't', 'r', 'e', 't', 'i'].reverse) = some Manifest.sig_itertools_combinations := by kernel_rfl
theorem args_comb_next_1 (a : Value) : argsOk "itertools.combinations.__next__" ⟨[a], []⟩ := by
  unfold argsOk; rw [signature?_of (id := "itertools.combinations.__next__") (n := ['_', '_', 't', 'x', 'e', 'n', '_', '_']) (o := ['s', 'n', 'o', 'i', 't', 'a', 'n', 'i', 'b', 'm', 'o', 'c', '.', 's', 'l', 'o', 'o', 't', 'r', 'e', 't', 'i']) (by kernel_rfl) owner_comb]; kernel_rfl
theorem args_comb_iter_1 (a : Value) : argsOk "itertools.combinations.__iter__" ⟨[a], []⟩ := by
  unfold argsOk; rw [signature?_of (id := "itertools.combinations.__iter__") (n := ['_', '_', 'r', 'e', 't', 'i', '_', '_']) (o := ['s', 'n', 'o', 'i', 't', 'a', 'n', 'i', 'b', 'm', 'o', 'c', '.', 's', 'l', 'o', 'o', 't', 'r', 'e', 't', 'i']) (by kernel_rfl) owner_comb]; kernel_rfl
theorem sub_comb : isSubtype (.type "itertools.combinations") (.type "itertools.combinations") = pure true := by rw [isSubtype_type]; kernel_rfl
theorem type_call_comb (a b : Value) : checkTypeCall "itertools.combinations" ⟨[a, b], []⟩ = pure () := by kernel_rfl
theorem new_call_comb (a b : Value) : checkBuiltinCall "itertools.combinations.__new__" ⟨[.type "itertools.combinations", a, b], []⟩ = pure () := by kernel_rfl
end PySem.F

set_option Elab.async false
set_option linter.all false
set_option maxRecDepth 100000
set_option maxHeartbeats 2000000
/-! Px: itertools.combinations: one step. -/
namespace Px
open PySem PySem.Spec PyProof.Rows L2
open Sem (wp)
def combFs (P : Addr) (st : Int) (last : Value) (ix : List Nat) : List Value := [.ref P, rawInt st, last] ++ ix.map fun (i : Nat) => rawInt i
abbrev IsComb (h : Heap) (a P : Addr) (st : Int) (last : Value) (ix : List Nat) : Prop :=
  h.get? a = some { cls := .type "itertools.combinations", dict := none, data := .fields (combFs P st last ix).toArray, slots := #[] }
/-- the step from one choice of places to the next; said anew here, as the model's own has a private name -/
def nextC (n : Nat) (ix : List Nat) : Option (List Nat) :=
  match (List.range ix.length).reverse.find? fun i => ix.getD i 0 != i + n - ix.length with
  | none => none
  | some i => some (ix.take i ++ (List.range (ix.length - i)).map (ix.getD i 0 + 1 + ·))
section
variable {prog : Program} {w : World} {A : Around} {E : Value → Shared → Prop} {s : Shared}
theorem numbers_of {a P : Addr} {st : Int} {last : Value} {ix : List Nat} {Q : List Nat → Shared → Prop} (hz : IsComb s.heap a P st last ix) (h : Q ix s) : wpAny (model prog w) A (Builtin.Itertools.itNumbersFrom (.ref a) 3) Q E s := by
  unfold Builtin.Itertools.itNumbersFrom
  refine wpAny_bind (wpAny_load hz ?_)
  refine wpAny_pure ?_
  have e : ∀ g : Value → Nat, (∀ i : Nat, g (rawInt i) = i) → ((combFs P st last ix).toArray.toList.drop 3).map g = ix := fun g hg => by
    show ((ix.map fun (i : Nat) => rawInt i).map g) = ix
    rw [List.map_map]
    conv => rhs; rw [← List.map_id ix]
    exact List.map_congr_left fun i _ => hg i
  rw [e _ fun _ => rfl]
  exact h
/-- what it gives out -/
theorem comb_out {a P : Addr} {st : Int} {last : Value} {ix : List Nat} {items : Array Value} {Q : Value → Shared → Prop} {f : Sem Fin} (hz : IsComb s.heap a P st last ix) (hP : s.heap.IsTuple P items) (h4 : ix.length ≤ 4)
    (hf : f = (do
        let result ← (do let items ← Builtin.Itertools.itPoolItems (.ref P); newTuple (ix.map fun i => items.getD i .none))
        let before ← field (.ref a) 2
        setField (.ref a) 2 result
        letGo [before] [result]
        ret result))
    (hQ : ∀ h', IsComb h' a P st (.ref s.heap.objs.size) ix → h'.get? s.heap.objs.size = some { cls := .type "tuple", data := .seq (ix.map fun i => items.getD i .none).toArray } → h'.objs.size = s.heap.objs.size + 1 →
      (∀ c o, c ≠ a → s.heap.get? c = some o → h'.get? c = some o) → Q (.ref s.heap.objs.size) { s with heap := h' }) :
    wpAny (model prog w) A f (fun fin s' => ∃ v, fin = .done (.ret v) ∧ Q v s') E s := by
  subst hf
  obtain ⟨hp, g, d, tk, os⟩ := s
  obtain ⟨oP, hoP, hcP, nP, hdP⟩ := hP
  have ha : a < hp.objs.size := Heap.lt_size hz
  refine wpAny_bind (wpAny_bind ?_)
  unfold Builtin.Itertools.itPoolItems
  refine wpAny_bind (wpAny_seqItems hoP hdP (wpAny_pure ?_))
  refine wpAny_newTuple ?_ (by rw [List.length_map]; exact Nat.le_trans h4 (by decide))
  have hz2 : IsComb (hp.push { cls := .type "tuple", data := .seq (ix.map fun i => items.getD i .none).toArray }) a P st last ix := Heap.get?_push_of_some _ hz
  have hT : (hp.push { cls := .type "tuple", data := .seq (ix.map fun i => items.getD i .none).toArray }).get? hp.objs.size = some { cls := .type "tuple", data := .seq (ix.map fun i => items.getD i .none).toArray } := Heap.get?_push_size _ rfl
  have hs2 : (hp.push { cls := .type "tuple", data := .seq (ix.map fun i => items.getD i .none).toArray }).objs.size = hp.objs.size + 1 := Heap.size_push ..
  have up : ∀ c o, hp.get? c = some o → (hp.push { cls := .type "tuple", data := .seq (ix.map fun i => items.getD i .none).toArray }).get? c = some o := fun c o e => Heap.get?_push_of_some _ e
  show wpAny _ _ (field (.ref a) 2 >>= _) _ _ ⟨hp.push { cls := .type "tuple", data := .seq (ix.map fun i => items.getD i .none).toArray }, g, d, tk, os⟩
  generalize hp.push { cls := .type "tuple", data := .seq (ix.map fun i => items.getD i .none).toArray } = h2 at hz2 hT hs2 up ⊢
  refine wpAny_bind (wpAny_field (s := ⟨h2, g, d, tk, os⟩) hz2 rfl (x := last) rfl ?_)
  refine wpAny_bind (wpAny_setField_rec (s := ⟨h2, g, d, tk, os⟩) hz2 (by simp [combFs]) fun h3 hz3 hs3 => ?_)
  replace hs3 : Heap.SameBut a h2 h3 := hs3
  replace hz3 : IsComb h3 a P st (.ref hp.objs.size) ix := by
    rw [IsComb, hz3]
    simp [combFs]
  refine wpAny_bind (wpAny_letGo (wpAny_pure ⟨_, rfl, ?_⟩))
  exact hQ h3 hz3 (hs3.extBut _ _ (Nat.ne_of_gt ha) hT) (hs3.1.trans hs2) fun c o hc e => hs3.extBut _ _ hc (up c o e)
theorem comb_first {a P : Addr} {last : Value} {ix : List Nat} {items : Array Value} {Q : Value → Shared → Prop} (hz : IsComb s.heap a P 0 last ix) (hP : s.heap.IsTuple P items) (hne : P ≠ a) (h4 : ix.length ≤ 4)
    (hQ : ∀ h', IsComb h' a P 1 (.ref s.heap.objs.size) ix → h'.get? s.heap.objs.size = some { cls := .type "tuple", data := .seq (ix.map fun i => items.getD i .none).toArray } → h'.objs.size = s.heap.objs.size + 1 →
      (∀ c o, c ≠ a → s.heap.get? c = some o → h'.get? c = some o) → Q (.ref s.heap.objs.size) { s with heap := h' }) :
    wpAny (model prog w) A (Builtin.«itertools.combinations.__next__» ⟨[.ref a], []⟩) (fun fin s' => ∃ v, fin = .done (.ret v) ∧ Q v s') E s := by
  obtain ⟨hp, g, d, tk, os⟩ := s
  obtain ⟨oP, hoP, hcP, nP, hdP⟩ := hP
  show wpAny _ _ (field (.ref a) 0 >>= _) _ _ _
  refine wpAny_bind (wpAny_field hz rfl (x := .ref P) rfl ?_)
  refine wpAny_bind (numbers_of hz ?_)
  show wpAny _ _ (Builtin.Itertools.itIntField (.ref a) 1 >>= _) _ _ _
  refine wpAny_bind ?_
  unfold Builtin.Itertools.itIntField
  refine wpAny_bind (wpAny_field hz rfl (x := rawInt 0) rfl (wpAny_pure ?_))
  show wpAny _ _ (setField (.ref a) 1 (rawInt 1) >>= _) _ _ _
  refine wpAny_bind (wpAny_setField_rec hz (by simp [combFs]) fun h1 hz1 hs1 => ?_)
  replace hs1 : Heap.SameBut a hp h1 := hs1
  replace hz1 : IsComb h1 a P 1 last ix := by
    rw [IsComb, hz1]
    simp [combFs]
  have hP1 : h1.IsTuple P items := ⟨oP, hs1.extBut _ _ hne hoP, hcP, nP, hdP⟩
  have e1 := hs1.1
  refine comb_out (s := ⟨h1, g, d, tk, os⟩) hz1 hP1 h4 rfl fun h' q1 q2 q3 q4 => ?_
  show Q (.ref h1.objs.size) ⟨h', g, d, tk, os⟩
  have q1' : IsComb h' a P 1 (.ref h1.objs.size) ix := q1
  have q2' : h'.get? h1.objs.size = _ := q2
  have q3' : h'.objs.size = h1.objs.size + 1 := q3
  rw [e1] at q1' q2' q3' ⊢
  exact hQ h' q1' q2' q3' fun c o hc e => q4 c o hc (hs1.extBut _ _ hc e)
theorem comb_more {a P : Addr} {last : Value} {ix ix' : List Nat} {items : Array Value} {Q : Value → Shared → Prop} (hz : IsComb s.heap a P 1 last ix) (hP : s.heap.IsTuple P items) (hne : P ≠ a) (h4 : ix'.length ≤ 4) (hn : nextC items.size ix = some ix')
    (hQ : ∀ h', IsComb h' a P 1 (.ref s.heap.objs.size) ix' → h'.get? s.heap.objs.size = some { cls := .type "tuple", data := .seq (ix'.map fun i => items.getD i .none).toArray } → h'.objs.size = s.heap.objs.size + 1 →
      (∀ c o, c ≠ a → s.heap.get? c = some o → h'.get? c = some o) → Q (.ref s.heap.objs.size) { s with heap := h' }) :
    wpAny (model prog w) A (Builtin.«itertools.combinations.__next__» ⟨[.ref a], []⟩) (fun fin s' => ∃ v, fin = .done (.ret v) ∧ Q v s') E s := by
  obtain ⟨hp, g, d, tk, os⟩ := s
  obtain ⟨oP, hoP, hcP, nP, hdP⟩ := hP
  show wpAny _ _ (field (.ref a) 0 >>= _) _ _ _
  refine wpAny_bind (wpAny_field hz rfl (x := .ref P) rfl ?_)
  refine wpAny_bind (numbers_of hz ?_)
  show wpAny _ _ (Builtin.Itertools.itIntField (.ref a) 1 >>= _) _ _ _
  refine wpAny_bind ?_
  unfold Builtin.Itertools.itIntField
  refine wpAny_bind (wpAny_field hz rfl (x := rawInt 1) rfl (wpAny_pure ?_))
  show wpAny _ _ (Builtin.Itertools.itPoolItems (.ref P) >>= _) _ _ _
  refine wpAny_bind ?_
  unfold Builtin.Itertools.itPoolItems
  refine wpAny_bind (wpAny_seqItems hoP hdP (wpAny_pure ?_))
  show wpAny _ _ (match nextC items.size ix with
    | some next => (do
        Builtin.Itertools.itSetNumbersFrom (.ref a) 3 next
        (do
          let result ← (do let items ← Builtin.Itertools.itPoolItems (.ref P); newTuple (next.map fun i => items.getD i .none))
          let before ← field (.ref a) 2
          setField (.ref a) 2 result
          letGo [before] [result]
          ret result : Sem Fin))
    | none => (do
        setField (.ref a) 1 (rawInt 2)
        Builtin.Itertools.itStop)) _ _ _
  rw [hn]
  unfold Builtin.Itertools.itSetNumbersFrom
  have hsz : ((combFs P 1 last ix).toArray.extract 0 3 ++ (ix'.map fun (n : Nat) => rawInt n).toArray) = (combFs P 1 last ix').toArray := by
    simp [combFs]
  refine wpAny_bind (wpAny_updateFields (vs := (combFs P 1 last ix).toArray) hz rfl ?_ (by rw [hsz]; simp only [combFs, List.size_toArray, List.length_append, List.length_cons, List.length_nil, List.length_map]; exact Nat.le_trans (show 0 + 1 + 1 + 1 + ix'.length ≤ 7 by omega) (by decide)))
  have hz1 : IsComb (hp.update a (Obj.mapFields fun fs => fs.extract 0 3 ++ (ix'.map fun (n : Nat) => rawInt n).toArray)) a P 1 last ix' := by
    show Heap.get? _ _ = _
    rw [Heap.get?_update_self _ hz rfl]
    simp only [Obj.mapFields]
    rw [hsz]
  have hs1 : Heap.SameBut a hp (hp.update a (Obj.mapFields fun fs => fs.extract 0 3 ++ (ix'.map fun (n : Nat) => rawInt n).toArray)) := Heap.SameBut.update ..
  show wpAny _ _ _ _ _ ⟨hp.update a (Obj.mapFields fun fs => fs.extract 0 3 ++ (ix'.map fun (n : Nat) => rawInt n).toArray), g, d, tk, os⟩
  generalize hp.update a (Obj.mapFields fun fs => fs.extract 0 3 ++ (ix'.map fun (n : Nat) => rawInt n).toArray) = h1 at hz1 hs1 ⊢
  have hP1 : h1.IsTuple P items := ⟨oP, hs1.extBut _ _ hne hoP, hcP, nP, hdP⟩
  have e1 := hs1.1
  refine comb_out (s := ⟨h1, g, d, tk, os⟩) hz1 hP1 h4 rfl fun h' q1 q2 q3 q4 => ?_
  show Q (.ref h1.objs.size) ⟨h', g, d, tk, os⟩
  have q1' : IsComb h' a P 1 (.ref h1.objs.size) ix' := q1
  have q2' : h'.get? h1.objs.size = _ := q2
  have q3' : h'.objs.size = h1.objs.size + 1 := q3
  rw [e1] at q1' q2' q3' ⊢
  exact hQ h' q1' q2' q3' fun c o hc e => q4 c o hc (hs1.extBut _ _ hc e)
/-- no more of them: the last was given out, or there never was one -/
theorem comb_end {a P : Addr} {st : Int} {last : Value} {ix : List Nat} {items : Array Value} {Q : Fin → Shared → Prop} (hh : A.handled = none) (hz : IsComb s.heap a P st last ix) (hP : s.heap.IsTuple P items) (hst : st = 2 ∨ (st = 1 ∧ nextC items.size ix = none))
    (hE : ∀ h' e, (∀ c o, c ≠ a → s.heap.get? c = some o → h'.get? c = some o) → (∃ o, h'.get? e = some o ∧ o.cls = .type "StopIteration") → E (.ref e) { s with heap := h' }) :
    wpAny (model prog w) A (Builtin.«itertools.combinations.__next__» ⟨[.ref a], []⟩) Q E s := by
  have stop : ∀ (h : Heap) (g : Array GenState) (d : Drawn) (tk : Nat) (os : OsState) (Q : Fin → Shared → Prop) (E : Value → Shared → Prop), (∀ h' e, (∀ c o, h.get? c = some o → h'.get? c = some o) → (∃ o, h'.get? e = some o ∧ o.cls = .type "StopIteration") → E (.ref e) ⟨h', g, d, tk, os⟩) →
      wpAny (model prog w) A (Builtin.Itertools.itStop : Sem Fin) Q E ⟨h, g, d, tk, os⟩ := by
    intro h g d tk os Q E hE
    unfold Builtin.Itertools.itStop
    refine wpAny_bind ?_
    simp only [newExc, newTuple]
    refine wpAny_bind (wpAny_newObj_type ?_ (by size_fits))
    refine wpAny_bind (m := firstArgMember _ _) (wpAny_of_eq (a := Value.none) (by first | rfl | (simp only [firstArgMember]; rfl)) ?_)
    refine wpAny_newObj_type ?_ (by size_fits)
    simp only [raiseNew]
    refine wpAny_bind (wpAny_handled ?_)
    rw [hh]
    refine wpAny_bind (wpAny_pure (wpAny_throw ?_))
    exact hE _ _ (fun c o e => Heap.get?_push_of_some _ (Heap.get?_push_of_some _ e)) ⟨_, Heap.get?_push_size _ rfl, rfl⟩
  obtain ⟨hp, g, d, tk, os⟩ := s
  obtain ⟨oP, hoP, hcP, nP, hdP⟩ := hP
  show wpAny _ _ (field (.ref a) 0 >>= _) _ _ _
  refine wpAny_bind (wpAny_field hz rfl (x := .ref P) rfl ?_)
  refine wpAny_bind (numbers_of hz ?_)
  show wpAny _ _ (Builtin.Itertools.itIntField (.ref a) 1 >>= _) _ _ _
  refine wpAny_bind ?_
  unfold Builtin.Itertools.itIntField
  rcases hst with rfl | ⟨rfl, hn⟩
  · refine wpAny_bind (wpAny_field hz rfl (x := rawInt 2) rfl (wpAny_pure ?_))
    refine wpAny_bind (wpAny_rule ?_)
    exact stop hp g d tk os _ _ fun h' e k he => hE h' e (fun c o _ q => k c o q) he
  · refine wpAny_bind (wpAny_field hz rfl (x := rawInt 1) rfl (wpAny_pure ?_))
    show wpAny _ _ (Builtin.Itertools.itPoolItems (.ref P) >>= _) _ _ _
    refine wpAny_bind ?_
    unfold Builtin.Itertools.itPoolItems
    refine wpAny_bind (wpAny_seqItems hoP hdP (wpAny_pure ?_))
    show wpAny _ _ (match nextC items.size ix with
      | some next => (do
          Builtin.Itertools.itSetNumbersFrom (.ref a) 3 next
          (do
            let result ← (do let items ← Builtin.Itertools.itPoolItems (.ref P); newTuple (next.map fun i => items.getD i .none))
            let before ← field (.ref a) 2
            setField (.ref a) 2 result
            letGo [before] [result]
            ret result : Sem Fin))
      | none => (do
          setField (.ref a) 1 (rawInt 2)
          Builtin.Itertools.itStop)) _ _ _
    rw [hn]
    refine wpAny_bind (wpAny_setField_rec hz (by simp [combFs]) fun h1 hz1 hs1 => ?_)
    replace hs1 : Heap.SameBut a hp h1 := hs1
    exact stop h1 g d tk os _ _ fun h' e k he => hE h' e (fun c o hc q => k c o (hs1.extBut _ _ hc q)) he
end
end Px

set_option Elab.async false
set_option linter.all false
set_option maxRecDepth 100000
set_option maxHeartbeats 2000000
/-! Px: itertools.combinations of a range begins. -/
namespace PySem.F
theorem plain_comb_new : plainId "itertools.combinations.__new__" = true := by decide +kernel
theorem mro_comb : mroOf (.type "itertools.combinations") = pure [.type "itertools.combinations", .type "object"] := by rw [mroOf_type]; kernel_rfl
theorem lookup_comb_new : typeLookup (.type "itertools.combinations") "__new__" = pure (some (.builtin "itertools.combinations.__new__")) := by rw [typeLookup_type, builtinLookup_eq_fast]; kernel_rfl
theorem slot_comb_init : Slot "itertools.combinations" "__init__" "object.__init__" :=
  .of (owner := "object") (n := "__init__") (by rw [typeLookup_type, builtinLookup_eq_fast]; kernel_rfl) (by decide +kernel) (by decide +kernel) (by decide +kernel)
    (by first | exact .inl (by decide +kernel) | exact .inr (by decide +kernel)) (by rw [isSubtype_type]; kernel_rfl)
theorem called_comb : TypeCalled "itertools.combinations" "itertools.combinations.__new__" "object.__init__" :=
  ⟨by decide +kernel, by decide +kernel, ⟨_, _, mro_comb⟩, madeBy_type mro_comb lookup_comb_new (by decide +kernel), plain_comb_new, sub_comb, slot_comb_init⟩
end PySem.F
namespace Px
open PySem PySem.Spec PyProof.Rows L2
open Sem (wp)
abbrev IsPool (h : Heap) (T : Addr) (xs : Array Value) : Prop := h.get? T = some { cls := .type "tuple", data := .seq xs }
section
variable {prog : Program} {w : World} {A : Around} {E : Value → Shared → Prop} {s : Shared} {r : Addr} {a b c : Int} {t u v : Tok} {n : Nat}
theorem code_comb_new {Q₁ : Value → Shared → Prop} {k : Nat} {kt : Tok} (hk4 : k ≤ 4) (hh : A.handled = none) (hr : IsRange s.heap r a b c t u v) (hsmall : Builtin.Range.small a b c = true) (hn : Builtin.Range.rangeSize a b c = n) (hlen : n ≤ 2 ^ 24)
    (h : ∀ (h' : Heap) (tk : Nat) (acc : Array Value), (∀ b o, s.heap.get? b = some o → h'.get? b = some o) → ItemsOf (fun i v => ∃ t, v = .int (a + i * c) t) acc n →
      Q₁ (.ref (h'.objs.size + 1)) { s with heap := (h'.push { cls := .type "tuple", data := .seq acc }).push { cls := .type "itertools.combinations", data := .fields (combFs h'.objs.size (if k > n then 2 else 0) .none (List.range k)).toArray }, toks := tk }) :
    codeAny (model prog w) A (.call (.builtin "itertools.combinations.__new__") ⟨[.type "itertools.combinations", .ref r, .int k kt], []⟩) (wants Q₁ E) s := by
  refine codeAny_of_tree ?_
  show wpAny _ A.in1 (do checkBuiltinCall "itertools.combinations.__new__" ⟨[.type "itertools.combinations", .ref r, .int k kt], []⟩; again (.builtin "itertools.combinations.__new__" ⟨[.type "itertools.combinations", .ref r, .int k kt], []⟩)) _ _ s
  refine wpAny_bind (wpAny_of_eq (F.new_call_comb _ _) (wpAny_pure ⟨plainId_quiet F.plain_comb_new _, codeAny_builtin F.entry_comb_new ?_⟩))
  rw [Around.under_plainId F.plain_comb_new _]
  have hsub := F.sub_comb
  have hh1 : A.in1.handled = none := hh
  have hTI : s.TypeIs (.ref r) "range" := ⟨_, hr, rfl⟩
  show wpAny _ _ ((do
      let (cls, rest) ← Builtin.Itertools.itClassAndRest "combinations" ⟨[.type "itertools.combinations", .ref r, .int k kt], []⟩
      let [some iterable, some rV] ← Builtin.Itertools.itBindNamed "combinations" ["iterable", "r"] 2 2 rest [] | unsupported "internal:itertools.combinations.__new__"
      let r ← Builtin.Itertools.itSsizeArg rV
      let items ← collect iterable
      if r < 0 then rule "itertools.combinations.negative-r"; raiseError "ValueError" "r must be non-negative"
      if Builtin.Itertools.itTooMany r then unsupported s!"itertools.{"combinations"}.__new__:memory"
      return (cls, ← newTuple items, items.length, r.toNat) : Sem (Value × Value × Nat × Nat)) >>= _) _ _ _
  have qc : ∀ {Q : Value × List Value → Shared → Prop} {E : Value → Shared → Prop} {s : Shared}, Q (.type "itertools.combinations", [.ref r, .int k kt]) s → wpAny (model prog w) A.in1 (Builtin.Itertools.itClassAndRest "combinations" ⟨[.type "itertools.combinations", .ref r, .int k kt], []⟩) Q E s := fun q => by
    unfold Builtin.Itertools.itClassAndRest
    wp_walk
    rw [show ("itertools." ++ "combinations") = "itertools.combinations" from by decide +kernel]
    exact wpAny_of_eq hsub (wpAny_pure q)
  have qb : ∀ {Q : List (Option Value) → Shared → Prop} {E : Value → Shared → Prop} {s : Shared}, Q [some (.ref r), some (.int k kt)] s → wpAny (model prog w) A.in1 (Builtin.Itertools.itBindNamed "combinations" ["iterable", "r"] 2 2 [.ref r, .int k kt] []) Q E s := fun q => by
    unfold Builtin.Itertools.itBindNamed
    wp_walk
    exact q
  have qi : ∀ {Q : Int → Shared → Prop} {E : Value → Shared → Prop} {s : Shared}, Q k s → wpAny (model prog w) A.in1 (Builtin.Itertools.itSsizeArg (.int k kt)) Q E s := fun q => by
    unfold Builtin.Itertools.itSsizeArg
    wp_walk
    rw [if_neg (by simp only [Bool.or_eq_true, decide_eq_true_eq]; omega)]
    exact wpAny_pure q
  refine wpAny_bind (wpAny_bind (qc ?_))
  refine wpAny_bind (qb ?_)
  refine wpAny_bind (qi ?_)
  refine wpAny_bind (collect_range (A := A.in1) hh1 hr hsmall hn hlen fun h' tk acc hk hacc => ?_)
  have hsz : acc.size = n := hacc.1
  have e0 : acc.toList.toArray = acc := by simp
  rw [if_neg (show ¬ (k : Int) < 0 by omega)]
  rw [if_neg (show ¬ Builtin.Itertools.itTooMany (k : Int) = true by unfold Builtin.Itertools.itTooMany; simp only [decide_eq_true_eq]; omega)]
  refine wpAny_bind (wpAny_newTuple ?_ (by rw [Array.length_toList, hsz, sizeLine_eq]; omega))
  refine wpAny_pure ?_
  rw [e0]
  show wpAny _ _ (Builtin.Itertools.itNewRecord (.type "itertools.combinations") (combFs h'.objs.size (if (k : Int).toNat > acc.toList.length then 2 else 0) .none (List.range (k : Int).toNat)) >>= _) _ _ ⟨h'.push { cls := .type "tuple", data := .seq acc }, s.gens, s.drawn, tk, s.os⟩
  rw [Int.toNat_natCast, Array.length_toList, hsz]
  unfold Builtin.Itertools.itNewRecord
  have hnd : typeHasDict (.type "itertools.combinations") = false := by decide +kernel
  simp only [hnd]
  refine wpAny_bind ?_
  rw [if_pos (show (!false) = true from rfl)]
  refine wpAny_newObj_type ?_ ?_
  · refine wpAny_pure ?_
    have e1 : (h'.push { cls := .type "tuple", data := .seq acc }).objs.size = h'.objs.size + 1 := Heap.size_push ..
    show wants Q₁ E (.ok (.ret (.ref (h'.push { cls := .type "tuple", data := .seq acc }).objs.size))) _
    rw [e1]
    exact h h' tk acc hk hacc
  · show (combFs h'.objs.size (if k > n then 2 else 0) .none (List.range k)).toArray.size ≤ sizeLine + 2
    simp only [combFs, List.size_toArray, List.length_append, List.length_cons, List.length_nil, List.length_map, List.length_range]
    exact Nat.le_trans (show 0 + 1 + 1 + 1 + k ≤ 7 by omega) (by decide)
/-- combinations(range, k): the pool's tuple, then the object -/
theorem call_comb {Q : Value → Shared → Prop} {k : Nat} {kt : Tok} (hk4 : k ≤ 4) (hh : A.handled = none) (hr : IsRange s.heap r a b c t u v) (hsmall : Builtin.Range.small a b c = true) (hn : Builtin.Range.rangeSize a b c = n) (hlen : n ≤ 2 ^ 24)
    (hQ : ∀ (h0 h' : Heap) (tk : Nat) (acc : Array Value), (∀ b o, s.heap.get? b = some o → h0.get? b = some o) → (∀ b o, h0.get? b = some o → h'.get? b = some o) → IsComb h' (h0.objs.size + 1) h0.objs.size (if k > n then 2 else 0) .none (List.range k) → IsPool h' h0.objs.size acc → ItemsOf (fun i v => ∃ t, v = .int (a + i * c) t) acc n →
      Q (.ref (h0.objs.size + 1)) { s with heap := h', toks := tk }) :
    wpAny (model prog w) A (call (.type "itertools.combinations") [.ref r, .int k kt]) Q E s := by
  refine callType_codes (Q₁ := fun obj s₁ => s₁.TypeIs obj "itertools.combinations" ∧ Q obj s₁) F.called_comb (F.type_call_comb _ _) F.entry_object_init
    (code_comb_new (A := A.in1) hk4 hh hr hsmall hn hlen fun h' tk acc hk hacc => ?_) fun obj s₁ h₁ => ?_
  · have e1 : (h'.push { cls := .type "tuple", data := .seq acc }).objs.size = h'.objs.size + 1 := Heap.size_push ..
    have g1 : (h'.push { cls := .type "tuple", data := .seq acc }).get? h'.objs.size = some { cls := .type "tuple", data := .seq acc } := Heap.get?_push_size _ rfl
    have g2 : ((h'.push { cls := .type "tuple", data := .seq acc }).push { cls := .type "itertools.combinations", data := .fields (combFs h'.objs.size (if k > n then 2 else 0) .none (List.range k)).toArray }).get? (h'.push { cls := .type "tuple", data := .seq acc }).objs.size = some { cls := .type "itertools.combinations", data := .fields (combFs h'.objs.size (if k > n then 2 else 0) .none (List.range k)).toArray } := Heap.get?_push_size _ rfl
    rw [e1] at g2
    exact ⟨⟨_, g2, rfl⟩, hQ h' _ tk acc hk (fun b o e => Heap.get?_push_of_some _ (Heap.get?_push_of_some _ e)) g2 (Heap.get?_push_of_some _ g1) hacc⟩
  · exact ⟨h₁.1, F.args_object_init_3 obj _ _, object_init_meets F.called_comb.init.lookup F.called_comb.made (by decide) prog w A.in1 _ s₁ ⟨h₁.1, rfl, h₁.2⟩⟩
end
end Px

set_option Elab.async false
set_option linter.all false
set_option maxRecDepth 100000
set_option maxHeartbeats 2000000
/-! Px: for x, y in combinations(range(n), k). -/
namespace PySem.F
theorem entry_comb_iter : entryFor table "itertools.combinations.__iter__" = some Builtin.«dict_keyiterator.__iter__» :=
  entryFor_alias (id' := "dict_keyiterator.__iter__") (by kernel_rfl) (by first | rfl | decide +kernel | (unfold String.splitOn; simp +decide [String.splitOnAux])) (by decide +kernel) (by kernel_rfl)
end PySem.F
namespace Px
open PySem PySem.Spec PyProof.Rows L2
open Sem (wp)
structure CombOk (n k : Nat) (L : List (List Nat)) : Prop where
  none : k > n → L = []
  first : k ≤ n → L[0]? = some (List.range k)
  len : ∀ ix ∈ L, ix.length ≤ 4 ∧ ∀ x ∈ ix, x < n
  next : ∀ i ix, L[i]? = some ix → nextC n ix = L[i + 1]?
section
variable {prog : Program} {w : World} {A : Around} {E : Value → Shared → Prop} {s : Shared} {a P : Addr} {st : Int} {last : Value} {ix : List Nat} {acc : Array Value}
theorem pyNext_comb_item {Q : Option Value → Shared → Prop} (hz : IsComb s.heap a P st last ix)
    (h : wpAny (model prog w) A.in1 (Builtin.«itertools.combinations.__next__» ⟨[.ref a], []⟩) (fun fin s' => ∃ v, fin = .done (.ret v) ∧ Q (some v) s') (fun _ _ => False) s) : wpAny (model prog w) A (pyNext (.ref a)) Q E s := by
  have hT : s.TypeIs (.ref a) "itertools.combinations" := ⟨_, hz, rfl⟩
  unfold pyNext
  refine wpAny_bind (wpAny_attempt (wpAny_callSpecial?_slot (name := Str.ofString "__next__") hT F.slot_comb_next
    (wpAny_call_entry F.slot_comb_next hT F.entry_comb_next (wpAny_mono h (fun fin s' hq => ?_) fun _ _ z => z.elim) (F.args_comb_next_1 _))))
  obtain ⟨v, rfl, q⟩ := hq
  exact ⟨v, rfl, wpAny_pure q⟩
theorem pyNext_comb_end {Q : Option Value → Shared → Prop} (hh : A.in1.handled = none) (hz : IsComb s.heap a P st last ix) (hP : s.heap.IsTuple P acc) (hst : st = 2 ∨ (st = 1 ∧ nextC acc.size ix = none))
    (hQ : ∀ h', (∀ c o, c ≠ a → s.heap.get? c = some o → h'.get? c = some o) → Q none { s with heap := h' }) : wpAny (model prog w) A (pyNext (.ref a)) Q E s := by
  have hT : s.TypeIs (.ref a) "itertools.combinations" := ⟨_, hz, rfl⟩
  unfold pyNext
  refine wpAny_bind (wpAny_attempt (wpAny_callSpecial?_slot (name := Str.ofString "__next__") hT F.slot_comb_next
    (wpAny_call_entry F.slot_comb_next hT F.entry_comb_next (comb_end hh hz hP hst fun h' e hk he => ?_) (F.args_comb_next_1 _))))
  obtain ⟨o, ho, hc⟩ := he
  refine wpAny_bind (wpAny_isInstance (T := "StopIteration") (b := true) ⟨o, ho, hc⟩ isSubtype_stop ?_)
  exact wpAny_pure (hQ _ hk)
end
def combV (vs : List V) (ix : List Nat) : List V := ix.map fun x => (vs[x]?).getD .non
def ItC (vs : List V) (L : List (List Nat)) : It where
  go := fun i _ => i < L.length
  yld := fun i H v H' => ∃ T ix, v = V.ref T ∧ H T = none ∧ L[i]? = some ix ∧ H' = upd H T (HO.tup (combV vs ix))
  stop := fun i _ => i = L.length
/-- where it stands before turn i -/
def combAt (L : List (List Nat)) (i : Nat) (st : Int) (ix : List Nat) : Prop :=
  (i = 0 ∧ st = 0 ∧ L[0]? = some ix) ∨ (st = 2 ∧ L = []) ∨ ∃ j, i = j + 1 ∧ st = 1 ∧ L[j]? = some ix
theorem combV_rel {vs : List V} {acc : Array Value} {n : Nat} (r : Vals vs acc.toList) (hn : acc.size = n) : ∀ {ix : List Nat}, (∀ x ∈ ix, x < n) → Vals (combV vs ix) (ix.map fun x => acc.getD x .none)
  | [], _ => .nil
  | x :: ix, h => by
    refine .cons ?_ (combV_rel r hn fun y hy => h y (List.mem_cons_of_mem _ hy))
    have hx : x < vs.length := by
      rw [show vs.length = n from by rw [r.length, Array.length_toList, hn]]
      exact h x (List.mem_cons_self ..)
    have e : vs[x]? = some vs[x] := List.getElem?_eq_getElem hx
    obtain ⟨u, hu, ru⟩ := r.get e
    rw [Array.getElem?_toList] at hu
    show RelV ((vs[x]?).getD .non) (acc.getD x .none)
    rw [e, Array.getD_eq_getD_getElem?, hu]
    exact ru
theorem turn_comb {Pr : Program} {w : World} {K : PySem.W.Frag} {tg : Expr} {a P : Addr} {acc : Array Value} {vs : List V} {n k : Nat} {L : List (List Nat)} (hne : P ≠ a) (hL : CombOk n k L) (r : Vals vs acc.toList) (hn : acc.size = n) :
    Turn Pr w K tg (ItC vs L) [a, P] a (fun i h => ∃ st last ix, IsComb h a P st last ix ∧ IsPool h P acc ∧ combAt L i st ix) where
  mem := by simp
  obj := fun i h stt c hc => by
    obtain ⟨st, last, ix, h1, h2, _⟩ := stt
    have e : c = a ∨ c = P := by simpa using hc
    rcases e with rfl | rfl
    · exact ⟨_, h1, fun v q => nomatch q⟩
    · exact ⟨_, h2, fun v q => nomatch q⟩
  keep := fun i h h' stt kp => by
    obtain ⟨st, last, ix, h1, h2, h3⟩ := stt
    exact ⟨st, last, ix, kp a (by simp) _ h1, kp P (by simp) _ h2, h3⟩
  item := by
    intro X hP hw hK hc i pins s σ H E I hf stt hg
    subst hP hw
    obtain ⟨st, last, ix, h1, h2, h3⟩ := stt
    have hi : i < L.length := hg
    have hT : s.heap.IsTuple P acc := ⟨_, h2, rfl, _, rfl⟩
    obtain ⟨ix', hix⟩ : ∃ ix', L[i]? = some ix' := ⟨L[i], List.getElem?_eq_getElem hi⟩
    obtain ⟨hl4, hlt⟩ := hL.len ix' (List.mem_of_getElem? hix)
    have hTn : H s.heap.objs.size = none := I.hok.fresh (Nat.le_refl _)
    have fin : ∀ h', IsComb h' a P 1 (.ref s.heap.objs.size) ix' → h'.get? s.heap.objs.size = some { cls := .type "tuple", data := .seq (ix'.map fun x => acc.getD x .none).toArray } → h'.objs.size = s.heap.objs.size + 1 →
        (∀ c o, c ≠ a → s.heap.get? c = some o → h'.get? c = some o) → ∃ u, some (Value.ref s.heap.objs.size) = some u ∧
          wpAny (model X.prog X.w) X.A (letOwnedTupleGo tg (.ref a) u) (fun _ s2 => ∃ x H', L2.Inv X pins σ H' s2 ∧ L2.RelV x u ∧ (ItC vs L).yld i H x H' ∧ (∃ st last ix, IsComb s2.heap a P st last ix ∧ IsPool s2.heap P acc ∧ combAt L (i + 1) st ix) ∧ ∀ b ∈ [a, P], H' b = none) E { s with heap := h' } := by
      intro h' q1 q2 q3 q4
      refine ⟨_, rfl, go_of (s := { s with heap := h' }) q1 rfl rfl (by decide) ?_⟩
      refine ⟨.ref s.heap.objs.size, upd H s.heap.objs.size (.tup (combV vs ix')), I.turnedNew (t' := s.toks) (ch := [a, P]) (fun c o hb q => q4 c o (fun e => hb (by simp [e])) q) hf (Nat.le_refl _) ?_, rfl, ⟨_, ix', rfl, hTn, hix, rfl⟩, ⟨1, _, ix', q1, q4 P _ hne h2, .inr (.inr ⟨i, rfl, rfl, hix⟩)⟩, fun c hcm => ?_⟩
      · exact ⟨by rw [combV, List.length_map]; exact Nat.le_trans hl4 (by decide), _, combV_rel r hn hlt, ⟨_, q2, rfl, _, rfl⟩⟩
      · have e : c = a ∨ c = P := by simpa using hcm
        have hlt' : c < s.heap.objs.size := by
          rcases e with rfl | rfl
          · exact Heap.lt_size h1
          · exact Heap.lt_size h2
        rw [upd_ne (Nat.ne_of_lt hlt')]
        exact (hf c hcm).1
    rcases h3 with ⟨rfl, rfl, h3⟩ | ⟨_, h3⟩ | ⟨j, rfl, rfl, h3⟩
    · have e : ix = ix' := by rw [hix] at h3; exact (Option.some.inj h3).symm
      subst e
      exact pyNext_comb_item h1 (comb_first h1 hT hne hl4 fun h' q1 q2 q3 q4 => fin h' q1 q2 q3 q4)
    · rw [h3] at hi; exact absurd hi (Nat.not_lt_zero _)
    · have e := hL.next j ix h3
      rw [hix] at e
      exact pyNext_comb_item h1 (comb_more h1 hT hne hl4 (by rw [hn]; exact e) fun h' q1 q2 q3 q4 => fin h' q1 q2 q3 q4)
  done := by
    intro X hP hw hK hc i pins s σ H E I hf stt hg
    subst hP hw
    obtain ⟨st, last, ix, h1, h2, h3⟩ := stt
    have hi : i = L.length := hg
    have hT : s.heap.IsTuple P acc := ⟨_, h2, rfl, _, rfl⟩
    refine pyNext_comb_end (I.ok.hd hc) h1 hT ?_ fun h' hk => ⟨rfl, I.turnedL (t' := s.toks) (ch := [a, P]) (fun c o hb q => hk c o (fun e => hb (by simp [e])) q) hf⟩
    rcases h3 with ⟨rfl, rfl, h3⟩ | ⟨h3, _⟩ | ⟨j, rfl, rfl, h3⟩
    · rw [List.getElem?_eq_none (by omega)] at h3; cases h3
    · exact .inl h3
    · refine .inr ⟨rfl, ?_⟩
      rw [hn, hL.next j ix h3, List.getElem?_eq_none (by omega)]
  self := fun A i s Q E stt h => by
    obtain ⟨st, last, ix, h1, _⟩ := stt
    have hT : s.TypeIs (.ref a) "itertools.combinations" := ⟨_, h1, rfl⟩
    refine wpAny_pyIter_slot hT F.slot_comb_iter (wpAny_call_entry F.slot_comb_iter hT F.entry_comb_iter ?_ (F.args_comb_iter_1 _))
    show wpAny _ _ (ret (.ref a)) _ _ s
    exact wpAny_pure ⟨_, rfl, "itertools.combinations", _, hT, F.slot_comb_next.lookup, h⟩
end Px

set_option Elab.async false
set_option linter.all false
set_option maxRecDepth 100000
set_option maxHeartbeats 2000000
/-! Px: combinations(range(..), k) as what a loop walks. -/
namespace Px
open PySem PySem.Spec PyProof.Rows L2
open Sem (wp)
def iComb (k : Nat) (t : L2.St → Hp → (Int → Int → Hp → Prop) → Prop) : TI := fun σ H R => t σ H fun a b H1 => a = 0 ∧ RgOk 0 b ∧ ∃ L, CombOk b.toNat k L ∧ R (ItC (rgV 0 b) L) H1
theorem pi_comb {X : Cx} {tg e : Expr} {t : L2.St → Hp → (Int → Int → Hp → Prop) → Prop} {k j2 : Nat} {p pos p2 : Pos} (hk4 : k ≤ 4) (hc : X.calm = true) (hg : Gl X "combinations") (hm : X.mg "combinations" = some (.type "itertools.combinations")) (he : PRg X e t)
    (hs : starEach [e, .Constant (.int k) j2 p2] X.env = (false, eval e X.env) :: starEach [.Constant (.int k) j2 p2] X.env := by rfl) (hpl : (backTo pos (starEach [.Constant (.int k) j2 p2] X.env)).any (·.1) = false := by rfl) :
    PI X tg (.Call (.Name "combinations" p) [e, .Constant (.int k) j2 p2] [] pos) (iComb k t) := by
  refine ⟨fun pins s σ H R I h => ?_⟩
  refine wpAny_Call_Name_kw (ld_glob I hg hm ?_ (by decide))
  refine PyProof.Rows.callWith_type1 ?_ hs hpl
  refine args_cons (thn (he pins s σ H _ I h) fun x s1 hx => ?_) hs
  obtain ⟨r, a, b, t', u, v, H1, rfl, hr, I1, ea, ok, L, hL, q⟩ := hx
  subst ea
  refine args_cons (wpAny_Constant_int ?_) (by rfl)
  refine args_nil ?_
  obtain ⟨b1, b2, b3, b4, b5⟩ := ok
  have I2 : L2.Inv X pins σ H1 { s1 with toks := s1.toks + 1 } := I1.tok _
  have hr2 : IsRange ({ s1 with toks := s1.toks + 1 } : Shared).heap r 0 b 1 t' u v := hr
  refine call_comb (s := { s1 with toks := s1.toks + 1 }) (n := (b - 0).toNat) hk4 (I1.ok.hd hc) hr2 (small_one b1 b2 b3 b4) (rangeSize_nat 0 b) b5 fun h0 h' tk acc k0 k1 hC hP hacc => ?_
  have I3 : L2.Inv X pins σ H1 { s1 with heap := h0, toks := tk } := I2.kept (t' := tk) k0
  have I4 : L2.Inv X pins σ H1 { s1 with heap := h', toks := tk } := I3.kept (t' := tk) k1
  have en : (b - 0).toNat = b.toNat := by rw [Int.sub_zero]
  rw [en] at hC
  have hsz : acc.size = b.toNat := by rw [hacc.1, en]
  have hT : Turn X.prog X.w X.K tg (ItC (rgV 0 b) L) [h0.objs.size + 1, h0.objs.size] (h0.objs.size + 1) _ := turn_comb (acc := acc) (Nat.ne_of_lt (Nat.lt_succ_self _)) hL (vals_rg hacc) hsz
  have st0 : ∃ st last ix, IsComb h' (h0.objs.size + 1) h0.objs.size st last ix ∧ IsPool h' h0.objs.size acc ∧ combAt L 0 st ix := by
    refine ⟨_, _, _, hC, hP, ?_⟩
    by_cases z : k > b.toNat
    · rw [if_pos z]
      exact .inr (.inl ⟨rfl, hL.none z⟩)
    · rw [if_neg z]
      exact .inl ⟨rfl, rfl, hL.first (Nat.le_of_not_lt z)⟩
  refine hT.self _ 0 _ _ _ st0 ?_
  refine ⟨_, _, _, _, H1, rfl, I4, hT, st0, fun c hcm => ?_, q⟩
  have e : c = h0.objs.size + 1 ∨ c = h0.objs.size := by simpa using hcm
  have hle : h0.objs.size ≤ c := by
    rcases e with rfl | rfl
    · exact Nat.le_succ _
    · exact Nat.le_refl _
  exact I3.fpOk hle (I3.hok.fresh hle)
def natD (ix : List Nat) : PyData := .tuple (ix.map fun (x : Nat) => .int (x : Nat))
theorem comb_rd {K : Fg} {M : Hp} {b : Int} : ∀ {ix : List Nat}, (∀ x ∈ ix, x < b.toNat) → RdA K M (combV (rgV 0 b) ix) (ix.map fun (x : Nat) => PyData.int (x : Nat))
  | [], _ => .nil
  | x :: ix, h => by
    refine .cons ?_ (comb_rd fun y hy => h y (List.mem_cons_of_mem _ hy))
    have hx := h x (List.mem_cons_self ..)
    have e : (rgV 0 b)[x]? = some (V.int (0 + (x : Nat))) := by
      unfold rgV
      rw [Int.sub_zero]
      simp [hx]
    show Rd K M (((rgV 0 b)[x]?).getD .non) (.int (x : Nat))
    rw [e, Int.zero_add]
    exact Rd.int _
theorem WOk.comb {K : Kx} {M0 : Hp} {b : Int} {k : Nat} {L : List (List Nat)} (hL : CombOk b.toNat k L) : WOk K M0 (ItC (rgV 0 b) L) (L.map fun ix => Vl.d (natD ix)) := by
  refine ⟨fun _ => True, fun i H v H' => ∃ T ix, v = V.ref T ∧ H T = none ∧ L[i]? = some ix ∧ H' = upd H T (.tup (combV (rgV 0 b) ix)), ?_, fun _ _ => trivial, fun i H x H' hi e y => ?_⟩
  · rw [List.length_map]
    exact ⟨fun i H hi _ => hi, fun H _ => rfl, fun i H v H' _ _ y => y⟩
  · obtain ⟨T, ix, rfl, hn, hix, rfl⟩ := y
    refine ⟨.d (natD ix), by simp [hix], .inr ⟨T, _, hn, rfl, ?_⟩⟩
    exact Rd.tup (.inl (.inl upd_same)) (comb_rd (hL.len ix (List.mem_of_getElem? hix)).2)
def asComb (k : Nat) (R : List Vl → Prop) : Vl → Prop
  | .d (.int j) => (0 ≤ j ∧ j ≤ 16777216) ∧ ∃ L, CombOk j.toNat k L ∧ R (L.map fun ix => .d (natD ix))
  | _ => False
/-- for .. in combinations(range(e), k) -/
theorem i_comb {F : Fm} {tg e : Expr} {k j2 n : Nat} {p p1 p2 p3 pos : Pos} {f : FE} (hm : F.mg "combinations" = some (.type "itertools.combinations")) (hr : F.mg "range" = none) (h : Ee F e n f) (hk4 : k ≤ 4 := by decide) (hg : ∀ i, Gl (F.X i) "combinations" := by intro _; rfl) (hgr : ∀ i, Gl (F.X i) "range" := by intro _; rfl)
    (na : ∀ i, starEach [e] (F.X i).env = (false, eval e (F.X i).env) :: starEach [] (F.X i).env := by intro _; rfl) :
    Ei F tg (.Call (.Name "combinations" p) [.Call (.Name "range" p1) [e] [] p2, .Constant (.int k) j2 p3] [] pos) n (fun ρ R => f ρ (asComb k R)) := by
  obtain ⟨t, pt, st⟩ := h
  refine ⟨iComb k (tRg1 t), fun i => pi_comb hk4 (F.calm i) (hg i) (by rw [F.eM]; exact hm) (prg_1 (hgr i) (by rw [F.eM]; exact hr) (pt i) (na i)), fun C σ ρ H R Q hm' G hf kk => st C σ ρ H _ _ hm' G hf fun v H1 x m l u t1 ox h1 => ?_⟩
  match x, ox, h1 with
  | .d (.int j), ox, h1 =>
    obtain ⟨⟨j0, j1⟩, L, hL, hR⟩ := h1
    exact ⟨j, Rd.inv_int ox, rfl, RgOk.of_le (by decide) j1 (by decide) j0, L, hL, kk _ H1 _ m l u t1 (WOk.comb hL) hR⟩
/-- all of them, by steps -/
def combFrom (n : Nat) : Nat → List Nat → List (List Nat)
  | 0, _ => []
  | f + 1, ix => ix :: match nextC n ix with
    | none => []
    | some ix' => combFrom n f ix'
def combsOf (n k : Nat) : List (List Nat) := if k > n then [] else combFrom n 100 (List.range k)
def combB (n k : Nat) (L : List (List Nat)) : Bool :=
  (if k > n then L.isEmpty else L[0]? == some (List.range k)) && (L.all fun ix => decide (ix.length ≤ 4) && ix.all fun x => decide (x < n)) && (List.range L.length).all fun i => match L[i]? with
    | some ix => nextC n ix == L[i + 1]?
    | none => true
theorem comb_of {n k : Nat} {L : List (List Nat)} (h : combB n k L = true) : CombOk n k L := by
  unfold combB at h
  simp only [Bool.and_eq_true, List.all_eq_true, decide_eq_true_eq] at h
  obtain ⟨⟨h1, h2⟩, h3⟩ := h
  refine ⟨fun z => ?_, fun z => ?_, fun ix hix => ⟨(h2 ix hix).1, fun x hx => (h2 ix hix).2 x hx⟩, fun i ix hi => ?_⟩
  · rw [if_pos z] at h1
    exact List.isEmpty_iff.mp h1
  · rw [if_neg (Nat.not_lt.mpr z)] at h1
    exact beq_iff_eq.mp h1
  · have := h3 i (List.mem_range.mpr (List.getElem?_eq_some_iff.mp hi).1)
    rw [hi] at this
    exact beq_iff_eq.mp this
theorem combs_ok : ∀ n ≤ 8, ∀ k ≤ 4, CombOk n k (combsOf n k) := by
  intro n hn k hk
  refine comb_of ?_
  have : ∀ n, n ≤ 8 → ∀ k, k ≤ 4 → combB n k (combsOf n k) = true := by decide +kernel
  exact this n hn k hk
end Px

set_option Elab.async false
set_option linter.all false
set_option maxRecDepth 100000
set_option maxHeartbeats 2000000
/-! Px: a, b, c, d, .. = e1, e2, e3, e4, .. where some begin new lists of the def's own (four and more: the tuple is made and taken apart). -/
namespace Px
open PySem PySem.Spec PyProof.Rows L2
abbrev FP := En → En → (En → Prop) → Prop
def setAll (σ : Sg) : List Nat → List V → Sg
  | i :: is, v :: vs => setAll (σ.set i (some v)) is vs
  | _, _ => σ
/-- values told one after another, put into slots as they come; what is told is told of the slots as they stood ahead -/
def SP (K : Kx) (ta : TA) (is : List Nat) (n : Nat) (f : FP) : Prop := ∀ (C Cb : Ct) (σ σs : Sg) (ρb ρs : En) (H : Hp) (R : En → Prop) (Q : List V → Hp → Prop),
  C.S = Cb.S → C.m = Cb.m → C.m + n ≤ lim → Good K C σs ρs H → Good K Cb σ ρb H → (∀ a, bar C.B σs ρs a → bar Cb.B σ ρb a) → f ρb ρs R →
  (∀ vs H' ρs' m, C.m ≤ m → m ≤ C.m + n → vs.length = is.length → Good K (C.up m) (setAll σs is vs) ρs' H' → Ex (mq C σs ρs H) (mq C (setAll σs is vs) ρs' H') → R ρs' → Q vs H') → ta σ H Q
structure Ep (F : Fm) (es : List Expr) (is : List Nat) (n : Nat) (f : FP) : Prop where
  ex : ∃ t, (∀ i, PA (F.X i) es t) ∧ SP F.K t is n f
def tgs : List Nat → TGs
  | [] => gNil
  | i :: is => gCons (gName i) (tgs is)
theorem tgs_of {Q : Sg → Hp → Prop} {H : Hp} : ∀ {is : List Nat} {vs : List V} {σ : Sg}, vs.length = is.length → Q (setAll σ is vs) H → tgs is vs σ H Q
  | [], [], _, _, h => ⟨rfl, h⟩
  | i :: is, v :: vs, σ, e, h => ⟨v, vs, rfl, tgs_of (by simpa using e) h⟩
section
variable {F : Fm} {e : Expr} {es : List Expr} {is : List Nat} {i n n1 n2 : Nat} {fp : FP} {fe : FE} {fl : FL}
theorem ep_nil : Ep F [] [] 0 (fun _ ρs R => R ρs) := ⟨_, fun _ => pa_nil, fun C Cb σ σs ρb ρs H R Q eS em hm G GB sub h k => k [] H ρs C.m (Nat.le_refl _) (Nat.le_refl _) rfl G (Ex.refl _) h⟩
theorem ep_v (he : Ee F e n1 fe) (hs : Ep F es is n2 fp) (h1s : ∀ i, starEach (e :: es) (F.X i).env = (false, eval e (F.X i).env) :: starEach es (F.X i).env := by intro _; rfl) :
    Ep F (e :: es) (i :: is) (n1 + n2) (fun ρb ρs R => fe ρb fun u => i < ρs.length ∧ fp ρb (ρs.set i (.v u)) R) := by
  obtain ⟨t, pt, s⟩ := he
  obtain ⟨t2, pt2, s2⟩ := hs
  refine ⟨_, fun k => pa_cons (pt k) (pt2 k) (h1s k), fun C Cb σ σs ρb ρs H R Q eS em hm G GB sub hf k => s Cb σ ρb H _ _ (by omega) GB hf fun v H1 x m1 l1 u1 t1 ox h1 => ?_⟩
  rw [← eS] at t1
  obtain ⟨hi, h1⟩ := h1
  obtain ⟨G2, e2⟩ := (G.tr t1).set hi (ox.mono (mask_sub sub))
  refine s2 (C.up m1) (Cb.up m1) σ (σs.set i (some v)) ρb (ρs.set i (.v x)) H1 R _ eS rfl (by show m1 + n2 ≤ lim; omega) G2 (GB.tr (by rw [← eS]; exact t1)) (fun a h => sub a (bar_set h)) h1 fun vs H2 ρs' m2 l2 u2 ln G3 e3 hR => ?_
  have l2' : m1 ≤ m2 := l2
  have u2' : m2 ≤ m1 + n2 := u2
  exact k (v :: vs) H2 ρs' m2 (by omega) (by omega) (by simp [ln]) G3 (((G.ex t1).trans e2).trans e3) hR
theorem ep_o (he : El F e n1 fl) (hs : Ep F es is n2 fp) (h1s : ∀ i, starEach (e :: es) (F.X i).env = (false, eval e (F.X i).env) :: starEach es (F.X i).env := by intro _; rfl) :
    Ep F (e :: es) (i :: is) (n1 + n2) (fun ρb ρs R => fl ρb fun ds => i < ρs.length ∧ fp (blkE ρb []) (ρs.set i (.own ds)) R) := by
  obtain ⟨t, pt, s⟩ := he
  obtain ⟨t2, pt2, s2⟩ := hs
  refine ⟨_, fun k => pa_cons (pt k) (pt2 k) (h1s k), fun C Cb σ σs ρb ρs H R Q eS em hm G GB sub hf k => s Cb σ ρb H _ _ (by omega) GB hf fun p H1 vs ds m1 l1 u1 hp t1 hv hr h1 => ?_⟩
  have GB1 := own_then GB t1 hp hv hr
  have t1' : Tr C.S (F.K.SI m1) H H1 := by rw [eS]; exact t1
  obtain ⟨hi, h1⟩ := h1
  obtain ⟨G2, e2⟩ := G.own (i := i) hi hp t1' hv (hr.mono (mask_sub fun a h => h.elim (fun h => .inl (sub a h)) .inr))
  refine s2 (C.up m1) (blkC Cb σ ρb p m1) (wipe σ []) (σs.set i (some (.ref p))) (blkE ρb []) (ρs.set i (.own ds)) H1 R _ eS rfl (by show m1 + n2 ≤ lim; omega) G2 GB1 (fun a h => ?_) h1 fun vs' H2 ρs' m2 l2 u2 ln G3 e3 hR => ?_
  · refine .inl ?_
    rcases h with h | ⟨j, ys, q1, q2⟩
    · exact .inl (sub a (.inl h))
    · rcases set_at q1 with ⟨rfl, z, _⟩ | ⟨ne, q1⟩
      · rcases set_at q2 with ⟨_, z2, _⟩ | ⟨ne, _⟩
        · cases z2; exact .inr rfl
        · exact absurd rfl ne
      · rw [set_oth ne] at q2
        exact .inl (sub a (.inr ⟨j, ys, q1, q2⟩))
  have l2' : m1 ≤ m2 := l2
  have u2' : m2 ≤ m1 + n2 := u2
  exact k (.ref p :: vs') H2 ρs' m2 (by omega) (by omega) (by simp [ln]) G3 (e2.trans e3) hR
theorem s_parN {ts : List Expr} {pt0 pt2 pos : Pos} {kt k2 : Nat} (ha : Ep F es is n fp) (hg : ∀ j, PGs (F.X j) ts (tgs is)) (hl : is.length ≤ 1000000)
    (hn : ∀ j, (assignEach ts (F.X j).env).length = is.length := by intro _; rfl) (hst : ∀ j, (assignEach ts (F.X j).env).findIdx? (·.1) = none := by intro _; rfl)
    (hs : ∀ j, swapsWithSole [.Tuple ts kt pt0] (.Tuple es k2 pt2) pos.line (F.X j).env = pure false := by intro _; rfl) (hw : ∀ j, swappedStores [.Tuple ts kt pt0] (.Tuple es k2 pt2) (F.X j).env = pure none := by intro _; rfl)
    (h1 : ∀ j, (assignEach [.Tuple ts kt pt0] (F.X j).env).map (·.2) = [assign (.Tuple ts kt pt0) (F.X j).env] := by intro _; rfl) :
    E1 F (.Assign [.Tuple ts kt pt0] (.Tuple es k2 pt2) pos) n (fun ρ N => fp ρ ρ N.nx) := by
  obtain ⟨t, pt, s⟩ := ha
  refine ⟨tAsg (tTup t) (gTup F.K is.length (tgs is)), fun j => ps_asg (pe_tup (pt j)) (by have := pg_tup (n := is.length) (k := kt) (pos := pt0) (F.calm j) (hg j) (hn j) (hst j); rw [F.eK j] at this; exact this) (hs j) (hw j) (h1 j), fun C σ ρ H N D hm G hf l => ?_⟩
  refine s C C σ σ ρ ρ H _ _ rfl rfl hm G G (fun a h => h) hf fun vs H1 ρs' m l1 u1 ln G1 e1 hR => ?_
  refine ⟨small_le (by omega), fun p hp => ⟨p, vs, rfl, .inl (.inl upd_same), ln, tgs_of ln ?_⟩⟩
  have tn := G1.new (o := .tup vs) hp
  exact l.nx _ _ _ m l1 u1 (G1.tr tn) (e1.trans (G1.ex tn)) hR
theorem pn {x : Str} {p : Pos} (j : F.I) (i : Nat) (hi : F.N[i]? = some x := by rfl) (hx : Loc (F.X j).env.scope x := by first | exact .inl rfl | exact .inr rfl)
    (hf : (F.X j).fn x = true ∨ (F.X j).env.scope.names.lookup x = some .local := by first | exact .inl rfl | exact .inr rfl) : PG (F.X j) (.Name x p) (gName i) := pg_name (by rw [F.eN]; exact F.nd) (by rw [F.eN]; exact hi) hx hf
theorem s_par2E {x y : Str} {e1 e2 : Expr} {px py pt0 pt2 pos : Pos} {kt k2 : Nat} (i j : Nat) (ha : Ep F [e1, e2] [i, j] n fp)
    (q : ∀ {k : F.I} {ta : TA}, PA (F.X k) [e1, e2] ta → PS (F.X k) (.Assign [.Tuple [.Name x px, .Name y py] kt pt0] (.Tuple [e1, e2] k2 pt2) pos) (tPar i j ta)) :
    E1 F (.Assign [.Tuple [.Name x px, .Name y py] kt pt0] (.Tuple [e1, e2] k2 pt2) pos) n (fun ρ N => fp ρ ρ N.nx) := by
  obtain ⟨t, pt, s⟩ := ha
  refine ⟨_, fun k => q (pt k), fun C σ ρ H N D hm G hf l => s C C σ σ ρ ρ H _ _ rfl rfl hm G G (fun a h => h) hf fun vs H1 ρs' m l1 u1 ln G1 e1 hR => ?_⟩
  match vs, ln with
  | [v, w], _ => exact ⟨v, w, rfl, l.nx _ _ _ m l1 u1 G1 e1 hR⟩
theorem s_par3E {x y z : Str} {e1 e2 e3 : Expr} {px py pz pt0 pt2 pos : Pos} {kt k2 : Nat} (i j r : Nat) (ha : Ep F [e1, e2, e3] [i, j, r] n fp)
    (q : ∀ {k : F.I} {ta : TA}, PA (F.X k) [e1, e2, e3] ta → PS (F.X k) (.Assign [.Tuple [.Name x px, .Name y py, .Name z pz] kt pt0] (.Tuple [e1, e2, e3] k2 pt2) pos) (tPar3 i j r ta)) :
    E1 F (.Assign [.Tuple [.Name x px, .Name y py, .Name z pz] kt pt0] (.Tuple [e1, e2, e3] k2 pt2) pos) n (fun ρ N => fp ρ ρ N.nx) := by
  obtain ⟨t, pt, s⟩ := ha
  refine ⟨_, fun k => q (pt k), fun C σ ρ H N D hm G hf l => s C C σ σ ρ ρ H _ _ rfl rfl hm G G (fun a h => h) hf fun vs H1 ρs' m l1 u1 ln G1 e1 hR => ?_⟩
  match vs, ln with
  | [u, v, w], _ => exact ⟨u, v, w, rfl, l.nx _ _ _ m l1 u1 G1 e1 hR⟩
end
end Px

set_option Elab.async false
set_option linter.all false
set_option maxRecDepth 100000
set_option maxHeartbeats 2000000
/-! Px: an own list lent to a call whose answer holds no list; min of a list of alike data. -/
namespace Px
open PySem PySem.Spec PyProof.Rows L2 PySem.W
mutual
def noL : PyData → Bool
  | .none => true
  | .bool _ => true
  | .int _ => true
  | .str _ => true
  | .tuple xs => noLs xs
  | _ => false
def noLs : List PyData → Bool
  | [] => true
  | x :: xs => noL x && noLs xs
end
mutual
theorem Rd.noL {K : Fg} {M M' : Hp} (e : ∀ a o, M' a = some o → (∀ vs, o ≠ .lst vs) → M a = some o) : ∀ {v : V} {d : PyData}, Rd K M' v d → Px.noL d = true → Rd K M v d
  | _, _, .non, _ => .non
  | _, _, .bl b, _ => .bl b
  | _, _, .int i, _ => .int i
  | _, _, .str x, _ => .str x
  | _, _, .lst h r, z => by simp [Px.noL] at z
  | _, _, .tup h r, z => .tup (by
      rcases h with (h | ⟨o, h⟩) | h
      · exact .inl (.inl (e _ _ h fun vs z => by cases z))
      · exact .inl (.inr ⟨o, e _ _ h fun vs z => by cases z⟩)
      · exact .inr h) (RdA.noL e r (by simpa [Px.noL] using z))
theorem RdA.noL {K : Fg} {M M' : Hp} (e : ∀ a o, M' a = some o → (∀ vs, o ≠ .lst vs) → M a = some o) : ∀ {vs : List V} {ds : List PyData}, RdA K M' vs ds → noLs ds = true → RdA K M vs ds
  | _, _, .nil, _ => .nil
  | _, _, .cons h r, z => by
    simp only [noLs, Bool.and_eq_true] at z
    exact .cons (Rd.noL e h z.1) (RdA.noL e r z.2)
end
def noLv : Vl → Bool
  | .d d => noL d
  | .o _ => true
  | .st => true
  | _ => false
section
variable {F : Fm} {e : Expr} {n : Nat} {fe : FE}
theorem e_lend (i : Nat) (he : Ee F e n fe) : Ee F e n (fun ρ R => fe (frz ρ i) fun x => noLv x = true ∧ R x) := by
  obtain ⟨t, pt, s⟩ := he
  refine ⟨t, pt, fun C σ ρ H R Q hm G hf k => ?_⟩
  obtain ⟨G', ex⟩ := G.frz i
  refine s C σ (frz ρ i) H _ _ hm G' hf fun v H1 x m l u t1 ox h1 => k v H1 x m l u t1 ?_ h1.2
  have key : ∀ a o, mq C σ (frz ρ i) H1 a = some o → (∀ vs, o ≠ .lst vs) → mq C σ ρ H1 a = some o := fun a o ea no => by
    obtain ⟨nb, e1⟩ := mask_of ea
    refine mask_at (fun hb => ?_) e1
    rcases hb with hb | ⟨j, xs, q1, q2⟩
    · exact nb (.inl hb)
    · obtain ⟨p, vs, a1, a2, _⟩ := (G.tr t1).ow j xs q1
      rw [q2] at a1
      cases a1
      rw [a2] at e1
      cases e1
      exact no vs rfl
  match x, ox, h1 with
  | .d d, ox, h1 => exact Rd.noL key ox h1.1
  | .o w, ox, h1 => exact ox
  | .st, ox, h1 => exact ox
  | .rg lo hi, ox, h1 => exact absurd h1.1 (by simp [noLv])
def rMinD (K : Fg) : List V → Hp → VK → Prop := fun vs H Q => ∃ (a : Addr) (ws : List V) (ds : List PyData), vs = [V.ref a] ∧ SqL K H a ws ∧ DpAll K H ws ds ∧ ds ≠ [] ∧ AlikeAll ds ∧ PyData.depthAll ds ≤ 60 ∧ ∀ (i : Nat) (w : V), ws[i]? = some w → Q w H
theorem vals_at : ∀ {ws : List V} {us : List Value} {i : Nat} {u : Value}, Vals ws us → us[i]? = some u → ∃ w, ws[i]? = some w ∧ RelV w u
  | _, _, _, _, .nil, e => by simp at e
  | _, _, 0, _, .cons h _, e => by simp at e; subst e; exact ⟨_, rfl, h⟩
  | _, _, i + 1, u, .cons _ r, e => by
    obtain ⟨w, h1, h2⟩ := vals_at (i := i) (u := u) r (by simpa using e)
    exact ⟨w, by simpa using h1, h2⟩
theorem call_minD {X : Cx} (hc : X.calm = true) (hu : X.A.units + 64 < cLine) : CallR X (.builtin "min") (rMinD X.K) := by
  intro pins s σ H vs us Q I r h
  obtain ⟨a, ws, ds, rfl, hs, hd, hne, ha, hdp, q⟩ := h
  obtain ⟨its, rv, hl, _⟩ := I.list hs
  rw [Vals.ref1 r]
  obtain ⟨as, rd⟩ := Dp.readsAll I ds ws its hd rv
  cases ds with
  | nil => exact absurd rfl hne
  | cons x xs =>
    refine min_list_data (I.ok.hd hc) hl.isList (by simpa using rd) ha (by omega) fun i v h' tk bs hv hr hk => ?_
    obtain ⟨w, e1, e2⟩ := vals_at rv (by simpa using hv)
    exact ⟨w, H, I.kept hk, e2, q i w e1⟩
theorem cMinD (i) : CallR (F.X i) (.builtin "min") (rMinD F.K) := by
  have h := call_minD (X := F.X i) (F.calm i) (F.room i).units
  rw [F.eK i] at h
  exact h
def gMinD : GC
  | [.d (.list xs)], R => xs ≠ [] ∧ AlikeAll xs ∧ PyData.depthAll xs ≤ 60 ∧ ∀ d ∈ xs, R (.d d)
  | _, _ => False
theorem sMinD {K : Kx} : SC K (rMinD K) gMinD := fun C σ ρ H vs xs R Q G o h k => by
  match xs, h, o with
  | [.d (.list ds)], h, o =>
    obtain ⟨v, rfl, o1⟩ := o.one
    obtain ⟨a, ws, rfl, ha, ra⟩ := Rd.inv_list o1
    refine ⟨a, ws, ds, rfl, SqL.of (mask_le _ _ ha), RdA.dp (ra.mono mask_le), h.1, h.2.1, h.2.2.1, fun i w hw => ?_⟩
    obtain ⟨d, e1, r1⟩ := ra.get' hw
    exact k w H (.d d) (Tr.refl G.si) r1 (h.2.2.2 d (List.mem_of_getElem? e1))
end
end Px

set_option Elab.async false
set_option linter.all false
set_option maxRecDepth 100000
set_option maxHeartbeats 2000000
/-! Px: things of own lists stored anew, names and things changed by op=, lists begun by list(..) and *, ranges from their end. -/
namespace Px
open PySem PySem.Spec PyProof.Rows L2
section
variable {F : Fm} {K : Kx} {x : Str} {e b a0 tg : Expr} {pos p' tpos p : Pos} {n nb na : Nat} {fe fb fa : FE} {op : Operator} {ti : TIp} {g : G2}
/-! ### name op= e -/
theorem ip_mul {X : Cx} : PIp X .Mult (rI CMulW fun i j => .int (i * j)) := by
  intro pins s σ H x y v u Q I r1 r2 h
  obtain ⟨i, j, e1, e2, hc, q⟩ := h
  subst e1; subst e2
  obtain ⟨t, rfl⟩ := r1
  obtain ⟨t', rfl⟩ := r2
  exact PySem.P.imul_int ⟨.int _, H, I.tok _, ⟨_, rfl⟩, q⟩ hc.ok
def gI (f : Int → Int → Int) : G2
  | .d (.int i), .d (.int j), R => R (.d (.int (f i j)))
  | _, _, _ => False
def gIM : G2
  | .d (.int i), .d (.int j), R => CMulW i j ∧ R (.d (.int (i * j)))
  | _, _, _ => False
theorem sI (f : Int → Int → Int) : S2 K (ipI f) (gI f) := fun C σ ρ H v w x y R Q G ox oy h k => by
  match x, y, h, ox, oy with
  | .d (.int i), .d (.int j), h, ox, oy => exact ⟨i, j, Rd.inv_int ox, Rd.inv_int oy, G.fin k (fun _ => .int _) h⟩
theorem sIM : S2 K (rI CMulW fun i j => .int (i * j)) gIM := fun C σ ρ H v w x y R Q G ox oy h k => by
  match x, y, h, ox, oy with
  | .d (.int i), .d (.int j), h, ox, oy => exact ⟨i, j, Rd.inv_int ox, Rd.inv_int oy, h.1, G.fin k (fun _ => .int _) h.2⟩
theorem s_augN (i : Nat) (hi : F.N[i]? = some x) (ho : ∀ j, PIp (F.X j) op ti) (hr : S2 F.K ti g) (he : Ee F e n fe) (hx : ∀ j, Loc (F.X j).env.scope x := by intro _; first | exact .inl rfl | exact .inr rfl)
    (hf : ∀ j, (F.X j).fn x = true ∨ (F.X j).env.scope.names.lookup x = some .local := by intro _; first | exact .inl rfl | exact .inr rfl) :
    E1 F (.AugAssign (.Name x p') op e pos) n (fun ρ N => rd ρ i fun u => fe ρ fun v => g u v fun z => N.nx (ρ.set i (.v z))) := by
  obtain ⟨t, pt, s⟩ := he
  refine ⟨_, fun j => ps_aug (by rw [F.eN]; exact F.nd) (by rw [F.eN]; exact hi) (hx j) (pt j) (ho j) (hf j), fun C σ ρ H N D hm G hf l => ?_⟩
  have hf : rd ρ i _ := hf
  unfold rd at hf
  split at hf
  · rename_i y e0
    obtain ⟨v, h1, h2⟩ := G.sl i y e0
    refine ⟨v, h1, s C σ ρ H _ _ hm G hf fun w H1 z m l1 u1 t1 oz hz => hr (C.up m) σ ρ H1 v w y z _ _ (G.tr t1) (h2.mono (G.ex t1)) oz hz fun u H2 zz t2 ozz hzz => ?_⟩
    have hi2 : i < ρ.length := (List.getElem?_eq_some_iff.mp e0).1
    obtain ⟨G', ex⟩ := ((G.tr t1).tr t2).set hi2 ozz
    exact l.nx _ _ _ m l1 u1 G' (((G.ex t1).trans ((G.tr t1).ex t2)).trans ex) hzz
  · exact hf.elim
/-! ### a thing of an own list -/
def putI (i : Nat) (ρ : En) (xs : List PyData) (N : En → Prop) : Vl → Vl → Prop
  | .d d, .d (.int k) => ∃ j, ixN xs.length k = some j ∧ N (ρ.set i (.own (xs.set j d)))
  | _, _ => False
/-- xs[b] = e, xs an own list -/
theorem s_put (i : Nat) (hi : F.N[i]? = some x) (he : Ee F e n fe) (hb : Ee F b nb fb) (hv : ∀ j, Vis (F.X j).env.scope x := by intro _; first | exact .inl rfl | exact .inr (.inl rfl))
    (ha : ∀ j v, assign (.Subscript (.Name x p') b tpos) (F.X j).env v = (do
      let ov ← holding [v] (eval (.Name x p') (F.X j).env)
      let iv ← holding [v, ov] (eval b (F.X j).env)
      standAt tpos
      holding [v, ov, iv] (setItem ov iv v)
      release [v, ov, iv] []) := by intro _ _; rfl)
    (hs : ∀ j, swapsWithSole [.Subscript (.Name x p') b tpos] e pos.line (F.X j).env = pure false := by intro _; rfl) (hw : ∀ j, swappedStores [.Subscript (.Name x p') b tpos] e (F.X j).env = pure none := by intro _; rfl)
    (h1 : ∀ j, (assignEach [.Subscript (.Name x p') b tpos] (F.X j).env).map (·.2) = [assign (.Subscript (.Name x p') b tpos) (F.X j).env] := by intro _; rfl)
    (hd : (x == ("__debug__" : Str)) = false := by decide) (hcd : (x == ("__classdict__" : Str)) = false := by decide) :
    E1 F (.Assign [.Subscript (.Name x p') b tpos] e pos) (n + nb) (fun ρ N => fe ρ fun y => ownAt i ρ fun xs => fb ρ fun k => putI i ρ xs N.nx y k) := by
  obtain ⟨t, pt, s⟩ := he
  obtain ⟨tb, pb, sb⟩ := hb
  refine ⟨tAsg t (gSub (tVar i) tb rSetL), fun j => ps_asg (pt j) (pg_sub (pe_var (by rw [F.eN]; exact hi) (hv j) hd hcd) (pb j) set_list (ha j)) (hs j) (hw j) (h1 j), fun C σ ρ H N D hm G hf l => ?_⟩
  refine s C σ ρ H _ _ (by omega) G hf fun v H1 y m1 l1 u1 t1 oy hy => ?_
  have G1 := G.tr t1
  obtain ⟨xs, e0, hy⟩ := ownAt_of hy
  obtain ⟨q, vs0, a1, _⟩ := G1.ow i xs e0
  refine ⟨_, a1, sb (C.up m1) σ ρ H1 _ _ (by show m1 + nb ≤ lim; omega) G1 hy fun w H3 k m2 l2 u2 t2 ok hk => ?_⟩
  have G3 := G1.tr t2
  obtain ⟨q', vs, b1, b2, b3, b4, b5⟩ := G3.ow i xs e0
  rw [a1] at b1
  cases b1
  match y, k, oy, ok, hk with
  | .d d, .d (.int k), oy, ok, hk =>
    obtain ⟨j, hj, hn⟩ := hk
    have l2' : m1 ≤ m2 := l2
    have u2' : m2 ≤ m1 + nb := u2
    obtain ⟨G4, ex⟩ := G3.put e0 a1 (b3.set (Rd.mono (G1.ex t2) oy) j)
    exact ⟨q, vs, k, j, rfl, Rd.inv_int ok, b2, by rw [b3.length]; exact hj, l.nx _ _ _ m2 (by omega) (by omega) G4 (((G.ex t1).trans (G1.ex t2)).trans ex) hn⟩
/-- xs[b] op= e of an own list of ints -/
def augI (xs : List PyData) (P : Nat → PyData → Prop) : Vl → Prop
  | .d (.int k) => ∃ j d, ixN xs.length k = some j ∧ xs[j]? = some d ∧ P j d
  | _ => False
def putD (N : PyData → Prop) : Vl → Prop
  | .d d => N d
  | _ => False
theorem get_list {X : Cx} : PGet X (rIxL X.K) := by
  intro pins s σ H o i ov iv Q I ro ri h
  obtain ⟨p, xs, i, z, rfl, rfl, hq, he, q⟩ := h
  cases ro
  obtain ⟨t, rfl⟩ := ri
  obtain ⟨its, r, pl, hz⟩ := I.list hq
  obtain ⟨j, h1, h2, h3, h4, h5⟩ := atI_get he
  obtain ⟨w, ew, rw'⟩ := r.get h2
  have hl := r.length
  have hn := line63
  have fin : EP X pins σ Q w s := ⟨z, H, I, rw', q⟩
  by_cases h0 : 0 ≤ i
  · have hj : i.toNat = j := by
      rw [seqIndex_of h0 h5] at h1
      exact Option.some.inj h1
    exact wpAny_getItem_list pl.isList h0 (by omega) (by rw [hj]; simpa using ew) fin
  · have hj : (i + (its.toArray.size : Int)).toNat = j := by
      rw [seqIndex_neg (by omega) h4] at h1
      rw [List.size_toArray, ← hl]
      exact Option.some.inj h1
    exact wpAny_getItem_list_neg pl.isList (by omega) (by rw [List.size_toArray] <;> omega) (by omega) (by rw [hj]; simpa using ew) fin
theorem gGet (i) : PGet (F.X i) (rIxL F.K) := by
  have h := get_list (X := F.X i)
  rw [F.eK i] at h
  exact h
theorem s_augI (i : Nat) (hi : F.N[i]? = some x) (ho : ∀ j, PIp (F.X j) op ti) (hr : S2 F.K ti g) (hb : Ee F b nb fb) (he : Ee F e n fe) (hv : ∀ j, Vis (F.X j).env.scope x := by intro _; first | exact .inl rfl | exact .inr (.inl rfl))
    (ha : ∀ ov iv new, augStore b ov iv new = (do holding [new, ov, iv] (setItem ov iv new); release [new, ov, iv] []; pure .next) := by intros; rfl)
    (hd : (x == ("__debug__" : Str)) = false := by decide) (hcd : (x == ("__classdict__" : Str)) = false := by decide) :
    E1 F (.AugAssign (.Subscript (.Name x p') b tpos) op e pos) (nb + n) (fun ρ N => ownAt i ρ fun xs => fb ρ (augI xs fun j d0 => fe ρ fun y => g (.d d0) y (putD fun d => N.nx (ρ.set i (.own (xs.set j d)))))) := by
  obtain ⟨t, pt, s⟩ := he
  obtain ⟨tb, pb, sb⟩ := hb
  refine ⟨tAugS (tVar i) tb t (rIxL F.K) ti rSetL, fun j => ps_augS (pe_var (by rw [F.eN]; exact hi) (hv j) hd hcd) (pb j) (gGet j) (pt j) (ho j) set_list ha, fun C σ ρ H N D hm G hf l => ?_⟩
  obtain ⟨xs, e0, hf⟩ := ownAt_of hf
  obtain ⟨q, vs0, a1, _⟩ := G.ow i xs e0
  refine ⟨_, a1, sb C σ ρ H _ _ (by omega) G hf fun w H1 k m1 l1 u1 t1 ok hk => ?_⟩
  have G1 := G.tr t1
  obtain ⟨q1, vs1, b1, b2, b3, b4, b5⟩ := G1.ow i xs e0
  rw [a1] at b1
  cases b1
  match k, ok, hk with
  | .d (.int k), ok, hk =>
    obtain ⟨j, d0, hj, hd0, hk⟩ := hk
    obtain ⟨v0, ev0, rv0⟩ := b3.get hd0
    have hjv : ixN vs1.length k = some j := by rw [b3.length]; exact hj
    refine ⟨q, vs1, k, v0, rfl, Rd.inv_int ok, SqL.of b2, by unfold atI; rw [hjv]; exact ev0, ?_⟩
    refine s (C.up m1) σ ρ H1 _ _ (by show m1 + n ≤ lim; omega) G1 hk fun v H4 y m2 l2 u2 t2 oy hy => ?_
    have l2' : m1 ≤ m2 := l2
    have u2' : m2 ≤ m1 + n := u2
    have G4 := G1.tr t2
    refine hr (C.up m2) σ ρ H4 v0 v (.d d0) y _ _ G4 (Rd.mono (G1.ex t2) rv0) oy hy fun u H5 z t3 oz hz => ?_
    have G5 := G4.tr t3
    obtain ⟨q5, vs5, c1, c2, c3, c4, c5⟩ := G5.ow i xs e0
    rw [a1] at c1
    cases c1
    match z, oz, hz with
    | .d d, oz, hz =>
      obtain ⟨G6, ex⟩ := G5.put e0 a1 (c3.set oz j)
      exact ⟨q, vs5, k, j, rfl, Rd.inv_int ok, c2, by rw [c3.length]; exact hj, l.nx _ _ _ m2 (by omega) (by omega) G6 ((((G.ex t1).trans (G1.ex t2)).trans (G4.ex t3)).trans ex) hz⟩
/-! ### lists begun -/
theorem fresh_rd {C : Ct} {σ : Sg} {ρ : En} {H1 : Hp} {p : Addr} {vs : List V} {ds : List PyData} {o : HO} (hp : H1 p = none) (r : RdA K (mq C σ ρ H1) vs ds) : RdA K (mask (fun a => bar C.B σ ρ a ∨ a = p) (upd H1 p o)) vs ds := by
  refine r.mono fun a o ha => ?_
  obtain ⟨nb, ha⟩ := mask_of ha
  have ne : a ≠ p := ne_of_none ha hp
  refine mask_at (fun z => z.elim nb ne) ?_
  rw [upd_ne ne]
  exact ha
def asLT (R : List PyData → Prop) : Vl → Prop
  | .d (.list xs) => R xs
  | .d (.tuple xs) => R xs
  | _ => False
/-- list(e), a list of the def's own -/
theorem l_list (hm : F.mg "list" = none) (he : Ee F e n fe) (hg : ∀ i, Gl (F.X i) "list" := by intro _; rfl) (h1s : ∀ i, starEach [e] (F.X i).env = (false, eval e (F.X i).env) :: starEach [] (F.X i).env := by intro _; rfl)
    (hpl : ∀ i, (backTo pos (starEach [] (F.X i).env)).any (·.1) = false := by intro _; rfl) : El F (.Call (.Name "list" p) [e] [] pos) n (fun ρ R => fe ρ (asLT R)) := by
  obtain ⟨t, pt, s⟩ := he
  refine ⟨_, fun i => pe_callTy (cList i) (hg i) (by rw [F.eM]; exact hm) rfl (pa_cons (pt i) pa_nil (h1s i)) (by decide) (by decide) (h1s i) (hpl i), fun C σ ρ H R Q hm G hf k => s C σ ρ H _ _ hm G hf fun v H1 y m l u t1 oy hy => ?_⟩
  have G1 := G.tr t1
  match y, oy, hy with
  | .d (.list ds), oy, hy =>
    obtain ⟨a, ws, rfl, ha, ra⟩ := Rd.inv_list oy
    exact ⟨a, ws, rfl, .inl (SqL.of (mask_le _ _ ha)), fun p hp => k p _ ws ds m l u (G.back t1 hp) (t1.trans (G1.new hp)) upd_same (fresh_rd hp ra) hy⟩
  | .d (.tuple ds), oy, hy =>
    obtain ⟨a, ws, rfl, ha, ra⟩ := Rd.inv_tuple oy
    exact ⟨a, ws, rfl, .inr (Ex.sqt mask_le ha), fun p hp => k p _ ws ds m l u (G.back t1 hp) (t1.trans (G1.new hp)) upd_same (fresh_rd hp ra) hy⟩
def mulL (R : List PyData → Prop) : Vl → Vl → Prop
  | .d (.list xs), .d (.int j) => j ≤ 1000 ∧ -1000 ≤ j ∧ xs.length ≤ 1000 ∧ R (List.replicate j.toNat xs).flatten
  | _, _ => False
/-- [..] * e, a list of the def's own -/
theorem l_mul (ha : Ee F a0 na fa) (hb : Ee F b nb fb) : El F (.BinOp a0 .Mult b pos) (na + nb) (fun ρ R => fa ρ fun x => fb ρ fun y => mulL R x y) := by
  obtain ⟨ta, pa, sa⟩ := ha
  obtain ⟨tb, pb, sb⟩ := hb
  refine ⟨_, fun i => pe_op (oMul i) (pa i) (pb i), fun C σ ρ H R Q hm G hf k => sa C σ ρ H _ _ (by omega) G hf fun v H1 x m1 l1 u1 t1 ox hx => sb (C.up m1) σ ρ H1 _ _ (by show m1 + nb ≤ lim; omega) (G.tr t1) hx fun w H2 y m2 l2 u2 t2 oy hy => ?_⟩
  have G2 := (G.tr t1).tr t2
  have l2' : m1 ≤ m2 := l2
  have u2' : m2 ≤ m1 + nb := u2
  match x, y, ox, oy, hy with
  | .d (.list xs), .d (.int j), ox, oy, hy =>
    obtain ⟨a, vs, rfl, ha, ra⟩ := Rd.inv_list (Rd.mono ((G.tr t1).ex t2) ox)
    obtain ⟨h1, h2, h3, h4⟩ := hy
    refine .inr (.inl ⟨a, j, vs, rfl, Rd.inv_int oy, mask_le _ _ ha, by omega, by omega, small_le ?_, fun p hp => k p _ _ _ m2 (by omega) (by omega) (G.back (t1.trans t2) hp) ((t1.trans t2).trans (G2.new hp)) upd_same (fresh_rd hp (RdA.rep ra j.toNat)) h4⟩)
    have e := ra.length
    have : vs.length * j.toNat ≤ 1000 * 1000 := Nat.mul_le_mul (by omega) (by omega)
    omega
/-! ### ranges downwards -/
theorem irangeC_ex (lo c : Int) (n : Nat) : ∃ l : List Vl, l = (List.range n).map fun i => .d (.int (lo + (i : Nat) * c)) := ⟨_, rfl⟩
noncomputable def irangeC (lo c : Int) (n : Nat) : List Vl := Classical.choose (irangeC_ex lo c n)
theorem irangeC_def (lo c : Int) (n : Nat) : irangeC lo c n = (List.range n).map fun i => .d (.int (lo + (i : Nat) * c)) := Classical.choose_spec (irangeC_ex lo c n)
theorem WOk.rngC {M0 : Hp} {lo c : Int} {n : Nat} : WOk K M0 (Itc lo c n) (irangeC lo c n) := by
  refine ⟨_, _, by rw [irangeC_def, List.length_map, List.length_range]; exact walk_rangeC, fun _ _ => trivial, fun i H x H' hi e y => ?_⟩
  obtain ⟨e1, e2⟩ := y
  rw [irangeC_def] at hi ⊢
  rw [List.length_map, List.length_range] at hi
  exact ⟨_, by rw [List.getElem?_map, List.getElem?_range hi]; rfl, .inl ⟨e1, by rw [e2]; exact Rd.int _⟩⟩
def asR3 (R : List Vl → Prop) : List Vl → Prop
  | [.d (.int i), .d (.int j), .d (.int c)] => c = -1 ∧ (-(2 ^ 62) ≤ i ∧ i < 2 ^ 62 ∧ -(2 ^ 62) ≤ j ∧ j < 2 ^ 62) ∧ R (irangeC i (-1) (i - j).toNat)
  | _ => False
theorem i_rng3 {e2 e3 : Expr} {f : FA} (hm : F.mg "range" = none) (ha : Ea F [e, e2, e3] n f) (hg : ∀ i, Gl (F.X i) "range" := by intro _; rfl)
    (hs : ∀ i, starEach [e, e2, e3] (F.X i).env = (false, eval e (F.X i).env) :: starEach [e2, e3] (F.X i).env := by intro _; rfl) (hpl : ∀ i, (backTo pos (starEach [e2, e3] (F.X i).env)).any (·.1) = false := by intro _; rfl) :
    Ei F tg (.Call (.Name "range" p) [e, e2, e3] [] pos) n (fun ρ R => f ρ (asR3 R)) := by
  obtain ⟨t, pt, st⟩ := ha
  refine ⟨_, fun i => pi_range3 (hg i) (by rw [F.eM]; exact hm) (pt i) (hs i) (hpl i), fun C σ ρ H R Q hm G hf k => st C σ ρ H _ _ hm G hf fun vs H1 xs m l u t1 oxs h1 => ?_⟩
  match xs, oxs, h1 with
  | [.d (.int i), .d (.int j), .d (.int c)], oxs, h1 =>
    obtain ⟨rfl, ⟨a1, a2, a3, a4⟩, h1⟩ := h1
    cases oxs with
    | cons o1 oxs =>
      obtain ⟨v2, v3, rfl, o2, o3⟩ := oxs.two
      exact ⟨i, j, -1, (i - j).toNat, by rw [Rd.inv_int o1, Rd.inv_int o2, Rd.inv_int o3], RgC.neg a1 a2 a3 a4, k _ H1 _ m l u t1 WOk.rngC h1⟩
def asRv (R : List Vl → Prop) : Vl → Prop
  | .d (.int j) => 0 ≤ j ∧ j < 2 ^ 62 ∧ R (irangeC (j - 1) (-1) j.toNat)
  | _ => False
/-- reversed(range(e)) -/
theorem i_revr {p2 pos2 : Pos} (hm : F.mg "reversed" = none) (hm2 : F.mg "range" = none) (he : Ee F e n fe) (hg : ∀ i, Gl (F.X i) "reversed" := by intro _; rfl) (hg2 : ∀ i, Gl (F.X i) "range" := by intro _; rfl)
    (hs : ∀ i, starEach [.Call (.Name "range" p2) [e] [] pos2] (F.X i).env = (false, eval (.Call (.Name "range" p2) [e] [] pos2) (F.X i).env) :: starEach [] (F.X i).env := by intro _; rfl)
    (hs2 : ∀ i, starEach [e] (F.X i).env = (false, eval e (F.X i).env) :: starEach [] (F.X i).env := by intro _; rfl) :
    Ei F tg (.Call (.Name "reversed" p) [.Call (.Name "range" p2) [e] [] pos2] [] pos) n (fun ρ R => fe ρ (asRv R)) := by
  obtain ⟨t, pt, s⟩ := he
  refine ⟨_, fun i => pi_revR (hg i) (by rw [F.eM]; exact hm) (prg_1 (hg2 i) (by rw [F.eM]; exact hm2) (pt i) (hs2 i)) (hs i), fun C σ ρ H R Q hm G hf k => s C σ ρ H _ _ hm G hf fun v H1 y m l u t1 oy hy => ?_⟩
  match y, oy, hy with
  | .d (.int j), oy, hy =>
    obtain ⟨a1, a2, hy⟩ := hy
    refine ⟨j, Rd.inv_int oy, by decide, by decide, by omega, a2, ?_⟩
    have e1 : (j - 0).toNat = j.toNat := by rw [Int.sub_zero]
    have e2 : (0 : Int) + (((j - 0).toNat : Nat) : Int) - 1 = j - 1 := by omega
    rw [e1] at e2 ⊢
    rw [e2]
    exact k _ H1 _ m l u t1 WOk.rngC hy
end
end Px

set_option Elab.async false
set_option linter.all false
set_option maxRecDepth 100000
set_option maxHeartbeats 4000000
set_option exponentiation.threshold 10000
/-! W6: acts' means by odds, least ones, common denominators, margins. -/
namespace Px
open PySem PySem.Spec PyProof.Rows L2
/-! ### an act's mean by odds -/
def rowMean (r : List Cell) (os : List Rat) : Rat × Rat := dotP (r.map cq) os
def RowOk (w : Nat) (r : List Cell) : Prop := r.length = w ∧ w ≤ 4 ∧ ∀ c ∈ r, CellOk c
theorem TabOk.rowOk {n w : Nat} {T : List (List Cell)} (h : TabOk n w T) {r : List Cell} (hr : r ∈ T) : RowOk w r := ⟨h.row r hr, h.w4, h.cell r hr⟩
theorem rowMean_b {w : Nat} {r : List Cell} {os : List Rat} (h : RowOk w r) (ho : ShOk w os) : Pb 60 (rowMean r os) := by
  obtain ⟨h1, h2, h3⟩ := h
  refine ⟨(dot_fb (a := 7) (b := 5) (fun v hv => ?_) ho.bd).mono ?_, (dot_fb (a := 7) (b := 5) (fun v hv => ?_) ho.bd).mono ?_⟩
  · rw [List.map_map] at hv
    obtain ⟨c, hc, rfl⟩ := List.mem_map.mp hv
    exact (cq_b (h3 c hc)).1
  · rw [List.length_map, List.length_map]; omega
  · rw [List.map_map] at hv
    obtain ⟨c, hc, rfl⟩ := List.mem_map.mp hv
    exact (cq_b (h3 c hc)).2
  · rw [List.length_map, List.length_map]; omega
theorem dot_row {r : List Cell} {os : List Rat} {w : Nat} (hr : r.length = w) (ho : os.length = w) (f : Cell → Rat) : dot (r.map f) os = sm (List.range w) fun a => f (nth r a) * os.getD a 0 := by
  have : r.map f = (List.range w).map fun a => f (nth r a) := by
    apply List.ext_getElem
    · simp [hr]
    · intro i h1 h2
      rw [List.length_map] at h1
      simp [nth, List.getD_eq_getElem?_getD, h1]
  rw [this, dot_range ho]
theorem payBy_rows {n w : Nat} {T : List (List Cell)} {qs os : List Rat} (h : TabOk n w T) (ho : ShOk w os) : payBy T qs os w = (sm (T.zip qs) (fun p => (rowMean p.1 os).1 * p.2), sm (T.zip qs) (fun p => (rowMean p.1 os).2 * p.2)) := by
  have one : ∀ f : Cell → Rat, sm (List.range w) (fun a => sm (T.zip qs) (fun p => f (nth p.1 a) * p.2) * os.getD a 0) = sm (T.zip qs) fun p => dot (p.1.map f) os * p.2 := fun f => by
    have e1 : ∀ a ∈ List.range w, sm (T.zip qs) (fun p => f (nth p.1 a) * p.2) * os.getD a 0 = sm (T.zip qs) fun p => f (nth p.1 a) * p.2 * os.getD a 0 := fun a _ => (sm_mul _ _ _).symm
    rw [sm_congr e1, sm_comm]
    refine sm_congr fun p hp => ?_
    rw [dot_row (h.row _ (List.of_mem_zip hp).1) ho.len, ← sm_mul]
    exact sm_congr fun a _ => by grind
  unfold payBy dotP
  rw [List.map_map, List.map_map, dot_range ho.len, dot_range ho.len]
  refine Prod.ext ?_ ?_
  · have := one fun c => (cq c).1
    simp only [Function.comp, payAt_zip]
    rw [this]
    refine sm_congr fun p _ => ?_
    rw [rowMean, dotP, List.map_map]
    rfl
  · have := one fun c => (cq c).2
    simp only [Function.comp, payAt_zip]
    rw [this]
    refine sm_congr fun p _ => ?_
    show _ = dot ((p.1.map cq).map (·.2)) os * p.2
    rw [List.map_map]
    rfl
/-! ### least ones -/
def IsLeast (qs : List Rat) (m : Rat) : Prop := m ∈ qs ∧ ∀ q ∈ qs, m ≤ q
theorem linQ_neg (a b : Int) (p : Rat × Rat) : linQ (-a) (-b) p = -linQ a b p := by
  unfold linQ
  rw [Rat.intCast_neg, Rat.intCast_neg]
  grind
theorem payBy_least {n w : Nat} {T : List (List Cell)} {qs os : List Rat} {a b : Int} {m : Rat} (h : TabOk n w T) (hq : ShOk n qs) (ho : ShOk w os) (hm : ∀ r ∈ T, m ≤ linQ a b (rowMean r os)) : m ≤ linQ a b (payBy T qs os w) := by
  rw [payBy_rows h ho]
  have := lin_convex (T.zip qs) (fun r => rowMean r os) (-a) (-b) (-m) (by rw [zip_sum T qs (by rw [hq.len, h.len]; exact Nat.le_refl _), hq.sum]) (fun p hp => hq.nn _ (List.of_mem_zip hp).2) fun p hp => by
    have := hm _ (List.of_mem_zip hp).1
    rw [linQ_neg]
    grind
  rw [linQ_neg] at this
  grind
theorem meanP_sm (ps : List (Rat × Rat)) : meanP ps = (sm (ps.map fun p => (p, Rat.divInt 1 ps.length)) (fun p => (id p.1).1 * p.2), sm (ps.map fun p => (p, Rat.divInt 1 ps.length)) (fun p => (id p.1).2 * p.2)) := by
  rw [meanP, pMul, tot_fst, tot_snd, sm_map, sm_map, ← sm_mul, ← sm_mul]
  rfl
theorem sm_const {α : Type} : ∀ (ps : List α) (c : Rat), sm ps (fun _ => c) = c * (ps.length : Rat)
  | [], c => by simp [sm]
  | p :: ps, c => by
    simp only [sm, sm_const ps, List.length_cons]
    have : ((ps.length + 1 : Nat) : Rat) = (ps.length : Rat) + 1 := by rw [Rat.natCast_add]; rfl
    rw [this]
    grind
theorem unit_cast {n : Nat} (h : 0 < n) : Rat.divInt 1 n * (n : Rat) = 1 := by
  have := unit_whole h
  have e : Rat.divInt (n : Nat) 1 = (n : Rat) := fq_inj.mp (whole_q.symm.trans rfl)
  rw [e] at this
  exact this
theorem meanP_w {ps : List (Rat × Rat)} (h0 : 0 < ps.length) : sm (ps.map fun p => (p, Rat.divInt 1 ps.length)) (·.2) = 1 := by
  rw [sm_map, sm_const, unit_cast h0]
theorem mean_least {ps : List (Rat × Rat)} {a b : Int} {m : Rat} (h0 : 0 < ps.length) (hm : ∀ p ∈ ps, m ≤ linQ a b p) : m ≤ linQ a b (meanP ps) := by
  rw [meanP_sm]
  have := lin_convex (ps.map fun p => (p, Rat.divInt 1 ps.length)) id (-a) (-b) (-m) (meanP_w h0) (fun p hp => ?_) fun p hp => ?_
  · rw [linQ_neg] at this
    grind
  · obtain ⟨p, _, rfl⟩ := List.mem_map.mp hp
    exact divInt_nn (p := 1) h0
  · obtain ⟨p, hp', rfl⟩ := List.mem_map.mp hp
    have := hm p hp'
    rw [linQ_neg]
    simp only [id]
    grind
/-! ### common denominators -/
def Cd (D M : Nat) (q : Rat) : Prop := ∃ z : Int, q * ((D : Nat) : Rat) = (z : Rat) ∧ z.natAbs ≤ M
theorem Cd.add {D M N : Nat} {a b : Rat} (h : Cd D M a) (h2 : Cd D N b) : Cd D (M + N) (a + b) := by
  obtain ⟨z, e, l⟩ := h
  obtain ⟨y, e2, l2⟩ := h2
  exact ⟨z + y, by rw [Rat.intCast_add, ← e, ← e2]; grind, by omega⟩
theorem Cd.mul {D E M N : Nat} {a b : Rat} (h : Cd D M a) (h2 : Cd E N b) : Cd (D * E) (M * N) (a * b) := by
  obtain ⟨z, e, l⟩ := h
  obtain ⟨y, e2, l2⟩ := h2
  exact ⟨z * y, by rw [Rat.intCast_mul, ← e, ← e2, Rat.natCast_mul]; grind, by rw [Int.natAbs_mul]; exact Nat.mul_le_mul l l2⟩
theorem Cd.up {D M : Nat} {a : Rat} (h : Cd D M a) (E : Nat) : Cd (D * E) (M * E) a := by
  obtain ⟨z, e, l⟩ := h
  exact ⟨z * E, by rw [Rat.intCast_mul, ← e, Rat.natCast_mul, Rat.intCast_natCast]; grind, by rw [Int.natAbs_mul, Int.natAbs_natCast]; exact Nat.mul_le_mul_right _ l⟩
theorem Cd.mono {D M N : Nat} {a : Rat} (h : Cd D M a) (l : M ≤ N) : Cd D N a := by
  obtain ⟨z, e, l2⟩ := h
  exact ⟨z, e, Nat.le_trans l2 l⟩
theorem Cd.zero (D M : Nat) : Cd D M 0 := ⟨0, by simp, Nat.zero_le _⟩
theorem mul_den (q : Rat) : q * ((q.den : Nat) : Rat) = ((q.num : Int) : Rat) := by
  have e1 : ((q.den : Nat) : Rat) = Rat.divInt (q.den : Nat) 1 := (fq_inj.mp (whole_q.symm.trans rfl)).symm
  have e2 : q = Rat.divInt q.num q.den := (q_eq q).symm
  have e3 : ((q.num : Int) : Rat) = Rat.divInt q.num 1 := fq_inj.mp (by rw [← iq]; exact (red_fq (a := q.num) (b := 1) (by decide) ▸ by simp [sg]))
  rw [e3, e1]
  conv => lhs; lhs; rw [e2]
  rw [Rat.divInt_mul_divInt, Rat.divInt_eq_divInt_iff (by have := den_ne q; omega) (by decide)]
  simp
theorem Cd.of (q : Rat) : Cd q.den q.num.natAbs q := ⟨q.num, mul_den q, Nat.le_refl _⟩
theorem Cd.eq {D M : Nat} {q : Rat} (h : Cd D M q) (h0 : 0 < D) : ∃ z : Int, q = Rat.divInt z (D : Int) ∧ z.natAbs ≤ M := by
  obtain ⟨z, e, l⟩ := h
  refine ⟨z, ?_, l⟩
  have e2 : (D : Rat) * Rat.divInt 1 D = 1 := by rw [Rat.mul_comm]; exact unit_cast h0
  have e3 : Rat.divInt z (D : Int) = (z : Rat) * Rat.divInt 1 D := by
    have : (z : Rat) = Rat.divInt z 1 := fq_inj.mp (by rw [← iq]; exact (red_fq (a := z) (b := 1) (by decide) ▸ by simp [sg]))
    rw [this, Rat.divInt_mul_divInt]
    simp
  rw [e3, ← e, Rat.mul_assoc, e2, Rat.mul_one]
theorem Cd.fb {D M n : Nat} {q : Rat} (h : Cd D M q) (h0 : 0 < D) (hD : D < 2 ^ n) (hM : M < 2 ^ n) : Fb n q := by
  obtain ⟨z, e, l⟩ := h.eq h0
  rw [e]
  exact Fb.red (by omega) (Nat.lt_of_le_of_lt l hM) hD
end Px

set_option Elab.async false
set_option linter.all false
set_option maxRecDepth 100000
set_option maxHeartbeats 4000000
set_option exponentiation.threshold 10000
/-! W7: walls with odds: how far acts' means are beyond, margins, means over rows of dice. -/
namespace Px
open PySem PySem.Spec PyProof.Rows L2
def beyI (s : Line) (p : Rat × Rat) : Int := s.1 * p.1.num * p.2.den + s.2.1 * p.2.num * p.1.den - s.2.2 * p.1.den * p.2.den
theorem div_of {D : Nat} {z : Int} {q : Rat} (h0 : 0 < D) (e : q * (D : Rat) = (z : Rat)) : Rat.divInt z (D : Int) = q := by
  obtain ⟨z', e', _⟩ := Cd.eq (M := z.natAbs) ⟨z, e, Nat.le_refl _⟩ h0
  have e2 : (D : Rat) * Rat.divInt 1 D = 1 := by rw [Rat.mul_comm]; exact unit_cast h0
  have e3 : Rat.divInt z (D : Int) = (z : Rat) * Rat.divInt 1 D := by
    have : (z : Rat) = Rat.divInt z 1 := fq_inj.mp (by rw [← iq]; exact (red_fq (a := z) (b := 1) (by decide) ▸ by simp [sg]))
    rw [this, Rat.divInt_mul_divInt]
    simp
  rw [e3, ← e, Rat.mul_assoc, e2, Rat.mul_one]
theorem bey_q (s : Line) (p : Rat × Rat) : Rat.divInt (beyI s p) ((p.1.den : Int) * (p.2.den : Int)) = abv s p := by
  have hx := mul_den p.1
  have hy := mul_den p.2
  have h0 : 0 < p.1.den * p.2.den := Nat.mul_pos (Nat.pos_of_ne_zero p.1.den_nz) (Nat.pos_of_ne_zero p.2.den_nz)
  have := div_of (z := beyI s p) (q := abv s p) h0 (by
    unfold abv beyI
    simp only [Rat.natCast_mul, Rat.intCast_add, Rat.intCast_sub, Rat.intCast_mul, Rat.intCast_natCast]
    rw [← hx, ← hy]
    grind)
  rw [Int.natCast_mul] at this
  exact this
theorem fb_abv {n m : Nat} {s : Line} {p : Rat × Rat} (h : LineB n s) (hp : Pb m p) (n0 : 0 < n) : Fb (3 * n + 2 * m + 2) (abv s p) := by
  obtain ⟨b1, b2, b3⟩ := h
  have := sub2 (add2 ((fb_int b1 n0).mul hp.1) ((fb_int b2 n0).mul hp.2)) (fb_int b3 n0)
  exact this.mono (by omega)
def fBey : FS := fun xs R => ∃ (s : Line) (p : Rat × Rat) (n m : Nat), xs = [.d (lineD s), .d (pt p)] ∧ LineB n s ∧ Pb m p ∧ 0 < n ∧ n + m ≤ 1500 ∧ R (.d (.int (beyI s p)))
def fActMeans : FS := fun xs R => ∃ n w T os, xs = [.d (tabD T), .d (shD os)] ∧ TabOk n w T ∧ ShOk w os ∧ R (.d (.list (T.map fun r => pt (rowMean r os))))
def fRowMean : FS := fun xs R => ∃ w r os, xs = [.d (rowD r), .d (shD os)] ∧ RowOk w r ∧ ShOk w os ∧ R (.d (pt (rowMean r os)))
def fLeastOf : FS := fun xs R => ∃ (qs : List Rat) (a : Nat), xs = [.d (.list (qs.map fq))] ∧ qs ≠ [] ∧ (∀ q ∈ qs, Fb a q) ∧ a ≤ 4000 ∧ ∀ m, IsLeast qs m → R (.d (fq m))
def paperD (s : Line) (os : List Rat) : PyData := .tuple [lineD s, shD os]
def fMargin : FS := fun xs R => ∃ n w T s os, xs = [.d (tabD T), .d (paperD s os)] ∧ TabOk n w T ∧ LineB 300 s ∧ ShOk w os ∧ ∀ m, IsLeast (T.map fun r => abv s (rowMean r os)) m → R (.d (fq m))
def fIsWall : FS := fun xs R => ∃ s : Line, xs = [.d (lineD s)] ∧ (s.1 ≠ 0 ∨ s.2.1 ≠ 0) ∧ R (.d (.bool true))
structure PaperOk (n w : Nat) (T : List (List Cell)) (s : Line) (os : List Rat) : Prop where
  tab : TabOk n w T
  sh : ShOk w os
  lb : LineB 300 s
  nz : s.1 ≠ 0 ∨ s.2.1 ≠ 0
  out : ∀ r ∈ T, 0 < abv s (rowMean r os)
def fIsPaper : FS := fun xs R => ∃ n w T s os, xs = [.d (tabD T), .d (paperD s os)] ∧ PaperOk n w T s os ∧ R (.d (.bool true))
def fCheckPaper : FS := fun xs R => ∃ n w T s os, xs = [.d (tabD T), .d (paperD s os)] ∧ PaperOk n w T s os ∧ R (.d .none)
def fPaperMargin : FS := fun xs R => ∃ n w T s os, xs = [.d (tabD T), .d (paperD s os)] ∧ PaperOk n w T s os ∧ ∀ m, IsLeast (T.map fun r => abv s (rowMean r os)) m → R (.d (fq m))
def fCheckDices : FS := fun xs R => ∃ n w T, ∃ hs : List (List Rat), xs = [.d (tabD T), .d (.tuple (hs.map shD))] ∧ TabOk n w T ∧ 0 < hs.length ∧ hs.length ≤ 200 ∧ (∀ h ∈ hs, ShOk n h) ∧ R (.d .none)
def fMbo : FS := fun xs R => ∃ n w T os, ∃ hs : List (List Rat), xs = [.d (tabD T), .d (shD os), .d (.tuple (hs.map shD))] ∧ TabOk n w T ∧ ShOk w os ∧ 0 < hs.length ∧ hs.length ≤ 200 ∧ (∀ h ∈ hs, ShOk n h) ∧
  (∃ b, (∀ h ∈ hs, Pb b (payBy T h os w)) ∧ (b + 1) * hs.length ≤ 7000) ∧ R (.d (pt (meanP (hs.map fun h => payBy T h os w))))
/-! ### the law's own -/
def fFloor : FS := fun xs R => ∃ (q : Rat) (n : Nat), xs = [.d (fq q)] ∧ Fb n q ∧ n ≤ 8000 ∧ R (.d (.int (q.num.fdiv q.den)))
def fLow : FS := fun xs R => ∃ n w T s os, xs = [.d (tabD T), .d (lineD s), .d (shD os)] ∧ TabOk n w T ∧ ShOk w os ∧ LineB 300 s ∧ ∀ m, IsLeast (T.map fun r => linQ s.1 s.2.1 (rowMean r os)) m → R (.d (fq m))
def fPaperDraw : FS := fun xs R => xs = [.st] ∧ ∀ n w T s os, PaperOk n w T s os → n ≤ 3 → w ≤ 3 → R (.d (.tuple [tabD T, paperD s os]))
def fRows4 : FS := fun xs R => ∃ w n : Nat, xs = [.d (.int (w : Nat)), .d (.int (n : Nat))] ∧ 1 ≤ w ∧ w ≤ 3 ∧ n ≤ 4 ∧ R (.d (.list ((rowsN w n).map natRow)))
structure HandsOk (n w : Nat) (T : List (List Cell)) (hs : List (List Rat)) (os : List Rat) : Prop where
  tab : TabOk n w T
  w3 : w ≤ 3
  sh : ShOk w os
  h0 : 0 < hs.length
  h4 : hs.length ≤ 4
  hd : ∀ h ∈ hs, ShOk n h
def fOverR : FS := fun xs R => ∃ n w T, ∃ hs : List (List Rat), ∃ os, xs = [.d (tabD T), .d (.list (hs.map shD)), .d (shD os)] ∧ HandsOk n w T hs os ∧ R (.d (pt (meanP (hs.map fun h => payBy T h os w))))
theorem floor_le (q : Rat) : ((q.num.fdiv q.den : Int) : Rat) ≤ q := by
  have h : q.num.fdiv q.den * (q.den : Int) ≤ q.num := by
    rw [Int.fdiv_eq_ediv_of_nonneg _ (by omega)]
    exact Int.ediv_mul_le _ (den_ne q)
  have e := lt_q q ((q.num.fdiv q.den : Int) : Rat)
  have e1 : (((q.num.fdiv q.den : Int) : Rat)).num = q.num.fdiv q.den := rfl
  have e2 : (((q.num.fdiv q.den : Int) : Rat)).den = 1 := rfl
  rw [e1, e2] at e
  refine Rat.not_lt.mp fun lt => ?_
  rw [decide_eq_true lt, decide_eq_true_eq] at e
  omega
theorem floor_b {n : Nat} {q : Rat} (h : Fb n q) : Bd n (q.num.fdiv q.den) := by
  rw [Int.fdiv_eq_ediv_of_nonneg _ (by omega)]
  exact Nat.lt_of_le_of_lt (Int.natAbs_ediv_le_natAbs _ _) h.1
theorem abv_zero (a b : Int) (p : Rat × Rat) : abv (a, b, 0) p = linQ a b p := by
  have z : ((0 : Int) : Rat) = 0 := rfl
  rw [abv_lin]
  show linQ a b p - ((0 : Int) : Rat) = _
  rw [z]
  grind
theorem num_pos {q : Rat} (h : 0 < q) : 0 < q.num := by
  have h1 := Rat.num_nonneg.mpr (Rat.le_of_lt h)
  have h2 : q.num ≠ 0 := num_ne fun z => by rw [z] at h; exact absurd h (Rat.not_lt.mpr Rat.le_refl)
  omega
theorem rowMean_zip (r : List Cell) (os : List Rat) : rowMean r os = (sm (r.zip os) (fun p => (cq p.1).1 * p.2), sm (r.zip os) (fun p => (cq p.1).2 * p.2)) := by
  rw [rowMean, dotP, List.map_map, List.map_map, dot, dot, zip_mapL, zip_mapL, sm_map, sm_map]
  rfl
theorem isLeast_eq {qs : List Rat} {a b : Rat} (h : IsLeast qs a) (h2 : IsLeast qs b) : a = b := Rat.le_antisymm (h.2 _ h2.1) (h2.2 _ h.1)
theorem tot_pair (ps : List (Rat × Rat)) : tot ps = (sm ps (·.1), sm ps (·.2)) := Prod.ext (tot_fst ps) (tot_snd ps)
/-- the mean over the dice round by round -/
def byR (T : List (List Cell)) (hs : List (List Rat)) (os : List Rat) : Rat × Rat := pMul (sm hs (fun h => sm (T.zip h) fun p => (rowMean p.1 os).1 * p.2), sm hs (fun h => sm (T.zip h) fun p => (rowMean p.1 os).2 * p.2)) (Rat.divInt 1 hs.length)
theorem byR_eq {n w : Nat} {T : List (List Cell)} {hs : List (List Rat)} {os : List Rat} (hT : TabOk n w T) (ho : ShOk w os) : byR T hs os = meanP (hs.map fun h => payBy T h os w) := by
  rw [meanP, byR, tot_pair, List.length_map, sm_map, sm_map]
  have e : ∀ h ∈ hs, payBy T h os w = (sm (T.zip h) (fun p => (rowMean p.1 os).1 * p.2), sm (T.zip h) (fun p => (rowMean p.1 os).2 * p.2)) := fun h _ => payBy_rows hT ho
  rw [sm_congr (φ := fun h => (payBy T h os w).1) (fun h hh => by rw [e h hh]), sm_congr (φ := fun h => (payBy T h os w).2) (fun h hh => by rw [e h hh])]
/-- what the mean is beyond a paper's wall at least -/
theorem mbo_least {n w : Nat} {T : List (List Cell)} {s : Line} {hs : List (List Rat)} {os : List Rat} {m : Rat} (h : PaperOk n w T s os) (h0 : 0 < hs.length) (hh : ∀ h ∈ hs, ShOk n h) (hm : IsLeast (T.map fun r => abv s (rowMean r os)) m) : m ≤ abv s (meanP (hs.map fun h => payBy T h os w)) := by
  have a : m + (s.2.2 : Rat) ≤ linQ s.1 s.2.1 (meanP (hs.map fun h => payBy T h os w)) := by
    refine mean_least (by rw [List.length_map]; exact h0) fun p hp => ?_
    obtain ⟨x, hx, rfl⟩ := List.mem_map.mp hp
    refine payBy_least h.tab (hh x hx) h.sh fun r hr => ?_
    have := hm.2 _ (List.mem_map.mpr ⟨r, hr, rfl⟩)
    rw [abv_lin] at this
    grind
  rw [abv_lin]
  grind
/-! ### common denominators of pays -/
theorem sh_cd : ∀ {qs : List Rat}, (∀ q ∈ qs, Fb 5 q) → ∃ E : Nat, 0 < E ∧ E ≤ 2 ^ (5 * qs.length) ∧ ∀ q ∈ qs, Cd E (2 ^ (5 * qs.length)) q
  | [], _ => ⟨1, by decide, Nat.one_le_two_pow, by simp⟩
  | q :: qs, h => by
    obtain ⟨E, e0, e1, e2⟩ := sh_cd (qs := qs) fun x hx => h x (List.mem_cons_of_mem _ hx)
    obtain ⟨b1, b2⟩ := h q (by simp)
    have p : 2 ^ (5 * (q :: qs).length) = 2 ^ 5 * 2 ^ (5 * qs.length) := by rw [List.length_cons, Nat.mul_succ, Nat.pow_add, Nat.mul_comm]
    have d0 := Nat.pos_of_ne_zero q.den_nz
    rw [p]
    refine ⟨q.den * E, Nat.mul_pos d0 e0, Nat.mul_le_mul (Nat.le_of_lt b2) e1, fun x hx => ?_⟩
    rcases List.mem_cons.mp hx with rfl | hx
    · exact ((Cd.of x).up E).mono (Nat.mul_le_mul (Nat.le_of_lt b1) e1)
    · have := ((e2 x hx).up q.den).mono (N := 2 ^ 5 * 2 ^ (5 * qs.length)) (by rw [Nat.mul_comm]; exact Nat.mul_le_mul_right _ (Nat.le_of_lt b2))
      rw [Nat.mul_comm] at this
      exact this
theorem sm_cd {α : Type} {D M : Nat} {φ : α → Rat} : ∀ {l : List α}, (∀ a ∈ l, Cd D M (φ a)) → Cd D (M * l.length) (sm l φ)
  | [], _ => Cd.zero _ _
  | a :: l, h => by
    have := (h a (by simp)).add (sm_cd (l := l) fun b hb => h b (List.mem_cons_of_mem _ hb))
    rw [sm]
    refine this.mono ?_
    rw [List.length_cons, Nat.mul_succ]
    omega
theorem Cd.int {c : Int} {M : Nat} (h : c.natAbs ≤ M) : Cd 1 M (c : Rat) := ⟨c, by simp, h⟩
def Pc (D M : Nat) (p : Rat × Rat) : Prop := Cd D M p.1 ∧ Cd D M p.2
theorem payAt_cd {n w : Nat} {T : List (List Cell)} {qs : List Rat} (hT : TabOk n w T) (hq : ShOk n qs) : ∃ E : Nat, 0 < E ∧ E ≤ 2 ^ 20 ∧ ∀ j < w, Pc E (2 ^ 29) (payAt T qs j) := by
  obtain ⟨E, e0, e1, e2⟩ := sh_cd hq.bd
  have l4 := hT.n4
  have ll := hT.len
  have p20 : 2 ^ (5 * qs.length) ≤ 2 ^ 20 := Nat.pow_le_pow_right (by decide) (by rw [hq.len]; omega)
  refine ⟨E, e0, Nat.le_trans e1 p20, fun j hj => ?_⟩
  rw [payAt_zip]
  have z4 : (T.zip qs).length ≤ 4 := by rw [List.length_zip]; omega
  have one : ∀ f : Cell → Int, (∀ c, CellOk c → (f c).natAbs ≤ 100) → Cd E (2 ^ 29) (sm (T.zip qs) fun p => ((f (nth p.1 j) : Int) : Rat) * p.2) := fun f hf => by
    have := sm_cd (D := 1 * E) (M := 100 * 2 ^ 20) (φ := fun p : List Cell × Rat => ((f (nth p.1 j) : Int) : Rat) * p.2) (l := T.zip qs) fun p hp =>
      (Cd.int (hf _ (nth_ok hT (List.of_mem_zip hp).1 hj))).mul ((e2 _ (List.of_mem_zip hp).2).mono p20)
    rw [Nat.one_mul] at this
    exact this.mono (Nat.le_trans (Nat.mul_le_mul_left _ z4) (by decide))
  exact ⟨one (·.1) fun c hc => by obtain ⟨⟨a, b⟩, _, _⟩ := hc; omega, one (·.2) fun c hc => by obtain ⟨_, a, b⟩ := hc; omega⟩
theorem hands_cd {n w : Nat} {T : List (List Cell)} (hT : TabOk n w T) : ∀ {hs : List (List Rat)}, (∀ h ∈ hs, ShOk n h) → ∃ D : Nat, 0 < D ∧ D ≤ 2 ^ (20 * hs.length) ∧ ∀ h ∈ hs, ∀ j < w, Pc D (2 ^ (29 * hs.length)) (payAt T h j)
  | [], _ => ⟨1, by decide, Nat.one_le_two_pow, by simp⟩
  | h :: hs, hh => by
    obtain ⟨D, d0, d1, d2⟩ := hands_cd hT (hs := hs) fun x hx => hh x (List.mem_cons_of_mem _ hx)
    obtain ⟨E, e0, e1, e2⟩ := payAt_cd hT (hh h (by simp))
    have p1 : 2 ^ (20 * (h :: hs).length) = 2 ^ 20 * 2 ^ (20 * hs.length) := by rw [List.length_cons, Nat.mul_succ, Nat.pow_add, Nat.mul_comm]
    have p2 : 2 ^ (29 * (h :: hs).length) = 2 ^ 29 * 2 ^ (29 * hs.length) := by rw [List.length_cons, Nat.mul_succ, Nat.pow_add, Nat.mul_comm]
    have q1 : 2 ^ (20 * hs.length) ≤ 2 ^ (29 * hs.length) := Nat.pow_le_pow_right (by decide) (Nat.mul_le_mul_right _ (by decide))
    rw [p1, p2]
    refine ⟨E * D, Nat.mul_pos e0 d0, Nat.mul_le_mul e1 d1, fun x hx j hj => ?_⟩
    rcases List.mem_cons.mp hx with rfl | hx
    · exact ⟨((e2 j hj).1.up D).mono (Nat.mul_le_mul_left _ (Nat.le_trans d1 q1)), ((e2 j hj).2.up D).mono (Nat.mul_le_mul_left _ (Nat.le_trans d1 q1))⟩
    · have up : ∀ {q : Rat}, Cd D (2 ^ (29 * hs.length)) q → Cd (E * D) (2 ^ 29 * 2 ^ (29 * hs.length)) q := fun c => by
        have := (c.up E).mono (N := 2 ^ 29 * 2 ^ (29 * hs.length)) (by rw [Nat.mul_comm]; exact Nat.mul_le_mul_right _ (Nat.le_trans e1 (by decide)))
        rw [Nat.mul_comm] at this
        exact this
      exact ⟨up (d2 x hx j hj).1, up (d2 x hx j hj).2⟩
theorem prob_cd {cs : List Rat} {E N : Nat} (h : ∀ q ∈ cs, Cd E N q) : ∀ {r : List Nat} {t : Rat} {D M : Nat}, (∀ a ∈ r, a < cs.length) → Cd D M t → Cd (D * E ^ r.length) (M * N ^ r.length) (r.foldl (fun t a => t * cs.getD a 0) t)
  | [], t, D, M, _, ht => by simpa using ht
  | a :: r, t, D, M, ha, ht => by
    have hl := ha a (by simp)
    have hc : Cd E N (cs.getD a 0) := by
      rw [List.getD_eq_getElem?_getD, List.getElem?_eq_getElem hl]
      exact h _ (List.getElem_mem hl)
    have := prob_cd h (r := r) (fun b hb => ha b (List.mem_cons_of_mem _ hb)) (ht.mul hc)
    rw [List.foldl_cons, List.length_cons, Nat.pow_succ, Nat.pow_succ, Nat.mul_comm (E ^ _) E, Nat.mul_comm (N ^ _) N, ← Nat.mul_assoc, ← Nat.mul_assoc]
    exact this
theorem unit_cd {n : Nat} (h : 0 < n) : Cd n 1 (Rat.divInt 1 n) := ⟨1, by rw [unit_cast h]; rfl, Nat.le_refl _⟩
theorem term_cd {n w : Nat} {T : List (List Cell)} {hs : List (List Rat)} {os : List Rat} (hH : HandsOk n w T hs os) : ∃ D M : Nat, 0 < D ∧ D ≤ 2 ^ 162 ∧ M ≤ 2 ^ 198 ∧ ∀ r ∈ rowsN w hs.length, Pc D M (termR T hs os r) := by
  obtain ⟨Dh, d0, d1, d2⟩ := hands_cd hH.tab hH.hd
  obtain ⟨Ec, e0, e1, e2⟩ := sh_cd hH.sh.bd
  have h0 := hH.h0
  have h4 := hH.h4
  have lo := hH.sh.len
  have w3 := hH.w3
  have p1 : 2 ^ (20 * hs.length) ≤ 2 ^ 80 := Nat.pow_le_pow_right (by decide) (by omega)
  have p2 : 2 ^ (29 * hs.length) ≤ 2 ^ 116 := Nat.pow_le_pow_right (by decide) (by omega)
  have p3 : 2 ^ (5 * os.length) ≤ 2 ^ 20 := Nat.pow_le_pow_right (by decide) (by omega)
  have p4 : Ec ^ hs.length ≤ 2 ^ 80 := Nat.le_trans (Nat.pow_le_pow_left (Nat.le_trans e1 p3) _) (by rw [← Nat.pow_mul]; exact Nat.pow_le_pow_right (by decide) (by omega))
  have p5 : (2 ^ (5 * os.length)) ^ hs.length ≤ 2 ^ 80 := by rw [← Nat.pow_mul]; exact Nat.pow_le_pow_right (by decide) (Nat.le_trans (Nat.mul_le_mul (show 5 * os.length ≤ 15 by omega) h4) (by decide))
  refine ⟨Dh * hs.length * (1 * Ec ^ hs.length), 2 ^ 116 * 4 * 1 * (1 * (2 ^ (5 * os.length)) ^ hs.length), Nat.mul_pos (Nat.mul_pos d0 h0) (by rw [Nat.one_mul]; exact Nat.pow_pos e0), ?_, ?_, fun r hr => ?_⟩
  · exact Nat.le_trans (Nat.mul_le_mul (Nat.mul_le_mul (Nat.le_trans d1 p1) h4) (Nat.mul_le_mul_left 1 p4)) (Nat.le_of_ble_eq_true rfl)
  · exact Nat.le_trans (Nat.mul_le_mul_left _ (Nat.mul_le_mul_left 1 p5)) (Nat.le_of_ble_eq_true rfl)
  · obtain ⟨hl, ha⟩ := rows_mem hr
    have zl : (hs.zip r).length = hs.length := by rw [List.length_zip]; omega
    have pl : (paidL T (hs.zip r)).length = hs.length := by rw [paidL, List.length_map, zl]
    have hp : Cd (1 * Ec ^ hs.length) (1 * (2 ^ (5 * os.length)) ^ hs.length) (prob os r) := by
      have := prob_cd e2 (r := r) (t := 1) (D := 1) (M := 1) (fun a h => by rw [lo]; exact ha a h) ⟨1, by simp, by decide⟩
      rw [hl] at this
      exact this
    have one : ∀ c : Rat × Rat → Rat, (∀ h ∈ hs, ∀ j < w, Cd Dh (2 ^ (29 * hs.length)) (c (payAt T h j))) → Cd Dh (2 ^ 116 * 4) (sm (paidL T (hs.zip r)) c) := fun c hc => by
      have := sm_cd (l := paidL T (hs.zip r)) (φ := c) (D := Dh) (M := 2 ^ (29 * hs.length)) fun p hp' => by
        rw [paidL] at hp'
        obtain ⟨x, hx, rfl⟩ := List.mem_map.mp hp'
        exact hc _ (List.of_mem_zip hx).1 _ (ha _ (List.of_mem_zip hx).2)
      rw [pl] at this
      exact this.mono (Nat.mul_le_mul p2 h4)
    unfold termR meanP
    rw [pl, tot_pair]
    exact ⟨((one (·.1) fun h hh j hj => (d2 h hh j hj).1).mul (unit_cd h0)).mul hp, ((one (·.2) fun h hh j hj => (d2 h hh j hj).2).mul (unit_cd h0)).mul hp⟩
theorem rows_b {n w : Nat} {T : List (List Cell)} {hs : List (List Rat)} {os : List Rat} (hH : HandsOk n w T hs os) (j : Nat) :
    Pb 400 (sm ((rowsN w hs.length).take j) (fun r => (termR T hs os r).1), sm ((rowsN w hs.length).take j) (fun r => (termR T hs os r).2)) := by
  obtain ⟨D, M, d0, d1, m1, ht⟩ := term_cd hH
  have l81 : ((rowsN w hs.length).take j).length ≤ 81 := by
    rw [List.length_take, rows_len]
    have : w ^ hs.length ≤ 81 := Nat.le_trans (Nat.pow_le_pow_left hH.w3 _) (Nat.le_trans (Nat.pow_le_pow_right (by decide) hH.h4) (by decide))
    omega
  have mm : M * ((rowsN w hs.length).take j).length < 2 ^ 400 := Nat.lt_of_le_of_lt (Nat.mul_le_mul m1 l81) (Nat.lt_of_le_of_lt (Nat.le_of_ble_eq_true rfl : 2 ^ 198 * 81 ≤ 2 ^ 300) (Nat.pow_lt_pow_right (by decide) (by decide)))
  have dd : D < 2 ^ 400 := Nat.lt_of_le_of_lt d1 (Nat.pow_lt_pow_right (by decide) (by decide))
  exact ⟨(sm_cd fun r hr => (ht r (List.mem_of_mem_take hr)).1).fb d0 dd mm, (sm_cd fun r hr => (ht r (List.mem_of_mem_take hr)).2).fb d0 dd mm⟩
end Px

set_option Elab.async false
set_option linter.all false
set_option maxRecDepth 100000
set_option maxHeartbeats 4000000
set_option exponentiation.threshold 10000
/-! V1: lists of ints as polynomials: without noughts at the end, products, division step by step. -/
namespace Px
open PySem PySem.Spec PyProof.Rows L2
def co (l : List Int) (i : Nat) : Int := l.getD i 0
def intsD (l : List Int) : PyData := .tuple (l.map .int)
def intsL (l : List Int) : PyData := .list (l.map .int)
theorem co_lt {l : List Int} {i : Nat} (h : i < l.length) : co l i = l[i] := by unfold co; rw [List.getD_eq_getElem?_getD, List.getElem?_eq_getElem h]; rfl
theorem co_ge {l : List Int} {i : Nat} (h : l.length ≤ i) : co l i = 0 := by unfold co; rw [List.getD_eq_getElem?_getD, List.getElem?_eq_none h]; rfl
theorem co_set {l : List Int} {i j : Nat} {a : Int} (h : j < l.length) : co (l.set j a) i = if i = j then a else co l i := by
  unfold co
  rw [List.getD_eq_getElem?_getD, List.getD_eq_getElem?_getD, List.getElem?_set]
  by_cases e : i = j
  · subst e; simp [h]
  · rw [if_neg e, if_neg (fun z => e z.symm)]
theorem co_map {l : List Int} {f : Int} {i : Nat} : co (l.map (· * f)) i = co l i * f := by
  by_cases h : i < l.length
  · rw [co_lt (by simpa using h), co_lt h]; simp
  · rw [co_ge (by simpa using h), co_ge (by omega)]; simp
theorem co_rep {n i : Nat} : co (List.replicate n 0) i = 0 := by
  by_cases h : i < n
  · rw [co_lt (by simpa using h)]; simp
  · rw [co_ge (by simpa using h)]
theorem co_take {l : List Int} {m i : Nat} : co (l.take m) i = if i < m then co l i else 0 := by
  unfold co
  rw [List.getD_eq_getElem?_getD, List.getD_eq_getElem?_getD, List.getElem?_take]
  split <;> simp_all
/-- the last one is not nought -/
def Trim (l : List Int) : Prop := ∀ l' a, l = l' ++ [a] → a ≠ 0
theorem trim_nil : Trim [] := fun l' a h => by simp at h
theorem trim_co {l : List Int} (h : Trim l) (h0 : l ≠ []) : co l (l.length - 1) ≠ 0 := by
  obtain ⟨l', a, rfl⟩ : ∃ l' a, l = l' ++ [a] := ⟨l.dropLast, l.getLast h0, (List.dropLast_concat_getLast h0).symm⟩
  have := h l' a rfl
  simpa [co] using this
theorem trim_of {l : List Int} (h : l = [] ∨ co l (l.length - 1) ≠ 0) : Trim l := fun l' a e => by
  subst e
  rcases h with h | h
  · simp at h
  · simpa [co] using h
theorem trim_ext {l m : List Int} (h1 : Trim l) (h2 : Trim m) (e : ∀ i, co l i = co m i) : l = m := by
  have key : ∀ {l m : List Int}, Trim m → (∀ i, co l i = co m i) → m.length ≤ l.length := fun {l m} h2 e => by
    by_cases z : m.length ≤ l.length
    · exact z
    · have h0 : m ≠ [] := fun q => by subst q; simp at z
      have := trim_co h2 h0
      rw [← e, co_ge (by omega)] at this
      exact absurd rfl this
  have ln : l.length = m.length := Nat.le_antisymm (key h1 fun i => (e i).symm) (key h2 e)
  refine List.ext_getElem ln fun i a b => ?_
  rw [← co_lt a, ← co_lt b, e]
/-- noughts at the end left out -/
def cutR : List Int → List Int
  | 0 :: r => cutR r
  | l => l
def cutZ (l : List Int) : List Int := (cutR l.reverse).reverse
theorem cutZ_snoc0 (l : List Int) : cutZ (l ++ [0]) = cutZ l := by simp [cutZ, cutR]
theorem cutZ_snoc {l : List Int} {a : Int} (h : a ≠ 0) : cutZ (l ++ [a]) = l ++ [a] := by
  unfold cutZ
  rw [List.reverse_append, List.reverse_singleton, List.singleton_append]
  rw [cutR]
  · simp
  · intro r e
    simp only [List.cons.injEq] at e
    exact h e.1
theorem cutZ_nil : cutZ [] = [] := rfl
theorem cutZ_trim {l : List Int} (h : Trim l) : cutZ l = l := by
  by_cases h0 : l = []
  · subst h0; rfl
  · obtain ⟨l', a, rfl⟩ : ∃ l' a, l = l' ++ [a] := ⟨l.dropLast, l.getLast h0, (List.dropLast_concat_getLast h0).symm⟩
    exact cutZ_snoc (h l' a rfl)
theorem cutZ_ok : ∀ (n : Nat) (l : List Int), l.length = n → Trim (cutZ l) ∧ (∀ i, co (cutZ l) i = co l i) ∧ (cutZ l).length ≤ l.length ∧ ∀ c ∈ cutZ l, c ∈ l
  | 0, l, h => by
    have : l = [] := List.eq_nil_of_length_eq_zero h
    subst this
    exact ⟨trim_nil, fun _ => rfl, Nat.le_refl _, fun c hc => hc⟩
  | n + 1, l, h => by
    have h0 : l ≠ [] := fun z => by subst z; simp at h
    obtain ⟨l', a, rfl⟩ : ∃ l' a, l = l' ++ [a] := ⟨l.dropLast, l.getLast h0, (List.dropLast_concat_getLast h0).symm⟩
    simp at h
    by_cases z : a = 0
    · subst z
      obtain ⟨a1, a2, a3, a4⟩ := cutZ_ok n l' h
      rw [cutZ_snoc0]
      refine ⟨a1, fun i => ?_, by simp; omega, fun c hc => List.mem_append_left _ (a4 c hc)⟩
      rw [a2]
      by_cases q : i < l'.length
      · rw [co_lt q, co_lt (by simp; omega), List.getElem_append_left q]
      · rw [co_ge (by omega)]
        by_cases q2 : i = l'.length
        · subst q2; simp [co]
        · rw [co_ge (by simp; omega)]
    · rw [cutZ_snoc z]
      refine ⟨fun l2 b e => ?_, fun _ => rfl, Nat.le_refl _, fun c hc => hc⟩
      obtain ⟨_, e2⟩ := List.append_inj' e rfl
      simp at e2
      omega
theorem cut_trim (l : List Int) : Trim (cutZ l) := (cutZ_ok _ l rfl).1
theorem cut_co (l : List Int) (i : Nat) : co (cutZ l) i = co l i := (cutZ_ok _ l rfl).2.1 i
theorem cut_len (l : List Int) : (cutZ l).length ≤ l.length := (cutZ_ok _ l rfl).2.2.1
theorem cut_mem {l : List Int} {c : Int} (h : c ∈ cutZ l) : c ∈ l := (cutZ_ok _ l rfl).2.2.2 c h
theorem cut_eq {l m : List Int} (h : Trim m) (e : ∀ i, co l i = co m i) : cutZ l = m := trim_ext (cut_trim l) h fun i => by rw [cut_co, e]
theorem cut_same {l m : List Int} (e : ∀ i, co l i = co m i) : cutZ l = cutZ m := trim_ext (cut_trim l) (cut_trim m) fun i => by rw [cut_co, cut_co, e]
/-! ### products -/
def mulP (P Q : List Int) : Nat → Nat → Int
  | 0, _ => 0
  | s + 1, i => mulP P Q s i + if s ≤ i then co P s * co Q (i - s) else 0
def mulC (P Q : List Int) (i : Nat) : Int := mulP P Q P.length i
theorem mulP_congr {P P' Q : List Int} (e : ∀ j, co P j = co P' j) : ∀ s i, mulP P Q s i = mulP P' Q s i
  | 0, _ => rfl
  | s + 1, i => by rw [mulP, mulP, mulP_congr e s i, e]
theorem mulP_more {P Q : List Int} {n i : Nat} (h : P.length ≤ n) : mulP P Q n i = mulC P Q i := by
  obtain ⟨k, rfl⟩ : ∃ k, n = P.length + k := ⟨n - P.length, by omega⟩
  induction k with
  | zero => rfl
  | succ k ih =>
    rw [← Nat.add_assoc, mulP, ih (by omega), co_ge (l := P) (i := P.length + k) (by omega)]
    simp
theorem mulC_congr {P P' Q : List Int} (e : ∀ j, co P j = co P' j) (i : Nat) : mulC P Q i = mulC P' Q i := by
  rw [← mulP_more (n := P.length + P'.length) (by omega), ← mulP_more (P := P') (n := P.length + P'.length) (by omega), mulP_congr e]
theorem mulP_scale {P Q : List Int} {f : Int} : ∀ s i, mulP (P.map (· * f)) Q s i = mulP P Q s i * f
  | 0, _ => by simp [mulP]
  | s + 1, i => by
    rw [mulP, mulP, mulP_scale s i, co_map, Int.add_mul]
    congr 1
    split
    · rw [Int.mul_assoc, Int.mul_comm f, ← Int.mul_assoc]
    · simp
theorem mulC_scale {P Q : List Int} {f : Int} (i : Nat) : mulC (P.map (· * f)) Q i = mulC P Q i * f := by
  unfold mulC
  rw [List.length_map, mulP_scale]
/-- a thing that was nought is put -/
theorem mulP_set {P Q : List Int} {j : Nat} {a : Int} (hj : j < P.length) (h0 : co P j = 0) : ∀ s i, mulP (P.set j a) Q s i = mulP P Q s i + if j < s ∧ j ≤ i then a * co Q (i - j) else 0
  | 0, i => by simp [mulP]
  | s + 1, i => by
    rw [mulP, mulP, mulP_set hj h0 s i, co_set hj]
    by_cases e : s = j
    · subst e
      have n1 : ¬ (s < s ∧ s ≤ i) := fun z => Nat.lt_irrefl _ z.1
      have n2 : (s < s + 1 ∧ s ≤ i) = (s ≤ i) := propext ⟨fun z => z.2, fun z => ⟨by omega, z⟩⟩
      simp only [n1, n2, if_false, h0, if_true]
      split <;> simp
    · have n2 : (j < s + 1 ∧ j ≤ i) = (j < s ∧ j ≤ i) := propext ⟨fun z => ⟨by omega, z.2⟩, fun z => ⟨by omega, z.2⟩⟩
      rw [if_neg e]
      simp only [n2]
      rw [Int.add_right_comm]
theorem mulC_set {P Q : List Int} {j : Nat} {a : Int} (hj : j < P.length) (h0 : co P j = 0) (i : Nat) : mulC (P.set j a) Q i = mulC P Q i + if j ≤ i then a * co Q (i - j) else 0 := by
  unfold mulC
  rw [List.length_set, mulP_set hj h0]
  congr 1
  by_cases q : j ≤ i
  · rw [if_pos ⟨hj, q⟩, if_pos q]
  · rw [if_neg (fun z => q z.2), if_neg q]
theorem mulC_rep {n i : Nat} {Q : List Int} : mulC (List.replicate n 0) Q i = 0 := by
  have : ∀ s, mulP (List.replicate n 0) Q s i = 0 := fun s => by
    induction s with
    | zero => rfl
    | succ s ih => rw [mulP, ih, co_rep]; simp
  exact this _
end Px

set_option Elab.async false
set_option linter.all false
set_option maxRecDepth 100000
set_option maxHeartbeats 4000000
set_option exponentiation.threshold 10000
/-! V2: division of polynomials of integers, step by step. -/
namespace Px
open PySem PySem.Spec PyProof.Rows L2
structure DS where
  rest : List Int
  quot : List Int
  times : Int
def dfac (b r : Int) : Int := ((b.natAbs / Nat.gcd b.natAbs r.natAbs : Nat) : Int)
def subB (rs : List Int) (place : Nat) (part : Int) (B : List Int) : Nat → List Int
  | 0 => rs
  | p + 1 => (subB rs place part B p).set (place + p) (co (subB rs place part B p) (place + p) - part * co B p)
theorem subB_len {rs B : List Int} {place : Nat} {part : Int} : ∀ p, (subB rs place part B p).length = rs.length
  | 0 => rfl
  | p + 1 => by rw [subB, List.length_set, subB_len p]
theorem subB_co {rs B : List Int} {place : Nat} {part : Int} : ∀ p, place + p ≤ rs.length → ∀ i, co (subB rs place part B p) i = co rs i - if place ≤ i ∧ i < place + p then part * co B (i - place) else 0
  | 0, _, i => by rw [subB, if_neg (by omega)]; simp
  | p + 1, h, i => by
    rw [subB, co_set (by rw [subB_len]; omega), subB_co p (by omega) i, subB_co p (by omega) (place + p)]
    by_cases e : i = place + p
    · subst e
      rw [if_pos rfl, if_neg (by omega), if_pos ⟨by omega, by omega⟩, Nat.add_sub_cancel_left]
      simp
    · rw [if_neg e]
      by_cases q : place ≤ i ∧ i < place + p
      · rw [if_pos q, if_pos ⟨q.1, by omega⟩]
      · rw [if_neg q, if_neg (fun z => q ⟨z.1, by omega⟩)]
def dpart (B : List Int) (place : Nat) (S : DS) : Int := (co S.rest (place + (B.length - 1)) * dfac (co B (B.length - 1)) (co S.rest (place + (B.length - 1)))).fdiv (co B (B.length - 1))
def dstep (B : List Int) (place : Nat) (S : DS) : DS :=
  ⟨subB (S.rest.map (· * dfac (co B (B.length - 1)) (co S.rest (place + (B.length - 1))))) place (dpart B place S) B B.length,
    (S.quot.map (· * dfac (co B (B.length - 1)) (co S.rest (place + (B.length - 1))))).set place (dpart B place S),
    S.times * dfac (co B (B.length - 1)) (co S.rest (place + (B.length - 1)))⟩
def dst (A B : List Int) (n : Nat) : Nat → DS
  | 0 => ⟨A, List.replicate n 0, 1⟩
  | k + 1 => dstep B (n - 1 - k) (dst A B n k)
structure DivOk (A B : List Int) : Prop where
  a9 : A.length ≤ 9
  b5 : B.length ≤ 5
  b1 : 1 ≤ B.length
  bl : co B (B.length - 1) ≠ 0
  ab : ∀ c ∈ A, Bd 150 c
  bb : ∀ c ∈ B, Bd 67 c
  at' : Trim A
structure DInv (A B : List Int) (n place m : Nat) (S : DS) : Prop where
  rl : S.rest.length = A.length
  ql : S.quot.length = n
  t1 : 1 ≤ S.times
  q0 : ∀ j < place, co S.quot j = 0
  top : ∀ i, place + (B.length - 1) ≤ i → co S.rest i = 0
  eqn : ∀ i, co S.rest i + mulC S.quot B i = S.times * co A i
  mn : ∀ m : Int, (∀ j, S.times ∣ m * co S.quot j) → S.times ∣ m
  rb : ∀ i, Bd m (co S.rest i)
  qb : ∀ i, Bd m (co S.quot i)
  tb : Bd m S.times
theorem dfac_pos {b r : Int} (hb : b ≠ 0) : 1 ≤ dfac b r := by
  unfold dfac
  have g0 : 0 < Nat.gcd b.natAbs r.natAbs := Nat.gcd_pos_of_pos_left _ (by omega)
  have : 0 < b.natAbs / Nat.gcd b.natAbs r.natAbs := Nat.div_pos (Nat.le_of_dvd (by omega) (Nat.gcd_dvd_left _ _)) g0
  omega
theorem dfac_bd {b r : Int} {n : Nat} (hb : Bd n b) : Bd n (dfac b r) := by
  unfold dfac Bd
  rw [Int.natAbs_natCast]
  exact Nat.lt_of_le_of_lt (Nat.div_le_self _ _) hb
theorem dfac_mul (b r : Int) : dfac b r * ((Nat.gcd b.natAbs r.natAbs : Nat) : Int) = (b.natAbs : Int) := by
  unfold dfac
  rw [← Int.natCast_mul, Nat.div_mul_cancel (Nat.gcd_dvd_left _ _)]
theorem dfac_dvd (b r : Int) : b ∣ r * dfac b r := by
  obtain ⟨c, hc⟩ : ((Nat.gcd b.natAbs r.natAbs : Nat) : Int) ∣ r := Int.natAbs_dvd_natAbs.mp (by rw [Int.natAbs_natCast]; exact Nat.gcd_dvd_right _ _)
  have h := dfac_mul b r
  have e : r * dfac b r = c * (b.natAbs : Int) := by
    rw [← h]
    conv => lhs; rw [hc]
    grind
  rw [e]
  refine Int.dvd_mul_of_dvd_right ?_
  exact Int.dvd_natAbs.mpr (Int.dvd_refl b)
/-- the new thing of the quotient and the factor have nothing in common -/
theorem dfac_cop {b r p k : Int} (hb : b ≠ 0) (hp : p * b = r * dfac b r) (h : dfac b r ∣ k * p) : dfac b r ∣ k := by
  have g0 : 0 < Nat.gcd b.natAbs r.natAbs := Nat.gcd_pos_of_pos_left _ (by omega)
  have f1 := dfac_pos (r := r) hb
  have hm := dfac_mul b r
  generalize hF : dfac b r = f at *
  generalize hG : Nat.gcd b.natAbs r.natAbs = g at *
  have e1 : p.natAbs * b.natAbs = r.natAbs * f.natAbs := by rw [← Int.natAbs_mul, ← Int.natAbs_mul, hp]
  have e2 : f.natAbs * g = b.natAbs := by
    have := congrArg Int.natAbs hm
    rwa [Int.natAbs_mul, Int.natAbs_natCast, Int.natAbs_natCast] at this
  have f0 : 0 < f.natAbs := by omega
  have e3 : p.natAbs * g = r.natAbs := by
    refine Nat.eq_of_mul_eq_mul_right f0 ?_
    rw [← e1, ← e2, Nat.mul_assoc, Nat.mul_comm g]
  have cop : Nat.Coprime f.natAbs p.natAbs := by
    have : Nat.gcd (f.natAbs * g) (p.natAbs * g) = g := by rw [e2, e3, hG]
    rw [Nat.gcd_mul_right] at this
    have h1 : Nat.gcd f.natAbs p.natAbs * g = 1 * g := by rw [this, Nat.one_mul]
    exact Nat.eq_of_mul_eq_mul_right g0 h1
  have d : f.natAbs ∣ k.natAbs * p.natAbs := by rw [← Int.natAbs_mul]; exact Int.natAbs_dvd_natAbs.mpr h
  exact Int.natAbs_dvd_natAbs.mp (cop.dvd_of_dvd_mul_right d)
theorem dpart_mul {B : List Int} {place : Nat} {S : DS} : dpart B place S * co B (B.length - 1) = co S.rest (place + (B.length - 1)) * dfac (co B (B.length - 1)) (co S.rest (place + (B.length - 1))) := by
  unfold dpart
  exact Int.fdiv_mul_cancel (dfac_dvd _ _)
theorem co_bd {l : List Int} {m : Nat} (h : ∀ c ∈ l, Bd m c) (i : Nat) : Bd m (co l i) := by
  by_cases q : i < l.length
  · rw [co_lt q]; exact h _ (List.getElem_mem q)
  · rw [co_ge (by omega)]; exact Nat.two_pow_pos m
theorem dpart_bd {B : List Int} {place m : Nat} {S : DS} (hb : co B (B.length - 1) ≠ 0) (bb : ∀ c ∈ B, Bd 67 c) (rb : ∀ i, Bd m (co S.rest i)) : Bd (m + 67) (dpart B place S) := by
  have h := fdiv_le (dfac_dvd (co B (B.length - 1)) (co S.rest (place + (B.length - 1)))) hb
  exact Nat.lt_of_le_of_lt h ((rb _).mul (dfac_bd (co_bd bb _)))
theorem dstep_inv {A B : List Int} {n place m : Nat} {S : DS} (hO : DivOk A B) (hn : n + (B.length - 1) = A.length) (hp : place < n) (h : DInv A B n (place + 1) m S) : DInv A B n place (m + 135) (dstep B place S) := by
  have f1 := dfac_pos (r := co S.rest (place + (B.length - 1))) hO.bl
  have fb := dfac_bd (r := co S.rest (place + (B.length - 1))) (co_bd hO.bb (B.length - 1))
  have pm := dpart_mul (B := B) (place := place) (S := S)
  have pb := dpart_bd (place := place) hO.bl hO.bb h.rb
  have cop : ∀ k : Int, _ ∣ k * dpart B place S → _ ∣ k := fun k => dfac_cop hO.bl pm
  have b1 := hO.b1
  unfold dstep
  generalize dfac (co B (B.length - 1)) (co S.rest (place + (B.length - 1))) = f at f1 fb pm cop ⊢
  generalize hP : dpart B place S = P at pm pb cop ⊢
  have rl := h.rl
  have ql := h.ql
  have rc : ∀ i, co (subB (S.rest.map (· * f)) place P B B.length) i = co S.rest i * f - if place ≤ i then P * co B (i - place) else 0 := fun i => by
    rw [subB_co _ (by rw [List.length_map, rl]; omega), co_map]
    congr 1
    by_cases q : place ≤ i
    · rw [if_pos q]
      by_cases q2 : i < place + B.length
      · rw [if_pos ⟨q, q2⟩]
      · rw [if_neg (fun z => q2 z.2), co_ge (l := B) (by omega)]; simp
    · rw [if_neg q, if_neg (fun z => q z.1)]
  have qc : ∀ j, co ((S.quot.map (· * f)).set place P) j = if j = place then P else co S.quot j * f := fun j => by
    rw [co_set (by rw [List.length_map, ql]; exact hp), co_map]
  refine ⟨by rw [subB_len, List.length_map, rl], by rw [List.length_set, List.length_map, ql], ?_, fun j hj => ?_, fun i hi => ?_, fun i => ?_, fun k hk => ?_, fun i => ?_, fun i => ?_, ?_⟩
  · show 1 ≤ S.times * f
    have := Int.mul_le_mul h.t1 f1 (by decide) (by have := h.t1; omega)
    simpa using this
  · show co ((S.quot.map (· * f)).set place P) j = 0
    rw [qc, if_neg (by omega), h.q0 j (by omega)]
    simp
  · show co (subB _ _ _ _ _) i = 0
    rw [rc, if_pos (by omega)]
    by_cases e : i = place + (B.length - 1)
    · subst e
      rw [Nat.add_sub_cancel_left, pm]
      omega
    · rw [h.top i (by omega), co_ge (l := B) (by omega)]
      simp
  · show co (subB _ _ _ _ _) i + mulC _ B i = S.times * f * co A i
    rw [rc, mulC_set (by rw [List.length_map, ql]; exact hp) (by rw [co_map, h.q0 place (by omega)]; simp), mulC_scale]
    have := h.eqn i
    have e : S.times * f * co A i = (co S.rest i + mulC S.quot B i) * f := by rw [this]; grind
    rw [e, Int.add_mul]
    omega
  · have hk : ∀ j, S.times * f ∣ k * co ((S.quot.map (· * f)).set place P) j := hk
    show S.times * f ∣ k
    have f0 : f ≠ 0 := by omega
    have d1 : S.times ∣ k := h.mn k fun j => by
      by_cases e : j = place
      · rw [e, h.q0 place (by omega)]
        simp
      · have := hk j
        rw [qc, if_neg e, ← Int.mul_assoc] at this
        exact Int.dvd_of_mul_dvd_mul_right f0 this
    obtain ⟨k', rfl⟩ := d1
    have d2 := hk place
    rw [qc, if_pos rfl, Int.mul_assoc] at d2
    have t0 : S.times ≠ 0 := by have := h.t1; omega
    exact Int.mul_dvd_mul_left _ (cop k' (Int.dvd_of_mul_dvd_mul_left t0 d2))
  · show Bd _ (co (subB _ _ _ _ _) i)
    rw [rc]
    have x1 : Bd (m + 134) (co S.rest i * f) := ((h.rb i).mul fb).mono (by omega)
    have x2 : Bd (m + 134) (if place ≤ i then P * co B (i - place) else 0) := by
      split
      · exact (pb.mul (co_bd hO.bb _)).mono (by omega)
      · exact Nat.two_pow_pos _
    exact x1.sub x2
  · show Bd _ (co ((S.quot.map (· * f)).set place P) i)
    rw [qc]
    split
    · exact pb.mono (by omega)
    · exact ((h.qb i).mul fb).mono (by omega)
  · exact (h.tb.mul fb).mono (by omega)
theorem dst_inv {A B : List Int} {n : Nat} (hO : DivOk A B) (hn : n + (B.length - 1) = A.length) : ∀ k ≤ n, DInv A B n (n - k) (150 + 135 * k) (dst A B n k)
  | 0, _ => by
    refine ⟨rfl, List.length_replicate, (show (1 : Int) ≤ 1 by decide), fun j _ => co_rep, fun i hi => (show co A i = 0 from co_ge (by omega)), fun i => ?_, fun m hm => ?_, fun i => co_bd hO.ab i, fun i => ?_, ?_⟩
    · show co A i + mulC (List.replicate n 0) B i = 1 * co A i
      rw [mulC_rep]; omega
    · exact Int.one_dvd m
    · show Bd _ (co (List.replicate n 0) i)
      rw [co_rep]; exact Nat.two_pow_pos _
    · exact (show Bd 1 (1 : Int) from Bd.lit (by decide)).mono (by omega)
  | k + 1, hk => by
    have ih := dst_inv hO hn k (by omega)
    have e : n - k = n - 1 - k + 1 := by omega
    rw [e] at ih
    have := dstep_inv hO hn (by omega) ih
    rw [show n - (k + 1) = n - 1 - k by omega, show 150 + 135 * (k + 1) = 150 + 135 * k + 135 by omega]
    exact this
end Px

set_option Elab.async false
set_option linter.all false
set_option maxRecDepth 100000
set_option maxHeartbeats 4000000
set_option exponentiation.threshold 10000
/-! V3: the same division over fractions; what is promised of polynomials. -/
namespace Px
open PySem PySem.Spec PyProof.Rows L2
/-- a over t -/
def dv (a t : Int) : Rat := Rat.divInt a t
theorem dv_scale {a t f : Int} (ht : t ≠ 0) (hf : f ≠ 0) : dv (a * f) (t * f) = dv a t := by
  unfold dv
  rw [Rat.divInt_eq_divInt_iff (Int.mul_ne_zero ht hf) ht]
  grind
theorem int_dv (c : Int) : (c : Rat) = Rat.divInt c 1 := fq_inj.mp (by rw [← iq]; exact (red_fq (a := c) (b := 1) (by decide) ▸ by simp [sg]))
theorem dv_mul {a t c : Int} (ht : t ≠ 0) : dv a t * (c : Rat) = dv (a * c) t := by
  unfold dv
  rw [int_dv, Rat.divInt_mul_divInt, Int.mul_one]
theorem dv_sub {a c t : Int} (ht : t ≠ 0) : dv a t - dv c t = dv (a - c) t := by
  have e : dv (a - c) t + dv c t = dv a t := by
    unfold dv
    rw [Rat.divInt_add_divInt _ _ ht ht, Rat.divInt_eq_divInt_iff (Int.mul_ne_zero ht ht) ht]
    grind
  rw [← e]
  grind
theorem dv_over {r t b p f : Int} (ht : t ≠ 0) (hb : b ≠ 0) (hf : f ≠ 0) (h : p * b = r * f) : dv r t / (b : Rat) = dv p (t * f) := by
  have b0 : (b : Rat) ≠ 0 := fun z => hb (Rat.intCast_eq_zero_iff.mp z)
  have e : dv r t = dv p (t * f) * (b : Rat) := by
    rw [dv_mul (Int.mul_ne_zero ht hf), h, dv_scale ht hf]
  rw [e, Rat.div_def, Rat.mul_assoc, Rat.mul_inv_cancel _ b0, Rat.mul_one]
theorem dv_fb {a t : Int} {n : Nat} (ht : t ≠ 0) (ha : Bd n a) (hb : Bd n t) : Fb n (dv a t) := Fb.red ht ha hb
theorem dv_cross {a t : Int} (ht : t ≠ 0) : (dv a t).num * t = a * ((dv a t).den : Int) := by
  have e := q_eq (dv a t)
  have : Rat.divInt (dv a t).num (dv a t).den = Rat.divInt a t := e
  exact (Rat.divInt_eq_divInt_iff (den_ne _) ht).mp this
theorem dv_den {a t : Int} (ht : t ≠ 0) : ((dv a t).den : Int) ∣ t := by
  have c := dv_cross (a := a) ht
  have d : (dv a t).den ∣ (dv a t).num.natAbs * t.natAbs := by
    rw [← Int.natAbs_mul, c, Int.natAbs_mul, Int.natAbs_natCast]
    exact Nat.dvd_mul_left _ _
  have cop := (dv a t).reduced
  have := (Nat.Coprime.symm cop).dvd_of_dvd_mul_left d
  exact Int.natAbs_dvd_natAbs.mp (by rw [Int.natAbs_natCast]; exact this)
theorem dv_num {a t : Int} (ht : t ≠ 0) : (dv a t).num * (t.fdiv ((dv a t).den : Int)) = a := by
  obtain ⟨k, hk⟩ := dv_den (a := a) ht
  have c := dv_cross (a := a) ht
  have d0 := den_ne (dv a t)
  generalize (dv a t).num = N at *
  generalize ((dv a t).den : Int) = D at *
  rw [hk, Int.mul_fdiv_cancel_left _ d0]
  refine Int.eq_of_mul_eq_mul_right d0 ?_
  rw [← c, hk]
  grind
theorem dv_dvd {a t w : Int} (ht : t ≠ 0) (h : ((dv a t).den : Int) ∣ w) : t ∣ w * a := by
  obtain ⟨k, rfl⟩ := h
  have c := dv_cross (a := a) ht
  refine ⟨k * (dv a t).num, ?_⟩
  have : ((dv a t).den : Int) * k * a = k * (a * ((dv a t).den : Int)) := by grind
  rw [this, ← c]
  grind
/-! ### promises -/
def fTrim : FS := fun xs R => ∃ l : List Int, xs = [.d (intsL l)] ∧ l.length ≤ 100 ∧ R (.d (intsD (cutZ l)))
def fIsPoly : FS := fun xs R => ∃ l : List Int, xs = [.d (intsD l)] ∧ Trim l ∧ l.length ≤ 41 ∧ R (.d (.bool true))
def fNeedPoly : FS := fun xs R => ∃ l : List Int, xs = [.d (intsD l)] ∧ Trim l ∧ l.length ≤ 41 ∧ R (.d (intsD l))
def fNeedSome : FS := fun xs R => ∃ l : List Int, xs = [.d (intsD l)] ∧ Trim l ∧ l.length ≤ 41 ∧ l ≠ [] ∧ R (.d (intsD l))
def qn (A B : List Int) : Nat := A.length - (B.length - 1)
def dres (A B : List Int) : DS := dst A B (qn A B) (qn A B)
def fDivi : FS := fun xs R => ∃ A B, xs = [.d (intsD A), .d (intsD B)] ∧ DivOk A B ∧ R (.d (.tuple [intsD (cutZ (dres A B).quot), intsD (cutZ (dres A B).rest), .int (dres A B).times]))
def nearL (S : DS) : List Rat := S.quot.map fun a => dv a S.times
def farL (B : List Int) (S : DS) : List Rat := (S.rest.take (B.length - 1)).map fun a => dv a S.times
def fDivided : FS := fun xs R => ∃ A B, xs = [.d (intsD A), .d (intsD B)] ∧ DivOk A B ∧ R (.d (.tuple [.list ((nearL (dres A B)).map fq), .list ((farL B (dres A B)).map fq)]))
def PolyB (k m : Nat) (l : List Int) : Prop := Trim l ∧ l.length ≤ k ∧ ∀ c ∈ l, Bd m c
def fPSum : FS := fun xs R => ∃ (A B : List Int) (n : Nat), xs = [.d (intsD A), .d (intsD B), .d (.int 1)] ∧ A.length ≤ 30 ∧ B.length ≤ 30 ∧ (∀ c ∈ A, Bd n c) ∧ (∀ c ∈ B, Bd n c) ∧ 0 < n ∧ n ≤ 3000 ∧
  ∀ L, Trim L → L.length ≤ max A.length B.length → (∀ i, co L i = co A i + co B i) → R (.d (intsD L))
def fPProd : FS := fun xs R => ∃ (A B : List Int) (n m : Nat), xs = [.d (intsD A), .d (intsD B)] ∧ A.length ≤ 30 ∧ B.length ≤ 30 ∧ (∀ c ∈ A, Bd n c) ∧ (∀ c ∈ B, Bd m c) ∧ 0 < n ∧ 0 < m ∧ n + m ≤ 3000 ∧
  ∀ L, Trim L → L.length ≤ A.length + B.length → (∀ i, co L i = mulC A B i) → R (.d (intsD L))
def fAnyPoly : FS := fun xs R => ∃ (k : Nat) (h : Int), xs = [.st, .d (.int (k : Nat)), .d (.int h)] ∧ k ≤ 9 ∧ 0 ≤ h ∧ h ≤ 100000000000000000000 ∧ ∀ l, PolyB k 67 l → R (.d (intsD l))
/-! ### what division tells -/
theorem dres_inv {A B : List Int} (h : DivOk A B) (hq : B.length ≤ A.length) : DInv A B (qn A B) 0 1400 (dres A B) := by
  have b1 := h.b1
  have a9 := h.a9
  have hn : qn A B + (B.length - 1) = A.length := by unfold qn; omega
  have := dst_inv h hn (qn A B) (Nat.le_refl _)
  rw [Nat.sub_self] at this
  have q9 : qn A B ≤ 9 := by unfold qn; omega
  exact ⟨this.rl, this.ql, this.t1, this.q0, this.top, this.eqn, this.mn, fun i => (this.rb i).mono (by omega), fun i => (this.qb i).mono (by omega), this.tb.mono (by omega)⟩
theorem dres_small {A B : List Int} (h : DivOk A B) (hq : A.length < B.length) : dres A B = ⟨A, [], 1⟩ := by
  have : qn A B = 0 := by unfold qn; omega
  unfold dres
  rw [this]
  rfl
/-- what both cases have -/
structure DFin (A B : List Int) (S : DS) : Prop where
  t1 : 1 ≤ S.times
  top : ∀ i, B.length - 1 ≤ i → co S.rest i = 0
  eqn : ∀ i, co S.rest i + mulC S.quot B i = S.times * co A i
  mn : ∀ m : Int, (∀ j, S.times ∣ m * co S.quot j) → S.times ∣ m
  rb : ∀ i, Bd 1400 (co S.rest i)
  qb : ∀ i, Bd 1400 (co S.quot i)
  tb : Bd 1400 S.times
  rl : S.rest.length = A.length
  ql : S.quot.length ≤ 9
theorem dres_fin {A B : List Int} (h : DivOk A B) : DFin A B (dres A B) := by
  have b1 := h.b1
  have a9 := h.a9
  by_cases hq : B.length ≤ A.length
  · have := dres_inv h hq
    exact ⟨this.t1, fun i hi => this.top i (by omega), this.eqn, this.mn, this.rb, this.qb, this.tb, this.rl, by rw [this.ql]; unfold qn; omega⟩
  · rw [dres_small h (by omega)]
    refine ⟨(show (1 : Int) ≤ 1 by decide), fun i hi => co_ge (by show A.length ≤ i; omega), fun i => ?_, fun m _ => Int.one_dvd m, fun i => (co_bd h.ab i).mono (by decide), fun i => Nat.two_pow_pos _, (show Bd 1 (1 : Int) from Bd.lit (by decide)).mono (by decide), rfl, (show ([] : List Int).length ≤ 9 by decide)⟩
    show co A i + 0 = 1 * co A i
    omega
/-- the least number that makes all whole is times -/
theorem whole_eq {A B : List Int} {S : DS} (h : DFin A B S) {w : Int} (w0 : 1 ≤ w) (h1 : ∀ x ∈ nearL S ++ farL B S, ((x.den : Nat) : Int) ∣ w) (h2 : ∀ m : Int, (∀ x ∈ nearL S ++ farL B S, ((x.den : Nat) : Int) ∣ m) → w ∣ m) : w = S.times := by
  have t0 : S.times ≠ 0 := by have := h.t1; omega
  have d1 : w ∣ S.times := h2 _ fun x hx => by
    rcases List.mem_append.mp hx with hx | hx
    · obtain ⟨a, _, rfl⟩ := List.mem_map.mp hx
      exact dv_den t0
    · obtain ⟨a, _, rfl⟩ := List.mem_map.mp hx
      exact dv_den t0
  have d2 : S.times ∣ w := h.mn w fun j => by
    by_cases q : j < S.quot.length
    · have := h1 (dv (co S.quot j) S.times) (List.mem_append_left _ (List.mem_map.mpr ⟨_, by rw [co_lt q]; exact List.getElem_mem q, rfl⟩))
      exact dv_dvd t0 this
    · rw [co_ge (by omega)]
      simp
  exact Int.dvd_antisymm (by omega) (by have := h.t1; omega) d1 d2
end Px

set_option Elab.async false
set_option linter.all false
set_option maxRecDepth 100000
set_option maxHeartbeats 4000000
set_option exponentiation.threshold 10000
/-! V4: what is refused of polynomials; polynomials compared. -/
namespace Px
open PySem PySem.Spec PyProof.Rows L2
def bPoly : Bad := ⟨"BadPoly", "value", .d (.tuple [])⟩
def fSomeX : FSX := fun xs R EX => xs = [.d (intsD [])] ∧ EX bPoly
def fPartX : FSX := fun xs R EX => xs = [.d (intsD [1, 1]), .d (intsD [])] ∧ EX bPoly
theorem ints_lay2 : ∀ l : List Int, PyData.canLayAll0 (l.map PyData.int) = true ∧ PyData.depthAll (l.map PyData.int) = 0
  | [] => ⟨rfl, rfl⟩
  | j :: l => by
    obtain ⟨a, b⟩ := ints_lay2 l
    refine ⟨?_, ?_⟩
    · simp only [List.map_cons, PyData.canLayAll0, PyData.canLay0, a, Bool.and_self]
    · simp only [List.map_cons, PyData.depthAll, PyData.depth, b]; rfl
theorem shaped_t (l : List Int) : SeqAt.shaped (.tuple (l.map PyData.int)) = true := by
  obtain ⟨a, b⟩ := ints_lay2 l
  simp [SeqAt.shaped, PyData.canLay0, PyData.depth, a, b]
theorem shaped_l (l : List Int) : SeqAt.shaped (.list (l.map PyData.int)) = true := by
  obtain ⟨a, b⟩ := ints_lay2 l
  simp [SeqAt.shaped, PyData.canLay0, PyData.depth, a, b]
theorem eqvAll_refl : ∀ l : List Int, PyData.eqvAll (l.map PyData.int) (l.map PyData.int) = true
  | [] => rfl
  | j :: l => by
    have : PyData.eqvAll ((j :: l).map PyData.int) ((j :: l).map PyData.int) = ((j == j) && PyData.eqvAll (l.map PyData.int) (l.map PyData.int)) := rfl
    rw [this, eqvAll_refl l]
    simp
theorem fEq_t {l : List Int} {R : Vl → Prop} : fEq false (.d (.tuple (l.map PyData.int))) (.d (.tuple (l.map PyData.int))) R = R (.d (.bool true)) := by
  have u : fEq false (.d (.tuple (l.map PyData.int))) (.d (.tuple (l.map PyData.int))) R = (SeqAt.shaped (.tuple (l.map PyData.int)) = true ∧ SeqAt.shaped (.tuple (l.map PyData.int)) = true ∧ R (.d (.bool (false ^^ PyData.eqv (.tuple (l.map PyData.int)) (.tuple (l.map PyData.int)))))) := rfl
  have e : PyData.eqv (.tuple (l.map PyData.int)) (.tuple (l.map PyData.int)) = true := eqvAll_refl l
  rw [u, e, shaped_t]
  simp
theorem fEq_t0 {l : List Int} {R : Vl → Prop} : fEq false (.d (.tuple (l.map PyData.int))) (.d (.tuple [])) R = R (.d (.bool (decide (l = [])))) := by
  have u : fEq false (.d (.tuple (l.map PyData.int))) (.d (.tuple [])) R = (SeqAt.shaped (.tuple (l.map PyData.int)) = true ∧ SeqAt.shaped (.tuple []) = true ∧ R (.d (.bool (false ^^ PyData.eqv (.tuple (l.map PyData.int)) (.tuple []))))) := rfl
  rw [u, shaped_t]
  cases l with
  | nil => simp [PyData.eqv, PyData.eqvAll, SeqAt.shaped, PyData.canLay0, PyData.canLayAll0, PyData.depth, PyData.depthAll]
  | cons j l => simp [PyData.eqv, PyData.eqvAll, SeqAt.shaped, PyData.canLay0, PyData.canLayAll0, PyData.depth, PyData.depthAll]
theorem fEq_l0 {l : List Int} {R : Vl → Prop} : fEq false (.d (.list (l.map PyData.int))) (.d (.list [])) R = R (.d (.bool (decide (l = [])))) := by
  have u : fEq false (.d (.list (l.map PyData.int))) (.d (.list [])) R = (SeqAt.shaped (.list (l.map PyData.int)) = true ∧ SeqAt.shaped (.list []) = true ∧ R (.d (.bool (false ^^ PyData.eqv (.list (l.map PyData.int)) (.list []))))) := rfl
  rw [u, shaped_l]
  cases l with
  | nil => simp [PyData.eqv, PyData.eqvAll, SeqAt.shaped, PyData.canLay0, PyData.canLayAll0, PyData.depth, PyData.depthAll]
  | cons j l => simp [PyData.eqv, PyData.eqvAll, SeqAt.shaped, PyData.canLay0, PyData.canLayAll0, PyData.depth, PyData.depthAll]
theorem ix_i {l : List Int} {j : Nat} (h : j < l.length) {R : Vl → Prop} : fIx (.d (.tuple (l.map PyData.int))) (.d (.int (j : Nat))) R = R (.d (.int (co l j))) := by rw [fIx_t, atI_map PyData.int l 0 h, ex_some]; rfl
theorem ix_il {l : List Int} {j : Nat} (h : j < l.length) {R : Vl → Prop} : fIx (.d (.list (l.map PyData.int))) (.d (.int (j : Nat))) R = R (.d (.int (co l j))) := by rw [fIx_l, atI_map PyData.int l 0 h, ex_some]; rfl
theorem at_i {l : List Int} {j : Nat} (h : j < l.length) : atI (l.map PyData.int) (j : Int) = some (.int (co l j)) := atI_map PyData.int l 0 h
theorem small_of {l : List Int} {k : Nat} (h : Trim l) (e : ∀ i, k ≤ i → co l i = 0) : l.length ≤ k := by
  by_cases z : l = []
  · subst z; simp
  · have := trim_co h z
    by_cases q : l.length ≤ k
    · exact q
    · exact absurd (e _ (by omega)) this
theorem ixN_nat {n j : Nat} (h : j < n) : ixN n (j : Int) = some j := by
  unfold ixN
  rw [if_pos (by omega), if_pos (by omega)]
  simp
theorem ints_at {l : List Int} {j : Nat} (h : j < l.length) : (l.map PyData.int)[j]? = some (.int (co l j)) := by
  rw [List.getElem?_map, List.getElem?_eq_getElem h, co_lt h]
  rfl
theorem ints_set (l : List Int) (j : Nat) (a : Int) : (l.map PyData.int).set j (.int a) = (l.set j a).map PyData.int := (List.map_set ..).symm
theorem while_ok {ft : FT} {fb : FSt} {N : SEn} (I : Nat → En → Prop) (st : ∀ (m : Nat) (ρ : En) (L : En → Prop), (∀ m' ρ', m' < m → I m' ρ' → L ρ') → I m ρ → ft ρ fun k => if k = true then fb ρ { nx := L, rt := N.rt, bk := N.nx, ct := L } else N.nx ρ) :
    ∀ (k m : Nat) (ρ : En), m < k → I m ρ → whileF ft fb N k ρ
  | 0, m, ρ, h, _ => absurd h (Nat.not_lt_zero m)
  | k + 1, m, ρ, h, hI => st m ρ (whileF ft fb N k) (fun m' ρ' hm hI' => while_ok I st k m' ρ' (by omega) hI') hI
theorem cutD_to {xs : List PyData} {m : Nat} : cutD xs none (some (m : Int)) = xs.take m := by
  have n0 : ¬ ((m : Int) < 0) := by omega
  have e1 : HT.sIx xs.length 0 none = 0 := rfl
  have e2 : HT.sIx xs.length xs.length (some (m : Int)) = min m xs.length := by
    unfold HT.sIx
    simp [n0]
  unfold cutD
  rw [e1, e2]
  simp
theorem cutD_pop (xs : List PyData) (x : PyData) : cutD (xs ++ [x]) none (some (-1)) = xs := by
  have e1 : HT.sIx (xs ++ [x]).length 0 none = 0 := rfl
  have e2 : HT.sIx (xs ++ [x]).length (xs ++ [x]).length (some (-1)) = xs.length := by
    unfold HT.sIx
    simp
    try omega
  unfold cutD
  rw [e1, e2]
  simp
theorem allBs_true (l : List Int) : allBs (l.map fun _ => PyData.bool true) = some (l.map fun _ => true) := by
  have := allBs_map (l.map fun _ => true)
  rw [List.map_map] at this
  exact this
theorem snoc_of {l : List Int} (h : l ≠ []) : ∃ l' a, l = l' ++ [a] := ⟨l.dropLast, l.getLast h, (List.dropLast_concat_getLast h).symm⟩
theorem loop_rngC {fg : FG} {fb : FSt} {N : SEn} (lo : Int) (n : Nat) (I : Nat → En → Prop) (st : ∀ (i : Nat) (ρ : En) (L : En → Prop), i < n → (∀ ρ', I (i + 1) ρ' → L ρ') → I i ρ → fg (.d (.int (lo + (i : Nat) * (-1)))) ρ fun ρ' => fb ρ' { nx := L, rt := N.rt, bk := N.nx, ct := L }) (z : ∀ ρ, I n ρ → N.nx ρ) (ρ : En) (h : I 0 ρ) :
    loopF fg fb N (irangeC lo (-1) n) ρ := by
  rw [irangeC_def]
  refine loop_over' (fun i : Nat => Vl.d (.int (lo + (i : Nat) * (-1)))) (List.range n) I (fun i h ρ L hL hI => ?_) (by rw [List.length_range]; exact z) ρ h
  have hi : i < n := by simpa using h
  rw [List.getElem_range]
  exact st i ρ L hi hL hI
theorem cdiv {i j : Int} {n : Nat} (h : j ≠ 0) (hb : Bd n j) (hn : n ≤ 8000) : CDivA i j := ⟨h, Nat.lt_trans ((hb.mono hn).log (by decide)) (by decide)⟩
theorem nat_fdiv (a b : Nat) : ((a : Nat) : Int).fdiv ((b : Nat) : Int) = ((a / b : Nat) : Int) := by
  rw [Int.fdiv_eq_ediv_of_nonneg _ (by omega)]
  rfl
theorem map_one (l : List Int) {f : Int} (h : f = 1) : l.map (· * f) = l := by subst h; simp
theorem qn_max (a b : Nat) (h : 1 ≤ b) : (if (0 : Int) > ((a : Nat) : Int) - (((b : Nat) : Int) - 1) then (0 : Int) else ((a : Nat) : Int) - (((b : Nat) : Int) - 1)) = ((a - (b - 1) : Nat) : Int) := by
  split <;> omega
theorem rep_ints (n : Nat) (a : Int) : (List.replicate n [PyData.int a]).flatten = (List.replicate n a).map PyData.int := by simp
abbrev dF (t : Int) (a : Int) : PyData := fq (dv a t)
theorem at_dv {l : List Int} {j : Nat} {t : Int} (h : j < l.length) : atI (l.map (dF t)) (j : Int) = some (fq (dv (co l j) t)) := atI_map (dF t) l 0 h
theorem at_neg {l : List Int} (h : l ≠ []) : atI (l.map PyData.int) (-1) = some (.int (co l (l.length - 1))) := by
  obtain ⟨l', a, rfl⟩ := snoc_of h
  rw [atI_last PyData.int l' a]
  simp [co]
theorem dF_scale {l : List Int} {t f : Int} (ht : t ≠ 0) (hf : f ≠ 0) : (l.map (· * f)).map (dF (t * f)) = l.map (dF t) := by
  rw [List.map_map]
  refine List.map_congr_left fun a _ => ?_
  show fq (dv (a * f) (t * f)) = fq (dv a t)
  rw [dv_scale ht hf]
theorem dF_set (l : List Int) (t : Int) (j : Nat) (a : Int) : (l.map (dF t)).set j (fq (dv a t)) = (l.set j a).map (dF t) := (List.map_set ..).symm
theorem qn_max2 (a b : Nat) (h : 1 ≤ b) : (if ((a : Nat) : Int) - ((b : Nat) : Int) + 1 > (0 : Int) then ((a : Nat) : Int) - ((b : Nat) : Int) + 1 else (0 : Int)) = ((a - (b - 1) : Nat) : Int) := by
  split <;> omega
theorem subB_bd {rs B : List Int} {place m : Nat} {P : Int} (h : place + B.length ≤ rs.length) (hr : ∀ i, Bd m (co rs i)) (hp : Bd m P) (hb : ∀ c ∈ B, Bd 67 c) {j : Nat} (hj : j ≤ B.length) (i : Nat) : Bd (m + 68) (co (subB rs place P B j) i) := by
  rw [subB_co j (by omega)]
  have x2 : Bd (m + 67) (if place ≤ i ∧ i < place + j then P * co B (i - place) else 0) := by
    split
    · exact hp.mul (co_bd hb _)
    · exact Nat.two_pow_pos _
  exact ((hr i).mono (by omega)).sub x2
theorem near_dF (S : DS) : (nearL S).map fq = S.quot.map (dF S.times) := by rw [nearL, List.map_map]; rfl
theorem far_dF (B : List Int) (S : DS) : (farL B S).map fq = (S.rest.take (B.length - 1)).map (dF S.times) := by rw [farL, List.map_map]; rfl
/-- one more number that all must divide -/
theorem lcm_step {w : Int} {d : Nat} (w0 : 1 ≤ w) (d0 : 0 < d) : ∃ L : Nat, (w * (d : Int)).fdiv ((Nat.gcd w.natAbs (d : Int).natAbs : Nat) : Int) = (L : Int) ∧ 0 < L ∧ w ∣ (L : Int) ∧ ((d : Int)) ∣ (L : Int) ∧ ∀ m : Int, w ∣ m → (d : Int) ∣ m → (L : Int) ∣ m := by
  obtain ⟨W, rfl⟩ := Int.eq_ofNat_of_zero_le (show 0 ≤ w by omega)
  refine ⟨Nat.lcm W d, ?_, Nat.lcm_pos (by omega) d0, Int.natCast_dvd_natCast.mpr (Nat.dvd_lcm_left W d), Int.natCast_dvd_natCast.mpr (Nat.dvd_lcm_right W d), fun m h1 h2 => ?_⟩
  · rw [← Int.natCast_mul, Int.natAbs_natCast, Int.natAbs_natCast, nat_fdiv]
    rfl
  · have a := Int.natAbs_dvd_natAbs.mpr h1
    have b := Int.natAbs_dvd_natAbs.mpr h2
    rw [Int.natAbs_natCast] at a b
    exact Int.natAbs_dvd_natAbs.mp (by rw [Int.natAbs_natCast]; exact Nat.lcm_dvd a b)
theorem bd_dvd {w t : Int} {n : Nat} (h : w ∣ t) (t1 : 1 ≤ t) (hb : Bd n t) : Bd n w := by
  refine Nat.lt_of_le_of_lt ?_ hb
  exact Nat.le_of_dvd (by omega) (Int.natAbs_dvd_natAbs.mpr h)
end Px

set_option Elab.async false
set_option linter.all false
set_option maxRecDepth 100000
set_option maxHeartbeats 4000000
/-! H1: half planes over the rationals: a common point, or two or three of them that tell that there is none; a common point among the marks. -/
namespace Px
abbrev Q3 := Rat × Rat × Rat
abbrev Q2 := Rat × Rat
def ev (l : Q3) (p : Q2) : Rat := l.1 * p.1 + l.2.1 * p.2
def sat (l : Q3) (p : Q2) : Prop := ev l p ≤ l.2.2
def crs (l m : Q3) : Rat := l.1 * m.2.1 - l.2.1 * m.1
def nz (l : Q3) : Prop := l.1 ≠ 0 ∨ l.2.1 ≠ 0
def C2 (l m : Q3) : Prop := ∃ v w : Rat, 0 < v ∧ 0 < w ∧ v * l.1 + w * m.1 = 0 ∧ v * l.2.1 + w * m.2.1 = 0 ∧ v * l.2.2 + w * m.2.2 < 0
def C3 (l m k : Q3) : Prop := ∃ u v w : Rat, 0 < u ∧ 0 < v ∧ 0 < w ∧ u * l.1 + v * m.1 + w * k.1 = 0 ∧ u * l.2.1 + v * m.2.1 + w * k.2.1 = 0 ∧ u * l.2.2 + v * m.2.2 + w * k.2.2 < 0 ∧ crs l m ≠ 0
theorem least_of {α : Type} (P : α → Prop) (f : α → Rat) : ∀ L : List α, (∀ x ∈ L, ¬ P x) ∨ ∃ x ∈ L, P x ∧ ∀ y ∈ L, P y → f x ≤ f y
  | [] => .inl fun _ h => nomatch h
  | a :: L => by
      by_cases ha : P a
      · right
        rcases least_of P f L with h | ⟨x, hx, px, mx⟩
        · refine ⟨a, by simp, ha, fun y hy py => ?_⟩
          rcases List.mem_cons.mp hy with e | hy
          · subst e; exact Rat.le_refl
          · exact absurd py (h y hy)
        · by_cases c : f a ≤ f x
          · refine ⟨a, by simp, ha, fun y hy py => ?_⟩
            rcases List.mem_cons.mp hy with e | hy
            · subst e; exact Rat.le_refl
            · exact Rat.le_trans c (mx y hy py)
          · refine ⟨x, by simp [hx], px, fun y hy py => ?_⟩
            rcases List.mem_cons.mp hy with e | hy
            · subst e; exact Rat.le_of_lt (Rat.not_le.mp c)
            · exact mx y hy py
      · rcases least_of P f L with h | ⟨x, hx, px, mx⟩
        · left; intro y hy; rcases List.mem_cons.mp hy with e | hy
          · subst e; exact ha
          · exact h y hy
        · right; refine ⟨x, by simp [hx], px, fun y hy py => ?_⟩
          rcases List.mem_cons.mp hy with e | hy
          · subst e; exact absurd py ha
          · exact mx y hy py
theorem div_eq (a b : Rat) (h : a ≠ 0) : a * (b / a) = b := by grind
theorem le_div {a b t : Rat} (h : 0 < a) (h2 : t ≤ b / a) : a * t ≤ b := by
  have := Rat.mul_le_mul_of_nonneg_left h2 (Rat.le_of_lt h)
  rwa [div_eq a b (by grind)] at this
theorem one_dim (L : List (Rat × Rat)) : (∃ t : Rat, ∀ x ∈ L, x.1 * t ≤ x.2) ∨ (∃ x ∈ L, x.1 = 0 ∧ x.2 < 0) ∨ (∃ x ∈ L, ∃ y ∈ L, 0 < x.1 ∧ y.1 < 0 ∧ x.2 * (-y.1) + y.2 * x.1 < 0) := by
  by_cases hz : ∃ x ∈ L, x.1 = 0 ∧ x.2 < 0
  · exact .inr (.inl hz)
  · have z : ∀ x ∈ L, ∀ t, x.1 = 0 → x.1 * t ≤ x.2 := fun x hx t e => by
      have : ¬ x.2 < 0 := fun c => hz ⟨x, hx, e, c⟩
      rw [e, Rat.zero_mul]; exact Rat.not_lt.mp this
    rcases least_of (fun x : Rat × Rat => 0 < x.1) (fun x => x.2 / x.1) L with h | ⟨x, hx, px, mx⟩
    · rcases least_of (fun x : Rat × Rat => x.1 < 0) (fun x => (x.2 / -x.1)) L with h2 | ⟨y, hy, py, my⟩
      · refine .inl ⟨0, fun x hx => z x hx 0 ?_⟩
        have a := h x hx; have b := h2 x hx
        grind
      · refine .inl ⟨-(y.2 / -y.1), fun x hx => ?_⟩
        have a := h x hx
        by_cases c : x.1 = 0
        · exact z x hx _ c
        · have n : x.1 < 0 := by grind
          have := le_div (a := -x.1) (b := x.2) (t := y.2 / -y.1) (by grind) (my x hx n)
          grind
    · by_cases hp : ∃ y ∈ L, y.1 < 0 ∧ y.2 < y.1 * (x.2 / x.1)
      · obtain ⟨y, hy, n, s⟩ := hp
        refine .inr (.inr ⟨x, hx, y, hy, px, n, ?_⟩)
        have := Rat.mul_lt_mul_of_pos_left s px
        have e := div_eq x.1 x.2 (by grind)
        have e2 : x.1 * (y.1 * (x.2 / x.1)) = y.1 * (x.1 * (x.2 / x.1)) := by grind
        rw [e2, e] at this
        grind
      · refine .inl ⟨x.2 / x.1, fun y hy => ?_⟩
        by_cases c : y.1 = 0
        · exact z y hy _ c
        · by_cases d : y.1 < 0
          · exact Rat.not_lt.mp fun q => hp ⟨y, hy, d, q⟩
          · have g : 0 < y.1 := by grind
            exact le_div g (mx y hy g)
/-- the point on the edge of h at t -/
def onE (h : Q3) (t : Rat) : Q2 := (h.1 * (h.2.2 / (h.1 * h.1 + h.2.1 * h.2.1)) - h.2.1 * t, h.2.1 * (h.2.2 / (h.1 * h.1 + h.2.1 * h.2.1)) + h.1 * t)
theorem sqn (a : Rat) : 0 ≤ a * a := by
  rcases Rat.le_total (a := 0) (b := a) with h | h
  · exact Rat.mul_nonneg h h
  · have := Rat.mul_nonneg (a := -a) (b := -a) (by grind) (by grind)
    grind
theorem sq_pos {a : Rat} (h : a ≠ 0) : 0 < a * a := by
  have := sqn a
  rcases Rat.le_iff_lt_or_eq.mp this with g | g
  · exact g
  · exfalso; rcases Rat.mul_eq_zero.mp g.symm with e | e <;> exact h e
theorem nn_pos {h : Q3} (n : nz h) : 0 < h.1 * h.1 + h.2.1 * h.2.1 := by
  have a := sqn h.1; have b := sqn h.2.1
  rcases n with n | n
  · have := sq_pos n; grind
  · have := sq_pos n; grind
theorem onE_on {h : Q3} (n : nz h) (t : Rat) : ev h (onE h t) = h.2.2 := by
  have := div_eq (h.1 * h.1 + h.2.1 * h.2.1) h.2.2 (by have := nn_pos n; grind)
  unfold ev onE
  generalize h.2.2 / (h.1 * h.1 + h.2.1 * h.2.1) = q at *
  grind
/-- what l tells of t on the edge of h -/
def cut1 (h l : Q3) : Rat × Rat := (crs h l, l.2.2 - ev l (onE h 0))
theorem cut1_iff (h l : Q3) (t : Rat) : (cut1 h l).1 * t ≤ (cut1 h l).2 ↔ sat l (onE h t) := by
  unfold cut1 sat ev onE crs
  generalize h.2.2 / (h.1 * h.1 + h.2.1 * h.2.1) = q
  constructor <;> intro g <;> grind
theorem edge_one {h l : Q3} {p : Q2} (n : nz h) (hp : h.2.2 < ev h p) (lp : sat l p) (e : (cut1 h l).1 = 0) (c : (cut1 h l).2 < 0) : C2 h l := by
  -- l = k h
  have pos := nn_pos n
  have q := onE_on n 0
  have c' : l.2.2 < ev l (onE h 0) := by unfold cut1 at c; simp only at c; grind
  have e' : crs h l = 0 := e
  have D := div_eq (h.1 * h.1 + h.2.1 * h.2.1) (h.1 * l.1 + h.2.1 * l.2.1) (by grind)
  generalize hk : (h.1 * l.1 + h.2.1 * l.2.1) / (h.1 * h.1 + h.2.1 * h.2.1) = k at D
  have e1 : l.1 = k * h.1 := by
    unfold crs at e'
    have : (h.1 * h.1 + h.2.1 * h.2.1) * (l.1 - k * h.1) = 0 := by grind
    rcases Rat.mul_eq_zero.mp this with z | z
    · grind
    · grind
  have e2 : l.2.1 = k * h.2.1 := by
    unfold crs at e'
    have : (h.1 * h.1 + h.2.1 * h.2.1) * (l.2.1 - k * h.2.1) = 0 := by grind
    rcases Rat.mul_eq_zero.mp this with z | z
    · grind
    · grind
  have s1 : ev l (onE h 0) = k * h.2.2 := by
    rw [← q]; unfold ev; rw [e1, e2]; grind
  have s2 : ev l p = k * ev h p := by unfold ev; rw [e1, e2]; grind
  unfold sat at lp
  rw [s2] at lp; rw [s1] at c'
  have kn : k < 0 := by
    apply Classical.byContradiction; intro z
    have := Rat.mul_le_mul_of_nonneg_left (Rat.le_of_lt hp) (Rat.not_lt.mp z)
    grind
  exact ⟨-k, 1, by grind, by grind, by grind, by grind, by grind⟩
theorem edge_two {h l m : Q3} {p : Q2} (n : nz h) (hp : h.2.2 < ev h p) (lp : sat l p) (mp : sat m p) (e : 0 < (cut1 h l).1) (f : (cut1 h m).1 < 0)
    (c : (cut1 h l).2 * (-(cut1 h m).1) + (cut1 h m).2 * (cut1 h l).1 < 0) : C3 h l m := by
  have pos := nn_pos n
  have q := onE_on n 0
  unfold cut1 at e f c
  simp only at e f c
  have x : 0 < -crs h m := by grind
  generalize ha : crs h l = a at e c
  generalize hb : -crs h m = b at x c
  have D := div_eq (h.1 * h.1 + h.2.1 * h.2.1) (h.1 * (b * l.1 + a * m.1) + h.2.1 * (b * l.2.1 + a * m.2.1)) (by grind)
  generalize hk : (h.1 * (b * l.1 + a * m.1) + h.2.1 * (b * l.2.1 + a * m.2.1)) / (h.1 * h.1 + h.2.1 * h.2.1) = k at D
  have z : crs h (b * l.1 + a * m.1, b * l.2.1 + a * m.2.1, 0) = 0 := by unfold crs at ha hb ⊢; grind
  have e1 : b * l.1 + a * m.1 = k * h.1 := by
    unfold crs at z
    have : (h.1 * h.1 + h.2.1 * h.2.1) * ((b * l.1 + a * m.1) - k * h.1) = 0 := by grind
    rcases Rat.mul_eq_zero.mp this with z | z
    · grind
    · grind
  have e2 : b * l.2.1 + a * m.2.1 = k * h.2.1 := by
    unfold crs at z
    have : (h.1 * h.1 + h.2.1 * h.2.1) * ((b * l.2.1 + a * m.2.1) - k * h.2.1) = 0 := by grind
    rcases Rat.mul_eq_zero.mp this with z | z
    · grind
    · grind
  have s1 : b * ev l (onE h 0) + a * ev m (onE h 0) = k * h.2.2 := by
    rw [← q]; unfold ev
    generalize onE h 0 = o
    grind
  have s2 : b * ev l p + a * ev m p = k * ev h p := by unfold ev; grind
  have t1 := Rat.mul_le_mul_of_nonneg_left lp (Rat.le_of_lt x)
  have t2 := Rat.mul_le_mul_of_nonneg_left mp (Rat.le_of_lt e)
  have c' : b * l.2.2 + a * m.2.2 < k * h.2.2 := by grind
  have kn : k < 0 := by
    apply Classical.byContradiction; intro z
    have := Rat.mul_le_mul_of_nonneg_left (Rat.le_of_lt hp) (Rat.not_lt.mp z)
    grind
  exact ⟨-k, b, a, by grind, by grind, by grind, by grind, by grind, by grind, by grind⟩
theorem plane : ∀ S : List Q3, (∀ l ∈ S, nz l) → (∃ p, ∀ l ∈ S, sat l p) ∨ (∃ l ∈ S, ∃ m ∈ S, C2 l m) ∨ (∃ l ∈ S, ∃ m ∈ S, ∃ k ∈ S, C3 l m k)
  | [], _ => .inl ⟨(0, 0), fun _ h => nomatch h⟩
  | h :: S, g => by
      have n := g h (by simp)
      rcases plane S (fun l hl => g l (by simp [hl])) with ⟨p, hp⟩ | ⟨l, hl, m, hm, c⟩ | ⟨l, hl, m, hm, k, hk, c⟩
      · by_cases s : sat h p
        · refine .inl ⟨p, fun l hl => ?_⟩
          rcases List.mem_cons.mp hl with e | hl
          · subst e; exact s
          · exact hp l hl
        · have s' : h.2.2 < ev h p := Rat.not_le.mp s
          rcases one_dim (S.map (cut1 h)) with ⟨t, ht⟩ | ⟨x, hx, e, c⟩ | ⟨x, hx, y, hy, e, f, c⟩
          · refine .inl ⟨onE h t, fun l hl => ?_⟩
            rcases List.mem_cons.mp hl with e | hl
            · subst e; unfold sat; rw [onE_on n t]; exact Rat.le_refl
            · exact (cut1_iff h l t).mp (ht _ (List.mem_map_of_mem hl))
          · obtain ⟨l, hl, rfl⟩ := List.mem_map.mp hx
            exact .inr (.inl ⟨h, by simp, l, by simp [hl], edge_one n s' (hp l hl) e c⟩)
          · obtain ⟨l, hl, rfl⟩ := List.mem_map.mp hx
            obtain ⟨m, hm, rfl⟩ := List.mem_map.mp hy
            exact .inr (.inr ⟨h, by simp, l, by simp [hl], m, by simp [hm], edge_two n s' (hp l hl) (hp m hm) e f c⟩)
      · exact .inr (.inl ⟨l, by simp [hl], m, by simp [hm], c⟩)
      · exact .inr (.inr ⟨l, by simp [hl], m, by simp [hm], k, by simp [hk], c⟩)
theorem C2_none {l m : Q3} (c : C2 l m) (p : Q2) : ¬ (sat l p ∧ sat m p) := by
  obtain ⟨v, w, hv, hw, e1, e2, h⟩ := c
  rintro ⟨a, b⟩
  have t1 := Rat.mul_le_mul_of_nonneg_left a (Rat.le_of_lt hv)
  have t2 := Rat.mul_le_mul_of_nonneg_left b (Rat.le_of_lt hw)
  have : v * ev l p + w * ev m p = 0 := by
    unfold ev
    have : v * (l.1 * p.1 + l.2.1 * p.2) + w * (m.1 * p.1 + m.2.1 * p.2) = (v * l.1 + w * m.1) * p.1 + (v * l.2.1 + w * m.2.1) * p.2 := by grind
    rw [this, e1, e2]; grind
  grind
theorem C3_none {l m k : Q3} (c : C3 l m k) (p : Q2) : ¬ (sat l p ∧ sat m p ∧ sat k p) := by
  obtain ⟨u, v, w, hu, hv, hw, e1, e2, h, _⟩ := c
  rintro ⟨a, b, d⟩
  have t0 := Rat.mul_le_mul_of_nonneg_left a (Rat.le_of_lt hu)
  have t1 := Rat.mul_le_mul_of_nonneg_left b (Rat.le_of_lt hv)
  have t2 := Rat.mul_le_mul_of_nonneg_left d (Rat.le_of_lt hw)
  have : u * ev l p + v * ev m p + w * ev k p = 0 := by
    unfold ev
    have : u * (l.1 * p.1 + l.2.1 * p.2) + v * (m.1 * p.1 + m.2.1 * p.2) + w * (k.1 * p.1 + k.2.1 * p.2) = (u * l.1 + v * m.1 + w * k.1) * p.1 + (u * l.2.1 + v * m.2.1 + w * k.2.1) * p.2 := by grind
    rw [this, e1, e2]; grind
  grind
/-- from a common point along d, up to the first edge -/
def go (p d : Q2) (t : Rat) : Q2 := (p.1 + t * d.1, p.2 + t * d.2)
theorem ev_go (l : Q3) (p d : Q2) (t : Rat) : ev l (go p d t) = ev l p + t * ev l d := by unfold ev go; grind
theorem ray {S : List Q3} {p d : Q2} {h : Q3} (hp : ∀ l ∈ S, sat l p) (hh : h ∈ S) (hd : 0 < ev h d) :
    ∃ t, 0 ≤ t ∧ ∃ k ∈ S, 0 < ev k d ∧ ev k (go p d t) = k.2.2 ∧ ∀ l ∈ S, sat l (go p d t) := by
  rcases least_of (fun k : Q3 => 0 < ev k d) (fun k => (k.2.2 - ev k p) / ev k d) S with z | ⟨k, hk, pk, mk⟩
  · exact absurd hd (z h hh)
  · refine ⟨(k.2.2 - ev k p) / ev k d, ?_, k, hk, pk, ?_, fun l hl => ?_⟩
    · have : 0 ≤ k.2.2 - ev k p := by have := hp k hk; unfold sat at this; grind
      rw [Rat.div_def]; exact Rat.mul_nonneg this (Rat.le_of_lt (Rat.inv_pos.mpr pk))
    · rw [ev_go]; have := div_eq (ev k d) (k.2.2 - ev k p) (by grind)
      grind
    · have nn : 0 ≤ (k.2.2 - ev k p) / ev k d := by
        have : 0 ≤ k.2.2 - ev k p := by have := hp k hk; unfold sat at this; grind
        rw [Rat.div_def]; exact Rat.mul_nonneg this (Rat.le_of_lt (Rat.inv_pos.mpr pk))
      unfold sat; rw [ev_go]
      have b := hp l hl; unfold sat at b
      by_cases c : 0 < ev l d
      · have := le_div c (mk l hl c)
        grind
      · have : 0 ≤ (k.2.2 - ev k p) / ev k d * (-ev l d) := Rat.mul_nonneg nn (by grind)
        grind
def meet (l m : Q3) : Q2 := ((l.2.2 * m.2.1 - l.2.1 * m.2.2) / crs l m, (l.1 * m.2.2 - l.2.2 * m.1) / crs l m)
def foot (l : Q3) : Q2 := (l.1 * (l.2.2 / (l.1 * l.1 + l.2.1 * l.2.1)), l.2.1 * (l.2.2 / (l.1 * l.1 + l.2.1 * l.2.1)))
theorem meet_eq {l m : Q3} {p : Q2} (h : crs l m ≠ 0) (a : ev l p = l.2.2) (b : ev m p = m.2.2) : meet l m = p := by
  have D1 := div_eq (crs l m) (l.2.2 * m.2.1 - l.2.1 * m.2.2) h
  have D2 := div_eq (crs l m) (l.1 * m.2.2 - l.2.2 * m.1) h
  unfold meet
  generalize (l.2.2 * m.2.1 - l.2.1 * m.2.2) / crs l m = x at *
  generalize (l.1 * m.2.2 - l.2.2 * m.1) / crs l m = y at *
  have z1 : crs l m * (x - p.1) = 0 := by unfold crs ev at *; grind
  have z2 : crs l m * (y - p.2) = 0 := by unfold crs ev at *; grind
  have e1 : x = p.1 := by rcases Rat.mul_eq_zero.mp z1 with e | e <;> grind
  have e2 : y = p.2 := by rcases Rat.mul_eq_zero.mp z2 with e | e <;> grind
  rw [e1, e2]
theorem mark {S : List Q3} {h : Q3} {p : Q2} (g : ∀ l ∈ S, nz l) (hh : h ∈ S) (hp : ∀ l ∈ S, sat l p) :
    (∃ l ∈ S, ∃ m ∈ S, crs l m ≠ 0 ∧ ∀ k ∈ S, sat k (meet l m)) ∨ (∃ l ∈ S, ∀ k ∈ S, sat k (foot l)) := by
  have hd : 0 < ev h (h.1, h.2.1) := nn_pos (g h hh)
  obtain ⟨t, _, l, hl, _, tl, al⟩ := ray hp hh hd
  generalize go p (h.1, h.2.1) t = p' at tl al
  by_cases par : ∃ m ∈ S, crs l m ≠ 0
  · obtain ⟨m, hm, c⟩ := par
    left
    -- along the edge of l, so that m grows
    have key : ∃ d : Q2, ev l d = 0 ∧ 0 < ev m d ∧ ∀ k : Q3, ev k d = 0 ∨ crs l k ≠ 0 := by
      by_cases s : 0 < crs l m
      · refine ⟨(-l.2.1, l.1), by unfold ev; grind, by unfold ev crs at *; grind, fun k => ?_⟩
        by_cases z : crs l k = 0
        · left; unfold ev crs at *; grind
        · exact .inr z
      · refine ⟨(l.2.1, -l.1), by unfold ev; grind, by unfold ev crs at *; grind, fun k => ?_⟩
        by_cases z : crs l k = 0
        · left; unfold ev crs at *; grind
        · exact .inr z
    obtain ⟨d, dl, dm, dk⟩ := key
    obtain ⟨t', _, k, hk, kd, tk, ak⟩ := ray al hm dm
    have c' : crs l k ≠ 0 := (dk k).elim (fun z => absurd (z ▸ kd) Rat.lt_irrefl) id
    have tl' : ev l (go p' d t') = l.2.2 := by rw [ev_go, dl, tl]; grind
    exact ⟨l, hl, k, hk, c', by rw [meet_eq c' tl' tk]; exact ak⟩
  · right
    refine ⟨l, hl, fun k hk => ?_⟩
    have z : crs l k = 0 := Classical.byContradiction fun c => par ⟨k, hk, c⟩
    have n := nn_pos (g l hl)
    have D := div_eq (l.1 * l.1 + l.2.1 * l.2.1) l.2.2 (by grind)
    have a := al k hk
    unfold sat at *
    have : ev k (foot l) = ev k p' := by
      unfold foot
      generalize l.2.2 / (l.1 * l.1 + l.2.1 * l.2.1) = q at D
      have : (l.1 * l.1 + l.2.1 * l.2.1) * (ev k (l.1 * q, l.2.1 * q) - ev k p') = 0 := by
        unfold ev crs at *
        grind
      rcases Rat.mul_eq_zero.mp this with e | e <;> grind
    rw [this]; exact a
end Px

set_option Elab.async false
set_option linter.all false
set_option maxRecDepth 100000
set_option maxHeartbeats 2000000
/-! Px: tuple(zip(a, b)) as a value. -/
namespace PySem.F
theorem nolen_zip : typeLookup (.type "zip") "__len__" = pure none := by rw [typeLookup_type, builtinLookup_eq_fast]; kernel_rfl
theorem nohint_zip : typeLookup (.type "zip") "__length_hint__" = pure none := by rw [typeLookup_type, builtinLookup_eq_fast]; kernel_rfl
end PySem.F
namespace Px
open PySem PySem.Spec PyProof.Rows L2
open Sem (wp)
inductive YSeq (Y : Nat → Hp → V → Hp → Prop) (H0 : Hp) : Nat → List V → Hp → Prop
  | nil : YSeq Y H0 0 [] H0
  | snoc {i : Nat} {vs : List V} {H H' : Hp} {v : V} : YSeq Y H0 i vs H → Y i H v H' → YSeq Y H0 (i + 1) (vs ++ [v]) H'
theorem YSeq.len {Y : Nat → Hp → V → Hp → Prop} {H0 H : Hp} {i : Nat} {vs : List V} (h : YSeq Y H0 i vs H) : vs.length = i := by
  induction h with
  | nil => rfl
  | snoc _ _ ih => rw [List.length_append, ih]; rfl
theorem Vals.snoc : ∀ {vs : List V} {us : List Value} {v : V} {u : Value}, Vals vs us → RelV v u → Vals (vs ++ [v]) (us ++ [u])
  | [], _, _, _, .nil, r => .cons r .nil
  | _ :: _, _, _, _, .cons r rr, q => .cons r (Vals.snoc rr q)
/-- the same state under another call depth -/
theorem inv_at {X : Cx} {pins : List (Addr × Obj)} {σ : Sg} {H : Hp} {s : Shared} {A : Around} (I : L2.Inv X pins σ H s) (h1 : X.calm = true → A.handled = none) (h2 : A.frames = X.A.frames) : L2.Inv { X with A := A } pins σ H s :=
  ⟨{ mod := I.ok.mod, kind := I.ok.kind, glob := I.ok.glob, blt := I.ok.blt, above := I.ok.above, inj := I.ok.inj, has := I.ok.has, cab := I.ok.cab, hd := h1, frames := h2.trans I.ok.frames, stk := I.ok.stk, exf := I.ok.exf, bs := I.ok.bs, bsz := I.ok.bsz, noex := I.ok.noex, exfs := I.ok.exfs, funs := I.ok.funs, frf := I.ok.frf },
    I.os, I.bare, I.base, I.loc, I.cell, I.free, I.freeC, I.pin, I.hok, I.len⟩
theorem inv_back {X : Cx} {pins : List (Addr × Obj)} {σ : Sg} {H : Hp} {s : Shared} {A : Around} (ok : X.Ok) (I : L2.Inv { X with A := A } pins σ H s) : L2.Inv X pins σ H s :=
  ⟨ok, I.os, I.bare, I.base, I.loc, I.cell, I.free, I.freeC, I.pin, I.hok, I.len⟩
abbrev lstObj (us : Array Value) (c : Nat) : Obj := { cls := .type "list", dict := none, data := .seq us c, slots := #[] }
theorem fp_pin {X : Cx} {pins : List (Addr × Obj)} {H : Hp} {b S0 : Addr} {o : Obj} (h : FpOk X pins H b) (hne : b ≠ S0) : FpOk X ((S0, o) :: pins) H b := by
  obtain ⟨h1, h2, h3, h4, h5, h6⟩ := h
  refine ⟨h1, h2, h3, h4, h5, fun p hp => ?_⟩
  rcases List.mem_append.mp hp with q | q
  · exact h6 p (List.mem_append_left _ q)
  · rcases List.mem_cons.mp q with e | q
    · subst e; exact fun e => hne e.symm
    · exact h6 p (List.mem_append_right _ q)
theorem fp_mv {X : Cx} {pins : List (Addr × Obj)} {H H' : Hp} {b : Addr} (h : FpOk X pins H b) (n : H' b = none) : FpOk X pins H' b := ⟨n, h.2⟩
section
variable {X : Cx} {pins : List (Addr × Obj)} {σ : Sg} {x : Str} {tpos : Pos} {J : It} {fp : List Addr} {z : Addr} {tn : Nat → Heap → Prop} {n : Nat} {G : Hp → Prop} {Y : Nat → Hp → V → Hp → Prop} {H0 : Hp}
theorem loop_turn {A : Around} {R : Result → Shared → Prop} {S0 : Addr} {res : Value} (ok : X.Ok) (T : Turn X.prog X.w X.K (.Name x tpos) J fp z tn) (W : Walk J n G Y) (hG : ∀ H vs i, YSeq Y H0 i vs H → i ≤ n → G H) (hc : X.calm = true) (hh : A.handled = none) (hfr : A.frames = X.A.frames)
    (hn : n ≤ sizeLine) (hS : S0 ∉ fp) :
    ∀ (k i : Nat) (s : Shared) (H : Hp) (vs : List V) (us : List Value) (c : Nat), n - i = k → i ≤ n → L2.Inv X pins σ H s → (∀ b ∈ fp, FpOk X pins H b) → FpOk X pins H S0 → tn i s.heap → s.heap.get? S0 = some (lstObj us.toArray c) → YSeq Y H0 i vs H → Vals vs us →
      (∀ s' H' vs' us' c', L2.Inv X pins σ H' s' → s'.heap.get? S0 = some (lstObj us'.toArray c') → YSeq Y H0 n vs' H' → Vals vs' us' → R (.ok (.ret res)) s') →
      codeAny (model X.prog X.w) A (.builtin "list.extend.loop" ⟨[.ref S0, .ref z, res], []⟩) R s := by
  intro k
  induction k with
  | zero =>
    intro i s H vs us c hk hi I hf hf0 ht ho hy hv hR
    have hin : i = n := by omega
    subst hin
    refine codeAny_builtin F.entry_extend_loop ?_
    rw [Around.under_plainId F.plain_extend_loop _]
    show wpAny _ A.in1 (pyNext (.ref z) >>= _) _ _ s
    have I' : L2.Inv { X with A := A.in1 } ((S0, lstObj us.toArray c) :: pins) σ H s := inv_at (I.pins_of fun p hp => by
      rcases List.mem_cons.mp hp with e | hp
      · subst e; exact ⟨ho, hf0.1, hf0.2.1, hf0.2.2.1, fun v q => nomatch q⟩
      · exact I.pin p (List.mem_append_right _ hp)) (fun _ => hh) hfr
    refine wpAny_bind (thn (T.done { X with A := A.in1 } rfl rfl rfl hc i _ s σ H _ I' (fun b hb => fp_pin (hf b hb) fun e => hS (by rw [← e]; exact hb)) ht (W.stops H (hG H vs i hy (Nat.le_refl _)))) fun r s1 q => ?_)
    obtain ⟨rfl, I1⟩ := q
    have p0 := I1.pin (S0, lstObj us.toArray c) (List.mem_append_right _ (List.mem_cons_self ..))
    exact wpAny_pure (hR s1 H vs us c (inv_back ok (I1.pins_of fun p hp => I1.pin p (List.mem_append_right _ (List.mem_cons_of_mem _ hp)))) p0.1 hy hv)
  | succ k ih =>
    intro i s H vs us c hk hi I hf hf0 ht ho hy hv hR
    have hlt : i < n := by omega
    refine codeAny_builtin F.entry_extend_loop ?_
    rw [Around.under_plainId F.plain_extend_loop _]
    show wpAny _ A.in1 (pyNext (.ref z) >>= _) _ _ s
    have I' : L2.Inv { X with A := A.in1 } ((S0, lstObj us.toArray c) :: pins) σ H s := inv_at (I.pins_of fun p hp => by
      rcases List.mem_cons.mp hp with e | hp
      · subst e; exact ⟨ho, hf0.1, hf0.2.1, hf0.2.2.1, fun v q => nomatch q⟩
      · exact I.pin p (List.mem_append_right _ hp)) (fun _ => hh) hfr
    refine wpAny_bind (thn (T.item { X with A := A.in1 } rfl rfl rfl hc i _ s σ H _ I' (fun b hb => fp_pin (hf b hb) fun e => hS (by rw [← e]; exact hb)) ht (W.goes i H hlt (hG H vs i hy hi))) fun r s1 q => ?_)
    obtain ⟨u, rfl, q⟩ := q
    show wpAny _ A.in1 (letOwnedTupleGo (.Name x tpos) (.ref z) u >>= fun _ => (updateSeq S0 (·.push u) >>= _)) _ _ _
    refine wpAny_bind (thn q fun _ s1 ⟨x1, H', I1, rx, hyl, ht1, hfn⟩ => ?_)
    have p0 := I1.pin (S0, lstObj us.toArray c) (List.mem_append_right _ (List.mem_cons_self ..))
    have I2 : L2.Inv X pins σ H' s1 := inv_back ok (I1.pins_of fun p hp => I1.pin p (List.mem_append_right _ (List.mem_cons_of_mem _ hp)))
    have hy' : YSeq Y H0 (i + 1) (vs ++ [x1]) H' := hy.snoc (W.yields i H x1 H' hlt (hG H vs i hy hi) hyl)
    have hf0' : FpOk X pins H' S0 := fp_mv hf0 p0.2.1
    have hle : us.length = i := by rw [← hv.length, hy.len]
    refine wpAny_bind ?_
    refine wpAny_updateSeq p0.1 rfl (wpAny_pure ⟨plainId_quiet F.plain_extend_loop _, ?_⟩) (by show us.toArray.size ≤ sizeLine; rw [List.size_toArray, hle]; omega) (by show (us.toArray.push u).size ≤ sizeLine + 1; rw [Array.size_push, List.size_toArray, hle]; omega)
    have e3 : us.toArray.push u = (us ++ [u]).toArray := by simp
    have g3 := Heap.get?_update_self (Obj.mapSeq (·.push u)) p0.1 rfl
    have oth : ∀ b o, b ≠ S0 → s1.heap.get? b = some o → (s1.heap.update S0 (Obj.mapSeq (·.push u))).get? b = some o := fun b o hb e => (Heap.get?_update_other _ _ (Ne.symm hb)).trans e
    refine ih (i + 1) _ H' (vs ++ [x1]) (us ++ [u]) _ (by omega) hlt (I2.turnedL (t' := s1.toks) (ch := [S0]) (fun b o hb e => oth b o (fun z => hb (by rw [z]; exact List.mem_singleton.mpr rfl)) e) fun b hb => by rw [List.mem_singleton.mp hb]; exact hf0')
      (fun b hb => fp_mv (hf b hb) (hfn b hb)) hf0' (T.keep _ _ _ ht1 fun b hb o e => oth b o (fun z => hS (by rw [← z]; exact hb)) e) (by rw [← e3]; exact g3) hy' (Vals.snoc hv rx) hR
theorem typeIs_push {s : Shared} {T : String} {o : Obj} (h : s.TypeIs (.ref z) T) : ({ s with heap := s.heap.push o } : Shared).TypeIs (.ref z) T := by
  obtain ⟨o', ho, hcl⟩ := h
  exact ⟨o', Heap.get?_push_of_some _ ho, hcl⟩
theorem collect_turn {A : Around} {E : Value → Shared → Prop} {Q : List Value → Shared → Prop} {s : Shared} {H : Hp} (T : Turn X.prog X.w X.K (.Name x tpos) J fp z tn) (W : Walk J n G Y) (hG : ∀ H vs i, YSeq Y H0 i vs H → i ≤ n → G H) (hc : X.calm = true) (hh : A.handled = none) (hfr : A.frames = X.A.frames)
    (hn : n ≤ sizeLine) (I : L2.Inv X pins σ H s) (hf : ∀ b ∈ fp, FpOk X pins H b) (ht : tn 0 s.heap) (hT : s.TypeIs (.ref z) "zip") (hy : YSeq Y H0 0 [] H)
    (hQ : ∀ s' H' vs us, L2.Inv X pins σ H' s' → YSeq Y H0 n vs H' → Vals vs us → Q us s') : wpAny (model X.prog X.w) A (collect (.ref z)) Q E s := by
  have ok := I.ok
  have hlt : ∀ b ∈ fp, b < s.heap.objs.size := fun b hb => by obtain ⟨o, ho, _⟩ := T.obj 0 _ ht b hb; exact Heap.lt_size ho
  have hSf : s.heap.objs.size ∉ fp := fun hm => Nat.lt_irrefl _ (hlt _ hm)
  have hSI : s.heap.objs.size ≠ z := fun e => hSf (e ▸ T.mem)
  unfold collect
  refine wpAny_bind (wpAny_runValue (codeAny_builtin F.entry_proto_collect ?_))
  rw [Around.under_plainId F.plain_proto_collect _]
  show wpAny _ A.in1 (newList [] >>= fun l => again (.builtin "list.__iadd__" ⟨[l, .ref z], []⟩)) _ _ s
  refine wpAny_bind (wpAny_newObj_type ?_)
  refine wpAny_pure ⟨plainId_quiet F.plain_list_iadd _, codeAny_builtin F.entry_list_iadd ?_⟩
  rw [Around.under_plainId F.plain_list_iadd _]
  have hT1 : ({ s with heap := s.heap.push { cls := .type "list", data := .seq ([] : List Value).toArray } } : Shared).TypeIs (.ref z) "zip" := typeIs_push hT
  have ht1 : tn 0 (s.heap.push { cls := .type "list", data := .seq ([] : List Value).toArray }) := T.keep _ _ _ ht fun b _ o e => Heap.get?_push_of_some _ e
  show wpAny _ A.in1 (Builtin.List.listExtendWith (.ref s.heap.objs.size) (.ref z) (.ref s.heap.objs.size)) _ _ _
  unfold Builtin.List.listExtendWith
  refine wpAny_bind (wpAny_typeOf hT1 ?_)
  have h1 : Builtin.List.listSameRef (.ref s.heap.objs.size) (.ref z) = false := by simp [Builtin.List.listSameRef, hSI]
  have h2 : (Value.type "zip" == Value.type "list") = false := by decide
  have h3 : (Value.type "zip" == Value.type "tuple") = false := by decide
  simp only [h1, h2, h3, Bool.or_false, Bool.false_eq_true, if_false]
  refine wpAny_bind (T.self _ 0 _ _ _ ht1 ?_)
  refine wpAny_bind (wpAny_holding ?_)
  unfold Builtin.List.listLengthHint
  refine wpAny_bind (wpAny_specialOf hT1 F.nolen_zip ?_)
  show wpAny _ A.in1 (specialOf (Value.ref z) (Str.ofString "__length_hint__") >>= _) _ _ _
  refine wpAny_bind (wpAny_specialOf hT1 F.nohint_zip ?_)
  refine wpAny_pure ?_
  show wpAny _ A.in1 (rule "list.extend.makes-room" >>= fun _ => Builtin.List.listTouch (.ref s.heap.objs.size) >>= fun _ =>
    again (.builtin "list.extend.loop" ⟨[.ref s.heap.objs.size, .ref z, .ref s.heap.objs.size], []⟩)) _ _ _
  refine wpAny_bind (wpAny_rule ?_)
  have hS₁ : (s.heap.push { cls := .type "list", data := .seq ([] : List Value).toArray }).get? s.heap.objs.size = some { cls := .type "list", data := .seq ([] : List Value).toArray } := Heap.get?_push_size _ rfl
  refine wpAny_bind ?_
  show wpAny _ A.in1 (updateSeq s.heap.objs.size (·.push .none) >>= fun _ => updateSeq s.heap.objs.size (·.pop)) _ _ _
  refine wpAny_bind (wpAny_updateSeq hS₁ rfl ?_)
  have hS₂ := Heap.get?_update_self (Obj.mapSeq (·.push Value.none)) hS₁ rfl
  refine wpAny_updateSeq hS₂ rfl ?_
  have hS₃ := Heap.get?_update_self (Obj.mapSeq (·.pop)) hS₂ rfl
  have oth : ∀ b o, b ≠ s.heap.objs.size → (s.heap.push { cls := .type "list", data := .seq ([] : List Value).toArray }).get? b = some o →
      (((s.heap.push { cls := .type "list", data := .seq ([] : List Value).toArray }).update s.heap.objs.size (Obj.mapSeq (·.push Value.none))).update s.heap.objs.size (Obj.mapSeq (·.pop))).get? b = some o :=
    fun b o hb e => (Heap.get?_update_other _ _ (Ne.symm hb)).trans ((Heap.get?_update_other _ _ (Ne.symm hb)).trans e)
  have I1 : L2.Inv X pins σ H { s with heap := ((s.heap.push { cls := .type "list", data := .seq ([] : List Value).toArray }).update s.heap.objs.size (Obj.mapSeq (·.push Value.none))).update s.heap.objs.size (Obj.mapSeq (·.pop)) } :=
    I.kept (t' := s.toks) fun b o e => oth b o (Nat.ne_of_lt (Heap.lt_size e)) (Heap.get?_push_of_some _ e)
  have hf0 : FpOk X pins H s.heap.objs.size := I.fpOk (Nat.le_refl _) (I.hok.fresh (Nat.le_refl _))
  refine wpAny_pure ⟨plainId_quiet F.plain_extend_loop _, loop_turn ok T W hG hc hh hfr hn hSf n 0 _ H [] [] _ rfl (Nat.zero_le _) I1 hf hf0 (T.keep _ _ _ ht1 fun b hb o e => oth b o (fun h => hSf (h ▸ hb)) e) hS₃ hy .nil fun s' H' vs' us' c' I' ho' hy' hv' => ?_⟩
  show wpAny _ A (load s.heap.objs.size >>= _) _ _ s'
  refine wpAny_bind (wpAny_load ho' ?_)
  exact wpAny_pure (by simpa using hQ s' H' vs' us' I' hy' hv')
theorem code_tuple_turn {A : Around} {E : Value → Shared → Prop} {Q₁ : Value → Shared → Prop} {s : Shared} {H : Hp} (T : Turn X.prog X.w X.K (.Name x tpos) J fp z tn) (W : Walk J n G Y) (hG : ∀ H vs i, YSeq Y H0 i vs H → i ≤ n → G H) (hc : X.calm = true) (hh : A.handled = none) (hfr : A.frames = X.A.frames)
    (hn : n ≤ sizeLine) (I : L2.Inv X pins σ H s) (hf : ∀ b ∈ fp, FpOk X pins H b) (ht : tn 0 s.heap) (hT : s.TypeIs (.ref z) "zip") (hy : YSeq Y H0 0 [] H)
    (hQ : ∀ s' H' vs us, L2.Inv X pins σ H' s' → YSeq Y H0 n vs H' → Vals vs us → Q₁ (.ref s'.heap.objs.size) { s' with heap := s'.heap.push { cls := .type "tuple", data := .seq us.toArray } }) :
    codeAny (model X.prog X.w) A (.call (.builtin "tuple.__new__") ⟨[.type "tuple", .ref z], []⟩) (wants Q₁ E) s := by
  refine codeAny_of_tree ?_
  show wpAny _ A.in1 (do checkBuiltinCall "tuple.__new__" ⟨[.type "tuple", .ref z], []⟩; again (.builtin "tuple.__new__" ⟨[.type "tuple", .ref z], []⟩)) _ _ s
  refine wpAny_bind (wpAny_of_eq (F.newCall_tuple_1 _) (wpAny_pure ⟨plainId_quiet F.plain_tuple_new _, codeAny_builtin F.entry_tuple_new ?_⟩))
  rw [Around.under_plainId F.plain_tuple_new _]
  have hsub := sub_tuple_self
  have hinit := init_tuple_lookup
  have hmh := madeHere_tuple
  wp_walk using wpAny_typeOf hT, collect_turn (A := A.in1) T W hG hc hh hfr hn I hf ht hT hy
  intro s' H' vs us I' hy' hv'
  show wpAny _ _ (Builtin.Tuple.tupleExact us.toArray >>= fun v => ret v) _ _ _
  unfold Builtin.Tuple.tupleExact
  refine wpAny_bind (wpAny_newObj_type ?_ (by show us.toArray.size ≤ sizeLine; rw [List.size_toArray, ← hv'.length, hy'.len]; exact hn))
  refine wpAny_pure ?_
  exact hQ s' H' vs us I' hy' hv'
theorem call_tuple_turn {A : Around} {E : Value → Shared → Prop} {Q : Value → Shared → Prop} {s : Shared} {H : Hp} (T : Turn X.prog X.w X.K (.Name x tpos) J fp z tn) (W : Walk J n G Y) (hG : ∀ H vs i, YSeq Y H0 i vs H → i ≤ n → G H) (hc : X.calm = true) (hh : A.handled = none) (hfr : A.frames = X.A.frames)
    (hn : n ≤ sizeLine) (I : L2.Inv X pins σ H s) (hf : ∀ b ∈ fp, FpOk X pins H b) (ht : tn 0 s.heap) (hT : s.TypeIs (.ref z) "zip") (hy : YSeq Y H0 0 [] H)
    (hQ : ∀ s' H' vs us, L2.Inv X pins σ H' s' → YSeq Y H0 n vs H' → Vals vs us → Q (.ref s'.heap.objs.size) { s' with heap := s'.heap.push { cls := .type "tuple", data := .seq us.toArray } }) :
    wpAny (model X.prog X.w) A (call (.type "tuple") [.ref z]) Q E s := by
  refine callType_codes (Q₁ := fun obj s₁ => s₁.TypeIs obj "tuple" ∧ Q obj s₁) F.called_tuple (F.typeCall_tuple_1 _) F.entry_object_init
    (code_tuple_turn (A := A.in1) T W hG hc hh hfr hn I hf ht hT hy fun s' H' vs us I' hy' hv' => ⟨⟨_, Heap.get?_push_size _ rfl, rfl⟩, hQ s' H' vs us I' hy' hv'⟩) fun obj s₁ h₁ => ?_
  exact ⟨h₁.1, F.args_object_init_2 obj _, object_init_meets F.called_tuple.init.lookup F.called_tuple.made (by decide) _ _ A.in1 _ s₁ ⟨h₁.1, rfl, h₁.2⟩⟩
end
def colV (rows : List (List V)) (i : Nat) : List V := rows.map fun r => (r[i]?).getD .non
def YCol (rows : List (List V)) : Nat → Hp → V → Hp → Prop := fun i H v H' => ∃ T, v = V.ref T ∧ H T = none ∧ H' = upd H T (.tup (colV rows i))
theorem walk_col {K : Fg} {as : List Addr} {rows : List (List V)} {n : Nat} (hl : ∀ r ∈ rows, r.length = n) : Walk (ItzN K as) n (fun H => RowsAt K H as rows) (YCol rows) :=
  ⟨fun i H hi q => ⟨rows, q, fun r h => by rw [hl r h]; exact hi⟩, fun H q => ⟨rows, q, hl⟩, fun i H v H' _ q y => by
    obtain ⟨T, col, h1, h2, h3, h4⟩ := y
    exact ⟨T, h1, h2, by rw [h3, h4 rows q]; rfl⟩⟩
theorem yseq_ex {rows : List (List V)} {H0 H : Hp} {i : Nat} {vs : List V} (h : YSeq (YCol rows) H0 i vs H) : Ex H0 H := by
  induction h with
  | nil => exact Ex.refl _
  | snoc _ y ih =>
    obtain ⟨T, _, hn, rfl⟩ := y
    exact ih.trans fun a o e => by rw [upd_ne (ne_of_none e hn)]; exact e
def tZipTup (K : Fg) (ta : TA) : TE := fun σ H Q => ta σ H fun vs H1 => ∃ as rows n, vs = as.map V.ref ∧ as ≠ [] ∧ as.length ≤ 4 ∧ RowsAt K H1 as rows ∧ (∀ r ∈ rows, r.length = n) ∧ n ≤ sizeLine ∧
  ∀ H2 ws q, YSeq (YCol rows) H1 n ws H2 → H2 q = none → Q (.ref q) (upd H2 q (.tup ws))
theorem pe_tupZip {X : Cx} {e e2 : Expr} {ta : TA} {p p2 pos pos2 : Pos} (hc : X.calm = true) (hg : Gl X "tuple") (hm : X.mg "tuple" = none) (hg2 : Gl X "zip") (hm2 : X.mg "zip" = none) (ha : PA X [e, e2] ta)
    (na : starEach [.Call (.Name "zip" p2) [e, e2] [] pos2] X.env = (false, eval (.Call (.Name "zip" p2) [e, e2] [] pos2) X.env) :: starEach [] X.env := by rfl)
    (hs : starEach [e, e2] X.env = (false, eval e X.env) :: starEach [e2] X.env := by rfl) (hpl : (backTo pos2 (starEach [e2] X.env)).any (·.1) = false := by rfl) :
    PE X (.Call (.Name "tuple" p) [.Call (.Name "zip" p2) [e, e2] [] pos2] [] pos) (tZipTup X.K ta) := by
  refine ⟨fun pins s σ H Q I h => ?_⟩
  refine Call_ (ld_blt I hg hm boot_tuple (PyProof.Rows.callWith_type1 (args_cons ?_ na) na))
  refine Call_ (ld_blt I hg2 hm2 PyProof.Rows.boot_zip (PyProof.Rows.callWith_type1 (thn (ha.run pos2 pins s σ H _ I h) fun us s1 ⟨vs, H1, I1, r1, q1⟩ => ?_) hs hpl))
  obtain ⟨as, rows, n, rfl, h0, h4, hr, hlen, hn, q⟩ := q1
  rw [vals_refs r1]
  have hts := rows_tups I1 hr
  refine call_zipN h0 h4 hts fun h' hz hTI hTO hk hi hsz => args_nil ?_
  have I3 : L2.Inv X pins σ H1 { s1 with heap := h' } := I1.kept (t' := s1.toks) hk
  have hlt : ∀ a ∈ as, a < s1.heap.objs.size := fun a ha => let ⟨_, o, ho, _⟩ := hts a ha; Heap.lt_size ho
  refine call_tuple_turn (turn_zn (x := "x") (tpos := default) (fun h => sep_of hlt h) (itsFrom_len _ _) h0 h4) (walk_col hlen) (fun H vs i y _ => hr.ex (yseq_ex y)) hc (I1.ok.hd hc) rfl hn I3 (fun c hc => ?_) ⟨⟨_, _, hz, .inl rfl⟩, hTI, hTO, hi⟩ ⟨_, hz, rfl⟩ .nil fun s' H' ws us' I' hy hv => ?_
  · have hle : @LE.le Nat _ s1.heap.objs.size c := by
      rcases List.mem_cons.mp hc with z | hc
      · have z' : @Eq Nat c (s1.heap.objs.size + as.length + 2) := z
        omega
      · rcases List.mem_cons.mp hc with z | hc
        · have z' : @Eq Nat c (s1.heap.objs.size + as.length) := z
          omega
        · rcases List.mem_cons.mp hc with z | hc
          · have z' : @Eq Nat c (s1.heap.objs.size + as.length + 1) := z
            omega
          · exact (itsFrom_mem hc).1
    exact I1.fpOk hle (I1.hok.fresh hle)
  · have hlz : us'.toArray.size ≤ sizeLine := by rw [List.size_toArray, ← hv.length, hy.len]; exact hn
    have I4 : L2.Inv X pins σ (upd H' s'.heap.objs.size (.tup ws)) { s' with heap := s'.heap.push { cls := .type "tuple", data := .seq us'.toArray } } :=
      I'.laid (t' := s'.toks) (fun b o e => Heap.get?_push_of_some _ e) (Nat.le_refl _) (show ObjOk X.prog X.w _ _ _ (.tup ws) from ⟨by rw [hy.len]; exact hn, us', hv, IsTup.new _ _⟩)
    exact ⟨.ref s'.heap.objs.size, _, I4, rfl, q _ _ _ hy (I'.hok.fresh (Nat.le_refl _))⟩
/-! ### by data -/
def zipD (xs ys : List PyData) : List PyData := List.zipWith (fun x y => .tuple [x, y]) xs ys
theorem zipD_get : ∀ {xs ys : List PyData} {i : Nat} {x y : PyData}, xs[i]? = some x → ys[i]? = some y → (zipD xs ys)[i]? = some (.tuple [x, y]) := fun {xs ys i x y} h1 h2 => by
  unfold zipD; rw [List.getElem?_zipWith, h1, h2]
theorem yseq_rd {K : Kx} {C : Ct} {σ : Sg} {ρ : En} {H1 H2 : Hp} {us ws vs : List V} {xs ys : List PyData} {i : Nat} (G : Good K C σ ρ H1) (ra : RdA K (mq C σ ρ H1) us xs) (rb : RdA K (mq C σ ρ H1) ws ys) (hl : xs.length = ys.length)
    (h : YSeq (YCol [us, ws]) H1 i vs H2) : i ≤ xs.length → Tr C.S (K.SI C.m) H1 H2 ∧ RdA K (mq C σ ρ H2) vs ((zipD xs ys).take i) := by
  induction h with
  | nil => exact fun _ => ⟨Tr.refl G.si, by rw [List.take_zero]; exact .nil⟩
  | @snoc i vs H H' v hs y ih =>
    intro hi
    obtain ⟨t, r⟩ := ih (by omega)
    obtain ⟨T, rfl, hn, rfl⟩ := y
    have G2 := G.tr t
    have nw := G2.new (p := T) (o := .tup (colV [us, ws] i)) hn
    have e2 := G2.ex nw
    refine ⟨t.trans nw, ?_⟩
    have hx : xs[i]? = some (xs[i]'(by omega)) := List.getElem?_eq_getElem (by omega)
    have hy : ys[i]? = some (ys[i]'(by omega)) := List.getElem?_eq_getElem (by omega)
    obtain ⟨u, u1, u2⟩ := ra.get hx
    obtain ⟨w, w1, w2⟩ := rb.get hy
    have hz := zipD_get hx hy
    have ec : colV [us, ws] i = [u, w] := by unfold colV; simp [u1, w1]
    rw [ec] at nw e2 ⊢
    rw [List.take_add_one, hz]
    refine (r.mono e2).append (.cons (.tup (.inl (.inl (G2.mq_new hn))) ?_) .nil)
    exact .cons ((u2.mono (G.ex t)).mono e2) (.cons ((w2.mono (G.ex t)).mono e2) .nil)
def asTZ (R : Vl → Prop) : List Vl → Prop
  | [.d (.tuple xs), .d (.tuple ys)] => xs.length = ys.length ∧ xs.length ≤ 1000000 ∧ R (.d (.tuple (zipD xs ys)))
  | _ => False
/-- tuple(zip(a, b)), two tuples of one length -/
theorem e_tupZip {F : Fm} {e e2 : Expr} {p p2 pos pos2 : Pos} {n : Nat} {f : FA} (hm : F.mg "tuple" = none) (hm2 : F.mg "zip" = none) (ha : Ea F [e, e2] n f) (hg : ∀ i, Gl (F.X i) "tuple" := by intro _; rfl) (hg2 : ∀ i, Gl (F.X i) "zip" := by intro _; rfl)
    (na : ∀ i, starEach [.Call (.Name "zip" p2) [e, e2] [] pos2] (F.X i).env = (false, eval (.Call (.Name "zip" p2) [e, e2] [] pos2) (F.X i).env) :: starEach [] (F.X i).env := by intro _; rfl)
    (hs : ∀ i, starEach [e, e2] (F.X i).env = (false, eval e (F.X i).env) :: starEach [e2] (F.X i).env := by intro _; rfl) (hpl : ∀ i, (backTo pos2 (starEach [e2] (F.X i).env)).any (·.1) = false := by intro _; rfl) :
    Ee F (.Call (.Name "tuple" p) [.Call (.Name "zip" p2) [e, e2] [] pos2] [] pos) n (fun ρ R => f ρ (asTZ R)) := by
  obtain ⟨t, pt, st⟩ := ha
  refine ⟨tZipTup F.K t, fun i => by have := pe_tupZip (p := p) (p2 := p2) (pos := pos) (pos2 := pos2) (F.calm i) (hg i) (by rw [F.eM]; exact hm) (hg2 i) (by rw [F.eM]; exact hm2) (pt i) (na i) (hs i) (hpl i); rw [F.eK i] at this; exact this, fun C σ ρ H R Q hm' G hf k => st C σ ρ H _ _ hm' G hf fun vs H1 xs m l u t1 oxs h1 => ?_⟩
  match xs, oxs, h1 with
  | [.d (.tuple xs), .d (.tuple ys)], oxs, h1 =>
    obtain ⟨hl, hb, hR⟩ := h1
    obtain ⟨v, w, rfl, o1, o2⟩ := oxs.two
    obtain ⟨a, us, rfl, ha, ra⟩ := Rd.inv_tuple o1
    obtain ⟨b, ws, rfl, hb', rb⟩ := Rd.inv_tuple o2
    have G1 := G.tr t1
    refine ⟨[a, b], [us, ws], xs.length, rfl, by simp, by simp, ⟨Ex.sqt mask_le ha, Ex.sqt mask_le hb', trivial⟩, fun r hr => ?_, small_le hb, fun H2 vs q hy hq => ?_⟩
    · rcases List.mem_cons.mp hr with e | hr
      · subst e; exact ra.length
      · rw [List.mem_singleton.mp hr, rb.length, hl]
    · obtain ⟨t2, r2⟩ := yseq_rd G1 ra rb hl hy (Nat.le_refl _)
      have el : (zipD xs ys).take xs.length = zipD xs ys := List.take_of_length_le (by unfold zipD; rw [List.length_zipWith]; omega)
      rw [el] at r2
      have G2 := G1.tr t2
      have nw := G2.new (p := q) (o := .tup vs) hq
      exact k _ _ (.d (.tuple (zipD xs ys))) m l u (t1.trans (t2.trans nw)) (.tup (.inl (.inl (G2.mq_new hq))) (r2.mono (G2.ex nw))) hR
end Px

set_option Elab.async false
set_option linter.all false
set_option maxRecDepth 100000
set_option maxHeartbeats 4000000
set_option exponentiation.threshold 10000
/-! W9: sets of lines, their papers, common points. -/
namespace Px
open PySem PySem.Spec PyProof.Rows L2
def LOk (s : Line) : Prop := (s.1 ≠ 0 ∨ s.2.1 ≠ 0) ∧ s.1.natAbs ≤ 1000 ∧ s.2.1.natAbs ≤ 1000 ∧ s.2.2.natAbs ≤ 1000
def LsOk (ls : List Line) : Prop := 1 ≤ ls.length ∧ ls.length ≤ 8 ∧ ∀ s ∈ ls, LOk s
def nthS (ls : List Line) (i : Nat) : Line := ls.getD i (0, 0, 0)
theorem nthS_lt {ls : List Line} {i : Nat} (h : i < ls.length) : nthS ls i = ls[i] := by unfold nthS; simp [h]
theorem nthS_mem {ls : List Line} {i : Nat} (h : i < ls.length) : nthS ls i ∈ ls := by rw [nthS_lt h]; exact List.getElem_mem h
def lq (s : Line) : Q3 := ((s.1 : Rat), (s.2.1 : Rat), (s.2.2 : Rat))
def Feas (ls : List Line) : Prop := ∃ p : Rat × Rat, ∀ s ∈ ls, abv s p ≤ 0
theorem sat_abv {s : Line} {p : Rat × Rat} : sat (lq s) p ↔ abv s p ≤ 0 := by
  unfold sat ev lq abv
  constructor <;> intro h <;> grind
theorem lq_nz {s : Line} (h : LOk s) : nz (lq s) := by
  rcases h.1 with h | h
  · left; show (s.1 : Rat) ≠ 0; intro e; exact h (by exact_mod_cast e)
  · right; show (s.2.1 : Rat) ≠ 0; intro e; exact h (by exact_mod_cast e)
def turnI (l m : Line) : Int := l.1 * m.2.1 - l.2.1 * m.1
theorem crs_turn (l m : Line) : crs (lq l) (lq m) = ((turnI l m : Int) : Rat) := by
  unfold crs lq turnI
  simp only [Rat.intCast_sub, Rat.intCast_mul]
def ab (x : Int) : Int := (x.natAbs : Nat)
def w2I (l m : Line) : Option (List Int) := if turnI l m ≠ 0 ∨ 0 < l.1 * m.1 + l.2.1 * m.2.1 then none else some [ab m.1 + ab m.2.1, ab l.1 + ab l.2.1]
def w3I (l m k : Line) : Option (List Int) :=
  if turnI m k < 0 ∧ turnI k l < 0 ∧ turnI l m < 0 then some [-turnI m k, -turnI k l, -turnI l m]
  else if 0 < turnI m k ∧ 0 < turnI k l ∧ 0 < turnI l m then some [turnI m k, turnI k l, turnI l m] else none
/-- a row of numbers with its weights tells that there is no common point -/
def wsum (ls : List Line) (f : Line → Int) : List (Nat × Int) → Int
  | [] => 0
  | q :: r => f (nthS ls q.1) * q.2 + wsum ls f r
structure NoPtOk (ls : List Line) (p : List (Nat × Int)) : Prop where
  len : p.length = 2 ∨ p.length = 3
  asc : (p.map (·.1)).Pairwise (· < ·)
  lt : ∀ q ∈ p, q.1 < ls.length
  pos : ∀ q ∈ p, 1 ≤ q.2
  s0 : wsum ls (·.1) p = 0
  s1 : wsum ls (·.2.1) p = 0
  s2 : wsum ls (·.2.2) p < 0
theorem int_sq (a : Int) : 0 ≤ a * a := by
  rcases Int.le_total 0 a with h | h
  · exact Int.mul_nonneg h h
  · exact Int.mul_nonneg_of_nonpos_of_nonpos h h
theorem opp1 {a b c d : Int} (e : a * d = b * c) (h : a * c + b * d ≤ 0) : a * c ≤ 0 := by
  apply Classical.byContradiction; intro n
  have p : 0 < a * c := by omega
  have q : b * d < 0 := by omega
  have e1 : (a * c) * (b * d) = (a * d) * (a * d) := by grind
  have := int_sq (a * d)
  have := Int.mul_neg_of_pos_of_neg p q
  omega
theorem ab_pos {x : Int} (h : 0 ≤ x) : ab x = x := by unfold ab; omega
theorem ab_neg {x : Int} (h : x ≤ 0) : ab x = -x := by unfold ab; omega
theorem opp2 {a c : Int} (h : a * c ≤ 0) : ab c * a + ab a * c = 0 := by
  rcases Int.le_total 0 a with ha | ha <;> rcases Int.le_total 0 c with hc | hc
  · have := Int.mul_nonneg ha hc
    rw [ab_pos ha, ab_pos hc]; grind
  · rw [ab_pos ha, ab_neg hc]; grind
  · rw [ab_neg ha, ab_pos hc]; grind
  · have := Int.mul_nonneg_of_nonpos_of_nonpos ha hc
    rw [ab_neg ha, ab_neg hc]; grind
theorem opp3 {a b c d : Int} (e : a * d = b * c) (h : b * d ≤ 0) : ab d * a + ab b * c = 0 := by
  rcases Int.le_total 0 b with hb | hb <;> rcases Int.le_total 0 d with hd | hd
  · have z : b * d = 0 := by have := Int.mul_nonneg hb hd; omega
    rw [ab_pos hb, ab_pos hd]
    rcases Int.mul_eq_zero.mp z with z | z <;> subst z <;> grind
  · rw [ab_pos hb, ab_neg hd]; grind
  · rw [ab_neg hb, ab_pos hd]; grind
  · have z : b * d = 0 := by have := Int.mul_nonneg_of_nonpos_of_nonpos hb hd; omega
    rw [ab_neg hb, ab_neg hd]
    rcases Int.mul_eq_zero.mp z with z | z <;> subst z <;> grind
theorem w2_zero {l m : Line} (t : turnI l m = 0) (h : l.1 * m.1 + l.2.1 * m.2.1 ≤ 0) :
    l.1 * (ab m.1 + ab m.2.1) + m.1 * (ab l.1 + ab l.2.1) = 0 ∧ l.2.1 * (ab m.1 + ab m.2.1) + m.2.1 * (ab l.1 + ab l.2.1) = 0 := by
  unfold turnI at t
  have e : l.1 * m.2.1 = l.2.1 * m.1 := by omega
  have a1 := opp1 e h
  have a2 : l.2.1 * m.2.1 ≤ 0 := opp1 (a := l.2.1) (b := l.1) (c := m.2.1) (d := m.1) (by omega) (by omega)
  have b1 := opp2 a1
  have b2 := opp2 a2
  have b3 := opp3 e a2
  have b4 := opp3 (a := l.2.1) (b := l.1) (c := m.2.1) (d := m.1) (by omega) a1
  constructor <;> grind
theorem ab_nn (x : Int) : 0 ≤ ab x := by unfold ab; omega
theorem one_pos {s : Line} (h : s.1 ≠ 0 ∨ s.2.1 ≠ 0) : 1 ≤ ab s.1 + ab s.2.1 := by unfold ab; rcases h with h | h <;> omega
theorem w2_C2 {l m : Line} {ws : List Int} (hl : LOk l) (hm : LOk m) (h : w2I l m = some ws) : ∃ v w : Int, ws = [v, w] ∧ 1 ≤ v ∧ 1 ≤ w ∧ l.1 * v + m.1 * w = 0 ∧ l.2.1 * v + m.2.1 * w = 0 := by
  unfold w2I at h
  split at h
  · cases h
  · rename_i c
    have t : turnI l m = 0 := by omega
    have d : l.1 * m.1 + l.2.1 * m.2.1 ≤ 0 := by omega
    obtain ⟨e1, e2⟩ := w2_zero t d
    cases h
    exact ⟨_, _, rfl, one_pos hm.1, one_pos hl.1, e1, e2⟩
theorem w3_C3 {l m k : Line} {ws : List Int} (h : w3I l m k = some ws) : ∃ u v w : Int, ws = [u, v, w] ∧ 1 ≤ u ∧ 1 ≤ v ∧ 1 ≤ w ∧ l.1 * u + m.1 * v + k.1 * w = 0 ∧ l.2.1 * u + m.2.1 * v + k.2.1 * w = 0 := by
  unfold w3I at h
  split at h
  · rename_i c
    cases h
    exact ⟨_, _, _, rfl, by omega, by omega, by omega, by unfold turnI; grind, by unfold turnI; grind⟩
  · split at h
    · rename_i c
      cases h
      exact ⟨_, _, _, rfl, by omega, by omega, by omega, by unfold turnI; grind, by unfold turnI; grind⟩
    · cases h
theorem C2_w2 {l m : Line} (hl : LOk l) (hm : LOk m) (h : C2 (lq l) (lq m)) : w2I l m = some [ab m.1 + ab m.2.1, ab l.1 + ab l.2.1] ∧ l.2.2 * (ab m.1 + ab m.2.1) + m.2.2 * (ab l.1 + ab l.2.1) < 0 := by
  obtain ⟨v, w, hv, hw, e1, e2, e3⟩ := h
  have t : crs (lq l) (lq m) = 0 := by
    have : v * crs (lq l) (lq m) = 0 := by unfold crs; grind
    rcases Rat.mul_eq_zero.mp this with z | z <;> grind
  rw [crs_turn] at t
  have t' : turnI l m = 0 := by exact_mod_cast t
  have d : ((l.1 * m.1 + l.2.1 * m.2.1 : Int) : Rat) ≤ 0 := by
    have q := nn_pos (lq_nz hl)
    have e : w * ((l.1 * m.1 + l.2.1 * m.2.1 : Int) : Rat) = -(v * ((lq l).1 * (lq l).1 + (lq l).2.1 * (lq l).2.1)) := by
      simp only [Rat.intCast_add, Rat.intCast_mul]
      unfold lq at e1 e2 ⊢
      simp only at e1 e2 ⊢
      grind
    have pp := Rat.mul_pos hv q
    apply Classical.byContradiction; intro n
    have := Rat.mul_pos hw (Rat.not_le.mp n)
    grind
  have d' : l.1 * m.1 + l.2.1 * m.2.1 ≤ 0 := by exact_mod_cast d
  refine ⟨by unfold w2I; rw [if_neg (by omega)], ?_⟩
  obtain ⟨z1, z2⟩ := w2_zero t' d'
  have p1 := one_pos hl.1
  have p2 := one_pos hm.1
  generalize ab m.1 + ab m.2.1 = V at *
  generalize ab l.1 + ab l.2.1 = W at *
  -- V w = W v
  have r : (V : Rat) * w = (W : Rat) * v := by
    have y1 : (l.1 : Rat) * V + (m.1 : Rat) * W = 0 := by exact_mod_cast z1
    have y2 : (l.2.1 : Rat) * V + (m.2.1 : Rat) * W = 0 := by exact_mod_cast z2
    unfold lq at e1 e2
    simp only at e1 e2
    have x1 : (m.1 : Rat) * (V * w - W * v) = 0 := by grind
    have x2 : (m.2.1 : Rat) * (V * w - W * v) = 0 := by grind
    rcases lq_nz hm with n | n
    · rcases Rat.mul_eq_zero.mp x1 with z | z
      · exact absurd z n
      · grind
    · rcases Rat.mul_eq_zero.mp x2 with z | z
      · exact absurd z n
      · grind
  have g : w * ((l.2.2 * V + m.2.2 * W : Int) : Rat) = W * (v * (lq l).2.2 + w * (lq m).2.2) := by
    simp only [Rat.intCast_add, Rat.intCast_mul]
    unfold lq
    simp only
    grind
  have Wp : (0 : Rat) < (W : Rat) := by exact_mod_cast (show (0 : Int) < W by omega)
  have s : ((l.2.2 * V + m.2.2 * W : Int) : Rat) < 0 := by
    have h1 := Rat.mul_lt_mul_of_pos_left e3 Wp
    apply Classical.byContradiction; intro n
    have := Rat.mul_nonneg (Rat.le_of_lt hw) (Rat.not_lt.mp n)
    grind
  exact_mod_cast s
theorem C3_w3 {l m k : Line} (h : C3 (lq l) (lq m) (lq k)) : ∃ u v w : Int, w3I l m k = some [u, v, w] ∧ l.2.2 * u + m.2.2 * v + k.2.2 * w < 0 := by
  obtain ⟨u, v, w, hu, hv, hw, e1, e2, e3, ne⟩ := h
  have f1 : w * crs (lq k) (lq l) = v * crs (lq l) (lq m) := by unfold crs; grind
  have f2 : w * crs (lq m) (lq k) = u * crs (lq l) (lq m) := by unfold crs; grind
  have g : w * (crs (lq m) (lq k) * (lq l).2.2 + crs (lq k) (lq l) * (lq m).2.2 + crs (lq l) (lq m) * (lq k).2.2) = crs (lq l) (lq m) * (u * (lq l).2.2 + v * (lq m).2.2 + w * (lq k).2.2) := by grind
  rw [crs_turn, crs_turn, crs_turn] at g
  rw [crs_turn, crs_turn] at f1 f2
  rw [crs_turn] at ne
  have sg : ∀ {x : Int} {a t : Rat}, w * (x : Rat) = a * t → 0 < a → 0 < t → 0 < x := fun {x a t} e ha ht => by
    have p := Rat.mul_pos ha ht
    have : (0 : Rat) < (x : Rat) := by
      apply Classical.byContradiction; intro n
      have := Rat.mul_nonneg (Rat.le_of_lt hw) (show (0 : Rat) ≤ -(x : Rat) by grind)
      grind
    exact_mod_cast this
  have sgn : ∀ {x : Int} {a t : Rat}, w * (x : Rat) = a * t → 0 < a → t < 0 → x < 0 := fun {x a t} e ha ht => by
    have := sg (x := -x) (a := a) (t := -t) (by simp only [Rat.intCast_neg]; grind) ha (by grind)
    omega
  by_cases tp : (0 : Rat) < ((turnI l m : Int) : Rat)
  · have t0 : 0 < turnI l m := by exact_mod_cast tp
    have t1 := sg f1 hv tp
    have t2 := sg f2 hu tp
    refine ⟨turnI m k, turnI k l, turnI l m, by unfold w3I; rw [if_neg (by omega), if_pos (by omega)], ?_⟩
    have s := sgn (x := l.2.2 * turnI m k + m.2.2 * turnI k l + k.2.2 * turnI l m) (a := ((turnI l m : Int) : Rat)) (t := u * (lq l).2.2 + v * (lq m).2.2 + w * (lq k).2.2) (by rw [← g]; simp only [Rat.intCast_add, Rat.intCast_mul]; unfold lq; simp only; grind) tp e3
    exact s
  · have tn : ((turnI l m : Int) : Rat) < 0 := by
      rcases Rat.le_iff_lt_or_eq.mp (Rat.not_lt.mp tp) with z | z
      · exact z
      · exact absurd z ne
    have t0 : turnI l m < 0 := by exact_mod_cast tn
    have t1 := sgn f1 hv tn
    have t2 := sgn f2 hu tn
    refine ⟨-turnI m k, -turnI k l, -turnI l m, by unfold w3I; rw [if_pos (by omega)], ?_⟩
    have s := sgn (x := l.2.2 * -turnI m k + m.2.2 * -turnI k l + k.2.2 * -turnI l m) (a := -((turnI l m : Int) : Rat)) (t := u * (lq l).2.2 + v * (lq m).2.2 + w * (lq k).2.2) (by simp only [Rat.intCast_add, Rat.intCast_mul, Rat.intCast_neg]; unfold lq at g ⊢; simp only at g ⊢; grind) (by grind) e3
    exact s
theorem C2.symm {l m : Q3} (h : C2 l m) : C2 m l := by
  obtain ⟨v, w, hv, hw, e1, e2, e3⟩ := h
  exact ⟨w, v, hw, hv, by grind, by grind, by grind⟩
theorem C3.swap {l m k : Q3} (h : C3 l m k) : C3 m l k := by
  obtain ⟨u, v, w, hu, hv, hw, e1, e2, e3, ne⟩ := h
  exact ⟨v, u, w, hv, hu, hw, by grind, by grind, by grind, by unfold crs at *; grind⟩
theorem C3.rot {l m k : Q3} (h : C3 l m k) : C3 m k l := by
  obtain ⟨u, v, w, hu, hv, hw, e1, e2, e3, ne⟩ := h
  refine ⟨v, w, u, hv, hw, hu, by grind, by grind, by grind, fun z => ?_⟩
  have f2 : w * crs m k = u * crs l m := by unfold crs; grind
  rw [z] at f2
  have : u * crs l m = 0 := by grind
  rcases Rat.mul_eq_zero.mp this with z | z
  · grind
  · exact ne z
theorem C3.ne {l m k : Q3} (h : C3 l m k) : l ≠ m := fun e => by
  obtain ⟨u, v, w, hu, hv, hw, e1, e2, e3, ne⟩ := h
  subst e
  exact ne (by unfold crs; grind)
theorem C2.ne {l m : Q3} (n : nz l) (h : C2 l m) : l ≠ m := fun e => by
  obtain ⟨v, w, hv, hw, e1, e2, e3⟩ := h
  subst e
  have x1 : (v + w) * l.1 = 0 := by grind
  have x2 : (v + w) * l.2.1 = 0 := by grind
  have p : v + w ≠ 0 := by grind
  rcases n with n | n
  · rcases Rat.mul_eq_zero.mp x1 with z | z <;> contradiction
  · rcases Rat.mul_eq_zero.mp x2 with z | z <;> contradiction
end Px

set_option Elab.async false
set_option linter.all false
set_option maxRecDepth 100000
set_option maxHeartbeats 2000000
/-! Px: max and min of a tuple of integers. -/
namespace Px
open PySem PySem.Spec PyProof.Rows L2 PySem.W
theorem mxt_ints (K : Fg) (M : Hp) : ∀ ns : List Int, RdA K M (ns.map V.int) (ns.map PyData.int)
  | [] => .nil
  | n :: ns => .cons (.int n) (mxt_ints K M ns)
theorem mxt_alike (ns : List Int) : AlikeAll (ns.map PyData.int) := alikeAll_datum ns
theorem mxt_depth (ns : List Int) : PyData.depthAll (ns.map PyData.int) ≤ 60 := by
  have := depthAll_map (α := Int) ns
  exact Nat.le_trans this (by show 0 ≤ 60; omega)
def rMaxT (mx : Bool) (K : Fg) : List V → Hp → VK → Prop := fun vs H Q => ∃ (a : Addr) (n : Int) (ns : List Int), vs = [V.ref a] ∧ SqT K H a ((n :: ns).map V.int) ∧ Q (.int (if mx then ns.foldl max n else ns.foldl min n)) H
theorem call_maxT {X : Cx} (hc : X.calm = true) (hu : X.A.units + 64 < cLine) : CallR X (.builtin "max") (rMaxT true X.K) := by
  intro pins s σ H vs us Q I r h
  obtain ⟨a, n, ns, rfl, hs, q⟩ := h
  obtain ⟨its, rv, hl, _⟩ := I.tuple hs
  rw [Vals.ref1 r]
  obtain ⟨as, rd⟩ := Dp.readsAll I _ _ its (mxt_ints X.K H (n :: ns)).dp rv
  have ha := mxt_alike (n :: ns)
  have hd := mxt_depth (n :: ns)
  rw [List.map_cons] at rd ha hd
  refine max_tuple_data (I.ok.hd hc) (show s.heap.IsTuple a its.toArray from hl) (by simpa using rd) ha (by omega) fun i v h' tk bs hv hr hk => ?_
  rw [maxD_ints] at hr
  cases hr
  exact ⟨.int _, H, I.kept hk, ⟨_, rfl⟩, q⟩
theorem call_minT {X : Cx} (hc : X.calm = true) (hu : X.A.units + 64 < cLine) : CallR X (.builtin "min") (rMaxT false X.K) := by
  intro pins s σ H vs us Q I r h
  obtain ⟨a, n, ns, rfl, hs, q⟩ := h
  obtain ⟨its, rv, hl, _⟩ := I.tuple hs
  rw [Vals.ref1 r]
  obtain ⟨as, rd⟩ := Dp.readsAll I _ _ its (mxt_ints X.K H (n :: ns)).dp rv
  have ha := mxt_alike (n :: ns)
  have hd := mxt_depth (n :: ns)
  rw [List.map_cons] at rd ha hd
  refine min_tuple_data (I.ok.hd hc) (show s.heap.IsTuple a its.toArray from hl) (by simpa using rd) ha (by omega) fun i v h' tk bs hv hr hk => ?_
  rw [minD_ints] at hr
  cases hr
  exact ⟨.int _, H, I.kept hk, ⟨_, rfl⟩, q⟩
section
variable {F : Fm}
theorem cMaxT (i) : CallR (F.X i) (.builtin "max") (rMaxT true F.K) := by
  have h := call_maxT (X := F.X i) (F.calm i) (F.room i).units
  rw [F.eK i] at h
  exact h
theorem cMinT (i) : CallR (F.X i) (.builtin "min") (rMaxT false F.K) := by
  have h := call_minT (X := F.X i) (F.calm i) (F.room i).units
  rw [F.eK i] at h
  exact h
theorem isMax_fold : ∀ (ns : List Int) (n : Int), isMax (n :: ns) (ns.foldl max n)
  | [], n => ⟨by simp, fun y hy => by simp at hy; subst hy; exact Int.le_refl _⟩
  | m :: ns, n => by
    obtain ⟨h1, h2⟩ := isMax_fold ns (max n m)
    rw [List.foldl_cons]
    refine ⟨?_, fun y hy => ?_⟩
    · rcases List.mem_cons.mp h1 with h | h
      · rw [h]
        rcases Int.le_total n m with c | c
        · rw [Int.max_eq_right c]; simp
        · rw [Int.max_eq_left c]; simp
      · exact List.mem_cons_of_mem _ (List.mem_cons_of_mem _ h)
    · have h0 := h2 (max n m) (List.mem_cons_self ..)
      rcases List.mem_cons.mp hy with e | hy
      · subst e; omega
      · rcases List.mem_cons.mp hy with e | hy
        · subst e; omega
        · exact h2 y (List.mem_cons_of_mem _ hy)
theorem isMin_fold : ∀ (ns : List Int) (n : Int), isMin (n :: ns) (ns.foldl min n)
  | [], n => ⟨by simp, fun y hy => by simp at hy; subst hy; exact Int.le_refl _⟩
  | m :: ns, n => by
    obtain ⟨h1, h2⟩ := isMin_fold ns (min n m)
    rw [List.foldl_cons]
    refine ⟨?_, fun y hy => ?_⟩
    · rcases List.mem_cons.mp h1 with h | h
      · rw [h]
        rcases Int.le_total n m with c | c
        · rw [Int.min_eq_left c]; simp
        · rw [Int.min_eq_right c]; simp
      · exact List.mem_cons_of_mem _ (List.mem_cons_of_mem _ h)
    · have h0 := h2 (min n m) (List.mem_cons_self ..)
      rcases List.mem_cons.mp hy with e | hy
      · subst e; omega
      · rcases List.mem_cons.mp hy with e | hy
        · subst e; omega
        · exact h2 y (List.mem_cons_of_mem _ hy)
def gMaxT (mx : Bool) : GC
  | [.d (.tuple xs)], R => ∃ ns, allI xs = some ns ∧ 0 < ns.length ∧ ∀ m, (if mx then isMax ns m else isMin ns m) → R (.d (.int m))
  | _, _ => False
theorem sMaxT {mx : Bool} {K : Kx} : SC K (rMaxT mx K) (gMaxT mx) := fun C σ ρ H vs xs R Q G o h k => by
  match xs, h, o with
  | [.d (.tuple ds)], h, o =>
    obtain ⟨ns, e, hn, h⟩ := h
    obtain ⟨v, rfl, o1⟩ := o.one
    obtain ⟨a, ws, rfl, ha, ra⟩ := Rd.inv_tuple o1
    rw [allI_of e] at ra
    have e2 := ra.ints
    cases ns with
    | nil => exact absurd hn (by decide)
    | cons n ns =>
      refine ⟨a, n, ns, rfl, by rw [← e2]; exact Ex.sqt mask_le ha, ?_⟩
      refine k _ H (.d (.int _)) (Tr.refl G.si) (Rd.int _) (h _ ?_)
      cases mx
      · exact isMin_fold ns n
      · exact isMax_fold ns n
end
end Px

set_option Elab.async false
set_option linter.all false
set_option maxRecDepth 100000
set_option maxHeartbeats 4000000
set_option exponentiation.threshold 10000
/-! W10: promises of the defs of lines and shapes. -/
namespace Px
open PySem PySem.Spec PyProof.Rows L2
def linesD (ls : List Line) : PyData := .tuple (ls.map lineD)
theorem LOk.b {s : Line} (h : LOk s) : LineB 10 s := by
  obtain ⟨_, h1, h2, h3⟩ := h
  exact ⟨Nat.lt_of_le_of_lt h1 (by decide), Nat.lt_of_le_of_lt h2 (by decide), Nat.lt_of_le_of_lt h3 (by decide)⟩
def fIntW : FS := fun xs R => ∃ i a b : Int, xs = [.d (.int i), .d (.int a), .d (.int b)] ∧ R (.d (.bool (decide (a ≤ i) && decide (i ≤ b))))
def fIsLine : FS := fun xs R => ∃ s, xs = [.d (lineD s)] ∧ LOk s ∧ R (.d (.bool true))
def fNeedLines : FS := fun xs R => ∃ ls, xs = [.d (linesD ls)] ∧ LsOk ls ∧ R (.d (linesD ls))
def fNeedShape : FS := fun xs R => ∃ ls, xs = [.d (linesD ls)] ∧ LsOk ls ∧ Feas ls ∧ R (.d (linesD ls))
def bShape : Bad := ⟨"BadShape", "place", .d (.tuple [])⟩
def fNeedLinesX : FSX := fun xs R _ => ∃ ls, xs = [.d (linesD ls)] ∧ LsOk ls ∧ R (.d (linesD ls))
def fNeedShapeX : FSX := fun xs R EX => ∃ ls, xs = [.d (linesD ls)] ∧ LsOk ls ∧ (Feas ls → R (.d (linesD ls))) ∧ (¬ Feas ls → EX bShape)
def fTurn : FS := fun xs R => ∃ l m : Line, xs = [.d (lineD l), .d (lineD m)] ∧ LOk l ∧ LOk m ∧ R (.d (.int (turnI l m)))
def optD : Option (List Int) → PyData
  | none => .none
  | some ws => .tuple (ws.map .int)
def fW2 : FS := fun xs R => ∃ l m : Line, xs = [.d (lineD l), .d (lineD m)] ∧ LOk l ∧ LOk m ∧ R (.d (optD (w2I l m)))
def fW3 : FS := fun xs R => ∃ l m k : Line, xs = [.d (lineD l), .d (lineD m), .d (lineD k)] ∧ LOk l ∧ LOk m ∧ LOk k ∧ R (.d (optD (w3I l m k)))
def paperP (p : List (Nat × Int)) : PyData := .tuple (p.map fun q => .tuple [.int (q.1 : Nat), .int q.2])
/-- one of three numbers of a line -/
def part (k : Nat) (s : Line) : Int := match k with | 0 => s.1 | 1 => s.2.1 | _ => s.2.2
def fWsum : FS := fun xs R => ∃ (ls : List Line) (p : List (Nat × Int)) (k : Nat), xs = [.d (linesD ls), .d (paperP p), .d (.int (k : Nat))] ∧ LsOk ls ∧ p.length ≤ 3 ∧ (∀ q ∈ p, q.1 < ls.length ∧ Bd 40 q.2) ∧ k ≤ 2 ∧ R (.d (.int (wsum ls (part k) p)))
def fPaperOf : FS := fun xs R => ∃ ls, xs = [.d (linesD ls)] ∧ LsOk ls ∧ (Feas ls → R (.d .none)) ∧ ∀ p, NoPtOk ls p → R (.d (paperP p))
def fAllLet : FS := fun xs R => ∃ (ls : List Line) (p : Rat × Rat), xs = [.d (linesD ls), .d (pt p)] ∧ LsOk ls ∧ Pb 1000 p ∧ R (.d (.bool (decide (∀ s ∈ ls, beyI s p ≤ 0))))
def fLets : FS := fun xs R => ∃ (ls : List Line) (p : Rat × Rat), xs = [.d (linesD ls), .d (pt p)] ∧ LsOk ls ∧ Feas ls ∧ Pb 1000 p ∧ R (.d (.bool (decide (∀ s ∈ ls, beyI s p ≤ 0))))
/-- the numbers of the lines that p lies on -/
def tightN (ls : List Line) (p : Rat × Rat) : List PyData := (ls.zipIdx.filter fun q => decide (beyI q.1 p = 0)).map fun q => .int (q.2 : Nat)
def fTight : FS := fun xs R => ∃ (ls : List Line) (p : Rat × Rat), xs = [.d (linesD ls), .d (pt p)] ∧ LsOk ls ∧ Feas ls ∧ Pb 1000 p ∧ R (.d (.tuple (if ∀ s ∈ ls, beyI s p ≤ 0 then tightN ls p else [])))
/-! ### certificates in the lines' order -/
theorem pairs2 : ∀ n ≤ 8, (∀ ix ∈ combsOf n 2, ∃ i j, ix = [i, j] ∧ i < j ∧ j < n) ∧ ∀ j < n, ∀ i < j, [i, j] ∈ combsOf n 2 := by
  have : ∀ n, n ≤ 8 → ((combsOf n 2).all fun ix => match ix with | [i, j] => decide (i < j) && decide (j < n) | _ => false) = true ∧ ((List.range n).all fun j => (List.range j).all fun i => (combsOf n 2).contains [i, j]) = true := by decide +kernel
  intro n hn
  obtain ⟨h1, h2⟩ := this n hn
  refine ⟨fun ix hix => ?_, fun j hj i hi => ?_⟩
  · have := List.all_eq_true.mp h1 ix hix
    match ix, this with
    | [i, j], q => simp at q; exact ⟨i, j, rfl, q.1, q.2⟩
  · have := List.all_eq_true.mp (List.all_eq_true.mp h2 j (List.mem_range.mpr hj)) i (List.mem_range.mpr hi)
    simpa using this
theorem pairs3 : ∀ n ≤ 8, (∀ ix ∈ combsOf n 3, ∃ i j k, ix = [i, j, k] ∧ i < j ∧ j < k ∧ k < n) ∧ ∀ k < n, ∀ j < k, ∀ i < j, [i, j, k] ∈ combsOf n 3 := by
  have : ∀ n, n ≤ 8 → ((combsOf n 3).all fun ix => match ix with | [i, j, k] => decide (i < j) && decide (j < k) && decide (k < n) | _ => false) = true ∧ ((List.range n).all fun k => (List.range k).all fun j => (List.range j).all fun i => (combsOf n 3).contains [i, j, k]) = true := by decide +kernel
  intro n hn
  obtain ⟨h1, h2⟩ := this n hn
  refine ⟨fun ix hix => ?_, fun k hk j hj i hi => ?_⟩
  · have := List.all_eq_true.mp h1 ix hix
    match ix, this with
    | [i, j, k], q => simp at q; exact ⟨i, j, k, rfl, q.1.1, q.1.2, q.2⟩
  · have := List.all_eq_true.mp (List.all_eq_true.mp (List.all_eq_true.mp h2 k (List.mem_range.mpr hk)) j (List.mem_range.mpr hj)) i (List.mem_range.mpr hi)
    simpa using this
/-- what paper_of keeps for some numbers of lines -/
def entW (ls : List Line) : List Nat → Option (List Int)
  | [i, j] => w2I (nthS ls i) (nthS ls j)
  | [i, j, k] => w3I (nthS ls i) (nthS ls j) (nthS ls k)
  | _ => none
def csumL (ls : List Line) (ix : List Nat) (ws : List Int) : Int := wsum ls (·.2.2) (ix.zip ws)
def isCert (ls : List Line) (ix : List Nat) : Bool := match entW ls ix with
  | none => false
  | some ws => decide (csumL ls ix ws < 0)
def allIx (n : Nat) : List (List Nat) := combsOf n 2 ++ combsOf n 3
theorem exists_cert {ls : List Line} (h : LsOk ls) (nf : ¬ Feas ls) : ∃ ix ∈ allIx ls.length, isCert ls ix = true := by
  obtain ⟨h1, h8, hs⟩ := h
  have p2 := (pairs2 ls.length h8).2
  have p3 := (pairs3 ls.length h8).2
  have at' : ∀ {l : Q3}, l ∈ ls.map lq → ∃ i, i < ls.length ∧ l = lq (nthS ls i) := fun {l} hl => by
    obtain ⟨s, hs, rfl⟩ := List.mem_map.mp hl
    obtain ⟨i, hi, e⟩ := List.mem_iff_getElem.mp hs
    exact ⟨i, hi, by rw [nthS_lt hi, e]⟩
  have ok : ∀ i, i < ls.length → LOk (nthS ls i) := fun i hi => hs _ (nthS_mem hi)
  rcases plane (ls.map lq) (fun l hl => by obtain ⟨s, hs', rfl⟩ := List.mem_map.mp hl; exact lq_nz (hs s hs')) with ⟨p, hp⟩ | ⟨l, hl, m, hm, c⟩ | ⟨l, hl, m, hm, k, hk, c⟩
  · exact absurd ⟨p, fun s hs' => sat_abv.mp (hp _ (List.mem_map_of_mem hs'))⟩ nf
  · obtain ⟨i, hi, rfl⟩ := at' hl
    obtain ⟨j, hj, rfl⟩ := at' hm
    have go2 : ∀ i j, i < j → j < ls.length → C2 (lq (nthS ls i)) (lq (nthS ls j)) → ∃ ix ∈ allIx ls.length, isCert ls ix = true := fun i j hij hj c => by
      obtain ⟨e1, e2⟩ := C2_w2 (ok i (by omega)) (ok j hj) c
      refine ⟨[i, j], List.mem_append_left _ (p2 j hj i hij), ?_⟩
      unfold isCert
      have e3 : entW ls [i, j] = _ := e1
      rw [e3]
      simp only [csumL, List.zip_cons_cons, List.zip_nil_left, wsum, decide_eq_true_eq]
      omega
    rcases Nat.lt_trichotomy i j with q | q | q
    · exact go2 i j q hj c
    · subst q; exact absurd rfl (c.ne (lq_nz (ok i hi)))
    · exact go2 j i q hi c.symm
  · obtain ⟨a, ha, rfl⟩ := at' hl
    obtain ⟨b, hb, rfl⟩ := at' hm
    obtain ⟨e, he, rfl⟩ := at' hk
    have go3 : ∀ i j k, i < j → j < k → k < ls.length → C3 (lq (nthS ls i)) (lq (nthS ls j)) (lq (nthS ls k)) → ∃ ix ∈ allIx ls.length, isCert ls ix = true := fun i j k hij hjk hk c => by
      obtain ⟨u, v, w, e1, e2⟩ := C3_w3 c
      refine ⟨[i, j, k], List.mem_append_right _ (p3 k hk j hjk i hij), ?_⟩
      unfold isCert
      have e3 : entW ls [i, j, k] = _ := e1
      rw [e3]
      simp only [csumL, List.zip_cons_cons, List.zip_nil_left, wsum, decide_eq_true_eq]
      omega
    have n1 : a ≠ b := fun z => c.ne (by rw [z])
    have n2 : b ≠ e := fun z => c.rot.ne (by rw [z])
    have n3 : e ≠ a := fun z => c.rot.rot.ne (by rw [z])
    rcases Nat.lt_or_ge a b with q1 | q1 <;> rcases Nat.lt_or_ge b e with q2 | q2 <;> rcases Nat.lt_or_ge e a with q3 | q3
    · omega
    · exact go3 a b e q1 q2 he c
    · exact go3 e a b q3 q1 hb c.rot.rot
    · exact go3 a e b (by omega) (by omega) hb c.rot.rot.swap
    · exact go3 b e a q2 q3 ha c.rot
    · exact go3 b a e (by omega) (by omega) he c.swap
    · exact go3 e b a (by omega) (by omega) ha c.rot.swap
    · omega
theorem cert_paper {ls : List Line} (h : LsOk ls) {ix : List Nat} (hi : ix ∈ allIx ls.length) {ws : List Int} (hw : entW ls ix = some ws) (hc : csumL ls ix ws < 0) : NoPtOk ls (ix.zip ws) := by
  obtain ⟨h1, h8, hs⟩ := h
  have ok : ∀ i, i < ls.length → LOk (nthS ls i) := fun i hi => hs _ (nthS_mem hi)
  rcases List.mem_append.mp hi with hi | hi
  · obtain ⟨i, j, rfl, a, b⟩ := (pairs2 ls.length h8).1 ix hi
    obtain ⟨v, w, rfl, v1, w1, z1, z2⟩ := w2_C2 (ok i (by omega)) (ok j b) hw
    exact ⟨.inl rfl, by simpa using a, by simp; omega, by simp; omega, by simp [wsum]; omega, by simp [wsum]; omega, hc⟩
  · obtain ⟨i, j, k, rfl, a, b, c⟩ := (pairs3 ls.length h8).1 ix hi
    obtain ⟨u, v, w, rfl, u1, v1, w1, z1, z2⟩ := w3_C3 hw
    exact ⟨.inr rfl, by simp; omega, by simp; omega, by simp; omega, by simp [wsum]; omega, by simp [wsum]; omega, hc⟩
theorem wsum_le {ls : List Line} {q : Rat × Rat} (hq : ∀ s ∈ ls, abv s q ≤ 0) : ∀ {p : List (Nat × Int)}, (∀ x ∈ p, x.1 < ls.length) → (∀ x ∈ p, 1 ≤ x.2) →
    ((wsum ls (·.1) p : Int) : Rat) * q.1 + ((wsum ls (·.2.1) p : Int) : Rat) * q.2 ≤ ((wsum ls (·.2.2) p : Int) : Rat)
  | [], _, _ => by simp only [wsum]; grind
  | x :: p, h1, h2 => by
    have ih := wsum_le hq (fun y hy => h1 y (List.mem_cons_of_mem _ hy)) fun y hy => h2 y (List.mem_cons_of_mem _ hy)
    have a := hq _ (nthS_mem (h1 x (List.mem_cons_self ..)))
    have b : (0 : Rat) ≤ (x.2 : Rat) := by exact_mod_cast (show (0 : Int) ≤ x.2 by have := h2 x (List.mem_cons_self ..); omega)
    have c := Rat.mul_le_mul_of_nonneg_left a b
    simp only [wsum, Rat.intCast_add, Rat.intCast_mul]
    unfold abv at c
    grind
theorem paper_none {ls : List Line} {p : List (Nat × Int)} (h : NoPtOk ls p) : ¬ Feas ls := by
  rintro ⟨q, hq⟩
  have := wsum_le hq h.lt h.pos
  rw [h.s0, h.s1] at this
  have s := h.s2
  have : (0 : Rat) ≤ ((wsum ls (·.2.2) p : Int) : Rat) := by
    have e : ((0 : Int) : Rat) = 0 := rfl
    rw [e] at this; grind
  have : (0 : Int) ≤ wsum ls (·.2.2) p := by exact_mod_cast this
  omega
end Px
namespace Px
open PySem PySem.Spec PyProof.Rows L2
theorem ix_ln {ls : List Line} {i : Nat} {R : Vl → Prop} (h : i < ls.length) : fIx (.d (linesD ls)) (.d (.int (i : Nat))) R = R (.d (lineD (nthS ls i))) := by
  unfold linesD nthS; rw [fIx_t, atI_map lineD ls (0, 0, 0) h, ex_some]
theorem ix_l0 {s : Line} {R : Vl → Prop} : fIx (.d (lineD s)) (.d (.int 0)) R = R (.d (.int s.1)) := by unfold lineD; rw [fIx_t, at_0, ex_some]
theorem ix_l1 {s : Line} {R : Vl → Prop} : fIx (.d (lineD s)) (.d (.int 1)) R = R (.d (.int s.2.1)) := by unfold lineD; rw [fIx_t, at_1, ex_some]
theorem ix_l2 {s : Line} {R : Vl → Prop} : fIx (.d (lineD s)) (.d (.int 2)) R = R (.d (.int s.2.2)) := by
  unfold lineD; rw [fIx_t]; exact ex_some ..
def entD (ls : List Line) (ix : List Nat) : PyData := .tuple [natD ix, optD (entW ls ix)]
theorem max3 {a b c m : Int} (h : isMax [a, b, c] m) : m < 0 ↔ a < 0 ∧ b < 0 ∧ c < 0 := by
  obtain ⟨h1, h2⟩ := h
  have ha := h2 a (by simp); have hb := h2 b (by simp); have hc := h2 c (by simp)
  simp only [List.mem_cons, List.not_mem_nil, or_false] at h1
  constructor
  · intro z; omega
  · rintro ⟨x, y, z⟩; rcases h1 with e | e | e <;> omega
theorem min3 {a b c m : Int} (h : isMin [a, b, c] m) : 0 < m ↔ 0 < a ∧ 0 < b ∧ 0 < c := by
  obtain ⟨h1, h2⟩ := h
  have ha := h2 a (by simp); have hb := h2 b (by simp); have hc := h2 c (by simp)
  simp only [List.mem_cons, List.not_mem_nil, or_false] at h1
  constructor
  · intro z; omega
  · rintro ⟨x, y, z⟩; rcases h1 with e | e | e <;> omega
theorem wsum_sum (ls : List Line) (f : Line → Int) : ∀ p : List (Nat × Int), (p.map fun q => f (nthS ls q.1) * q.2).sum = wsum ls f p
  | [] => rfl
  | q :: p => by rw [List.map_cons, List.sum_cons, wsum_sum ls f p]; rfl
theorem bey_sign (s : Line) (p : Rat × Rat) : (beyI s p ≤ 0 ↔ abv s p ≤ 0) ∧ (beyI s p = 0 ↔ abv s p = 0) := by
  have e := bey_q s p
  have d1 : (0 : Int) < (p.1.den : Int) * (p.2.den : Int) := Int.mul_pos (by have := p.1.den_pos; omega) (by have := p.2.den_pos; omega)
  generalize (p.1.den : Int) * (p.2.den : Int) = d at e d1
  have d2 : (0 : Rat) < (d : Rat) := by exact_mod_cast d1
  have e2 : ((beyI s p : Int) : Rat) = abv s p * (d : Rat) := by
    rw [← e, Rat.divInt_eq_div]
    have : (d : Rat) ≠ 0 := by grind
    grind
  constructor
  · constructor
    · intro h
      have h' : ((beyI s p : Int) : Rat) ≤ 0 := by exact_mod_cast h
      apply Classical.byContradiction; intro n
      have := Rat.mul_pos (Rat.not_le.mp n) d2
      grind
    · intro h
      have := Rat.mul_nonneg (show 0 ≤ -abv s p by grind) (Rat.le_of_lt d2)
      have h' : ((beyI s p : Int) : Rat) ≤ 0 := by grind
      exact_mod_cast h'
  · constructor
    · intro h
      have h' : ((beyI s p : Int) : Rat) = 0 := by rw [h]; rfl
      rw [e2] at h'
      rcases Rat.mul_eq_zero.mp h' with z | z
      · exact z
      · grind
    · intro h
      have h' : ((beyI s p : Int) : Rat) = 0 := by rw [e2, h]; grind
      exact_mod_cast h'
end Px
namespace Px
open PySem PySem.Spec PyProof.Rows L2
theorem gLen_ln {ls : List Line} {R : Vl → Prop} : gLen [.d (linesD ls)] R = R (.d (.int (ls.length : Nat))) := by
  unfold linesD gLen; simp only [List.length_map]
theorem allI_ints {α : Type} (f : α → Int) (l : List α) : allI (l.map fun x => PyData.int (f x)) = some (l.map f) := by
  rw [← allI_map (l.map f), List.map_map]; rfl
theorem allBs_bools {α : Type} (f : α → Bool) : ∀ l : List α, allBs (l.map fun x => PyData.bool (f x)) = some (l.map f)
  | [] => rfl
  | x :: l => by rw [List.map_cons, List.map_cons, allBs, allBs_bools f l]; rfl
theorem combs_len : ∀ n ≤ 8, (combsOf n 2).length ≤ 100 ∧ (combsOf n 3).length ≤ 100 := by
  have : ∀ n, n ≤ 8 → (combsOf n 2).length ≤ 100 ∧ (combsOf n 3).length ≤ 100 := by decide +kernel
  exact this
theorem allIx_len (n : Nat) (hn : n ≤ 8) : ∀ ix ∈ allIx n, ix.length = 2 ∨ ix.length = 3 := by
  intro ix hi
  rcases List.mem_append.mp hi with hi | hi
  · obtain ⟨i, j, rfl, _⟩ := (pairs2 n hn).1 ix hi; exact .inl rfl
  · obtain ⟨i, j, k, rfl, _⟩ := (pairs3 n hn).1 ix hi; exact .inr rfl
theorem ab_le {x : Int} (h : x.natAbs ≤ 1000) : ab x ≤ 1000 := by unfold ab; omega
theorem turn_bd {l m : Line} (hl : LOk l) (hm : LOk m) : Bd 30 (turnI l m) := by
  have a := (hl.b.1.mul hm.b.2.1)
  have b := (hl.b.2.1.mul hm.b.1)
  exact (a.sub b).mono (by decide)
/-- what is kept for some lines: as many weights, small ones -/
theorem ent_ok {ls : List Line} {ix : List Nat} {ws : List Int} (h : LsOk ls) (hi : ix ∈ allIx ls.length) (hw : entW ls ix = some ws) : ws.length = ix.length ∧ ∀ q ∈ ix.zip ws, q.1 < ls.length ∧ Bd 40 q.2 := by
  obtain ⟨h1, h8, hs⟩ := h
  have ok : ∀ i, i < ls.length → LOk (nthS ls i) := fun i hi => hs _ (nthS_mem hi)
  rcases List.mem_append.mp hi with hi | hi
  · obtain ⟨i, j, rfl, a, b⟩ := (pairs2 ls.length h8).1 ix hi
    have hi' : i < ls.length := by omega
    have e : w2I (nthS ls i) (nthS ls j) = some ws := hw
    unfold w2I at e
    split at e
    · cases e
    · cases e
      have o1 := ok i hi'; have o2 := ok j b
      refine ⟨rfl, fun q hq => ?_⟩
      have b1 : Bd 40 (ab (nthS ls j).1 + ab (nthS ls j).2.1) := by
        have := ab_le o2.2.1; have := ab_le o2.2.2.1; have := ab_nn (nthS ls j).1; have := ab_nn (nthS ls j).2.1
        exact Bd.of_lt (j := 3000) (by omega) (by decide)
      have b2 : Bd 40 (ab (nthS ls i).1 + ab (nthS ls i).2.1) := by
        have := ab_le o1.2.1; have := ab_le o1.2.2.1; have := ab_nn (nthS ls i).1; have := ab_nn (nthS ls i).2.1
        exact Bd.of_lt (j := 3000) (by omega) (by decide)
      simp only [List.zip_cons_cons, List.zip_nil_left, List.mem_cons, List.not_mem_nil, or_false] at hq
      rcases hq with rfl | rfl
      · exact ⟨hi', b1⟩
      · exact ⟨b, b2⟩
  · obtain ⟨i, j, k, rfl, a, b, c⟩ := (pairs3 ls.length h8).1 ix hi
    have o1 := ok i (by omega); have o2 := ok j (by omega); have o3 := ok k c
    have t1 := (turn_bd o2 o3).mono (show 30 ≤ 40 by decide)
    have t2 := (turn_bd o3 o1).mono (show 30 ≤ 40 by decide)
    have t3 := (turn_bd o1 o2).mono (show 30 ≤ 40 by decide)
    have hi' : i < ls.length := by omega
    have hj' : j < ls.length := by omega
    have e : w3I (nthS ls i) (nthS ls j) (nthS ls k) = some ws := hw
    unfold w3I at e
    split at e
    · cases e
      refine ⟨rfl, fun q hq => ?_⟩
      simp only [List.zip_cons_cons, List.zip_nil_left, List.mem_cons, List.not_mem_nil, or_false] at hq
      rcases hq with rfl | rfl | rfl
      · exact ⟨hi', t1.neg⟩
      · exact ⟨hj', t2.neg⟩
      · exact ⟨c, t3.neg⟩
    · split at e
      · cases e
        refine ⟨rfl, fun q hq => ?_⟩
        simp only [List.zip_cons_cons, List.zip_nil_left, List.mem_cons, List.not_mem_nil, or_false] at hq
        rcases hq with rfl | rfl | rfl
        · exact ⟨hi', t1⟩
        · exact ⟨hj', t2⟩
        · exact ⟨c, t3⟩
      · cases e
theorem zip_paper : ∀ {ix : List Nat} {ws : List Int}, PyData.tuple (zipD (ix.map fun (x : Nat) => .int (x : Nat)) (ws.map .int)) = paperP (ix.zip ws)
  | [], _ => by simp [zipD, paperP]
  | _ :: _, [] => by simp [zipD, paperP]
  | x :: ix, w :: ws => by
    have := zip_paper (ix := ix) (ws := ws)
    simp only [paperP, PyData.tuple.injEq] at this ⊢
    simp only [List.map_cons, List.zip_cons_cons, zipD, List.zipWith_cons_cons] at this ⊢
    rw [this]
end Px

set_option Elab.async false
set_option linter.all false
set_option maxRecDepth 100000
set_option maxHeartbeats 4000000
set_option exponentiation.threshold 10000
/-! W11: what the laws of shapes draw and reckon: sides, meetings, feet, corners, marks. -/
namespace Px
open PySem PySem.Spec PyProof.Rows L2
theorem loop_overX {α : Type} {fg : FG} {fb : FStX} {N : SEn} {EX : En → Bad → Prop} (f : α → Vl) (l : List α) (I : Nat → En → Prop)
    (st : ∀ (i : Nat) (h : i < l.length) (ρ : En) (L : En → Prop), (∀ ρ', I (i + 1) ρ' → L ρ') → I i ρ → fg (f l[i]) ρ fun ρ' => fb ρ' { nx := L, rt := N.rt, bk := N.nx, ct := L } EX)
    (z : ∀ ρ, I l.length ρ → N.nx ρ) (ρ : En) (h : I 0 ρ) : loopX fg fb N EX (l.map f) ρ := by
  have key : ∀ (k i : Nat) (ρ : En), l.length - i = k → i ≤ l.length → I i ρ → loopX fg fb N EX ((l.drop i).map f) ρ := by
    intro k
    induction k with
    | zero =>
      intro i ρ hk hi h
      have e : l.drop i = [] := List.drop_eq_nil_of_le (by omega)
      have e2 : i = l.length := by omega
      rw [e]
      subst e2
      exact z ρ h
    | succ k ih =>
      intro i ρ hk hi h
      have hlt : i < l.length := by omega
      rw [List.drop_eq_getElem_cons hlt]
      exact st i hlt ρ _ (fun ρ' h' => ih (i + 1) ρ' (by omega) hlt h') h
  exact key l.length 0 ρ (by omega) (Nat.zero_le _) h
theorem lc_filter {α : Type} {fg : FG} {ft : FT} {fe : FE} {ρ : En} (f : α → Vl) (b : α → Bool) (g : α → PyData) : ∀ (l : List α) (acc : List PyData) (R : List PyData → Prop),
    (∀ a ∈ l, ∀ (T : Vl → Prop) (T' : Prop), (if b a = true then T (.d (g a)) else T') → fg (f a) ρ fun ρ2 => ft ρ2 fun b => if b = true then fe ρ2 T else T') → R (acc ++ (l.filter b).map g) → lcF fg ft fe ρ (l.map f) acc R
  | [], acc, R, _, h => by
    show R acc
    simpa using h
  | a :: l, acc, R, st, h => by
    refine st a (by simp) (fun y => match y with | .d d => lcF fg ft fe ρ (l.map f) (acc ++ [d]) R | _ => False) _ ?_
    by_cases c : b a = true
    · rw [if_pos c]
      show lcF fg ft fe ρ (l.map f) (acc ++ [g a]) R
      refine lc_filter f b g l (acc ++ [g a]) R (fun y hy => st y (List.mem_cons_of_mem _ hy)) ?_
      simpa [c] using h
    · rw [if_neg c]
      refine lc_filter f b g l acc R (fun y hy => st y (List.mem_cons_of_mem _ hy)) ?_
      simpa [c] using h
def meetI (l m : Line) : Rat × Rat := (Rat.divInt (l.2.2 * m.2.1 - l.2.1 * m.2.2) (turnI l m), Rat.divInt (l.1 * m.2.2 - l.2.2 * m.1) (turnI l m))
def sizeI (s : Line) : Int := s.1 * s.1 + s.2.1 * s.2.1
def footQ (s : Line) (p : Rat × Rat) : Rat × Rat := pAdd p (pMul ((s.1 : Rat), (s.2.1 : Rat)) (abv s p / ((-sizeI s : Int) : Rat)))
def hit (ls : List Line) (p : Rat × Rat) : Prop := ∀ s ∈ ls, abv s p ≤ 0
theorem meetI_eq (l m : Line) : meetI l m = meet (lq l) (lq m) := by
  unfold meetI meet
  rw [crs_turn, Rat.divInt_eq_div, Rat.divInt_eq_div]
  unfold lq
  simp only [Rat.intCast_sub, Rat.intCast_mul]
theorem int_sqp {a : Int} (h : a ≠ 0) : 0 < a * a := by
  rcases Int.lt_or_gt_of_ne h with c | c
  · exact Int.mul_pos_of_neg_of_neg c c
  · exact Int.mul_pos c c
theorem size_pos {s : Line} (h : LOk s) : 0 < sizeI s := by
  unfold sizeI
  have a := int_sq s.1; have b := int_sq s.2.1
  rcases h.1 with n | n
  · have := int_sqp n; omega
  · have := int_sqp n; omega
theorem foot_eq {s : Line} (h : LOk s) : footQ s (0, 0) = foot (lq s) := by
  have p := size_pos h
  have p2 : ((sizeI s : Int) : Rat) ≠ 0 := by
    intro e
    have : sizeI s = 0 := by exact_mod_cast e
    omega
  have e : (lq s).1 * (lq s).1 + (lq s).2.1 * (lq s).2.1 = ((sizeI s : Int) : Rat) := by
    unfold lq sizeI; simp only [Rat.intCast_add, Rat.intCast_mul]
  unfold foot
  rw [e]
  have q : abv s (0, 0) / ((-sizeI s : Int) : Rat) = (lq s).2.2 / ((sizeI s : Int) : Rat) := by
    have a : abv s (0, 0) = -(lq s).2.2 := by unfold abv lq; simp only; grind
    rw [a, Rat.intCast_neg]
    grind
  unfold footQ pAdd pMul
  rw [q]
  unfold lq
  simp only
  ext <;> grind
theorem size_b {s : Line} (h : LOk s) : Bd 25 (-sizeI s) := by
  have a := h.b.1.mul h.b.1
  have b := h.b.2.1.mul h.b.2.1
  exact ((a.add b).mono (by decide)).neg
theorem foot_b {s : Line} {p : Rat × Rat} {n : Nat} (h : LOk s) (hp : Pb n p) : Fb (64 + 4 * n) (abv s p / ((-sizeI s : Int) : Rat)) ∧ Pb (10 + (64 + 4 * n)) (pMul ((s.1 : Rat), (s.2.1 : Rat)) (abv s p / ((-sizeI s : Int) : Rat))) ∧ Pb (n + (74 + 4 * n) + 1) (footQ s p) := by
  have a := (fb_abv h.b hp (by decide)).mono (show 3 * 10 + 2 * n + 2 ≤ 32 + 2 * n by omega)
  have b := (fb_int (size_b h) (by decide)).mono (show 25 ≤ 32 + 2 * n by omega)
  have ne : ((-sizeI s : Int) : Rat) ≠ 0 := by
    intro e
    have := size_pos h
    have : -sizeI s = 0 := by exact_mod_cast e
    omega
  have c := (a.div b ne).mono (show 32 + 2 * n + (32 + 2 * n) ≤ 64 + 4 * n by omega)
  have f1 := (fb_int h.b.1 (by decide)).mul c
  have f2 := (fb_int h.b.2.1 (by decide)).mul c
  have pm : Pb (10 + (64 + 4 * n)) (pMul ((s.1 : Rat), (s.2.1 : Rat)) (abv s p / ((-sizeI s : Int) : Rat))) := ⟨f1, f2⟩
  exact ⟨c, pm, (hp.add2 pm).mono (by omega)⟩
theorem meet_b {l m : Line} (hl : LOk l) (hm : LOk m) (h : turnI l m ≠ 0) : Pb 25 (meetI l m) := by
  have t := (turn_bd hl hm)
  have t' : Bd 25 (turnI l m) := by
    have a := hl.b.1.mul hm.b.2.1
    have b := hl.b.2.1.mul hm.b.1
    exact (a.sub b).mono (by decide)
  have a1 : Bd 25 (l.2.2 * m.2.1 - l.2.1 * m.2.2) := ((hl.b.2.2.mul hm.b.2.1).sub (hl.b.2.1.mul hm.b.2.2)).mono (by decide)
  have a2 : Bd 25 (l.1 * m.2.2 - l.2.2 * m.1) := ((hl.b.1.mul hm.b.2.2).sub (hl.b.2.2.mul hm.b.1)).mono (by decide)
  exact ⟨Fb.red h a1 t', Fb.red h a2 t'⟩
def fInside : FS := fun xs R => ∃ (ls : List Line) (p : Rat × Rat), xs = [.d (linesD ls), .d (pt p)] ∧ LsOk ls ∧ Pb 1000 p ∧ R (.d (.bool (decide (∀ s ∈ ls, abv s p ≤ 0))))
def fMeet : FS := fun xs R => ∃ l m : Line, xs = [.d (lineD l), .d (lineD m)] ∧ LOk l ∧ LOk m ∧ R (.d (if turnI l m = 0 then .none else pt (meetI l m)))
def fFoot : FS := fun xs R => ∃ (s : Line) (p : Rat × Rat) (n : Nat), xs = [.d (lineD s), .d (pt p)] ∧ LOk s ∧ Pb n p ∧ n ≤ 300 ∧ R (.d (pt (footQ s p)))
def fCorners : FS := fun xs R => ∃ ls : List Line, xs = [.d (linesD ls)] ∧ LsOk ls ∧ ∀ ps : List (Rat × Rat), ps.length ≤ 64 → (∀ p ∈ ps, hit ls p ∧ Pb 25 p) → ((∃ l ∈ ls, ∃ m ∈ ls, turnI l m ≠ 0 ∧ hit ls (meetI l m)) → ps ≠ []) → R (.d (.list (ps.map pt)))
def fMarks : FS := fun xs R => ∃ ls : List Line, xs = [.d (linesD ls)] ∧ LsOk ls ∧ ∀ ps : List (Rat × Rat), ps.length ≤ 72 → (∀ p ∈ ps, hit ls p ∧ Pb 100 p) → (Feas ls ↔ ps ≠ []) → R (.d (.list (ps.map pt)))
def fWhere : FS := fun xs R => xs = [.st, .d (.int 4)] ∧ ∀ p : Rat × Rat, Pb 20 p → R (.d (pt p))
def fLoose : FS := fun xs R => ∃ n : Int, xs = [.st, .d (.int n)] ∧ 1 ≤ n ∧ n ≤ 8 ∧ ∀ ls, LsOk ls → R (.d (linesD ls))
def fSides : FS := fun xs R => ∃ n : Int, xs = [.st, .d (.int n), .d (.int 3)] ∧ 1 ≤ n ∧ n ≤ 8 ∧ ∀ ls, LsOk ls → R (.d (linesD ls))
def fHeard : FS := fun xs R => ∃ ls : List Line, xs = [.d (linesD ls)] ∧ LsOk ls ∧ (Feas ls → R (.d (.tuple [.str "is", linesD ls]))) ∧ (¬ Feas ls → R (.d (.tuple [.str "bad", .tuple [], .bool true])))
def fPtsRight : FS := fun xs R => ∃ ls : List Line, xs = [.st, .d (linesD ls)] ∧ LsOk ls ∧ Feas ls ∧ R (.d (.bool true))
/-- marks: what a corner or a foot tells -/
theorem feas_marks {ls : List Line} (h : LsOk ls) : Feas ls ↔ (∃ l ∈ ls, ∃ m ∈ ls, turnI l m ≠ 0 ∧ hit ls (meetI l m)) ∨ ∃ s ∈ ls, hit ls (footQ s (0, 0)) := by
  obtain ⟨h1, h8, hs⟩ := h
  constructor
  · rintro ⟨p, hp⟩
    have h0 : 0 < ls.length := by omega
    have e0 : ls[0] ∈ ls := List.getElem_mem h0
    rcases mark (S := ls.map lq) (h := lq ls[0]) (p := p) (fun l hl => by obtain ⟨s, hs', rfl⟩ := List.mem_map.mp hl; exact lq_nz (hs s hs')) (List.mem_map_of_mem e0)
      (fun l hl => by obtain ⟨s, hs', rfl⟩ := List.mem_map.mp hl; exact sat_abv.mpr (hp s hs')) with ⟨l, hl, m, hm, c, q⟩ | ⟨l, hl, q⟩
    · obtain ⟨a, ha, rfl⟩ := List.mem_map.mp hl
      obtain ⟨b, hb, rfl⟩ := List.mem_map.mp hm
      refine .inl ⟨a, ha, b, hb, fun z => c (by rw [crs_turn, z]; rfl), fun s hs' => ?_⟩
      rw [meetI_eq]
      exact sat_abv.mp (q _ (List.mem_map_of_mem hs'))
    · obtain ⟨a, ha, rfl⟩ := List.mem_map.mp hl
      refine .inr ⟨a, ha, fun s hs' => ?_⟩
      rw [foot_eq (hs a ha)]
      exact sat_abv.mp (q _ (List.mem_map_of_mem hs'))
  · rintro (⟨l, _, m, _, _, q⟩ | ⟨s, _, q⟩)
    · exact ⟨_, q⟩
    · exact ⟨_, q⟩
end Px

set_option Elab.async false
set_option linter.all false
set_option maxRecDepth 100000
set_option maxHeartbeats 2000000
/-! Px: x in own list, x not in own list. -/
namespace Px
open PySem PySem.Spec PyProof.Rows L2
def opIn (neg : Bool) : CmpOp := if neg then .NotIn else .In
def rInO (neg : Bool) (K : Fg) : R2 := if neg then rNotInD K else rInD K
def gInO (neg : Bool) (R : Vl → Prop) (xs : List PyData) : Vl → Prop
  | .d d => SeqAt.shaped d = true ∧ SeqAt.shaped (.list xs) = true ∧ R (.d (.bool (neg ^^ xs.any fun z => PyData.eqv z d)))
  | _ => False
section
variable {F : Fm} {a b : Expr} {na : Nat} {fa : FE} {pos : Pos} {x : Str}
theorem oInO (neg : Bool) (i) : OpR (F.X i) (compareOp (opIn neg)) (rInO neg F.K) := by
  have hu : (F.X i).A.units + 65 < cLine := by have := (F.room i).un; omega
  cases neg
  · have h := op_inD (X := F.X i) hu
    rw [F.eK i] at h
    exact h
  · have h := op_notInD (X := F.X i) hu
    rw [F.eK i] at h
    exact h
theorem e_inOwn (neg : Bool) (i : Nat) {p' : Pos} (ha : Ee F a na fa) (hm : behindInMarks (opIn neg) (.Name x p') = false := by first | exact nomark _ | rfl) (hN : F.N[i]? = some x := by rfl) (hv : ∀ j, Vis (F.X j).env.scope x := by intro _; first | exact .inl rfl | exact .inr (.inl rfl))
    (hd : (x == ("__debug__" : Str)) = false := by decide) (hcd : (x == ("__classdict__" : Str)) = false := by decide) :
    Ee F (.Compare a [opIn neg] [.Name x p'] pos) na (fun ρ R => fa ρ fun v => ownAt i ρ fun xs => gInO neg R xs v) := by
  obtain ⟨ta, pa, sa⟩ := ha
  refine ⟨_, fun j => pe_cmpR (oInO neg j) (pa j) (pe_var (by rw [F.eN]; exact hN) (hv j) hd hcd) hm, fun C σ ρ H R Q hm' G hf k => sa C σ ρ H _ _ hm' G hf fun v H1 y m l u t1 oy hy => ?_⟩
  obtain ⟨xs, e0, hf'⟩ := ownAt_of hy
  have G1 := G.tr t1
  obtain ⟨q, vs, h1, h2, h3, h4, h5⟩ := G1.ow i xs e0
  refine ⟨_, h1, ?_⟩
  match y, oy, hf' with
  | .d d, oy, hf' =>
    obtain ⟨s1, s2, hR⟩ := hf'
    have d1 : Dp F.K.fg H1 v d := (Rd.mono mask_le oy).dp
    have d2 : Dp F.K.fg H1 (.ref q) (.list xs) := .lst (SqL.of h2) (h3.mono mask_le).dp
    cases neg
    · exact ⟨d, xs, d1, d2, s1, s2, k _ H1 (.d (.bool _)) m l u t1 (Rd.bl _) (by simpa using hR)⟩
    · exact ⟨d, xs, d1, d2, s1, s2, k _ H1 (.d (.bool _)) m l u t1 (Rd.bl _) (by simpa using hR)⟩
theorem t_inOwn (neg : Bool) (i : Nat) {p' : Pos} (ha : Ee F a na fa) (hm : behindInMarks (opIn neg) (.Name x p') = false := by first | exact nomark _ | rfl) (hN : F.N[i]? = some x := by rfl) (hv : ∀ j, Vis (F.X j).env.scope x := by intro _; first | exact .inl rfl | exact .inr (.inl rfl))
    (hd : (x == ("__debug__" : Str)) = false := by decide) (hcd : (x == ("__classdict__" : Str)) = false := by decide) :
    Et F (.Compare a [opIn neg] [.Name x p'] pos) na (fun ρ R => fa ρ fun v => ownAt i ρ fun xs => gInO neg (asB R) xs v) := by
  obtain ⟨ta, pa, sa⟩ := ha
  refine ⟨_, fun j => pt_cmpR (oInO neg j) (pa j) (pe_var (by rw [F.eN]; exact hN) (hv j) hd hcd) hm, st_test (f := fun ρ R => fa ρ fun v => ownAt i ρ fun xs => gInO neg R xs v) fun C σ ρ H R Q hm' G hf k => sa C σ ρ H _ _ hm' G hf fun v H1 y m l u t1 oy hy => ?_⟩
  obtain ⟨xs, e0, hf'⟩ := ownAt_of hy
  have G1 := G.tr t1
  obtain ⟨q, vs, h1, h2, h3, h4, h5⟩ := G1.ow i xs e0
  refine ⟨_, h1, ?_⟩
  match y, oy, hf' with
  | .d d, oy, hf' =>
    obtain ⟨s1, s2, hR⟩ := hf'
    have d1 : Dp F.K.fg H1 v d := (Rd.mono mask_le oy).dp
    have d2 : Dp F.K.fg H1 (.ref q) (.list xs) := .lst (SqL.of h2) (h3.mono mask_le).dp
    cases neg
    · exact ⟨d, xs, d1, d2, s1, s2, k _ H1 (.d (.bool _)) m l u t1 (Rd.bl _) (by simpa using hR)⟩
    · exact ⟨d, xs, d1, d2, s1, s2, k _ H1 (.d (.bool _)) m l u t1 (Rd.bl _) (by simpa using hR)⟩
end
end Px

set_option Elab.async false
set_option linter.all false
set_option maxRecDepth 100000
set_option maxHeartbeats 4000000
/-! W12: one of a list or a tuple. -/
namespace Px
open PySem PySem.Spec PyProof.Rows L2
def ofArg : List Vl → Option (List PyData)
  | [.st, .d (.list ds)] => some ds
  | [.st, .d (.tuple ds)] => some ds
  | _ => none
theorem ofArg_of {xs : List Vl} {ds : List PyData} (h : ofArg xs = some ds) : xs = [.st, .d (.list ds)] ∨ xs = [.st, .d (.tuple ds)] := by
  unfold ofArg at h
  split at h
  · cases h; exact .inl rfl
  · cases h; exact .inr rfl
  · cases h
def fOfB : FS := fun xs R => ∃ ds : List PyData, ofArg xs = some ds ∧ 0 < ds.length ∧ ds.length < 1000 ∧ ∀ x ∈ ds, R (.d x)
theorem side_ok {c : Cell} {a b r : Int} (hc : CellOk c) (h0 : a ≠ 0 ∨ b ≠ 0) (a1 : -3 ≤ a) (a2 : a ≤ 3) (b1 : -3 ≤ b) (b2 : b ≤ 3) (r1 : 0 ≤ r) (r2 : r ≤ 9) : LOk (a, b, a * c.1 + b * c.2 + r) := by
  obtain ⟨⟨c1, c2⟩, c3, c4⟩ := hc
  have m : ∀ {x y : Int}, -3 ≤ x → x ≤ 3 → -100 ≤ y → y ≤ 100 → -300 ≤ x * y ∧ x * y ≤ 300 := fun {x y} h1 h2 h3 h4 => by
    have : x = -3 ∨ x = -2 ∨ x = -1 ∨ x = 0 ∨ x = 1 ∨ x = 2 ∨ x = 3 := by omega
    rcases this with rfl | rfl | rfl | rfl | rfl | rfl | rfl <;> omega
  have m1 := m a1 a2 c1 c2
  have m2 := m b1 b2 c3 c4
  exact ⟨h0, by show a.natAbs ≤ 1000; omega, by show b.natAbs ≤ 1000; omega, by show (a * c.1 + b * c.2 + r).natAbs ≤ 1000; omega⟩
theorem fq_ix0 {q : Rat} {R : Vl → Prop} : fIx (.d (fq q)) (.d (.int 0)) R = R (.d (.int q.num)) := by unfold fq; rw [fIx_t, at_0, ex_some]
theorem cq_b10 {s : Line} (h : LOk s) : Pb 10 (cq (s.1, s.2.1)) := ⟨fb_int h.b.1 (by decide), fb_int h.b.2.1 (by decide)⟩
/-- corners found so far -/
structure CornI (ls : List Line) (ps : List (Rat × Rat)) (n : Nat) (dn : List (Line × Line)) : Prop where
  len : ps.length ≤ n
  good : ∀ p ∈ ps, hit ls p ∧ Pb 25 p
  ne : ∀ x ∈ dn, turnI x.1 x.2 ≠ 0 → hit ls (meetI x.1 x.2) → ps ≠ []
theorem cornI_nil {ls : List Line} {n : Nat} : CornI ls [] n [] := ⟨Nat.zero_le _, fun _ h => (nomatch h), fun _ h => (nomatch h)⟩
theorem CornI.le {ls : List Line} {ps : List (Rat × Rat)} {n m : Nat} {dn : List (Line × Line)} (h : CornI ls ps n dn) (l : n ≤ m) : CornI ls ps m dn := ⟨Nat.le_trans h.len l, h.good, h.ne⟩
theorem CornI.skip {ls : List Line} {ps : List (Rat × Rat)} {n : Nat} {dn : List (Line × Line)} {x : Line × Line} (h : CornI ls ps n dn) (hx : turnI x.1 x.2 ≠ 0 → hit ls (meetI x.1 x.2) → ps ≠ []) : CornI ls ps (n + 1) (dn ++ [x]) :=
  ⟨Nat.le_succ_of_le h.len, h.good, fun y hy a b => by
    rcases List.mem_append.mp hy with hy | hy
    · exact h.ne y hy a b
    · rw [List.mem_singleton.mp hy] at a b; exact hx a b⟩
theorem CornI.put {ls : List Line} {ps : List (Rat × Rat)} {n : Nat} {dn : List (Line × Line)} {x : Line × Line} {p : Rat × Rat} (h : CornI ls ps n dn) (hp : hit ls p ∧ Pb 25 p) : CornI ls (ps ++ [p]) (n + 1) (dn ++ [x]) :=
  ⟨by rw [List.length_append]; exact Nat.succ_le_succ h.len, fun q hq => by
    rcases List.mem_append.mp hq with hq | hq
    · exact h.good q hq
    · rw [List.mem_singleton.mp hq]; exact hp, fun _ _ _ _ => by simp⟩
theorem num_posq (q : Rat) : 0 < q.num ↔ 0 < q := by
  have h := Rat.num_nonneg (q := -q)
  rw [Rat.neg_num] at h
  constructor
  · intro c
    apply Classical.byContradiction; intro n
    have : 0 ≤ -q := by have := Rat.not_lt.mp n; grind
    have := h.mpr this
    omega
  · intro c
    apply Classical.byContradiction; intro n
    have : 0 ≤ -q := h.mp (by omega)
    grind
theorem cut_pts (ps : List (Rat × Rat)) (a b : Option Int) : ∃ qs : List (Rat × Rat), cutD (ps.map pt) a b = qs.map pt ∧ qs.length ≤ ps.length ∧ ∀ q ∈ qs, q ∈ ps := by
  unfold cutD
  rw [← List.map_drop, ← List.map_take]
  refine ⟨_, rfl, ?_, fun q hq => List.mem_of_mem_drop (List.mem_of_mem_take hq)⟩
  rw [List.length_take, List.length_drop]
  omega
def tightQ (ls : List Line) (p : Rat × Rat) : List PyData := (ls.zipIdx.filter fun q => decide (abv q.1 p = 0)).map fun q => .int (q.2 : Nat)
theorem tight_eq (ls : List Line) (p : Rat × Rat) : tightN ls p = tightQ ls p := by
  unfold tightN tightQ
  have : (fun q : Line × Nat => decide (beyI q.1 p = 0)) = fun q => decide (abv q.1 p = 0) := by
    funext q; rw [decide_eq_decide]; exact (bey_sign q.1 p).2
  rw [this]
theorem let_eq (ls : List Line) (p : Rat × Rat) : (∀ s ∈ ls, beyI s p ≤ 0) ↔ ∀ s ∈ ls, abv s p ≤ 0 :=
  ⟨fun h s hs => (bey_sign s p).1.mp (h s hs), fun h s hs => (bey_sign s p).1.mpr (h s hs)⟩
theorem pts_lay : ∀ ps : List (Rat × Rat), PyData.canLayAll0 (ps.map pt) = true ∧ PyData.depthAll (ps.map pt) ≤ 2
  | [] => ⟨rfl, Nat.zero_le _⟩
  | p :: ps => by
    obtain ⟨a, b⟩ := pts_lay ps
    have c : PyData.canLay0 (pt p) = true := rfl
    have d : PyData.depth (pt p) = 2 := rfl
    refine ⟨?_, ?_⟩
    · simp only [List.map_cons, PyData.canLayAll0, a, c, Bool.and_self]
    · simp only [List.map_cons, PyData.depthAll, d]; omega
theorem shaped_pts (ps : List (Rat × Rat)) : SeqAt.shaped (.list (ps.map pt)) = true := by
  obtain ⟨a, b⟩ := pts_lay ps
  simp [SeqAt.shaped, PyData.canLay0, PyData.depth, a]
  omega
theorem any_pts (X : Rat × Rat) : ∀ ps : List (Rat × Rat), ((ps.map pt).any fun z => PyData.eqv z (pt X)) = decide (X ∈ ps)
  | [] => rfl
  | p :: ps => by
    rw [List.map_cons, List.any_cons, any_pts X ps, eqv_pt, ← Bool.decide_or, decide_eq_decide, List.mem_cons]
    exact ⟨fun h => h.imp (·.symm) id, fun h => h.imp (·.symm) id⟩
theorem asE_ln {ls : List Line} {Q : List Vl → Prop} : asE Q [.d (linesD ls)] = Q (ls.zipIdx.map fun p => .d (.tuple [.int (p.2 : Nat), lineD p.1])) := by unfold linesD; rw [asE_t, enumD_map]
theorem nat_okIs : ∀ l : List (Line × Nat), (∀ q ∈ l, q.2 ≤ 8) → okIs (l.map fun q => .int (q.2 : Nat)) = true ∧ nodsA (l.map fun q => .int (q.2 : Nat)) = l.length ∧ PyData.depthAll (l.map fun q => .int (q.2 : Nat)) = 0
  | [], _ => ⟨rfl, rfl, rfl⟩
  | q :: l, h => by
    obtain ⟨a, b, c⟩ := nat_okIs l fun x hx => h x (List.mem_cons_of_mem _ hx)
    have h0 := h q (List.mem_cons_self ..)
    refine ⟨?_, ?_, ?_⟩
    · simp only [List.map_cons, okIs, okI, a, Bool.and_true, decide_eq_true_eq]
      exact Nat.lt_of_le_of_lt (show ((q.2 : Nat) : Int).natAbs ≤ 8 by omega) (by decide +kernel)
    · simp only [List.map_cons, nodsA, nods, b, List.length_cons]; omega
    · simp only [List.map_cons, PyData.depthAll, PyData.depth, c]; rfl
theorem shw_tight {ls : List Line} (h8 : ls.length ≤ 8) (p : Rat × Rat) (b : Bool) : shw (.list [.bool b, .tuple (tightQ ls p)]) := by
  have hl : (ls.zipIdx.filter fun q => decide (abv q.1 p = 0)).length ≤ 8 := Nat.le_trans (List.length_filter_le _ _) (by rw [List.length_zipIdx]; exact h8)
  obtain ⟨x, y, z⟩ := nat_okIs (ls.zipIdx.filter fun q => decide (abv q.1 p = 0)) fun q hq => by
    have := (List.mem_filter.mp hq).1
    have := List.mem_zipIdx this
    omega
  unfold tightQ
  refine ⟨?_, ?_, ?_⟩
  · simp only [okI, okIs, x, Bool.and_true]
  · simp only [nods, nodsA, y]; omega
  · simp only [PyData.depth, PyData.depthAll, z]; decide
theorem shw_out (b : Bool) : shw (.list [.bool b, .tuple []]) := by
  cases b <;> exact ⟨by decide +kernel, by decide +kernel, by decide +kernel⟩
end Px

set_option Elab.async false
set_option linter.all false
set_option maxRecDepth 100000
set_option maxHeartbeats 4000000
set_option exponentiation.threshold 10000
/-! W13: what is shown of lines. -/
namespace Px
open PySem PySem.Spec PyProof.Rows L2
theorem fEq_pts {ps : List (Rat × Rat)} {R : Vl → Prop} : fEq true (.d (.list (ps.map pt))) (.d (.list [])) R = R (.d (.bool (!decide (ps = [])))) := by
  have u : fEq true (.d (.list (ps.map pt))) (.d (.list [])) R = (SeqAt.shaped (.list (ps.map pt)) = true ∧ SeqAt.shaped (.list []) = true ∧ R (.d (.bool (true ^^ PyData.eqv (.list (ps.map pt)) (.list []))))) := rfl
  have s2 : SeqAt.shaped (.list []) = true := rfl
  rw [u, shaped_pts, s2]
  cases ps with
  | nil =>
    have e : PyData.eqv (.list (([] : List (Rat × Rat)).map pt)) (.list []) = true := rfl
    rw [e]; simp
  | cons p ps =>
    have e : PyData.eqv (.list ((p :: ps).map pt)) (.list []) = false := rfl
    rw [e]; simp
theorem lines_okIs : ∀ ls : List Line, (∀ s ∈ ls, LOk s) → okIs (ls.map lineD) = true ∧ nodsA (ls.map lineD) = 4 * ls.length ∧ PyData.depthAll (ls.map lineD) ≤ 1
  | [], _ => ⟨rfl, rfl, Nat.zero_le _⟩
  | s :: ls, h => by
    obtain ⟨a, b, c⟩ := lines_okIs ls fun x hx => h x (List.mem_cons_of_mem _ hx)
    obtain ⟨_, h1, h2, h3⟩ := h s (List.mem_cons_self ..)
    have k : ∀ {x : Int}, x.natAbs ≤ 1000 → decide (x.natAbs < 10 ^ 500) = true := fun {x} hx => by
      rw [decide_eq_true_eq]; exact Nat.lt_of_le_of_lt hx (by decide +kernel)
    refine ⟨?_, ?_, ?_⟩
    · simp only [List.map_cons, okIs, okI, lineD, a, k h1, k h2, k h3, Bool.and_true]
    · simp only [List.map_cons, nodsA, nods, lineD, b, List.length_cons]; omega
    · simp only [List.map_cons, PyData.depthAll, PyData.depth, lineD]; omega
theorem shw_is {ls : List Line} (h : LsOk ls) : shw (.tuple [.str "is", linesD ls]) := by
  obtain ⟨a, b, c⟩ := lines_okIs ls h.2.2
  have h8 := h.2.1
  have s : okI (.str "is") = true := by decide +kernel
  unfold linesD
  refine ⟨?_, ?_, ?_⟩
  · have e : okI (.tuple [.str "is", .tuple (ls.map lineD)]) = (okI (.str "is") && (okIs (ls.map lineD) && true)) := rfl
    rw [e, s, a]; rfl
  · simp only [nods, nodsA, b]; omega
  · simp only [PyData.depth, PyData.depthAll]; omega
theorem shw_bad : shw (.tuple [.str "bad", .tuple [], .bool true]) := ⟨by decide +kernel, by decide +kernel, by decide +kernel⟩
def cornerL : List Line := [(2, 0, 1), (0, 2, 1)]
theorem corner_ok : LsOk cornerL := ⟨by decide, by decide, fun s hs => by
  simp only [cornerL, List.mem_cons, List.not_mem_nil, or_false] at hs
  rcases hs with rfl | rfl
  · exact ⟨by decide, by decide, by decide, by decide⟩
  · exact ⟨by decide, by decide, by decide, by decide⟩⟩
theorem corner_feas : Feas cornerL := ⟨(0, 0), by decide +kernel⟩
end Px
namespace Px
open PySem PySem.Spec PyProof.Rows L2
def qH : Rat := ⟨1, 2, by decide, by decide⟩
def q0 : Rat := ⟨0, 1, by decide, by decide⟩
def q1 : Rat := ⟨1, 1, by decide, by decide⟩
theorem let1 : decide (∀ s ∈ cornerL, beyI s (qH, q0) ≤ 0) = true := by decide +kernel
theorem let2 : (if ∀ s ∈ cornerL, beyI s (qH, q0) ≤ 0 then tightN cornerL (qH, q0) else []) = [.int 0] := by rw [if_pos (by decide +kernel)]; rfl
theorem let3 : (if ∀ s ∈ cornerL, beyI s (q1, qH) ≤ 0 then tightN cornerL (q1, qH) else []) = [] := by rw [if_neg (by decide +kernel)]
theorem let4 : (if ∀ s ∈ cornerL, beyI s (qH, qH) ≤ 0 then tightN cornerL (qH, qH) else []) = [.int 0, .int 1] := by rw [if_pos (by decide +kernel)]; rfl
theorem pbH (a b : Rat) (ha : a.num.natAbs ≤ 2 ∧ a.den ≤ 2) (hb : b.num.natAbs ≤ 2 ∧ b.den ≤ 2) : Pb 1000 (a, b) := by
  have w : ∀ {n : Nat}, n ≤ 2 → n < 2 ^ 1000 := fun {n} h => Nat.lt_of_lt_of_le (show n < 2 ^ 2 by omega) (Nat.pow_le_pow_right (by decide) (by decide))
  exact ⟨⟨w ha.1, w ha.2⟩, ⟨w hb.1, w hb.2⟩⟩
end Px

set_option Elab.async false
set_option linter.all false
set_option maxRecDepth 100000
set_option maxHeartbeats 4000000
/-! PxTop: what the program's top leaves: defs, constants. -/
namespace Px
open PySem PySem.Spec PyProof.Rows L2
theorem lo_mkD {K : Fg} {h : Heap} {mg : Str → Option Value} {x : Str} {st : Stmt} {f : Addr} {oc kV dc pm cd ct : Value} {od an : Option Addr} {sl : Array (Option Value)} (X : K.In h) (G : h.Ns mainGlobals mg) (a : PySem.W.nsIn K mainGlobals x = some (some (.ref f)))
    (l : K.lookup f = some ⟨oc, od, .func (PySem.W.fnOf x x (defArgs st) (defBody st) (defScope st) .none kV dc pm an cd ct), sl⟩) (c : PySem.W.codeIn K cd x = true) (k : PySem.W.keepIn K (.ref f) = true) : LoD K mg x st := ⟨f, _, PySem.W.mg_of X G a, fun_mk l c k⟩
theorem int_mk {K : Fg} {h : Heap} {mg : Str → Option Value} {x : Str} {n : Int} {t : Tok} (X : K.In h) (G : h.Ns mainGlobals mg) (a : PySem.W.nsIn K mainGlobals x = some (some (.int n t))) : Cn K mg x (.int n) := ⟨.int n, _, PySem.W.mg_of X G a, ⟨t, rfl⟩, fun M => .int n⟩
/-- a tuple of ints, as the top has written it -/
def IsInts (o : Obj) (ns : List Int) : Prop := o.cls = .type "tuple" ∧ ∃ its n, o.data = .seq its n ∧ its.size ≤ sizeLine ∧ Vals (ns.map V.int) its.toList
theorem rda_ints {K : Fg} {M : Hp} : ∀ ns : List Int, RdA K M (ns.map V.int) (ns.map PyData.int)
  | [] => .nil
  | n :: ns => .cons (.int n) (rda_ints ns)
theorem ints_mk {K : Fg} {h : Heap} {mg : Str → Option Value} {x : Str} {f : Addr} {o : Obj} {ns : List Int} (X : K.In h) (G : h.Ns mainGlobals mg) (a : PySem.W.nsIn K mainGlobals x = some (some (.ref f))) (l : K.lookup f = some o) (z : IsInts o ns) : Cn K mg x (.tuple (ns.map .int)) := by
  obtain ⟨h1, its, n, h2, h3, h4⟩ := z
  exact ⟨.ref f, _, PySem.W.mg_of X G a, rfl, fun M => .tup (.inr ⟨o, its, n, l, h1, h2, h3, h4⟩) (rda_ints ns)⟩
def ObjI (K : Fg) (a : Addr) (ns : List Int) : Prop := ∃ o its n, K.lookup a = some o ∧ o.cls = .type "tuple" ∧ o.data = .seq its n ∧ its.size ≤ sizeLine ∧ Vals (ns.map V.int) its.toList
theorem obj_mk {K : Fg} {a : Addr} {o : Obj} {ns : List Int} (l : K.lookup a = some o) (z : IsInts o ns) : ObjI K a ns := by
  obtain ⟨h1, its, n, h2, h3, h4⟩ := z
  exact ⟨o, its, n, l, h1, h2, h3, h4⟩
theorem obj_rd {K : Fg} {a : Addr} {M : Hp} {ns : List Int} (h : ObjI K a ns) : Rd K M (.ref a) (.tuple (ns.map .int)) := by
  obtain ⟨o, its, n, l, h1, h2, h3, h4⟩ := h
  exact .tup (.inr ⟨o, its, n, l, h1, h2, h3, h4⟩) (rda_ints ns)
/-- a tuple of two tuples of ints -/
def IsTwo (K : Fg) (o : Obj) (ns ms : List Int) : Prop := o.cls = .type "tuple" ∧ ∃ its n, ∃ a b : Addr, o.data = .seq its n ∧ its.size ≤ sizeLine ∧ Vals [.ref a, .ref b] its.toList ∧ ObjI K a ns ∧ ObjI K b ms
theorem two_mk {K : Fg} {h : Heap} {mg : Str → Option Value} {x : Str} {f : Addr} {o : Obj} {ns ms : List Int} (X : K.In h) (G : h.Ns mainGlobals mg) (a : PySem.W.nsIn K mainGlobals x = some (some (.ref f))) (l : K.lookup f = some o) (z : IsTwo K o ns ms) : Cn K mg x (.tuple [.tuple (ns.map .int), .tuple (ms.map .int)]) := by
  obtain ⟨h1, its, n, p, q, h2, h3, h4, h5, h6⟩ := z
  exact ⟨.ref f, _, PySem.W.mg_of X G a, rfl, fun M => .tup (.inr ⟨o, its, n, l, h1, h2, h3, h4⟩) (.cons (obj_rd h5) (.cons (obj_rd h6) .nil))⟩
/-! ### the state is made -/
theorem ints_of : ∀ ds : List PyData, (∀ d ∈ ds, ∃ i : Int, d = .int i) → ∃ ls : List Int, ds = ls.map .int
  | [], _ => ⟨[], rfl⟩
  | d :: ds, h => by
    obtain ⟨i, rfl⟩ := h d (by simp)
    obtain ⟨ls, rfl⟩ := ints_of ds fun e he => h e (List.mem_cons_of_mem _ he)
    exact ⟨i :: ls, rfl⟩
end Px

set_option Elab.async false
set_option linter.all false
set_option maxRecDepth 100000
set_option maxHeartbeats 4000000
set_option exponentiation.threshold 10000
namespace K06
local macro_rules | `(tactic| walk_at "px") => `(tactic| simp only [Px.rd, Px.ownAt, Px.frz, Px.fAdd, Px.fSub, Px.fMul, Px.fFdiv, Px.fMod, Px.fPow, Px.fRel, Px.fEq_int, Px.fEq_str, Px.fEq_bool, Px.fEq_fq, Px.fIs, Px.fIsTy, Px.fIx_l, Px.fIx_t, Px.ix0, Px.ix1, Px.at_0, Px.at_1, Px.at_2, Px.at_3, Px.at_4, Px.ex_some, Px.fSl, Px.gLen, Px.gAbs, Px.gInt, Px.gTuple, Px.gList, Px.gGcd, Px.gSum, Px.gMax, Px.gMin, Px.gAll, Px.gAny, Px.gRepr, Px.gTy, Px.tyOf, Px.asB, Px.asTru, Px.truD, Px.asNeg, Px.asI, Px.asL, Px.asT, Px.asS, Px.asR1, Px.asR2, Px.asZ, Px.asZM, Px.asRg, Px.asRgI, Px.blkE, Px.wipeE, Px.unown, Px.asS, Px.asE, Px.asTwo, Px.asApp, Px.allD, Px.gNm, Px.isNon, Px.isSt, Px.pick,
  List.map_cons, List.map_nil, List.length_cons, List.length_nil, List.length_set, List.replicate_succ, List.replicate_zero, List.cons_append, List.nil_append, List.append_nil, List.getElem?_cons_zero, List.getD_cons_zero, List.getD_cons_succ, List.getElem?_cons_succ, List.set_cons_zero, List.set_cons_succ, Nat.reduceAdd, Nat.reduceSub, Nat.reduceLT, Nat.reduceLeDiff, Nat.zero_add, Nat.mul_zero, Nat.add_zero, eq_self, Nat.sub_self, true_and, and_true, true_or, if_true, Bool.false_eq_true, if_false, ne_eq, not_false_eq_true, Nat.zero_lt_succ, Nat.lt_add_one, Nat.succ_lt_succ_iff])
local macro_rules | `(tactic| walk_at "pz") => `(tactic| simp only [Px.at_last, Px.fKind_eq, Px.fPair_eq, Px.fIsFr_eq, Px.fRow_eq, Px.fWithin_eq, Px.fmOf_mg, Px.isFr_fq, Px.isTy, decide_true, Bool.not_true, Bool.not_false, Bool.and_true, Bool.true_and, Bool.false_and, Bool.and_false, Bool.or_false, Bool.or_true, Px.px0, Px.px1, Px.fNeedPt_eq, Px.fNeedFr_eq, Px.isSt, List.length_append, List.getElem?_map, and_self, Px.map_d, Px.pairs_map, Px.enumD_map, Px.rd, Px.ownAt, Px.frz, Px.fAdd, Px.fSub, Px.fMul, Px.fFdiv, Px.fMod, Px.fPow, Px.fRel, Px.fEq_int, Px.fEq_str, Px.fEq_bool, Px.fEq_fq, Px.fIs, Px.fIsTy, Px.fIx_l, Px.fIx_t, Px.ix0, Px.ix1, Px.at_0, Px.at_1, Px.at_2, Px.at_3, Px.at_4, Px.ex_some, Px.fSl, Px.gLen_l, Px.gLen_t, Px.gLen_tab, Px.gLen_row, Px.gLen_sh, Px.asS_tab, Px.asS_row, Px.asS_sh, Px.asE_tab, Px.asE_row, Px.asE_sh, Px.asZ_tab, Px.asZ_row, Px.ix_tab0, Px.ix_c0, Px.ix_c1, Px.gAbs, Px.gInt, Px.gTuple_l, Px.gTuple_t, Px.gList_l, Px.gList_t, Px.gGcd, Px.gSum, Px.gMax, Px.gMin, Px.gAll, Px.gAny, Px.gRepr, Px.gTy, Px.tyOf, Px.asB, Px.asTru, Px.truD, Px.asNeg, Px.asI, Px.asL, Px.asT, Px.asS_l, Px.asS_t, Px.asR1, Px.asR2, Px.asZ, Px.asZ_ll, Px.asZ_tt, Px.asZ_lt, Px.asRg, Px.asRgI, Px.blkE, Px.wipeE, Px.unown, Px.asE_l, Px.asE_t, Px.asTwo, Px.asApp, Px.allD, Px.gNm, Px.isNon, Px.isSt, Px.pick,
  List.map_cons, List.map_nil, List.length_cons, List.length_nil, List.length_set, List.replicate_succ, List.replicate_zero, List.cons_append, List.nil_append, List.append_nil, List.getElem?_cons_zero, List.getD_cons_zero, List.getD_cons_succ, List.getElem?_cons_succ, List.set_cons_zero, List.set_cons_succ, Nat.reduceAdd, Nat.reduceSub, Nat.reduceLT, Nat.reduceLeDiff, Nat.zero_add, Nat.mul_zero, Nat.add_zero, eq_self, Nat.sub_self, true_and, and_true, true_or, if_true, Bool.false_eq_true, if_false, ne_eq, not_false_eq_true, Nat.zero_lt_succ, Nat.lt_add_one, Nat.succ_lt_succ_iff])
open PySem PySem.Spec PyProof.Rows L2 Px
def topS (i : Nat) : Stmt := PySem.Challenge.pw_withinshapes_k06_whole_shapes_and_what_t.main.body.getD i (.Pass ⟨0, 0, 0, 0⟩)
abbrev Lo := Px.LoD
section
variable {P : Program} {w : World} {K : Kx} {fg : Fg} {d c l : Addr} {nC : Nat} {mg : Str → Option Value} {base : Heap}

abbrev s_is_int : Stmt := topS 7
theorem sc_is_int : FnScope ["value"] ["value"] (defScope s_is_int) := ⟨rfl, rfl, rfl, by decide +kernel, rfl, by decide +kernel, by decide +kernel⟩
theorem bp_is_int : BindP "is_int" s_is_int ["value"] := fun _ _ _ _ _ _ us hl => match us, hl with | [_], _ => rfl
abbrev DD_is_int (P : Program) (w : World) (K : Kx) (mg : Str → Option Value) (base : Heap) : Prop := Df P w K mg base "is_int" s_is_int ["value"] 1 0 (fKind "int")
theorem ok_is_int (Lf : Lo K mg "is_int" s_is_int) (m_type : mg "type" = none) (m_int : mg "int" = none) : DD_is_int P w K mg base := by
  obtain ⟨fa, fd, hm, Fu⟩ := Lf
  refine ⟨fa, fd, fn_make Fu sc_is_int (by decide) fun cd A outer s H E hr hg => ⟨_, _, ?_, (ss_cons (s_ret (e_cmp oIsTy sIsTy (e_callT cTy sTy m_type (by decide +kernel) (a_cons (nm 0) a_nil)) (e_ty "int" m_int (by decide +kernel))))
    ss_nil), fun xs R hl h => ?_⟩, hm, Fu⟩
  · exact Nat.le_of_ble_eq_true rfl
  · obtain ⟨x, rfl, q⟩ := h
    try (walk_at "px")
    exact q
abbrev s_is_tuple : Stmt := topS 9
theorem sc_is_tuple : FnScope ["value"] ["value"] (defScope s_is_tuple) := ⟨rfl, rfl, rfl, by decide +kernel, rfl, by decide +kernel, by decide +kernel⟩
theorem bp_is_tuple : BindP "is_tuple" s_is_tuple ["value"] := fun _ _ _ _ _ _ us hl => match us, hl with | [_], _ => rfl
abbrev DD_is_tuple (P : Program) (w : World) (K : Kx) (mg : Str → Option Value) (base : Heap) : Prop := Df P w K mg base "is_tuple" s_is_tuple ["value"] 1 0 (fKind "tuple")
theorem ok_is_tuple (Lf : Lo K mg "is_tuple" s_is_tuple) (m_type : mg "type" = none) (m_tuple : mg "tuple" = none) : DD_is_tuple P w K mg base := by
  obtain ⟨fa, fd, hm, Fu⟩ := Lf
  refine ⟨fa, fd, fn_make Fu sc_is_tuple (by decide) fun cd A outer s H E hr hg => ⟨_, _, ?_, (ss_cons (s_ret (e_cmp oIsTy sIsTy (e_callT cTy sTy m_type (by decide +kernel) (a_cons (nm 0) a_nil)) (e_ty "tuple" m_tuple (by decide +kernel))))
    ss_nil), fun xs R hl h => ?_⟩, hm, Fu⟩
  · exact Nat.le_of_ble_eq_true rfl
  · obtain ⟨x, rfl, q⟩ := h
    try (walk_at "px")
    exact q
abbrev s_is_row : Stmt := topS 10
theorem sc_is_row : FnScope ["value", "least", "most"] ["value", "least", "most"] (defScope s_is_row) := ⟨rfl, rfl, rfl, by decide +kernel, rfl, by decide +kernel, by decide +kernel⟩
theorem bp_is_row : BindP "is_row" s_is_row ["value", "least", "most"] := fun _ _ _ _ _ _ us hl => match us, hl with | [_, _, _], _ => rfl
abbrev DD_is_row (P : Program) (w : World) (K : Kx) (mg : Str → Option Value) (base : Heap) : Prop := Df P w K mg base "is_row" s_is_row ["value", "least", "most"] 2 0 fRow
theorem ok_is_row (Lf : Lo K mg "is_row" s_is_row) (m_len : mg "len" = none) (D_is_tuple : DD_is_tuple P w K mg base) : DD_is_row P w K mg base := by
  obtain ⟨fa, fd, hm, Fu⟩ := Lf
  refine ⟨fa, fd, fn_make Fu sc_is_row (by decide) fun cd A outer s H E hr hg => ⟨_, _, ?_, (ss_cons (s_ret (e_and (e_def D_is_tuple bp_is_tuple (a_cons (nm 0) a_nil)) (e_one (e_chain oLe sRel oLe sRel (nm 1) (e_callB cLen sLen m_len (by decide +kernel) (a_cons (nm 0) a_nil)) (nm 2)))))
    ss_nil), fun xs R hl h => ?_⟩, hm, Fu⟩
  · exact Nat.le_of_ble_eq_true rfl
  · obtain ⟨x, l, m, rfl, q⟩ := h
    try (walk_at "px")
    refine ⟨x, rfl, ?_⟩
    cases x with
    | tuple xs =>
      simp only [isTy, tyOf, asB, isRow] at q ⊢
      try (walk_at "px")
      by_cases z : l ≤ (xs.length : Int)
      · simpa [z] using q
      · simpa [z] using q
    | _ => simpa [isTy, tyOf, asB, isRow] using q
abbrev s_is_pair : Stmt := topS 11
theorem sc_is_pair : FnScope ["value"] ["value"] (defScope s_is_pair) := ⟨rfl, rfl, rfl, by decide +kernel, rfl, by decide +kernel, by decide +kernel⟩
theorem bp_is_pair : BindP "is_pair" s_is_pair ["value"] := fun _ _ _ _ _ _ us hl => match us, hl with | [_], _ => rfl
abbrev DD_is_pair (P : Program) (w : World) (K : Kx) (mg : Str → Option Value) (base : Heap) : Prop := Df P w K mg base "is_pair" s_is_pair ["value"] 3 0 fPair
theorem ok_is_pair (Lf : Lo K mg "is_pair" s_is_pair) (D_is_row : DD_is_row P w K mg base) : DD_is_pair P w K mg base := by
  obtain ⟨fa, fd, hm, Fu⟩ := Lf
  refine ⟨fa, fd, fn_make Fu sc_is_pair (by decide) fun cd A outer s H E hr hg => ⟨_, _, ?_, (ss_cons (s_ret (e_def D_is_row bp_is_row (a_cons (nm 0) (a_cons e_int (a_cons e_int a_nil)))))
    ss_nil), fun xs R hl h => ?_⟩, hm, Fu⟩
  · exact Nat.le_of_ble_eq_true rfl
  · obtain ⟨x, rfl, q⟩ := h
    try (walk_at "px")
    exact ⟨x, 2, 2, rfl, q⟩
abbrev s_is_fraction : Stmt := topS 13
theorem sc_is_fraction : FnScope ["value", "above", "below"] ["value"] (defScope s_is_fraction) := ⟨rfl, rfl, rfl, by decide +kernel, rfl, by decide +kernel, by decide +kernel⟩
theorem bp_is_fraction : BindP "is_fraction" s_is_fraction ["value"] := fun _ _ _ _ _ _ us hl => match us, hl with | [_], _ => rfl
abbrev DD_is_fraction (P : Program) (w : World) (K : Kx) (mg : Str → Option Value) (base : Heap) : Prop := Df P w K mg base "is_fraction" s_is_fraction ["value"] 4 0 fIsFr
theorem ok_is_fraction (Lf : Lo K mg "is_fraction" s_is_fraction) (m_gcd : mg "gcd" = some (.builtin "math.gcd")) (D_is_pair : DD_is_pair P w K mg base) (D_is_int : DD_is_int P w K mg base) : DD_is_fraction P w K mg base := by
  obtain ⟨fa, fd, hm, Fu⟩ := Lf
  refine ⟨fa, fd, fn_make Fu sc_is_fraction (by decide) fun cd A outer s H E hr hg => ⟨_, _, ?_, (ss_cons (s_if (t_not (t_val (e_def D_is_pair bp_is_pair (a_cons (nm 0) a_nil)))) (ss_cons (s_ret e_bool)
    ss_nil) ss_nil)
    (ss_cons (s_unp (g_tup (gs_cons (tn 1) (gs_cons (tn 2) gs_nil)) rfl fun c h => pg_tup c h) (nm 0))
    (ss_cons (s_if (t_w (w_or (t_not (t_val (e_def D_is_int bp_is_int (a_cons (nm 1) a_nil)))) (w_one2 (t_not (t_val (e_def D_is_int bp_is_int (a_cons (nm 2) a_nil))))))) (ss_cons (s_ret e_bool)
    ss_nil) ss_nil)
    (ss_cons (s_ret (e_and (e_cmp oGe sRel (nm 2) e_int) (e_one (e_cmp oEq sEq (e_callL cGcd sGcd m_gcd (a_cons (nm 1) (a_cons (nm 2) a_nil))) e_int))))
    ss_nil)))), fun xs R hl h => ?_⟩, hm, Fu⟩
  · exact Nat.le_of_ble_eq_true rfl
  · obtain ⟨x, rfl, q⟩ := h
    try (walk_at "px")
    refine ⟨x, rfl, ?_⟩
    cases z : isRow x 2 2 with
    | false => rw [isFr_pair z] at q; simpa [asTru, truD] using q
    | true =>
      obtain ⟨a, b, rfl⟩ := pair_row z
      simp only [asTru, truD, Bool.not_true, Bool.false_eq_true, if_false]
      try (walk_at "px")
      refine ⟨a, rfl, ?_⟩
      cases a with
      | int a =>
        simp only [isTy, tyOf, asTru, truD]
        try (walk_at "px")
        simp only [decide_true, Bool.not_true, Bool.false_eq_true, if_false]
        refine ⟨b, rfl, ?_⟩
        cases b with
        | int b =>
          simp only [isTy, tyOf, asTru, truD]
          try (walk_at "px")
          simp only [decide_true, Bool.not_true, Bool.false_eq_true, if_false]
          try (walk_at "px")
          simp only [isFr] at q
          by_cases z1 : 1 ≤ b
          · simpa [z1] using q
          · simpa [z1] using q
        | _ => simpa [isTy, tyOf, asTru, truD, isFr] using q
      | _ => simpa [isTy, tyOf, asTru, truD, isFr] using q
abbrev s__law_mixed : Stmt := topS 33
theorem sc__law_mixed : FnScope ["cell", "k"] ["cell", "k"] (defScope s__law_mixed) := ⟨rfl, rfl, rfl, by decide +kernel, rfl, by decide +kernel, by decide +kernel⟩
theorem bp__law_mixed : BindP "_law_mixed" s__law_mixed ["cell", "k"] := fun _ _ _ _ _ _ us hl => match us, hl with | [_, _], _ => rfl
abbrev DD__law_mixed (P : Program) (w : World) (K : Kx) (mg : Str → Option Value) (base : Heap) : Prop := Df P w K mg base "_law_mixed" s__law_mixed ["cell", "k"] 1 0 fMixed
theorem ok__law_mixed (Lf : Lo K mg "_law_mixed" s__law_mixed) (m_int : mg "int" = none) : DD__law_mixed P w K mg base := by
  obtain ⟨fa, fd, hm, Fu⟩ := Lf
  refine ⟨fa, fd, fn_make Fu sc__law_mixed (by decide) fun cd A outer s H E hr hg => ⟨_, _, ?_, (ss_cons (s_set 0 rfl (e_bin oMod sMod (e_callT cInt sInt m_int (by decide +kernel) (a_cons (nm 0) a_nil)) e_int))
    (ss_cons (s_ret (e_bin oMod sMod (e_bin oMul sMul (e_bin oMod sMod (e_bin oAdd sAdd (e_bin oAdd sAdd (e_bin oMul sMul (nm 0) (e_bin oAdd sAdd e_int (e_bin oMul sMul (e_bin oMul sMul e_int (nm 1)) (nm 1)))) (e_bin oMul sMul e_int (nm 1))) e_int) e_int) e_int) e_int))
    ss_nil)), fun xs R hl h => ?_⟩, hm, Fu⟩
  · exact Nat.le_of_ble_eq_true rfl
  · obtain ⟨a, k, rfl, hk, q⟩ := h
    have c1 : Bd 31 (a.fmod 2147483647) := Bd.fmod (Bd.lit (by decide)) (by decide)
    have c2 : Bd 8300 (48271 + 2 * k * k) := ((Bd.lit (n := 8299) (by decide)).add (Bd.mono (((Bd.lit (n := 2) (i := 2) (by decide)).mul hk).mul hk) (by decide)))
    have c3 : Bd 31 ((a.fmod 2147483647 * (48271 + 2 * k * k) + 69621 * k + 11).fmod 2147483647) := Bd.fmod (Bd.lit (by decide)) (by decide)
    have c4 := fmod_rng (i := ((a.fmod 2147483647 * (48271 + 2 * k * k) + 69621 * k + 11).fmod 2147483647 * 69621)) (j := 2147483629) (by decide)
    try (walk_at "px")
    exact ⟨by decide, (Bd.lit (n := 2) (by decide)).ok hk (by decide) (by decide) (by decide), ((Bd.lit (n := 2) (i := 2) (by decide)).mul hk).ok hk (by decide) (by decide) (by decide), c1.ok c2 (by decide) (by decide) (by decide),
      (Bd.lit (n := 17) (by decide)).ok hk (by decide) (by decide) (by decide), by decide, c3.ok (Bd.lit (n := 17) (by decide)) (by decide) (by decide) (by decide), by decide, q _ c4.1 c4.2⟩
abbrev s__law_draw : Stmt := topS 35
theorem sc__law_draw : FnScope ["state_so", "limit", "at", "spot", "left", "mixed"] ["state_so", "limit"] (defScope s__law_draw) := ⟨rfl, rfl, rfl, by decide +kernel, rfl, by decide +kernel, by decide +kernel⟩
theorem bp__law_draw : BindP "_law_draw" s__law_draw ["state_so", "limit"] := fun _ _ _ _ _ _ us hl => match us, hl with | [_, _], _ => rfl
abbrev DD__law_draw (P : Program) (w : World) (fg : Fg) (d c l : Addr) (nC : Nat) (mg : Str → Option Value) (base : Heap) : Prop := Df P w (stK fg d c l nC) mg base "_law_draw" s__law_draw ["state_so", "limit"] 2 1 fDraw
theorem ok__law_draw (Lf : Lo fg mg "_law_draw" s__law_draw) (hC : 0 < nC ∧ nC ≤ 1000) (m_int : mg "int" = none) (m_len : mg "len" = none) (D__law_mixed : DD__law_mixed P w (stK fg d c l nC) mg base) : DD__law_draw P w fg d c l nC mg base := by
  obtain ⟨fa, fd, hm, Fu⟩ := Lf
  refine ⟨fa, fd, fn_make Fu sc__law_draw (by decide) fun cd A outer s H E hr hg => ⟨_, _, ?_, (ss_tick rfl 0 2 (by decide) rfl rfl (e_bin oAdd sAdd (nm 2) e_int)
    (ss_cons (s_set 3 rfl (e_bin oMod sMod (e_callT cInt sInt m_int (by decide +kernel) (a_cons (nm 2) a_nil)) (e_stLen rfl m_len 0)))
    (ss_cons (s_set 4 rfl (e_stIx (.inr rfl) rfl 0 (nm 3)))
    (ss_cons (s_if (t_cmp oGt sRel (nm 4) e_int) (ss_cons (s_stPut rfl 0 rfl (nm 3) (e_bin oFdiv sFdiv (nm 4) (nm 1)))
    (ss_cons (s_ret (e_bin oMod sMod (e_callT cInt sInt m_int (by decide +kernel) (a_cons (nm 4) a_nil)) (nm 1)))
    ss_nil)) ss_nil)
    (ss_cons (s_set 5 rfl (e_def D__law_mixed bp__law_mixed (a_cons (e_def D__law_mixed bp__law_mixed (a_cons (e_stIx (.inl rfl) rfl 0 (nm 3)) (a_cons (nm 2) a_nil))) (a_cons (e_bin oAdd sAdd e_int (nm 2)) a_nil))))
    (ss_cons (s_ret (e_bin oMod sMod (e_bin oFdiv sFdiv (e_callT cInt sInt m_int (by decide +kernel) (a_cons (e_bin oAdd sAdd (e_bin oMul sMul (nm 5) e_int) (e_def D__law_mixed bp__law_mixed (a_cons (nm 5) (a_cons (e_bin oAdd sAdd e_int (nm 2)) a_nil)))) a_nil)) e_int) (nm 1)))
    ss_nil)))))), fun xs R hl h => ?_⟩, hm, Fu⟩
  · exact Nat.le_of_ble_eq_true rfl
  · obtain ⟨n, rfl, h1, hn, q⟩ := h
    have nz : (nC : Int) ≠ 0 := by omega
    have sp : ∀ k : Nat, 0 ≤ (k : Int).fmod nC ∧ (k : Int).fmod nC < nC := fun k => fmod_rng (by omega)
    have dn : ∀ i : Int, CDivA i n := fun i => ⟨by omega, Nat.lt_trans (hn.log (by decide)) (by decide)⟩
    have kb : ∀ k : Nat, k ≤ lim → Bd 4001 (k : Int) := fun k h => Nat.lt_of_le_of_lt h (Nat.pow_lt_pow_right (by decide) (by decide))
    try (walk_at "px")
    intro k hk
    refine ⟨nz, _, rfl, (sp k).1, (sp k).2, fun z => ?_⟩
    have fin : ∀ z : Int, R (.d (.int (z.fmod n))) := fun z => q _ (fmod_rng (by omega)).1 (fmod_rng (by omega)).2
    have b1 : Bd 4100 ((k : Nat) : Int) := (kb k hk).mono (by decide)
    have b2 : Bd 4100 (40 + (k : Int)) := ((Bd.lit (n := 4001) (by decide)).add (kb k hk)).mono (by decide)
    have b3 : Bd 4100 (7 + (k : Int)) := ((Bd.lit (n := 4001) (by decide)).add (kb k hk)).mono (by decide)
    split
    · exact ⟨dn z, _, rfl, _, rfl, (sp k).1, (sp k).2, by omega, fin z⟩
    · refine ⟨_, rfl, (sp k).1, (sp k).2, fun z => ⟨_, _, rfl, b1, fun r _ _ => ⟨_, _, rfl, b2, fun r2 h3 h4 => ?_⟩⟩⟩
      try (walk_at "px")
      have b4 : Bd 31 r2 := by unfold Bd; omega
      refine ⟨b4.ok (Bd.lit (n := 31) (by decide)) (by decide) (by decide) (by decide), _, _, rfl, b3, fun r3 _ _ => ?_⟩
      try (walk_at "px")
      exact ⟨div_lit, by omega, fin _⟩
abbrev s__law_of : Stmt := topS 36
theorem sc__law_of : FnScope ["state_so", "some"] ["state_so", "some"] (defScope s__law_of) := ⟨rfl, rfl, rfl, by decide +kernel, rfl, by decide +kernel, by decide +kernel⟩
theorem bp__law_of : BindP "_law_of" s__law_of ["state_so", "some"] := fun _ _ _ _ _ _ us hl => match us, hl with | [_, _], _ => rfl
abbrev DD__law_of (P : Program) (w : World) (fg : Fg) (d c l : Addr) (nC : Nat) (mg : Str → Option Value) (base : Heap) : Prop := Df P w (stK fg d c l nC) mg base "_law_of" s__law_of ["state_so", "some"] 3 1 fOfB
theorem ok__law_of (Lf : Lo fg mg "_law_of" s__law_of) (m_len : mg "len" = none) (D__law_draw : DD__law_draw P w fg d c l nC mg base) : DD__law_of P w fg d c l nC mg base := by
  obtain ⟨fa, fd, hm, Fu⟩ := Lf
  refine ⟨fa, fd, fn_make Fu sc__law_of (by decide) fun cd A outer s H E hr hg => ⟨_, _, ?_, (ss_cons (s_ret (e_ix oIx sIx (nm 1) (e_def D__law_draw bp__law_draw (a_cons (nm 0) (a_cons (e_callB cLen sLen m_len (by decide +kernel) (a_cons (nm 1) a_nil)) a_nil)))))
    ss_nil), fun xs R hl h => ?_⟩, hm, Fu⟩
  · exact Nat.le_of_ble_eq_true rfl
  · obtain ⟨xs, e, h1, h2, q⟩ := h
    rcases ofArg_of e with rfl | rfl
    all_goals
      try (walk_at "px")
      refine ⟨_, rfl, by omega, Nat.lt_trans (show _ < 2 ^ 10 by omega) (Nat.pow_lt_pow_right (by decide) (by decide)), fun k h3 h4 => ?_⟩
      try (walk_at "px")
      obtain ⟨n, rfl⟩ := Int.eq_ofNat_of_zero_le h3
      have hn : n < xs.length := by omega
      exact ⟨xs[n], by rw [atI_nat hn]; simp [hn], q _ (List.getElem_mem hn)⟩
abbrev s__law_divisor : Stmt := topS 37
theorem sc__law_divisor : FnScope ["one", "other", "step"] ["one", "other"] (defScope s__law_divisor) := ⟨rfl, rfl, rfl, by decide +kernel, rfl, by decide +kernel, by decide +kernel⟩
theorem bp__law_divisor : BindP "_law_divisor" s__law_divisor ["one", "other"] := fun _ _ _ _ _ _ us hl => match us, hl with | [_, _], _ => rfl
abbrev DD__law_divisor (P : Program) (w : World) (K : Kx) (mg : Str → Option Value) (base : Heap) : Prop := Df P w K mg base "_law_divisor" s__law_divisor ["one", "other"] 1 0 fGcd
theorem ok__law_divisor (Lf : Lo K mg "_law_divisor" s__law_divisor) (m_abs : mg "abs" = none) (m_range : mg "range" = none) : DD__law_divisor P w K mg base := by
  obtain ⟨fa, fd, hm, Fu⟩ := Lf
  refine ⟨fa, fd, fn_make Fu sc__law_divisor (by decide) fun cd A outer s H E hr hg => ⟨_, _, ?_, (ss_cons (s_par 0 1 rfl rfl (by decide) (a_cons (e_callB cAbs sAbs m_abs (by decide +kernel) (a_cons (nm 0) a_nil)) (a_cons (e_callB cAbs sAbs m_abs (by decide +kernel) (a_cons (nm 1) a_nil)) a_nil)) fun pa => ps_par (by rfl) sc__law_divisor.nd rfl rfl (by decide) rfl rfl pa (by rfl))
    (ss_cons (s_for (i_rng1 m_range (a_cons e_int a_nil)) (tn 2) (ss_cons (s_if (t_cmp oEq sEq (nm 1) e_int) (ss_cons (s_ret (nm 0))
    ss_nil) ss_nil)
    (ss_cons (s_par 0 1 rfl rfl (by decide) (a_cons (nm 1) (a_cons (e_bin oMod sMod (nm 0) (nm 1)) a_nil)) fun pa => ps_par (by rfl) sc__law_divisor.nd rfl rfl (by decide) rfl rfl pa (by rfl))
    ss_nil)))
    (ss_cons (s_ret (nm 0))
    ss_nil))), fun xs R hl h => ?_⟩, hm, Fu⟩
  · exact Nat.le_of_ble_eq_true rfl
  · obtain ⟨a, b, rfl, hb, q⟩ := h
    try (walk_at "px")
    refine forty fun k0 hk0 hk1 => ?_
    have hlen := ir_len (k := k0) (n := Int.toNat 100000) (by omega)
    generalize irange 0 (Int.toNat 100000) = items at hlen ⊢
    rw [abs_nat, abs_nat]
    refine ⟨by decide, by decide, ?_⟩
    refine loop_down (fun k ρ => ∃ (A B : Nat) (s : Sl), ρ = [.v (.d (.int A)), .v (.d (.int B)), s] ∧ Nat.gcd A B = Nat.gcd a.natAbs b.natAbs ∧ eu k A B) ?_ (fun ρ h => let ⟨_, _, _, _, _, h⟩ := h; h) items _ k0 hlen ?_
    rotate_left
    · exact ⟨a.natAbs, b.natAbs, _, rfl, rfl, eu_go hb (Nat.le_trans (Nat.le_of_ble_eq_true rfl) hk0)⟩
    intro k x ρ L hL hI
    obtain ⟨A, B, s, rfl, hg, he⟩ := hI
    try (walk_at "px")
    by_cases z : B = 0
    · subst z
      rw [if_pos (by simp)]
      rw [Nat.gcd_zero_right] at hg
      rw [hg]
      exact q
    · rw [if_neg (by simp; omega)]
      refine ⟨by omega, hL _ ⟨B, A % B, _, by rw [fmod_nat], ?_, he.resolve_left z⟩⟩
      rw [Nat.gcd_comm, ← Nat.gcd_rec, Nat.gcd_comm]
      exact hg
abbrev s__law_share : Stmt := topS 38
theorem sc__law_share : FnScope ["above", "below", "told"] ["above", "below"] (defScope s__law_share) := ⟨rfl, rfl, rfl, by decide +kernel, rfl, by decide +kernel, by decide +kernel⟩
theorem bp__law_share : BindP "_law_share" s__law_share ["above", "below"] := fun _ _ _ _ _ _ us hl => match us, hl with | [_, _], _ => rfl
abbrev DD__law_share (P : Program) (w : World) (K : Kx) (mg : Str → Option Value) (base : Heap) : Prop := Df P w K mg base "_law_share" s__law_share ["above", "below"] 2 0 fRed
theorem ok__law_share (Lf : Lo K mg "_law_share" s__law_share) (D__law_divisor : DD__law_divisor P w K mg base) : DD__law_share P w K mg base := by
  obtain ⟨fa, fd, hm, Fu⟩ := Lf
  refine ⟨fa, fd, fn_make Fu sc__law_share (by decide) fun cd A outer s H E hr hg => ⟨_, _, ?_, (ss_cons (s_set 2 rfl (e_def D__law_divisor bp__law_divisor (a_cons (nm 0) (a_cons (nm 1) a_nil))))
    (ss_cons (s_set 2 rfl (e_if (t_cmp oGt sRel (nm 1) e_int) (nm 2) (e_neg (nm 2))))
    (ss_cons (s_ret (e_tup (a_cons (e_bin oFdiv sFdiv (nm 0) (nm 2)) (a_cons (e_bin oFdiv sFdiv (nm 1) (nm 2)) a_nil))))
    ss_nil))), fun xs R hl h => ?_⟩, hm, Fu⟩
  · exact Nat.le_of_ble_eq_true rfl
  · obtain ⟨a, b, rfl, h0, hb, q⟩ := h
    have d1 := div_ok (a := a) h0 hb
    rw [← red_fq h0] at q
    try (walk_at "px")
    refine ⟨_, _, rfl, hb.mono (by decide), ?_⟩
    try (walk_at "px")
    by_cases z : b < 0
    · have e : sg a b = -((Nat.gcd a.natAbs b.natAbs : Nat) : Int) := if_pos z
      rw [e] at d1 q
      have z' : ¬ 0 < b := by omega
      simp only [z', decide_false, Bool.false_eq_true, if_false]
      try (walk_at "px")
      exact ⟨d1 a, d1 b, q⟩
    · have e : sg a b = ((Nat.gcd a.natAbs b.natAbs : Nat) : Int) := if_neg z
      rw [e] at d1 q
      have z' : 0 < b := by omega
      simp only [z', decide_true, if_true]
      try (walk_at "px")
      exact ⟨d1 a, d1 b, q⟩
abbrev s__law_plus : Stmt := topS 39
theorem sc__law_plus : FnScope ["one", "other"] ["one", "other"] (defScope s__law_plus) := ⟨rfl, rfl, rfl, by decide +kernel, rfl, by decide +kernel, by decide +kernel⟩
theorem bp__law_plus : BindP "_law_plus" s__law_plus ["one", "other"] := fun _ _ _ _ _ _ us hl => match us, hl with | [_, _], _ => rfl
abbrev DD__law_plus (P : Program) (w : World) (K : Kx) (mg : Str → Option Value) (base : Heap) : Prop := Df P w K mg base "_law_plus" s__law_plus ["one", "other"] 3 0 fPlus
theorem ok__law_plus (Lf : Lo K mg "_law_plus" s__law_plus) (D__law_share : DD__law_share P w K mg base) : DD__law_plus P w K mg base := by
  obtain ⟨fa, fd, hm, Fu⟩ := Lf
  refine ⟨fa, fd, fn_make Fu sc__law_plus (by decide) fun cd A outer s H E hr hg => ⟨_, _, ?_, (ss_cons (s_ret (e_def D__law_share bp__law_share (a_cons (e_bin oAdd sAdd (e_bin oMul sMul (e_ix oIx sIx (nm 0) e_int) (e_ix oIx sIx (nm 1) e_int)) (e_bin oMul sMul (e_ix oIx sIx (nm 1) e_int) (e_ix oIx sIx (nm 0) e_int))) (a_cons (e_bin oMul sMul (e_ix oIx sIx (nm 0) e_int) (e_ix oIx sIx (nm 1) e_int)) a_nil))))
    ss_nil), fun xs R hl h => ?_⟩, hm, Fu⟩
  · exact Nat.le_of_ble_eq_true rfl
  · obtain ⟨a, b, rfl, ⟨n, m, ha, hb, nm⟩, _, q⟩ := h
    obtain ⟨m1, m2, m3, m4, m5⟩ := mul_ok2 ha hb nm
    try (walk_at "px")
    exact ⟨m1, m2, m3, _, _, rfl, Int.mul_ne_zero (den_ne a) (den_ne b), (ha.den.mul hb.den).mono nm, by rw [add_q]; exact q⟩
abbrev s__law_times : Stmt := topS 40
theorem sc__law_times : FnScope ["one", "other"] ["one", "other"] (defScope s__law_times) := ⟨rfl, rfl, rfl, by decide +kernel, rfl, by decide +kernel, by decide +kernel⟩
theorem bp__law_times : BindP "_law_times" s__law_times ["one", "other"] := fun _ _ _ _ _ _ us hl => match us, hl with | [_, _], _ => rfl
abbrev DD__law_times (P : Program) (w : World) (K : Kx) (mg : Str → Option Value) (base : Heap) : Prop := Df P w K mg base "_law_times" s__law_times ["one", "other"] 3 0 fTimes
theorem ok__law_times (Lf : Lo K mg "_law_times" s__law_times) (D__law_share : DD__law_share P w K mg base) : DD__law_times P w K mg base := by
  obtain ⟨fa, fd, hm, Fu⟩ := Lf
  refine ⟨fa, fd, fn_make Fu sc__law_times (by decide) fun cd A outer s H E hr hg => ⟨_, _, ?_, (ss_cons (s_ret (e_def D__law_share bp__law_share (a_cons (e_bin oMul sMul (e_ix oIx sIx (nm 0) e_int) (e_ix oIx sIx (nm 1) e_int)) (a_cons (e_bin oMul sMul (e_ix oIx sIx (nm 0) e_int) (e_ix oIx sIx (nm 1) e_int)) a_nil))))
    ss_nil), fun xs R hl h => ?_⟩, hm, Fu⟩
  · exact Nat.le_of_ble_eq_true rfl
  · obtain ⟨a, b, rfl, ⟨n, m, ha, hb, nm⟩, _, q⟩ := h
    obtain ⟨m1, m2, m3, m4, m5⟩ := mul_ok2 ha hb nm
    try (walk_at "px")
    exact ⟨m4, m3, _, _, rfl, Int.mul_ne_zero (den_ne a) (den_ne b), (ha.den.mul hb.den).mono nm, by rw [mul_q]; exact q⟩
abbrev s__law_over : Stmt := topS 41
theorem sc__law_over : FnScope ["one", "other"] ["one", "other"] (defScope s__law_over) := ⟨rfl, rfl, rfl, by decide +kernel, rfl, by decide +kernel, by decide +kernel⟩
theorem bp__law_over : BindP "_law_over" s__law_over ["one", "other"] := fun _ _ _ _ _ _ us hl => match us, hl with | [_, _], _ => rfl
abbrev DD__law_over (P : Program) (w : World) (K : Kx) (mg : Str → Option Value) (base : Heap) : Prop := Df P w K mg base "_law_over" s__law_over ["one", "other"] 3 0 fOver
theorem ok__law_over (Lf : Lo K mg "_law_over" s__law_over) (D__law_share : DD__law_share P w K mg base) : DD__law_over P w K mg base := by
  obtain ⟨fa, fd, hm, Fu⟩ := Lf
  refine ⟨fa, fd, fn_make Fu sc__law_over (by decide) fun cd A outer s H E hr hg => ⟨_, _, ?_, (ss_cons (s_ret (e_def D__law_share bp__law_share (a_cons (e_bin oMul sMul (e_ix oIx sIx (nm 0) e_int) (e_ix oIx sIx (nm 1) e_int)) (a_cons (e_bin oMul sMul (e_ix oIx sIx (nm 0) e_int) (e_ix oIx sIx (nm 1) e_int)) a_nil))))
    ss_nil), fun xs R hl h => ?_⟩, hm, Fu⟩
  · exact Nat.le_of_ble_eq_true rfl
  · obtain ⟨a, b, rfl, ⟨n, m, ha, hb, nm⟩, h0, q⟩ := h
    obtain ⟨m1, m2, m3, m4, m5⟩ := mul_ok2 ha hb nm
    try (walk_at "px")
    exact ⟨m1, m5, _, _, rfl, Int.mul_ne_zero (den_ne a) (num_ne h0), (ha.den.mul hb.1).mono nm, by rw [div_q h0]; exact q⟩
abbrev s__law_like : Stmt := topS 57
theorem sc__law_like : FnScope ["got", "due"] ["got", "due"] (defScope s__law_like) := ⟨rfl, rfl, rfl, by decide +kernel, rfl, by decide +kernel, by decide +kernel⟩
theorem bp__law_like : BindP "_law_like" s__law_like ["got", "due"] := fun _ _ _ _ _ _ us hl => match us, hl with | [_, _], _ => rfl
abbrev DD__law_like (P : Program) (w : World) (K : Kx) (mg : Str → Option Value) (base : Heap) : Prop := Df P w K mg base "_law_like" s__law_like ["got", "due"] 1 0 fLike
theorem ok__law_like (Lf : Lo K mg "_law_like" s__law_like) (m_repr : mg "repr" = none) : DD__law_like P w K mg base := by
  obtain ⟨fa, fd, hm, Fu⟩ := Lf
  refine ⟨fa, fd, fn_make Fu sc__law_like (by decide) fun cd A outer s H E hr hg => ⟨_, _, ?_, (ss_cons (s_ret (e_cmp oEq sEq (e_callB cRepr sRepr m_repr (by decide +kernel) (a_cons (nm 0) a_nil)) (e_callB cRepr sRepr m_repr (by decide +kernel) (a_cons (nm 1) a_nil))))
    ss_nil), fun xs R hl h => ?_⟩, hm, Fu⟩
  · exact Nat.le_of_ble_eq_true rfl
  · obtain ⟨x, rfl, h1, q⟩ := h
    try (walk_at "px")
    refine ⟨h1, h1, ?_⟩
    simpa using q

end
end K06

set_option Elab.async false
set_option linter.all false
set_option maxRecDepth 100000
set_option maxHeartbeats 4000000
set_option exponentiation.threshold 10000
namespace K06
local macro_rules | `(tactic| walk_at "px") => `(tactic| simp only [Px.rd, Px.ownAt, Px.frz, Px.fAdd, Px.fSub, Px.fMul, Px.fFdiv, Px.fMod, Px.fPow, Px.fRel, Px.fEq_int, Px.fEq_str, Px.fEq_bool, Px.fEq_fq, Px.fIs, Px.fIsTy, Px.fIx_l, Px.fIx_t, Px.ix0, Px.ix1, Px.at_0, Px.at_1, Px.at_2, Px.at_3, Px.at_4, Px.ex_some, Px.fSl, Px.gLen, Px.gAbs, Px.gInt, Px.gTuple, Px.gList, Px.gGcd, Px.gSum, Px.gMax, Px.gMin, Px.gAll, Px.gAny, Px.gRepr, Px.gTy, Px.tyOf, Px.asB, Px.asTru, Px.truD, Px.asNeg, Px.asI, Px.asL, Px.asT, Px.asS, Px.asR1, Px.asR2, Px.asZ, Px.asZM, Px.asRg, Px.asRgI, Px.blkE, Px.wipeE, Px.unown, Px.asS, Px.asE, Px.asTwo, Px.asApp, Px.allD, Px.gNm, Px.isNon, Px.isSt, Px.pick,
  List.map_cons, List.map_nil, List.length_cons, List.length_nil, List.length_set, List.replicate_succ, List.replicate_zero, List.cons_append, List.nil_append, List.append_nil, List.getElem?_cons_zero, List.getD_cons_zero, List.getD_cons_succ, List.getElem?_cons_succ, List.set_cons_zero, List.set_cons_succ, Nat.reduceAdd, Nat.reduceSub, Nat.reduceLT, Nat.reduceLeDiff, Nat.zero_add, Nat.mul_zero, Nat.add_zero, eq_self, Nat.sub_self, true_and, and_true, true_or, if_true, Bool.false_eq_true, if_false, ne_eq, not_false_eq_true, Nat.zero_lt_succ, Nat.lt_add_one, Nat.succ_lt_succ_iff])
local macro_rules | `(tactic| walk_at "pz") => `(tactic| simp only [Px.at_last, Px.fKind_eq, Px.fPair_eq, Px.fIsFr_eq, Px.fRow_eq, Px.fWithin_eq, Px.fmOf_mg, Px.isFr_fq, Px.isTy, decide_true, Bool.not_true, Bool.not_false, Bool.and_true, Bool.true_and, Bool.false_and, Bool.and_false, Bool.or_false, Bool.or_true, Px.px0, Px.px1, Px.fNeedPt_eq, Px.fNeedFr_eq, Px.isSt, List.length_append, List.getElem?_map, and_self, Px.map_d, Px.pairs_map, Px.enumD_map, Px.rd, Px.ownAt, Px.frz, Px.fAdd, Px.fSub, Px.fMul, Px.fFdiv, Px.fMod, Px.fPow, Px.fRel, Px.fEq_int, Px.fEq_str, Px.fEq_bool, Px.fEq_fq, Px.fIs, Px.fIsTy, Px.fIx_l, Px.fIx_t, Px.ix0, Px.ix1, Px.at_0, Px.at_1, Px.at_2, Px.at_3, Px.at_4, Px.ex_some, Px.fSl, Px.gLen_l, Px.gLen_t, Px.gLen_tab, Px.gLen_row, Px.gLen_sh, Px.asS_tab, Px.asS_row, Px.asS_sh, Px.asE_tab, Px.asE_row, Px.asE_sh, Px.asZ_tab, Px.asZ_row, Px.ix_tab0, Px.ix_c0, Px.ix_c1, Px.gAbs, Px.gInt, Px.gTuple_l, Px.gTuple_t, Px.gList_l, Px.gList_t, Px.gGcd, Px.gSum, Px.gMax, Px.gMin, Px.gAll, Px.gAny, Px.gRepr, Px.gTy, Px.tyOf, Px.asB, Px.asTru, Px.truD, Px.asNeg, Px.asI, Px.asL, Px.asT, Px.asS_l, Px.asS_t, Px.asR1, Px.asR2, Px.asZ, Px.asZ_ll, Px.asZ_tt, Px.asZ_lt, Px.asRg, Px.asRgI, Px.blkE, Px.wipeE, Px.unown, Px.asE_l, Px.asE_t, Px.asTwo, Px.asApp, Px.allD, Px.gNm, Px.isNon, Px.isSt, Px.pick,
  List.map_cons, List.map_nil, List.length_cons, List.length_nil, List.length_set, List.replicate_succ, List.replicate_zero, List.cons_append, List.nil_append, List.append_nil, List.getElem?_cons_zero, List.getD_cons_zero, List.getD_cons_succ, List.getElem?_cons_succ, List.set_cons_zero, List.set_cons_succ, Nat.reduceAdd, Nat.reduceSub, Nat.reduceLT, Nat.reduceLeDiff, Nat.zero_add, Nat.mul_zero, Nat.add_zero, eq_self, Nat.sub_self, true_and, and_true, true_or, if_true, Bool.false_eq_true, if_false, ne_eq, not_false_eq_true, Nat.zero_lt_succ, Nat.lt_add_one, Nat.succ_lt_succ_iff])
open PySem PySem.Spec PyProof.Rows L2 Px
section
variable {P : Program} {w : World} {K : Kx} {fg : Fg} {d c l : Addr} {nC : Nat} {mg : Str → Option Value} {base : Heap}

abbrev s_is_point : Stmt := topS 15
theorem sc_is_point : FnScope ["value"] ["value"] (defScope s_is_point) := ⟨rfl, rfl, rfl, by decide +kernel, rfl, by decide +kernel, by decide +kernel⟩
theorem bp_is_point : BindP "is_point" s_is_point ["value"] := fun _ _ _ _ _ _ us hl => match us, hl with | [_], _ => rfl
abbrev DD_is_point (P : Program) (w : World) (K : Kx) (mg : Str → Option Value) (base : Heap) : Prop := Df P w K mg base "is_point" s_is_point ["value"] 5 0 fIsPt
theorem ok_is_point (Lf : Lo K mg "is_point" s_is_point) (D_is_pair : DD_is_pair P w K mg base) (D_is_fraction : DD_is_fraction P w K mg base) : DD_is_point P w K mg base := by
  obtain ⟨fa, fd, hm, Fu⟩ := Lf
  refine ⟨fa, fd, fn_make Fu sc_is_point (by decide) fun cd A outer s H E hr hg => ⟨_, _, ?_, (ss_cons (s_ret (e_and (e_def D_is_pair bp_is_pair (a_cons (nm 0) a_nil)) (e_and (e_def D_is_fraction bp_is_fraction (a_cons (e_ix oIx sIx (nm 0) e_int) a_nil)) (e_one (e_def D_is_fraction bp_is_fraction (a_cons (e_ix oIx sIx (nm 0) e_int) a_nil))))))
    ss_nil), fun xs R hl h => ?_⟩, hm, Fu⟩
  · exact Nat.le_of_ble_eq_true rfl
  · obtain ⟨p, rfl, q⟩ := h
    try (walk_at "px")
    refine ⟨_, rfl, ?_⟩
    have e : isRow (pt p) 2 2 = true := rfl
    rw [e]
    simp only [asB, if_true, px0, px1]
    refine ⟨_, rfl, ?_⟩
    rw [isFr_fq]
    simp only [asB, if_true, px0, px1]
    refine ⟨_, rfl, ?_⟩
    rw [isFr_fq]
    exact q
abbrev s_need_point : Stmt := topS 16
theorem sc_need_point : FnScope ["point"] ["point"] (defScope s_need_point) := ⟨rfl, rfl, rfl, by decide +kernel, rfl, by decide +kernel, by decide +kernel⟩
theorem bp_need_point : BindP "need_point" s_need_point ["point"] := fun _ _ _ _ _ _ us hl => match us, hl with | [_], _ => rfl
abbrev DD_need_point (P : Program) (w : World) (K : Kx) (mg : Str → Option Value) (base : Heap) : Prop := Df P w K mg base "need_point" s_need_point ["point"] 6 0 fNeedPt
theorem ok_need_point (Lf : Lo K mg "need_point" s_need_point) (D_is_point : DD_is_point P w K mg base) : DD_need_point P w K mg base := by
  obtain ⟨fa, fd, hm, Fu⟩ := Lf
  refine ⟨fa, fd, fn_make Fu sc_need_point (by decide) fun cd A outer s H E hr hg => ⟨_, _, ?_, (ss_cons (s_if (t_not (t_val (e_def D_is_point bp_is_point (a_cons (nm 0) a_nil)))) (ss_cons s_never
    ss_nil) ss_nil)
    (ss_cons (s_ret (nm 0))
    ss_nil)), fun xs R hl h => ?_⟩, hm, Fu⟩
  · exact Nat.le_of_ble_eq_true rfl
  · obtain ⟨p, rfl, q⟩ := h
    try (walk_at "px")
    refine ⟨_, rfl, ?_⟩
    try (walk_at "px")
    exact q
abbrev s__law_spot_plus : Stmt := topS 43
theorem sc__law_spot_plus : FnScope ["one", "other"] ["one", "other"] (defScope s__law_spot_plus) := ⟨rfl, rfl, rfl, by decide +kernel, rfl, by decide +kernel, by decide +kernel⟩
theorem bp__law_spot_plus : BindP "_law_spot_plus" s__law_spot_plus ["one", "other"] := fun _ _ _ _ _ _ us hl => match us, hl with | [_, _], _ => rfl
abbrev DD__law_spot_plus (P : Program) (w : World) (K : Kx) (mg : Str → Option Value) (base : Heap) : Prop := Df P w K mg base "_law_spot_plus" s__law_spot_plus ["one", "other"] 4 0 fPtPlus
theorem ok__law_spot_plus (Lf : Lo K mg "_law_spot_plus" s__law_spot_plus) (D__law_plus : DD__law_plus P w K mg base) : DD__law_spot_plus P w K mg base := by
  obtain ⟨fa, fd, hm, Fu⟩ := Lf
  refine ⟨fa, fd, fn_make Fu sc__law_spot_plus (by decide) fun cd A outer s H E hr hg => ⟨_, _, ?_, (ss_cons (s_ret (e_tup (a_cons (e_def D__law_plus bp__law_plus (a_cons (e_ix oIx sIx (nm 0) e_int) (a_cons (e_ix oIx sIx (nm 1) e_int) a_nil))) (a_cons (e_def D__law_plus bp__law_plus (a_cons (e_ix oIx sIx (nm 0) e_int) (a_cons (e_ix oIx sIx (nm 1) e_int) a_nil))) a_nil))))
    ss_nil), fun xs R hl h => ?_⟩, hm, Fu⟩
  · exact Nat.le_of_ble_eq_true rfl
  · obtain ⟨p, q', rfl, ⟨n, m, h1, h2, nm⟩, q⟩ := h
    try (walk_at "px")
    simp only [px0, px1, fPlus_eq h1.1 h2.1, fPlus_eq h1.2 h2.2]
    try (walk_at "px")
    exact q
abbrev s__law_spot_times : Stmt := topS 44
theorem sc__law_spot_times : FnScope ["one", "factor_so"] ["one", "factor_so"] (defScope s__law_spot_times) := ⟨rfl, rfl, rfl, by decide +kernel, rfl, by decide +kernel, by decide +kernel⟩
theorem bp__law_spot_times : BindP "_law_spot_times" s__law_spot_times ["one", "factor_so"] := fun _ _ _ _ _ _ us hl => match us, hl with | [_, _], _ => rfl
abbrev DD__law_spot_times (P : Program) (w : World) (K : Kx) (mg : Str → Option Value) (base : Heap) : Prop := Df P w K mg base "_law_spot_times" s__law_spot_times ["one", "factor_so"] 4 0 fPtTimes
theorem ok__law_spot_times (Lf : Lo K mg "_law_spot_times" s__law_spot_times) (D__law_times : DD__law_times P w K mg base) : DD__law_spot_times P w K mg base := by
  obtain ⟨fa, fd, hm, Fu⟩ := Lf
  refine ⟨fa, fd, fn_make Fu sc__law_spot_times (by decide) fun cd A outer s H E hr hg => ⟨_, _, ?_, (ss_cons (s_ret (e_tup (a_cons (e_def D__law_times bp__law_times (a_cons (e_ix oIx sIx (nm 0) e_int) (a_cons (nm 1) a_nil))) (a_cons (e_def D__law_times bp__law_times (a_cons (e_ix oIx sIx (nm 0) e_int) (a_cons (nm 1) a_nil))) a_nil))))
    ss_nil), fun xs R hl h => ?_⟩, hm, Fu⟩
  · exact Nat.le_of_ble_eq_true rfl
  · obtain ⟨p, r, rfl, ⟨n, m, h1, h2, nm⟩, q⟩ := h
    try (walk_at "px")
    simp only [px0, px1, fTimes_eq h1.1 h2, fTimes_eq h1.2 h2]
    try (walk_at "px")
    exact q
end
end K06

set_option Elab.async false
set_option linter.all false
set_option maxRecDepth 100000
set_option maxHeartbeats 4000000
set_option exponentiation.threshold 10000
namespace K06
local macro_rules | `(tactic| walk_at "px") => `(tactic| simp only [Px.rd, Px.ownAt, Px.frz, Px.fAdd, Px.fSub, Px.fMul, Px.fFdiv, Px.fMod, Px.fPow, Px.fRel, Px.fEq_int, Px.fEq_str, Px.fEq_bool, Px.fEq_fq, Px.fIs, Px.fIsTy, Px.fIx_l, Px.fIx_t, Px.ix0, Px.ix1, Px.at_0, Px.at_1, Px.at_2, Px.at_3, Px.at_4, Px.ex_some, Px.fSl, Px.gLen, Px.gAbs, Px.gInt, Px.gTuple, Px.gList, Px.gGcd, Px.gSum, Px.gMax, Px.gMin, Px.gAll, Px.gAny, Px.gRepr, Px.gTy, Px.tyOf, Px.asB, Px.asTru, Px.truD, Px.asNeg, Px.asI, Px.asL, Px.asT, Px.asS, Px.asR1, Px.asR2, Px.asZ, Px.asZM, Px.asRg, Px.asRgI, Px.blkE, Px.wipeE, Px.unown, Px.asS, Px.asE, Px.asTwo, Px.asApp, Px.allD, Px.gNm, Px.isNon, Px.isSt, Px.pick,
  List.map_cons, List.map_nil, List.length_cons, List.length_nil, List.length_set, List.replicate_succ, List.replicate_zero, List.cons_append, List.nil_append, List.append_nil, List.getElem?_cons_zero, List.getD_cons_zero, List.getD_cons_succ, List.getElem?_cons_succ, List.set_cons_zero, List.set_cons_succ, Nat.reduceAdd, Nat.reduceSub, Nat.reduceLT, Nat.reduceLeDiff, Nat.zero_add, Nat.mul_zero, Nat.add_zero, eq_self, Nat.sub_self, true_and, and_true, true_or, if_true, Bool.false_eq_true, if_false, ne_eq, not_false_eq_true, Nat.zero_lt_succ, Nat.lt_add_one, Nat.succ_lt_succ_iff])
local macro_rules | `(tactic| walk_at "pz") => `(tactic| simp only [Px.at_last, Px.fKind_eq, Px.fPair_eq, Px.fIsFr_eq, Px.fRow_eq, Px.fWithin_eq, Px.fmOf_mg, Px.isFr_fq, Px.isTy, decide_true, Bool.not_true, Bool.not_false, Bool.and_true, Bool.true_and, Bool.false_and, Bool.and_false, Bool.or_false, Bool.or_true, Px.px0, Px.px1, Px.fNeedPt_eq, Px.fNeedFr_eq, Px.isSt, List.length_append, List.getElem?_map, and_self, Px.map_d, Px.pairs_map, Px.enumD_map, Px.rd, Px.ownAt, Px.frz, Px.fAdd, Px.fSub, Px.fMul, Px.fFdiv, Px.fMod, Px.fPow, Px.fRel, Px.fEq_int, Px.fEq_str, Px.fEq_bool, Px.fEq_fq, Px.fIs, Px.fIsTy, Px.fIx_l, Px.fIx_t, Px.ix0, Px.ix1, Px.at_0, Px.at_1, Px.at_2, Px.at_3, Px.at_4, Px.ex_some, Px.fSl, Px.gLen_l, Px.gLen_t, Px.gLen_tab, Px.gLen_row, Px.gLen_sh, Px.asS_tab, Px.asS_row, Px.asS_sh, Px.asE_tab, Px.asE_row, Px.asE_sh, Px.asZ_tab, Px.asZ_row, Px.ix_tab0, Px.ix_c0, Px.ix_c1, Px.gAbs, Px.gInt, Px.gTuple_l, Px.gTuple_t, Px.gList_l, Px.gList_t, Px.gGcd, Px.gSum, Px.gMax, Px.gMin, Px.gAll, Px.gAny, Px.gRepr, Px.gTy, Px.tyOf, Px.asB, Px.asTru, Px.truD, Px.asNeg, Px.asI, Px.asL, Px.asT, Px.asS_l, Px.asS_t, Px.asR1, Px.asR2, Px.asZ, Px.asZ_ll, Px.asZ_tt, Px.asZ_lt, Px.asRg, Px.asRgI, Px.blkE, Px.wipeE, Px.unown, Px.asE_l, Px.asE_t, Px.asTwo, Px.asApp, Px.allD, Px.gNm, Px.isNon, Px.isSt, Px.pick,
  List.map_cons, List.map_nil, List.length_cons, List.length_nil, List.length_set, List.replicate_succ, List.replicate_zero, List.cons_append, List.nil_append, List.append_nil, List.getElem?_cons_zero, List.getD_cons_zero, List.getD_cons_succ, List.getElem?_cons_succ, List.set_cons_zero, List.set_cons_succ, Nat.reduceAdd, Nat.reduceSub, Nat.reduceLT, Nat.reduceLeDiff, Nat.zero_add, Nat.mul_zero, Nat.add_zero, eq_self, Nat.sub_self, true_and, and_true, true_or, if_true, Bool.false_eq_true, if_false, ne_eq, not_false_eq_true, Nat.zero_lt_succ, Nat.lt_add_one, Nat.succ_lt_succ_iff])
open PySem PySem.Spec PyProof.Rows L2 Px
section
variable {P : Program} {w : World} {K : Kx} {fg : Fg} {d c l : Addr} {nC : Nat} {mg : Str → Option Value} {base : Heap}

abbrev s__law_cell : Stmt := topS 46
theorem sc__law_cell : FnScope ["state_so", "high"] ["state_so", "high"] (defScope s__law_cell) := ⟨rfl, rfl, rfl, by decide +kernel, rfl, by decide +kernel, by decide +kernel⟩
theorem bp__law_cell : BindP "_law_cell" s__law_cell ["state_so", "high"] := fun _ _ _ _ _ _ us hl => match us, hl with | [_, _], _ => rfl
abbrev DD__law_cell (P : Program) (w : World) (fg : Fg) (d c l : Addr) (nC : Nat) (mg : Str → Option Value) (base : Heap) : Prop := Df P w (stK fg d c l nC) mg base "_law_cell" s__law_cell ["state_so", "high"] 3 2 fCell
theorem ok__law_cell (Lf : Lo fg mg "_law_cell" s__law_cell) (D__law_draw : DD__law_draw P w fg d c l nC mg base) : DD__law_cell P w fg d c l nC mg base := by
  obtain ⟨fa, fd, hm, Fu⟩ := Lf
  refine ⟨fa, fd, fn_make Fu sc__law_cell (by decide) fun cd A outer s H E hr hg => ⟨_, _, ?_, (ss_cons (s_ret (e_tup (a_cons (e_bin oSub sSub (e_def D__law_draw bp__law_draw (a_cons (nm 0) (a_cons (e_bin oAdd sAdd (e_bin oMul sMul e_int (nm 1)) e_int) a_nil))) (nm 1)) (a_cons (e_bin oSub sSub (e_def D__law_draw bp__law_draw (a_cons (nm 0) (a_cons (e_bin oAdd sAdd (e_bin oMul sMul e_int (nm 1)) e_int) a_nil))) (nm 1)) a_nil))))
    ss_nil), fun xs R hl h => ?_⟩, hm, Fu⟩
  · exact Nat.le_of_ble_eq_true rfl
  · obtain ⟨h, rfl, h0, h1, q⟩ := h
    have hb : Bd 8 h := Bd.of_lt (j := 100) (by omega) (by decide)
    have cm : CMulW 2 h := (Bd.lit (n := 2) (by decide)).ok hb (by decide) (by decide) (by decide)
    have db : Bd 8000 (2 * h + 1) := (Bd.of_lt (n := 10) (j := 201) (by omega) (by decide)).mono (by decide)
    try (walk_at "pz")
    refine ⟨cm, _, rfl, by omega, db, fun k k0 k1 => ?_⟩
    try (walk_at "pz")
    refine ⟨cm, _, rfl, by omega, db, fun k' k0' k1' => ?_⟩
    try (walk_at "pz")
    exact q (k - h, k' - h) ⟨⟨by omega, by omega⟩, by omega, by omega⟩
abbrev s__law_spot : Stmt := topS 45
theorem sc__law_spot : FnScope ["cell"] ["cell"] (defScope s__law_spot) := ⟨rfl, rfl, rfl, by decide +kernel, rfl, by decide +kernel, by decide +kernel⟩
theorem bp__law_spot : BindP "_law_spot" s__law_spot ["cell"] := fun _ _ _ _ _ _ us hl => match us, hl with | [_], _ => rfl
abbrev DD__law_spot (P : Program) (w : World) (K : Kx) (mg : Str → Option Value) (base : Heap) : Prop := Df P w K mg base "_law_spot" s__law_spot ["cell"] 1 0 fWholePt
theorem ok__law_spot (Lf : Lo K mg "_law_spot" s__law_spot)  : DD__law_spot P w K mg base := by
  obtain ⟨fa, fd, hm, Fu⟩ := Lf
  refine ⟨fa, fd, fn_make Fu sc__law_spot (by decide) fun cd A outer s H E hr hg => ⟨_, _, ?_, (ss_cons (s_ret (e_tup (a_cons (e_tup (a_cons (e_ix oIx sIx (nm 0) e_int) (a_cons e_int a_nil))) (a_cons (e_tup (a_cons (e_ix oIx sIx (nm 0) e_int) (a_cons e_int a_nil))) a_nil))))
    ss_nil), fun xs R hl h => ?_⟩, hm, Fu⟩
  · exact Nat.le_of_ble_eq_true rfl
  · obtain ⟨c', rfl, q⟩ := h
    try (walk_at "pz")
    exact q
end
end K06

set_option Elab.async false
set_option linter.all false
set_option maxRecDepth 100000
set_option maxHeartbeats 4000000
set_option exponentiation.threshold 10000
namespace K06
local macro_rules | `(tactic| walk_at "px") => `(tactic| simp only [Px.rd, Px.ownAt, Px.frz, Px.fAdd, Px.fSub, Px.fMul, Px.fFdiv, Px.fMod, Px.fPow, Px.fRel, Px.fEq_int, Px.fEq_str, Px.fEq_bool, Px.fEq_fq, Px.fIs, Px.fIsTy, Px.fIx_l, Px.fIx_t, Px.ix0, Px.ix1, Px.at_0, Px.at_1, Px.at_2, Px.at_3, Px.at_4, Px.ex_some, Px.fSl, Px.gLen, Px.gAbs, Px.gInt, Px.gTuple, Px.gList, Px.gGcd, Px.gSum, Px.gMax, Px.gMin, Px.gAll, Px.gAny, Px.gRepr, Px.gTy, Px.tyOf, Px.asB, Px.asTru, Px.truD, Px.asNeg, Px.asI, Px.asL, Px.asT, Px.asS, Px.asR1, Px.asR2, Px.asZ, Px.asZM, Px.asRg, Px.asRgI, Px.blkE, Px.wipeE, Px.unown, Px.asS, Px.asE, Px.asTwo, Px.asApp, Px.allD, Px.gNm, Px.isNon, Px.isSt, Px.pick,
  List.map_cons, List.map_nil, List.length_cons, List.length_nil, List.length_set, List.replicate_succ, List.replicate_zero, List.cons_append, List.nil_append, List.append_nil, List.getElem?_cons_zero, List.getD_cons_zero, List.getD_cons_succ, List.getElem?_cons_succ, List.set_cons_zero, List.set_cons_succ, Nat.reduceAdd, Nat.reduceSub, Nat.reduceLT, Nat.reduceLeDiff, Nat.zero_add, Nat.mul_zero, Nat.add_zero, eq_self, Nat.sub_self, true_and, and_true, true_or, if_true, Bool.false_eq_true, if_false, ne_eq, not_false_eq_true, Nat.zero_lt_succ, Nat.lt_add_one, Nat.succ_lt_succ_iff])
local macro_rules | `(tactic| walk_at "pz") => `(tactic| simp only [Px.at_last, Px.fKind_eq, Px.fPair_eq, Px.fIsFr_eq, Px.fRow_eq, Px.fWithin_eq, Px.fmOf_mg, Px.isFr_fq, Px.isTy, decide_true, Bool.not_true, Bool.not_false, Bool.and_true, Bool.true_and, Bool.false_and, Bool.and_false, Bool.or_false, Bool.or_true, Px.px0, Px.px1, Px.fNeedPt_eq, Px.fNeedFr_eq, Px.isSt, List.length_append, List.getElem?_map, and_self, Px.map_d, Px.pairs_map, Px.enumD_map, Px.rd, Px.ownAt, Px.frz, Px.fAdd, Px.fSub, Px.fMul, Px.fFdiv, Px.fMod, Px.fPow, Px.fRel, Px.fEq_int, Px.fEq_str, Px.fEq_bool, Px.fEq_fq, Px.fIs, Px.fIsTy, Px.fIx_l, Px.fIx_t, Px.ix0, Px.ix1, Px.at_0, Px.at_1, Px.at_2, Px.at_3, Px.at_4, Px.ex_some, Px.fSl, Px.gLen_l, Px.gLen_t, Px.gLen_tab, Px.gLen_row, Px.gLen_sh, Px.asS_tab, Px.asS_row, Px.asS_sh, Px.asE_tab, Px.asE_row, Px.asE_sh, Px.asZ_tab, Px.asZ_row, Px.ix_tab0, Px.ix_c0, Px.ix_c1, Px.gAbs, Px.gInt, Px.gTuple_l, Px.gTuple_t, Px.gList_l, Px.gList_t, Px.gGcd, Px.gSum, Px.gMax, Px.gMin, Px.gAll, Px.gAny, Px.gRepr, Px.gTy, Px.tyOf, Px.asB, Px.asTru, Px.truD, Px.asNeg, Px.asI, Px.asL, Px.asT, Px.asS_l, Px.asS_t, Px.asR1, Px.asR2, Px.asZ, Px.asZ_ll, Px.asZ_tt, Px.asZ_lt, Px.asRg, Px.asRgI, Px.blkE, Px.wipeE, Px.unown, Px.asE_l, Px.asE_t, Px.asTwo, Px.asApp, Px.allD, Px.gNm, Px.isNon, Px.isSt, Px.pick,
  List.map_cons, List.map_nil, List.length_cons, List.length_nil, List.length_set, List.replicate_succ, List.replicate_zero, List.cons_append, List.nil_append, List.append_nil, List.getElem?_cons_zero, List.getD_cons_zero, List.getD_cons_succ, List.getElem?_cons_succ, List.set_cons_zero, List.set_cons_succ, Nat.reduceAdd, Nat.reduceSub, Nat.reduceLT, Nat.reduceLeDiff, Nat.zero_add, Nat.mul_zero, Nat.add_zero, eq_self, Nat.sub_self, true_and, and_true, true_or, if_true, Bool.false_eq_true, if_false, ne_eq, not_false_eq_true, Nat.zero_lt_succ, Nat.lt_add_one, Nat.succ_lt_succ_iff])
open PySem PySem.Spec PyProof.Rows L2 Px
section
variable {P : Program} {w : World} {K : Kx} {fg : Fg} {d c l : Addr} {nC : Nat} {mg : Str → Option Value} {base : Heap}

abbrev s__law_side : Stmt := topS 47
theorem sc__law_side : FnScope ["state_so", "middle", "side", "step", "room"] ["state_so", "middle"] (defScope s__law_side) := ⟨rfl, rfl, rfl, by decide +kernel, rfl, by decide +kernel, by decide +kernel⟩
theorem bp__law_side : BindP "_law_side" s__law_side ["state_so", "middle"] := fun _ _ _ _ _ _ us hl => match us, hl with | [_, _], _ => rfl
abbrev DD__law_side (P : Program) (w : World) (fg : Fg) (d c l : Addr) (nC : Nat) (mg : Str → Option Value) (base : Heap) : Prop := Df P w (stK fg d c l nC) mg base "_law_side" s__law_side ["state_so", "middle"] 4 9223372036854775809 fSide
theorem ok__law_side (Lf : Lo fg mg "_law_side" s__law_side) (m_range : mg "range" = none) (D__law_draw : DD__law_draw P w fg d c l nC mg base) (D__law_of : DD__law_of P w fg d c l nC mg base) : DD__law_side P w fg d c l nC mg base := by
  obtain ⟨fa, fd, hm, Fu⟩ := Lf
  refine ⟨fa, fd, fn_make Fu sc__law_side (by decide) fun cd A outer s H E hr hg => ⟨_, _, ?_, (ss_cons (s_set 2 rfl (e_tup (a_cons e_int (a_cons e_int a_nil))))
    (ss_cons (s_for (i_rng1 m_range (a_cons e_int a_nil)) (tn 3) (ss_cons (s_if (t_cmp oEq sEq (nm 2) (e_tup (a_cons e_int (a_cons e_int a_nil)))) (ss_cons (s_set 2 rfl (e_tup (a_cons (e_bin oSub sSub (e_def D__law_draw bp__law_draw (a_cons (nm 0) (a_cons e_int a_nil))) e_int) (a_cons (e_bin oSub sSub (e_def D__law_draw bp__law_draw (a_cons (nm 0) (a_cons e_int a_nil))) e_int) a_nil))))
    ss_nil) ss_nil)
    ss_nil))
    (ss_cons (s_set 2 rfl (e_if (t_cmp oNe sNe (nm 2) (e_tup (a_cons e_int (a_cons e_int a_nil)))) (nm 2) (e_tup (a_cons e_int (a_cons e_int a_nil)))))
    (ss_cons (s_set 4 rfl (e_def D__law_of bp__law_of (a_cons (nm 0) (a_cons (e_l (l_lst (a_cons e_int (a_cons e_int (a_cons e_int (a_cons e_int (a_cons e_int (a_cons e_int a_nil)))))))) a_nil))))
    (ss_cons (s_ret (e_bin oAdd sAdd (nm 2) (e_tup (a_cons (e_bin oAdd sAdd (e_bin oAdd sAdd (e_bin oMul sMul (e_ix oIx sIx (nm 2) e_int) (e_ix oIx sIx (nm 1) e_int)) (e_bin oMul sMul (e_ix oIx sIx (nm 2) e_int) (e_ix oIx sIx (nm 1) e_int))) (nm 4)) a_nil))))
    ss_nil))))), fun xs R hl h => ?_⟩, hm, Fu⟩
  · exact Nat.le_of_ble_eq_true rfl
  · obtain ⟨c', rfl, hc, q⟩ := h
    obtain ⟨⟨c1, c2⟩, c3, c4⟩ := hc
    try (walk_at "pz")
    refine ⟨by decide, by decide, .inr (le_big (by rw [irange_len]; decide)), loop_rng 0 _ (fun i ρ => ∃ (a b : Int) (s3 : Sl), ρ = [.v .st, .v (.d (cellD c')), .v (.d (.tuple [.int a, .int b])), s3, .non] ∧ -3 ≤ a ∧ a ≤ 3 ∧ -3 ≤ b ∧ b ≤ 3) ?_ ?_ _ ⟨0, 0, _, rfl, by decide, by decide, by decide, by decide⟩⟩
    · rintro i ρ L hi hL ⟨a, b, s3, rfl, a1, a2, b1, b2⟩
      try (walk_at "pz")
      simp only [fEq_ii]
      try (walk_at "pz")
      by_cases z : a = 0 ∧ b = 0
      · rw [if_pos (by simp [z])]
        refine ⟨_, rfl, by decide, Bd.lit (by decide), fun k k0 k1 => ?_⟩
        try (walk_at "pz")
        refine ⟨_, rfl, by decide, Bd.lit (by decide), fun j j0 j1 => ?_⟩
        try (walk_at "pz")
        exact hL _ ⟨_, _, _, rfl, by omega, by omega, by omega, by omega⟩
      · rw [if_neg (by simp; omega)]
        exact hL _ ⟨_, _, _, rfl, a1, a2, b1, b2⟩
    · rintro ρ ⟨a, b, s3, rfl, a1, a2, b1, b2⟩
      try (walk_at "pz")
      simp only [fEq_ii]
      try (walk_at "pz")
      have fin : ∀ a b : Int, (a ≠ 0 ∨ b ≠ 0) → -3 ≤ a → a ≤ 3 → -3 ≤ b → b ≤ 3 → ∀ r : Int, 0 ≤ r → r ≤ 9 → CMulW a c'.1 ∧ CMulW b c'.2 ∧ R (.d (.tuple [.int a, .int b, .int (a * c'.1 + b * c'.2 + r)])) := fun a b h0 h1 h2 h3 h4 r r0 r1 =>
        ⟨(Bd.of_lt (n := 4) (j := 3) (by omega) (by decide)).ok (Bd.of_lt (n := 10) (j := 100) (by omega) (by decide)) (by decide) (by decide) (by decide), (Bd.of_lt (n := 4) (j := 3) (by omega) (by decide)).ok (Bd.of_lt (n := 10) (j := 100) (by omega) (by decide)) (by decide) (by decide) (by decide), q a b r h0 h1 h2 h3 h4 r0 r1⟩
      have room : ∀ x ∈ [PyData.int 0, .int 0, .int 1, .int 2, .int 5, .int 9], ∃ r : Int, x = .int r ∧ 0 ≤ r ∧ r ≤ 9 := fun x hx => by
        simp only [List.mem_cons, List.not_mem_nil, or_false] at hx
        rcases hx with rfl | rfl | rfl | rfl | rfl | rfl
        · exact ⟨_, rfl, by decide, by decide⟩
        · exact ⟨_, rfl, by decide, by decide⟩
        · exact ⟨_, rfl, by decide, by decide⟩
        · exact ⟨_, rfl, by decide, by decide⟩
        · exact ⟨_, rfl, by decide, by decide⟩
        · exact ⟨_, rfl, by decide, by decide⟩
      by_cases z : a = 0 ∧ b = 0
      · rw [if_neg (by simp [z])]
        try (walk_at "pz")
        refine ⟨_, rfl, by decide, by decide, fun x hx => ?_⟩
        obtain ⟨r, rfl, r0, r1⟩ := room x hx
        obtain ⟨m1, m2, fq'⟩ := fin 1 0 (by decide) (by decide) (by decide) (by decide) (by decide) r r0 r1
        try (walk_at "pz")
        exact ⟨m1, m2, fq'⟩
      · rw [if_pos (by simp; omega)]
        try (walk_at "pz")
        refine ⟨_, rfl, by decide, by decide, fun x hx => ?_⟩
        obtain ⟨r, rfl, r0, r1⟩ := room x hx
        obtain ⟨m1, m2, fq'⟩ := fin a b (by omega) a1 a2 b1 b2 r r0 r1
        try (walk_at "pz")
        exact ⟨m1, m2, fq'⟩
abbrev s__law_sum : Stmt := topS 42
theorem sc__law_sum : FnScope ["some", "found", "one"] ["some"] (defScope s__law_sum) := ⟨rfl, rfl, rfl, by decide +kernel, rfl, by decide +kernel, by decide +kernel⟩
theorem bp__law_sum : BindP "_law_sum" s__law_sum ["some"] := fun _ _ _ _ _ _ us hl => match us, hl with | [_], _ => rfl
abbrev DD__law_sum (P : Program) (w : World) (K : Kx) (mg : Str → Option Value) (base : Heap) : Prop := Df P w K mg base "_law_sum" s__law_sum ["some"] 4 0 fSum
theorem ok__law_sum (Lf : Lo K mg "_law_sum" s__law_sum) (D__law_plus : DD__law_plus P w K mg base) : DD__law_sum P w K mg base := by
  obtain ⟨fa, fd, hm, Fu⟩ := Lf
  refine ⟨fa, fd, fn_make Fu sc__law_sum (by decide) fun cd A outer s H E hr hg => ⟨_, _, ?_, (ss_cons (s_set 1 rfl (e_tup (a_cons e_int (a_cons e_int a_nil))))
    (ss_cons (s_for (i_seq (nm 0)) (tn 2) (ss_cons (s_set 1 rfl (e_def D__law_plus bp__law_plus (a_cons (nm 1) (a_cons (nm 2) a_nil))))
    ss_nil))
    (ss_cons (s_ret (nm 1))
    ss_nil))), fun xs R hl h => ?_⟩, hm, Fu⟩
  · exact Nat.le_of_ble_eq_true rfl
  · obtain ⟨qs, a, rfl, hq, hn, q⟩ := h
    try (walk_at "pz")
    refine loop_over' (fun q : Rat => Vl.d (fq q)) qs (fun k ρ => ∃ (t : Rat) (m : Nat) (s2 : Sl), ρ = [.v (.d (.list (qs.map fq))), .v (.d (fq t)), s2] ∧ t + sm (qs.drop k) id = sm qs id ∧ Fb m t ∧ m ≤ 1 + (a + 1) * k) ?_ ?_ _ ⟨0, 1, _, rfl, by rw [List.drop_zero]; grind, fz 1 (by decide), by omega⟩
    · rintro k hk ρ L hL ⟨t, m, s2, rfl, ht, hb, hm⟩
      have h1 := hq _ (List.getElem_mem hk)
      rw [List.drop_eq_getElem_cons hk] at ht
      generalize qs[k] = v at h1 ht ⊢
      have hk' : (a + 1) * (k + 1) ≤ (a + 1) * qs.length := Nat.mul_le_mul_left _ hk
      rw [Nat.mul_succ] at hk'
      try (walk_at "pz")
      rw [fPlus_eq hb h1 (by omega)]
      try (walk_at "pz")
      refine hL _ ⟨_, _, _, rfl, ?_, add2 hb h1, by rw [Nat.mul_succ]; omega⟩
      simp only [sm, id] at ht ⊢
      rw [← ht]
      grind
    · rintro ρ ⟨t, m, s2, rfl, ht, hb, hm⟩
      have e1 : t = sm qs id := by
        rw [List.drop_length] at ht
        simp only [sm] at ht
        grind
      subst e1
      try (walk_at "pz")
      exact q
abbrev s__law_above : Stmt := topS 49
theorem sc__law_above : FnScope ["side", "one"] ["side", "one"] (defScope s__law_above) := ⟨rfl, rfl, rfl, by decide +kernel, rfl, by decide +kernel, by decide +kernel⟩
theorem bp__law_above : BindP "_law_above" s__law_above ["side", "one"] := fun _ _ _ _ _ _ us hl => match us, hl with | [_, _], _ => rfl
abbrev DD__law_above (P : Program) (w : World) (K : Kx) (mg : Str → Option Value) (base : Heap) : Prop := Df P w K mg base "_law_above" s__law_above ["side", "one"] 5 0 fAbove
theorem ok__law_above (Lf : Lo K mg "_law_above" s__law_above) (D__law_sum : DD__law_sum P w K mg base) (D__law_times : DD__law_times P w K mg base) : DD__law_above P w K mg base := by
  obtain ⟨fa, fd, hm, Fu⟩ := Lf
  refine ⟨fa, fd, fn_make Fu sc__law_above (by decide) fun cd A outer s H E hr hg => ⟨_, _, ?_, (ss_cons (s_ret (e_def D__law_sum bp__law_sum (a_cons (e_l (l_lst (a_cons (e_def D__law_times bp__law_times (a_cons (e_tup (a_cons (e_ix oIx sIx (nm 0) e_int) (a_cons e_int a_nil))) (a_cons (e_ix oIx sIx (nm 1) e_int) a_nil))) (a_cons (e_def D__law_times bp__law_times (a_cons (e_tup (a_cons (e_ix oIx sIx (nm 0) e_int) (a_cons e_int a_nil))) (a_cons (e_ix oIx sIx (nm 1) e_int) a_nil))) (a_cons (e_tup (a_cons (e_neg (e_ix oIx sIx (nm 0) e_int)) (a_cons e_int a_nil))) a_nil))))) a_nil)))
    ss_nil), fun xs R hl h => ?_⟩, hm, Fu⟩
  · exact Nat.le_of_ble_eq_true rfl
  · obtain ⟨s, p, n, m, rfl, ⟨b1, b2, b3⟩, hp, n0, nm, q⟩ := h
    have f1 := fb_int b1 n0
    have f2 := fb_int b2 n0
    have f3 := fb_int b3.neg n0
    have g1 := f1.mul hp.1
    have g2 := f2.mul hp.2
    unfold lineD
    try (walk_at "pz")
    rw [iq, fTimes_eq f1 hp.1 (by omega)]
    try (walk_at "pz")
    rw [iq, fTimes_eq f2 hp.2 (by omega)]
    try (walk_at "pz")
    rw [iq]
    refine ⟨[_, _, _], n + m, rfl, fun x hx => ?_, by simp; omega, ?_⟩
    · simp only [List.mem_cons, List.not_mem_nil, or_false] at hx
      rcases hx with rfl | rfl | rfl
      · exact g1
      · exact g2
      · exact f3.mono (by omega)
    · have e : sm [(s.1 : Rat) * p.1, (s.2.1 : Rat) * p.2, ((-s.2.2 : Int) : Rat)] id = abv s p := by
        simp only [sm, id, abv, Rat.intCast_neg]
        grind
      rw [e]
      exact q

end
end K06

set_option Elab.async false
set_option linter.all false
set_option maxRecDepth 100000
set_option maxHeartbeats 4000000
set_option exponentiation.threshold 10000
namespace K06
local macro_rules | `(tactic| walk_at "px") => `(tactic| simp only [Px.rd, Px.ownAt, Px.frz, Px.fAdd, Px.fSub, Px.fMul, Px.fFdiv, Px.fMod, Px.fPow, Px.fRel, Px.fEq_int, Px.fEq_str, Px.fEq_bool, Px.fEq_fq, Px.fIs, Px.fIsTy, Px.fIx_l, Px.fIx_t, Px.ix0, Px.ix1, Px.at_0, Px.at_1, Px.at_2, Px.at_3, Px.at_4, Px.ex_some, Px.fSl, Px.gLen, Px.gAbs, Px.gInt, Px.gTuple, Px.gList, Px.gGcd, Px.gSum, Px.gMax, Px.gMin, Px.gAll, Px.gAny, Px.gRepr, Px.gTy, Px.tyOf, Px.asB, Px.asTru, Px.truD, Px.asNeg, Px.asI, Px.asL, Px.asT, Px.asS, Px.asR1, Px.asR2, Px.asZ, Px.asZM, Px.asRg, Px.asRgI, Px.blkE, Px.wipeE, Px.unown, Px.asS, Px.asE, Px.asTwo, Px.asApp, Px.allD, Px.gNm, Px.isNon, Px.isSt, Px.pick,
  List.map_cons, List.map_nil, List.length_cons, List.length_nil, List.length_set, List.replicate_succ, List.replicate_zero, List.cons_append, List.nil_append, List.append_nil, List.getElem?_cons_zero, List.getD_cons_zero, List.getD_cons_succ, List.getElem?_cons_succ, List.set_cons_zero, List.set_cons_succ, Nat.reduceAdd, Nat.reduceSub, Nat.reduceLT, Nat.reduceLeDiff, Nat.zero_add, Nat.mul_zero, Nat.add_zero, eq_self, Nat.sub_self, true_and, and_true, true_or, if_true, Bool.false_eq_true, if_false, ne_eq, not_false_eq_true, Nat.zero_lt_succ, Nat.lt_add_one, Nat.succ_lt_succ_iff])
local macro_rules | `(tactic| walk_at "pz") => `(tactic| simp only [Px.at_last, Px.fKind_eq, Px.fPair_eq, Px.fIsFr_eq, Px.fRow_eq, Px.fWithin_eq, Px.fmOf_mg, Px.isFr_fq, Px.isTy, decide_true, Bool.not_true, Bool.not_false, Bool.and_true, Bool.true_and, Bool.false_and, Bool.and_false, Bool.or_false, Bool.or_true, Px.px0, Px.px1, Px.fNeedPt_eq, Px.fNeedFr_eq, Px.isSt, List.length_append, List.getElem?_map, and_self, Px.map_d, Px.pairs_map, Px.enumD_map, Px.rd, Px.ownAt, Px.frz, Px.fAdd, Px.fSub, Px.fMul, Px.fFdiv, Px.fMod, Px.fPow, Px.fRel, Px.fEq_int, Px.fEq_str, Px.fEq_bool, Px.fEq_fq, Px.fIs, Px.fIsTy, Px.fIx_l, Px.fIx_t, Px.ix0, Px.ix1, Px.at_0, Px.at_1, Px.at_2, Px.at_3, Px.at_4, Px.ex_some, Px.fSl, Px.gLen_l, Px.gLen_t, Px.gLen_tab, Px.gLen_row, Px.gLen_sh, Px.asS_tab, Px.asS_row, Px.asS_sh, Px.asE_tab, Px.asE_row, Px.asE_sh, Px.asZ_tab, Px.asZ_row, Px.ix_tab0, Px.ix_c0, Px.ix_c1, Px.gAbs, Px.gInt, Px.gTuple_l, Px.gTuple_t, Px.gList_l, Px.gList_t, Px.gGcd, Px.gSum, Px.gMax, Px.gMin, Px.gAll, Px.gAny, Px.gRepr, Px.gTy, Px.tyOf, Px.asB, Px.asTru, Px.truD, Px.asNeg, Px.asI, Px.asL, Px.asT, Px.asS_l, Px.asS_t, Px.asR1, Px.asR2, Px.asZ, Px.asZ_ll, Px.asZ_tt, Px.asZ_lt, Px.asRg, Px.asRgI, Px.blkE, Px.wipeE, Px.unown, Px.asE_l, Px.asE_t, Px.asTwo, Px.asApp, Px.allD, Px.gNm, Px.isNon, Px.isSt, Px.pick,
  List.map_cons, List.map_nil, List.length_cons, List.length_nil, List.length_set, List.replicate_succ, List.replicate_zero, List.cons_append, List.nil_append, List.append_nil, List.getElem?_cons_zero, List.getD_cons_zero, List.getD_cons_succ, List.getElem?_cons_succ, List.set_cons_zero, List.set_cons_succ, Nat.reduceAdd, Nat.reduceSub, Nat.reduceLT, Nat.reduceLeDiff, Nat.zero_add, Nat.mul_zero, Nat.add_zero, eq_self, Nat.sub_self, true_and, and_true, true_or, if_true, Bool.false_eq_true, if_false, ne_eq, not_false_eq_true, Nat.zero_lt_succ, Nat.lt_add_one, Nat.succ_lt_succ_iff])
open PySem PySem.Spec PyProof.Rows L2 Px
section
variable {P : Program} {w : World} {K : Kx} {fg : Fg} {d c l : Addr} {nC : Nat} {mg : Str → Option Value} {base : Heap}

abbrev s_is_int_within : Stmt := topS 8
theorem sc_is_int_within : FnScope ["value", "least", "most"] ["value", "least", "most"] (defScope s_is_int_within) := ⟨rfl, rfl, rfl, by decide +kernel, rfl, by decide +kernel, by decide +kernel⟩
theorem bp_is_int_within : BindP "is_int_within" s_is_int_within ["value", "least", "most"] := fun _ _ _ _ _ _ us hl => match us, hl with | [_, _, _], _ => rfl
abbrev DD_is_int_within (P : Program) (w : World) (K : Kx) (mg : Str → Option Value) (base : Heap) : Prop := Df P w K mg base "is_int_within" s_is_int_within ["value", "least", "most"] 2 0 fIntW
theorem ok_is_int_within (Lf : Lo K mg "is_int_within" s_is_int_within) (D_is_int : DD_is_int P w K mg base) : DD_is_int_within P w K mg base := by
  obtain ⟨fa, fd, hm, Fu⟩ := Lf
  refine ⟨fa, fd, fn_make Fu sc_is_int_within (by decide) fun cd A outer s H E hr hg => ⟨_, _, ?_, (ss_cons (s_ret (e_and (e_def D_is_int bp_is_int (a_cons (nm 0) a_nil)) (e_one (e_chain oLe sRel oLe sRel (nm 1) (nm 0) (nm 2)))))
    ss_nil), fun xs R hl h => ?_⟩, hm, Fu⟩
  · exact Nat.le_of_ble_eq_true rfl
  · obtain ⟨i, a, b, rfl, q⟩ := h
    try (walk_at "pz")
    by_cases z : a ≤ i
    · simpa [z] using q
    · simpa [z] using q
abbrev s_is_line : Stmt := topS 20
theorem sc_is_line : FnScope ["value", "number"] ["value"] (defScope s_is_line) := ⟨rfl, rfl, rfl, by decide +kernel, rfl, by decide +kernel, by decide +kernel⟩
theorem bp_is_line : BindP "is_line" s_is_line ["value"] := fun _ _ _ _ _ _ us hl => match us, hl with | [_], _ => rfl
abbrev DD_is_line (P : Program) (w : World) (K : Kx) (mg : Str → Option Value) (base : Heap) : Prop := Df P w K mg base "is_line" s_is_line ["value"] 3 0 fIsLine
theorem ok_is_line (Lf : Lo K mg "is_line" s_is_line) (m_all : mg "all" = none) (c_MOST_IN_LINE : Cn K mg "MOST_IN_LINE" (.int 1000)) (D_is_row : DD_is_row P w K mg base) (D_is_int_within : DD_is_int_within P w K mg base) : DD_is_line P w K mg base := by
  obtain ⟨fa, fd, hm, Fu⟩ := Lf
  refine ⟨fa, fd, fn_make Fu sc_is_line (by decide) fun cd A outer s H E hr hg => ⟨_, _, ?_, (ss_cons (s_if (t_not (t_val (e_def D_is_row bp_is_row (a_cons (nm 0) (a_cons e_int (a_cons e_int a_nil)))))) (ss_cons (s_ret e_bool)
    ss_nil) ss_nil)
    (ss_cons (s_if (t_not (t_val (e_callB cAll sAll m_all (by decide +kernel) (a_cons (e_l (l_lc [("number", 1)] (i_seq (nm 0)) (fun _ => blkOk_by (N := ["value", "number"]) (sc := defScope s_is_line) (by decide +kernel)) (tn 1) ts_nil (e_def D_is_int_within bp_is_int_within (a_cons (nm 1) (a_cons (e_neg (e_con c_MOST_IN_LINE)) (a_cons (e_con c_MOST_IN_LINE) a_nil)))))) a_nil)))) (ss_cons (s_ret e_bool)
    ss_nil) ss_nil)
    (ss_cons (s_ret (e_or (e_cmp oNe sNe (e_ix oIx sIx (nm 0) e_int) e_int) (e_one (e_cmp oNe sNe (e_ix oIx sIx (nm 0) e_int) e_int))))
    ss_nil))), fun xs R hl h => ?_⟩, hm, Fu⟩
  · exact Nat.le_of_ble_eq_true rfl
  · obtain ⟨s, rfl, ⟨h0, h1, h2, h3⟩, q⟩ := h
    have e : isRow (lineD s) 3 3 = true := rfl
    try (walk_at "pz")
    simp only [e]
    unfold lineD
    try (walk_at "pz")
    simp only [lcF]
    try (walk_at "pz")
    refine ⟨_, _, _, rfl, ⟨_, _, _, rfl, ⟨_, _, _, rfl, ?_⟩⟩⟩
    have b1 : (decide (-1000 ≤ s.1) && decide (s.1 ≤ 1000)) = true := by simp; omega
    have b2 : (decide (-1000 ≤ s.2.1) && decide (s.2.1 ≤ 1000)) = true := by simp; omega
    have b3 : (decide (-1000 ≤ s.2.2) && decide (s.2.2 ≤ 1000)) = true := by simp; omega
    rw [b1, b2, b3]
    refine ⟨[_, _, _], rfl, ?_⟩
    by_cases z : s.1 = 0
    · have z2 : s.2.1 ≠ 0 := h0.resolve_left (fun k => k z)
      simpa [z, z2] using q
    · simpa [z] using q
abbrev s_need_lines : Stmt := topS 21
theorem sc_need_lines : FnScope ["lines", "number", "line"] ["lines"] (defScope s_need_lines) := ⟨rfl, rfl, rfl, by decide +kernel, rfl, by decide +kernel, by decide +kernel⟩
theorem bp_need_lines : BindP "need_lines" s_need_lines ["lines"] := fun _ _ _ _ _ _ us hl => match us, hl with | [_], _ => rfl
abbrev DD_need_lines (P : Program) (w : World) (K : Kx) (mg : Str → Option Value) (base : Heap) : Prop := Df P w K mg base "need_lines" s_need_lines ["lines"] 4 0 fNeedLines
theorem ok_need_lines (Lf : Lo K mg "need_lines" s_need_lines) (m_enumerate : mg "enumerate" = none) (c_MOST_LINES : Cn K mg "MOST_LINES" (.int 8)) (D_is_row : DD_is_row P w K mg base) (D_is_line : DD_is_line P w K mg base) : DD_need_lines P w K mg base := by
  obtain ⟨fa, fd, hm, Fu⟩ := Lf
  refine ⟨fa, fd, fn_make Fu sc_need_lines (by decide) fun cd A outer s H E hr hg => ⟨_, _, ?_, (ss_cons (s_if (t_not (t_val (e_def D_is_row bp_is_row (a_cons (nm 0) (a_cons e_int (a_cons (e_con c_MOST_LINES) a_nil)))))) (ss_cons s_never
    ss_nil) ss_nil)
    (ss_cons (s_for (i_enum m_enumerate (a_cons (nm 0) a_nil)) (g_tup (gs_cons (tn 1) (gs_cons (tn 2) gs_nil)) rfl fun c h => pg_tup c h) (ss_cons (s_if (t_not (t_val (e_def D_is_line bp_is_line (a_cons (nm 2) a_nil)))) (ss_cons s_never
    ss_nil) ss_nil)
    ss_nil))
    (ss_cons (s_ret (nm 0))
    ss_nil))), fun xs R hl h => ?_⟩, hm, Fu⟩
  · exact Nat.le_of_ble_eq_true rfl
  · obtain ⟨ls, rfl, ⟨h1, h8, hs⟩, q⟩ := h
    unfold linesD at *
    have e : isRow (.tuple (ls.map lineD)) 1 8 = true := by simp [isRow]; omega
    try (walk_at "pz")
    rw [e]
    try (walk_at "pz")
    refine loop_over' (fun p : Line × Nat => Vl.d (.tuple [.int (p.2 : Nat), lineD p.1])) ls.zipIdx (fun i ρ => ∃ s1 s2, ρ = [.v (.d (.tuple (ls.map lineD))), s1, s2]) ?_ ?_ _ ⟨_, _, rfl⟩
    · rintro i hi ρ L hL ⟨s1, s2, rfl⟩
      have hi' : i < ls.length := by simpa using hi
      have ej : ls.zipIdx[i] = (ls[i], i) := by simp
      rw [ej]
      try (walk_at "pz")
      refine ⟨_, rfl, hs _ (List.getElem_mem hi'), ?_⟩
      try (walk_at "pz")
      exact hL _ ⟨_, _, rfl⟩
    · rintro ρ ⟨s1, s2, rfl⟩
      try (walk_at "pz")
      exact q
abbrev s_turned_by : Stmt := topS 23
theorem sc_turned_by : FnScope ["one", "other"] ["one", "other"] (defScope s_turned_by) := ⟨rfl, rfl, rfl, by decide +kernel, rfl, by decide +kernel, by decide +kernel⟩
theorem bp_turned_by : BindP "turned_by" s_turned_by ["one", "other"] := fun _ _ _ _ _ _ us hl => match us, hl with | [_, _], _ => rfl
abbrev DD_turned_by (P : Program) (w : World) (K : Kx) (mg : Str → Option Value) (base : Heap) : Prop := Df P w K mg base "turned_by" s_turned_by ["one", "other"] 1 0 fTurn
theorem ok_turned_by (Lf : Lo K mg "turned_by" s_turned_by)  : DD_turned_by P w K mg base := by
  obtain ⟨fa, fd, hm, Fu⟩ := Lf
  refine ⟨fa, fd, fn_make Fu sc_turned_by (by decide) fun cd A outer s H E hr hg => ⟨_, _, ?_, (ss_cons (s_ret (e_bin oSub sSub (e_bin oMul sMul (e_ix oIx sIx (nm 0) e_int) (e_ix oIx sIx (nm 1) e_int)) (e_bin oMul sMul (e_ix oIx sIx (nm 0) e_int) (e_ix oIx sIx (nm 1) e_int))))
    ss_nil), fun xs R hl h => ?_⟩, hm, Fu⟩
  · exact Nat.le_of_ble_eq_true rfl
  · obtain ⟨l, m, rfl, hl, hm, q⟩ := h
    have bl := hl.b
    have bm := hm.b
    unfold lineD
    try (walk_at "pz")
    exact ⟨bl.1.ok bm.2.1 (by decide) (by decide) (by decide), bl.2.1.ok bm.1 (by decide) (by decide) (by decide), q⟩
abbrev s_weights_of_two : Stmt := topS 28
theorem sc_weights_of_two : FnScope ["one", "other"] ["one", "other"] (defScope s_weights_of_two) := ⟨rfl, rfl, rfl, by decide +kernel, rfl, by decide +kernel, by decide +kernel⟩
theorem bp_weights_of_two : BindP "weights_of_two" s_weights_of_two ["one", "other"] := fun _ _ _ _ _ _ us hl => match us, hl with | [_, _], _ => rfl
abbrev DD_weights_of_two (P : Program) (w : World) (K : Kx) (mg : Str → Option Value) (base : Heap) : Prop := Df P w K mg base "weights_of_two" s_weights_of_two ["one", "other"] 2 0 fW2
theorem ok_weights_of_two (Lf : Lo K mg "weights_of_two" s_weights_of_two) (m_abs : mg "abs" = none) (D_turned_by : DD_turned_by P w K mg base) : DD_weights_of_two P w K mg base := by
  obtain ⟨fa, fd, hm, Fu⟩ := Lf
  refine ⟨fa, fd, fn_make Fu sc_weights_of_two (by decide) fun cd A outer s H E hr hg => ⟨_, _, ?_, (ss_cons (s_if (t_w (w_or (t_cmp oNe sNe (e_def D_turned_by bp_turned_by (a_cons (nm 0) (a_cons (nm 1) a_nil))) e_int) (w_one2 (t_cmp oGt sRel (e_bin oAdd sAdd (e_bin oMul sMul (e_ix oIx sIx (nm 0) e_int) (e_ix oIx sIx (nm 1) e_int)) (e_bin oMul sMul (e_ix oIx sIx (nm 0) e_int) (e_ix oIx sIx (nm 1) e_int))) e_int)))) (ss_cons (s_ret e_none)
    ss_nil) ss_nil)
    (ss_cons (s_ret (e_tup (a_cons (e_bin oAdd sAdd (e_callB cAbs sAbs m_abs (by decide +kernel) (a_cons (e_ix oIx sIx (nm 1) e_int) a_nil)) (e_callB cAbs sAbs m_abs (by decide +kernel) (a_cons (e_ix oIx sIx (nm 1) e_int) a_nil))) (a_cons (e_bin oAdd sAdd (e_callB cAbs sAbs m_abs (by decide +kernel) (a_cons (e_ix oIx sIx (nm 0) e_int) a_nil)) (e_callB cAbs sAbs m_abs (by decide +kernel) (a_cons (e_ix oIx sIx (nm 0) e_int) a_nil))) a_nil))))
    ss_nil)), fun xs R hl h => ?_⟩, hm, Fu⟩
  · exact Nat.le_of_ble_eq_true rfl
  · obtain ⟨l, m, rfl, hl, hm, q⟩ := h
    have bl := hl.b
    have bm := hm.b
    try (walk_at "pz")
    refine ⟨_, _, rfl, hl, hm, ?_⟩
    unfold lineD
    try (walk_at "pz")
    unfold w2I at q
    by_cases z : turnI l m = 0
    · rw [if_neg (by simp [z])]
      refine ⟨bl.1.ok bm.1 (by decide) (by decide) (by decide), bl.2.1.ok bm.2.1 (by decide) (by decide) (by decide), ?_⟩
      by_cases z2 : 0 < l.1 * m.1 + l.2.1 * m.2.1
      · rw [if_pos (by simpa using z2)]
        rw [if_pos (.inr z2)] at q
        exact q
      · rw [if_neg (by simpa using z2)]
        rw [if_neg (by omega)] at q
        rw [abs_nat, abs_nat, abs_nat, abs_nat]
        exact q
    · rw [if_pos (by simp [z])]
      rw [if_pos (.inl z)] at q
      exact q
abbrev s_weights_of_three : Stmt := topS 29
theorem sc_weights_of_three : FnScope ["one", "other", "third", "weights", "weight"] ["one", "other", "third"] (defScope s_weights_of_three) := ⟨rfl, rfl, rfl, by decide +kernel, rfl, by decide +kernel, by decide +kernel⟩
theorem bp_weights_of_three : BindP "weights_of_three" s_weights_of_three ["one", "other", "third"] := fun _ _ _ _ _ _ us hl => match us, hl with | [_, _, _], _ => rfl
abbrev DD_weights_of_three (P : Program) (w : World) (K : Kx) (mg : Str → Option Value) (base : Heap) : Prop := Df P w K mg base "weights_of_three" s_weights_of_three ["one", "other", "third"] 2 0 fW3
theorem ok_weights_of_three (Lf : Lo K mg "weights_of_three" s_weights_of_three) (m_tuple : mg "tuple" = none) (m_max : mg "max" = none) (m_min : mg "min" = none) (D_turned_by : DD_turned_by P w K mg base) : DD_weights_of_three P w K mg base := by
  obtain ⟨fa, fd, hm, Fu⟩ := Lf
  refine ⟨fa, fd, fn_make Fu sc_weights_of_three (by decide) fun cd A outer s H E hr hg => ⟨_, _, ?_, (ss_cons (s_set 3 rfl (e_tup (a_cons (e_def D_turned_by bp_turned_by (a_cons (nm 1) (a_cons (nm 2) a_nil))) (a_cons (e_def D_turned_by bp_turned_by (a_cons (nm 2) (a_cons (nm 0) a_nil))) (a_cons (e_def D_turned_by bp_turned_by (a_cons (nm 0) (a_cons (nm 1) a_nil))) a_nil)))))
    (ss_cons (s_if (t_cmp oLt sRel (e_callB cMaxT (sMaxT (mx := true)) m_max (by decide +kernel) (a_cons (nm 3) a_nil)) e_int) (ss_cons (s_ret (e_callT cTuple sTuple m_tuple (by decide +kernel) (a_cons (e_l (l_lc [("weight", 4)] (i_seq (nm 3)) (fun _ => blkOk_by (N := ["one", "other", "third", "weights", "weight"]) (sc := defScope s_weights_of_three) (by decide +kernel)) (tn 4) ts_nil (e_neg (nm 4)))) a_nil)))
    ss_nil) ss_nil)
    (ss_cons (s_ret (e_if (t_cmp oGt sRel (e_callB cMinT (sMaxT (mx := false)) m_min (by decide +kernel) (a_cons (nm 3) a_nil)) e_int) (nm 3) e_none))
    ss_nil))), fun xs R hl h => ?_⟩, hm, Fu⟩
  · exact Nat.le_of_ble_eq_true rfl
  · obtain ⟨l, m, k, rfl, hl, hm, hk, q⟩ := h
    try (walk_at "pz")
    refine ⟨_, _, rfl, hm, hk, ?_⟩
    try (walk_at "pz")
    refine ⟨_, _, rfl, hk, hl, ?_⟩
    try (walk_at "pz")
    refine ⟨_, _, rfl, hl, hm, ?_⟩
    try (walk_at "pz")
    refine ⟨[_, _, _], rfl, by simp, fun mx hmx => ?_⟩
    have e1 := max3 hmx
    unfold w3I at q
    try (walk_at "pz")
    by_cases z : mx < 0
    · rw [if_pos (by simpa using z)]
      rw [if_pos (e1.mp z)] at q
      simp only [lcF]
      try (walk_at "pz")
      exact q
    · rw [if_neg (by simpa using z)]
      rw [if_neg (fun c => z (e1.mpr c))] at q
      refine ⟨[_, _, _], rfl, by simp, fun mn hmn => ?_⟩
      have e2 := min3 hmn
      try (walk_at "pz")
      by_cases z2 : 0 < mn
      · rw [if_pos (by simpa using z2)]
        rw [if_pos (e2.mp z2)] at q
        exact q
      · rw [if_neg (by simpa using z2)]
        rw [if_neg (fun c => z2 (e2.mpr c))] at q
        exact q
abbrev s_weighed_sum : Stmt := topS 31
theorem sc_weighed_sum : FnScope ["lines", "paper", "place", "number", "weight"] ["lines", "paper", "place"] (defScope s_weighed_sum) := ⟨rfl, rfl, rfl, by decide +kernel, rfl, by decide +kernel, by decide +kernel⟩
theorem bp_weighed_sum : BindP "weighed_sum" s_weighed_sum ["lines", "paper", "place"] := fun _ _ _ _ _ _ us hl => match us, hl with | [_, _, _], _ => rfl
abbrev DD_weighed_sum (P : Program) (w : World) (K : Kx) (mg : Str → Option Value) (base : Heap) : Prop := Df P w K mg base "weighed_sum" s_weighed_sum ["lines", "paper", "place"] 1 0 fWsum
theorem ok_weighed_sum (Lf : Lo K mg "weighed_sum" s_weighed_sum) (m_sum : mg "sum" = none) : DD_weighed_sum P w K mg base := by
  obtain ⟨fa, fd, hm, Fu⟩ := Lf
  refine ⟨fa, fd, fn_make Fu sc_weighed_sum (by decide) fun cd A outer s H E hr hg => ⟨_, _, ?_, (ss_cons (s_ret (e_callB cSum sSum m_sum (by decide +kernel) (a_cons (e_l (l_lc [("number", 3), ("weight", 4)] (i_seq (nm 1)) (fun _ => blkOk_by (N := ["lines", "paper", "place", "number", "weight"]) (sc := defScope s_weighed_sum) (by decide +kernel)) (g_tup (gs_cons (tn 3) (gs_cons (tn 4) gs_nil)) rfl fun c h => pg_tup c h) ts_nil (e_bin oMul sMul (e_ix oIx sIx (e_ix oIx sIx (nm 0) (nm 3)) (nm 2)) (nm 4)))) a_nil)))
    ss_nil), fun xs R hl h => ?_⟩, hm, Fu⟩
  · exact Nat.le_of_ble_eq_true rfl
  · obtain ⟨ls, p, k, rfl, hls, hp, hq, hk, q⟩ := h
    unfold paperP
    try (walk_at "pz")
    refine ⟨by rw [List.length_map]; omega, lc_map (fun q : Nat × Int => Vl.d (.tuple [.int (q.1 : Nat), .int q.2])) (fun q => .int (part k (nthS ls q.1) * q.2)) p [] _ (fun x hx T1 T2 hT1 => ?_) ?_⟩
    · obtain ⟨x1, x2⟩ := hq x hx
      have bl := (hls.2.2 _ (nthS_mem x1)).b
      try (walk_at "pz")
      rw [ix_ln x1]
      obtain rfl | rfl | rfl : k = 0 ∨ k = 1 ∨ k = 2 := by omega
      · show fIx _ (Vl.d (.int 0)) _
        rw [ix_l0]
        try (walk_at "pz")
        exact ⟨bl.1.ok x2 (by decide) (by decide) (by decide), hT1⟩
      · show fIx _ (Vl.d (.int 1)) _
        rw [ix_l1]
        try (walk_at "pz")
        exact ⟨bl.2.1.ok x2 (by decide) (by decide) (by decide), hT1⟩
      · show fIx _ (Vl.d (.int 2)) _
        rw [ix_l2]
        try (walk_at "pz")
        exact ⟨bl.2.2.ok x2 (by decide) (by decide) (by decide), hT1⟩
    · rw [List.nil_append]
      refine ⟨_, allI_ints (fun q : Nat × Int => part k (nthS ls q.1) * q.2) p, ?_⟩
      rw [wsum_sum]
      exact q
abbrev s_paper_of : Stmt := topS 30
theorem sc_paper_of : FnScope ["lines", "papers", "one", "other", "third", "numbers", "weights", "paper"] ["lines"] (defScope s_paper_of) := ⟨rfl, rfl, rfl, by decide +kernel, rfl, by decide +kernel, by decide +kernel⟩
theorem bp_paper_of : BindP "paper_of" s_paper_of ["lines"] := fun _ _ _ _ _ _ us hl => match us, hl with | [_], _ => rfl
abbrev DD_paper_of (P : Program) (w : World) (K : Kx) (mg : Str → Option Value) (base : Heap) : Prop := Df P w K mg base "paper_of" s_paper_of ["lines"] 3 0 fPaperOf
theorem ok_paper_of (Lf : Lo K mg "paper_of" s_paper_of) (m_tuple : mg "tuple" = none) (m_len : mg "len" = none) (m_range : mg "range" = none) (m_zip : mg "zip" = none) (m_combinations : mg "combinations" = some (.type "itertools.combinations")) (D_weights_of_two : DD_weights_of_two P w K mg base) (D_weights_of_three : DD_weights_of_three P w K mg base) (D_weighed_sum : DD_weighed_sum P w K mg base) : DD_paper_of P w K mg base := by
  obtain ⟨fa, fd, hm, Fu⟩ := Lf
  refine ⟨fa, fd, fn_make Fu sc_paper_of (by decide) fun cd A outer s H E hr hg => ⟨_, _, ?_, (ss_cons (s_own 1 rfl (l_lst a_nil))
    (ss_cons (s_for (i_comb m_combinations m_range (e_callB cLen sLen m_len (by decide +kernel) (a_cons (nm 0) a_nil))) (g_tup (gs_cons (tn 2) (gs_cons (tn 3) gs_nil)) rfl fun c h => pg_tup c h) (ss_cons (s_app 1 rfl (e_tup (a_cons (e_tup (a_cons (nm 2) (a_cons (nm 3) a_nil))) (a_cons (e_def D_weights_of_two bp_weights_of_two (a_cons (e_ix oIx sIx (nm 0) (nm 2)) (a_cons (e_ix oIx sIx (nm 0) (nm 3)) a_nil))) a_nil))) (by intro _; first | exact .inl rfl | exact .inr (.inl rfl)) fun a b => ps_expr (pe_bm PySem.F.plainAttrs_list PySem.F.slot_list_append PySem.F.type_list_append mt_append a (pa_cons b pa_nil)))
    ss_nil))
    (ss_cons (s_for (i_comb m_combinations m_range (e_callB cLen sLen m_len (by decide +kernel) (a_cons (nm 0) a_nil))) (g_tup (gs_cons (tn 2) (gs_cons (tn 3) (gs_cons (tn 4) gs_nil))) rfl fun c h => pg_tup c h) (ss_cons (s_app 1 rfl (e_tup (a_cons (e_tup (a_cons (nm 2) (a_cons (nm 3) (a_cons (nm 4) a_nil)))) (a_cons (e_def D_weights_of_three bp_weights_of_three (a_cons (e_ix oIx sIx (nm 0) (nm 2)) (a_cons (e_ix oIx sIx (nm 0) (nm 3)) (a_cons (e_ix oIx sIx (nm 0) (nm 4)) a_nil)))) a_nil))) (by intro _; first | exact .inl rfl | exact .inr (.inl rfl)) fun a b => ps_expr (pe_bm PySem.F.plainAttrs_list PySem.F.slot_list_append PySem.F.type_list_append mt_append a (pa_cons b pa_nil)))
    ss_nil))
    (ss_cons (s_frz 1 (s_for (i_seq (nm 1)) (g_tup (gs_cons (tn 5) (gs_cons (tn 6) gs_nil)) rfl fun c h => pg_tup c h) (ss_cons (s_if (t_cmp oIsNot sIsNot (nm 6) e_none) (ss_cons (s_set 7 rfl (e_tupZip m_tuple m_zip (a_cons (nm 5) (a_cons (nm 6) a_nil))))
    (ss_cons (s_if (t_cmp oLt sRel (e_def D_weighed_sum bp_weighed_sum (a_cons (nm 0) (a_cons (nm 7) (a_cons e_int a_nil)))) e_int) (ss_cons (s_ret (nm 7))
    ss_nil) ss_nil)
    ss_nil)) ss_nil)
    ss_nil)))
    (ss_cons (s_ret e_none)
    ss_nil))))), fun xs R hl h => ?_⟩, hm, Fu⟩
  · exact Nat.le_of_ble_eq_true rfl
  · obtain ⟨ls, rfl, hls, q1, q2⟩ := h
    have h8 := hls.2.1
    have c2 := combs_ok ls.length h8 2 (by decide)
    have c3 := combs_ok ls.length h8 3 (by decide)
    have p2 := (pairs2 ls.length h8).1
    have p3 := (pairs3 ls.length h8).1
    obtain ⟨l2, l3⟩ := combs_len ls.length h8
    have ok : ∀ i, i < ls.length → LOk (nthS ls i) := fun i hi => hls.2.2 _ (nthS_mem hi)
    unfold linesD
    try (walk_at "pz")
    rw [List.length_map]
    have eL : PyData.tuple (ls.map lineD) = linesD ls := rfl
    rw [eL]
    refine ⟨⟨by omega, by omega⟩, combsOf ls.length 2, by rw [Int.toNat_natCast]; exact c2, ?_⟩
    refine loop_over' (fun ix => Vl.d (natD ix)) (combsOf ls.length 2) (fun i ρ => ∃ s2 s3, ρ = [.v (.d (linesD ls)), .own (((combsOf ls.length 2).take i).map (entD ls)), s2, s3, .non, .non, .non, .non]) ?_ ?_ _ ⟨_, _, rfl⟩
    · rintro i hi ρ L hL ⟨s2, s3, rfl⟩
      obtain ⟨a, b, e, ab1, b1⟩ := p2 _ (List.getElem_mem hi)
      have et : ((combsOf ls.length 2).take (i + 1)).map (entD ls) = ((combsOf ls.length 2).take i).map (entD ls) ++ [entD ls [a, b]] := by
        rw [List.take_add_one, List.getElem?_eq_getElem hi, e]; simp
      rw [e]
      simp only [natD, List.map_cons, List.map_nil]
      try (walk_at "pz")
      rw [ix_ln (show a < ls.length by omega)]
      try (walk_at "pz")
      rw [ix_ln b1]
      refine ⟨_, _, rfl, ok _ (by omega), ok _ b1, ?_⟩
      try (walk_at "pz")
      refine ⟨by rw [List.length_map, List.length_take]; have := l2; omega, hL _ ⟨_, _, by rw [et]; rfl⟩⟩
    · rintro ρ ⟨s2, s3, rfl⟩
      rw [List.take_of_length_le (Nat.le_refl _)]
      try (walk_at "pz")
      rw [gLen_ln]
      refine ⟨⟨by omega, by omega⟩, combsOf ls.length 3, by rw [Int.toNat_natCast]; exact c3, ?_⟩
      refine loop_over' (fun ix => Vl.d (natD ix)) (combsOf ls.length 3) (fun i ρ => ∃ s2 s3 s4, ρ = [.v (.d (linesD ls)), .own ((combsOf ls.length 2).map (entD ls) ++ ((combsOf ls.length 3).take i).map (entD ls)), s2, s3, s4, .non, .non, .non]) ?_ ?_ _ ⟨_, _, _, by rw [List.take_zero, List.map_nil, List.append_nil]⟩
      · rintro i hi ρ L hL ⟨s2, s3, s4, rfl⟩
        obtain ⟨a, b, c, e, ab1, b1, c1⟩ := p3 _ (List.getElem_mem hi)
        have et : ((combsOf ls.length 3).take (i + 1)).map (entD ls) = ((combsOf ls.length 3).take i).map (entD ls) ++ [entD ls [a, b, c]] := by
          rw [List.take_add_one, List.getElem?_eq_getElem hi, e]; simp
        rw [e]
        simp only [natD, List.map_cons, List.map_nil]
        try (walk_at "pz")
        rw [ix_ln (show a < ls.length by omega)]
        try (walk_at "pz")
        rw [ix_ln (show b < ls.length by omega)]
        try (walk_at "pz")
        rw [ix_ln c1]
        refine ⟨_, _, _, rfl, ok _ (by omega), ok _ (by omega), ok _ c1, ?_⟩
        try (walk_at "pz")
        refine ⟨by rw [List.length_map, List.length_map, List.length_take]; have := l2; have := l3; omega, hL _ ⟨_, _, _, by rw [et, ← List.append_assoc]; rfl⟩⟩
      · rintro ρ ⟨s2, s3, s4, rfl⟩
        rw [List.take_of_length_le (Nat.le_refl _), ← List.map_append]
        have eA : combsOf ls.length 2 ++ combsOf ls.length 3 = allIx ls.length := rfl
        rw [eA]
        try (walk_at "pz")
        refine loop_over' (fun ix => Vl.d (entD ls ix)) (allIx ls.length) (fun i ρ => (∀ j, (h : j < (allIx ls.length).length) → j < i → isCert ls (allIx ls.length)[j] = false) ∧ ∃ s0 s2 s3 s4 s5 s6 s7, ρ = [.v (.d (linesD ls)), s0, s2, s3, s4, s5, s6, s7]) ?_ ?_ _ ⟨fun j _ h => absurd h (Nat.not_lt_zero j), _, _, _, _, _, _, _, rfl⟩
        · rintro i hi ρ L hL ⟨pre, s0, t2, t3, t4, t5, t6, t7, rfl⟩
          have hm := List.getElem_mem hi
          have hx := allIx_len ls.length h8 _ hm
          have nx : isCert ls (allIx ls.length)[i] = false → ∀ j, (h : j < (allIx ls.length).length) → j < i + 1 → isCert ls (allIx ls.length)[j] = false := fun z j h hj => by
            rcases Nat.lt_or_ge j i with c | c
            · exact pre j h c
            · have : j = i := by omega
              subst this; exact z
          generalize (allIx ls.length)[i] = ix at hm hx nx ⊢
          unfold entD
          try (walk_at "pz")
          cases hw : entW ls ix with
          | none =>
            have z : isCert ls ix = false := by unfold isCert; rw [hw]
            simp only [optD]
            try (walk_at "pz")
            exact hL _ ⟨nx z, _, _, _, _, _, _, _, rfl⟩
          | some ws =>
            obtain ⟨wl, wb⟩ := ent_ok hls hm hw
            simp only [optD, natD]
            try (walk_at "pz")
            refine ⟨by rw [List.length_map, List.length_map, wl], by rw [List.length_map]; omega, ?_⟩
            rw [zip_paper]
            refine ⟨ls, ix.zip ws, 2, rfl, hls, by rw [List.length_zip]; omega, wb, by decide, ?_⟩
            have ec : wsum ls (part 2) (ix.zip ws) = csumL ls ix ws := rfl
            rw [ec]
            try (walk_at "pz")
            by_cases c : csumL ls ix ws < 0
            · rw [if_pos (by simpa using c)]
              exact q2 _ (cert_paper hls hm hw c)
            · rw [if_neg (by simpa using c)]
              have z : isCert ls ix = false := by unfold isCert; rw [hw]; simpa using c
              exact hL _ ⟨nx z, _, _, _, _, _, _, _, rfl⟩
        · rintro ρ ⟨pre, s0, t2, t3, t4, t5, t6, t7, rfl⟩
          try (walk_at "pz")
          refine q1 ?_
          apply Classical.byContradiction; intro nf
          obtain ⟨ix, hix, c⟩ := exists_cert hls nf
          obtain ⟨j, hj, e⟩ := List.mem_iff_getElem.mp hix
          have := pre j hj hj
          rw [e, c] at this
          cases this
abbrev s_beyond : Stmt := topS 24
theorem sc_beyond : FnScope ["line", "point", "across", "across_below", "up", "up_below", "along"] ["line", "point"] (defScope s_beyond) := ⟨rfl, rfl, rfl, by decide +kernel, rfl, by decide +kernel, by decide +kernel⟩
theorem bp_beyond : BindP "beyond" s_beyond ["line", "point"] := fun _ _ _ _ _ _ us hl => match us, hl with | [_, _], _ => rfl
abbrev DD_beyond (P : Program) (w : World) (K : Kx) (mg : Str → Option Value) (base : Heap) : Prop := Df P w K mg base "beyond" s_beyond ["line", "point"] 1 0 fBey
theorem ok_beyond (Lf : Lo K mg "beyond" s_beyond)  : DD_beyond P w K mg base := by
  obtain ⟨fa, fd, hm, Fu⟩ := Lf
  refine ⟨fa, fd, fn_make Fu sc_beyond (by decide) fun cd A outer s H E hr hg => ⟨_, _, ?_, (ss_cons (s_unp (g_tup (gs_cons (g_tup (gs_cons (tn 2) (gs_cons (tn 3) gs_nil)) rfl fun c h => pg_tup c h) (gs_cons (g_tup (gs_cons (tn 4) (gs_cons (tn 5) gs_nil)) rfl fun c h => pg_tup c h) gs_nil)) rfl fun c h => pg_tup c h) (nm 1))
    (ss_cons (s_set 6 rfl (e_bin oAdd sAdd (e_bin oMul sMul (e_bin oMul sMul (e_ix oIx sIx (nm 0) e_int) (nm 2)) (nm 5)) (e_bin oMul sMul (e_bin oMul sMul (e_ix oIx sIx (nm 0) e_int) (nm 4)) (nm 3))))
    (ss_cons (s_ret (e_bin oSub sSub (nm 6) (e_bin oMul sMul (e_bin oMul sMul (e_ix oIx sIx (nm 0) e_int) (nm 3)) (nm 5))))
    ss_nil))), fun xs R hl h => ?_⟩, hm, Fu⟩
  · exact Nat.le_of_ble_eq_true rfl
  · obtain ⟨s, p, n, m, rfl, ⟨b1, b2, b3⟩, hp, n0, nm, q⟩ := h
    have m0 := hp.1.pos
    have x1 := hp.1.1
    have x2 := hp.1.den
    have y1 := hp.2.1
    have y2 := hp.2.den
    unfold lineD pt
    have e : ∀ r : Rat, fq r = .tuple [.int r.num, .int r.den] := fun _ => rfl
    rw [e, e]
    try (walk_at "pz")
    exact ⟨b1.ok x1 n0 m0 (by omega), (b1.mul x1).ok y2 (by omega) m0 (by omega), b2.ok y1 n0 m0 (by omega), (b2.mul y1).ok x2 (by omega) m0 (by omega), b3.ok x2 n0 m0 (by omega), (b3.mul x2).ok y2 (by omega) m0 (by omega), q⟩
abbrev s_all_let : Stmt := topS 25
theorem sc_all_let : FnScope ["lines", "point", "line"] ["lines", "point"] (defScope s_all_let) := ⟨rfl, rfl, rfl, by decide +kernel, rfl, by decide +kernel, by decide +kernel⟩
theorem bp_all_let : BindP "all_let" s_all_let ["lines", "point"] := fun _ _ _ _ _ _ us hl => match us, hl with | [_, _], _ => rfl
abbrev DD_all_let (P : Program) (w : World) (K : Kx) (mg : Str → Option Value) (base : Heap) : Prop := Df P w K mg base "all_let" s_all_let ["lines", "point"] 2 0 fAllLet
theorem ok_all_let (Lf : Lo K mg "all_let" s_all_let) (m_all : mg "all" = none) (D_beyond : DD_beyond P w K mg base) : DD_all_let P w K mg base := by
  obtain ⟨fa, fd, hm, Fu⟩ := Lf
  refine ⟨fa, fd, fn_make Fu sc_all_let (by decide) fun cd A outer s H E hr hg => ⟨_, _, ?_, (ss_cons (s_ret (e_callB cAll sAll m_all (by decide +kernel) (a_cons (e_l (l_lc [("line", 2)] (i_seq (nm 0)) (fun _ => blkOk_by (N := ["lines", "point", "line"]) (sc := defScope s_all_let) (by decide +kernel)) (tn 2) ts_nil (e_cmp oLe sRel (e_def D_beyond bp_beyond (a_cons (nm 2) (a_cons (nm 1) a_nil))) e_int))) a_nil)))
    ss_nil), fun xs R hl h => ?_⟩, hm, Fu⟩
  · exact Nat.le_of_ble_eq_true rfl
  · obtain ⟨ls, p, rfl, ⟨h1, h8, hs⟩, hp, q⟩ := h
    unfold linesD
    try (walk_at "pz")
    refine ⟨by rw [List.length_map]; omega, lc_map (fun s => Vl.d (lineD s)) (fun s => .bool (decide (beyI s p ≤ 0))) ls [] _ (fun s hs' T1 T2 hT1 => ?_) ?_⟩
    · try (walk_at "pz")
      refine ⟨s, p, 10, 1000, rfl, (hs s hs').b, hp, by decide, by decide, ?_⟩
      try (walk_at "pz")
      exact hT1
    · rw [List.nil_append]
      refine ⟨_, allBs_bools (fun s : Line => decide (beyI s p ≤ 0)) ls, ?_⟩
      have e : (ls.map fun s : Line => decide (beyI s p ≤ 0)).all id = decide (∀ s ∈ ls, beyI s p ≤ 0) := by
        rw [Bool.eq_iff_iff]; simp
      rw [e]
      exact q
abbrev s_need_shape : Stmt := topS 22
theorem sc_need_shape : FnScope ["shape"] ["shape"] (defScope s_need_shape) := ⟨rfl, rfl, rfl, by decide +kernel, rfl, by decide +kernel, by decide +kernel⟩
theorem bp_need_shape : BindP "need_shape" s_need_shape ["shape"] := fun _ _ _ _ _ _ us hl => match us, hl with | [_], _ => rfl
abbrev DD_need_shape (P : Program) (w : World) (K : Kx) (mg : Str → Option Value) (base : Heap) : Prop := Df P w K mg base "need_shape" s_need_shape ["shape"] 5 0 fNeedShape
theorem ok_need_shape (Lf : Lo K mg "need_shape" s_need_shape) (D_need_lines : DD_need_lines P w K mg base) (D_paper_of : DD_paper_of P w K mg base) : DD_need_shape P w K mg base := by
  obtain ⟨fa, fd, hm, Fu⟩ := Lf
  refine ⟨fa, fd, fn_make Fu sc_need_shape (by decide) fun cd A outer s H E hr hg => ⟨_, _, ?_, (ss_cons (s_expr (e_def D_need_lines bp_need_lines (a_cons (nm 0) a_nil)))
    (ss_cons (s_if (t_cmp oIsNot sIsNot (e_def D_paper_of bp_paper_of (a_cons (nm 0) a_nil)) e_none) (ss_cons s_never
    ss_nil) ss_nil)
    (ss_cons (s_ret (nm 0))
    ss_nil))), fun xs R hl h => ?_⟩, hm, Fu⟩
  · exact Nat.le_of_ble_eq_true rfl
  · obtain ⟨ls, rfl, hls, hf, q⟩ := h
    try (walk_at "pz")
    refine ⟨ls, rfl, hls, ?_⟩
    try (walk_at "pz")
    refine ⟨ls, rfl, hls, fun _ => ?_, fun p hp => absurd hf (paper_none hp)⟩
    try (walk_at "pz")
    exact q
abbrev s_lets : Stmt := topS 26
theorem sc_lets : FnScope ["shape", "point"] ["shape", "point"] (defScope s_lets) := ⟨rfl, rfl, rfl, by decide +kernel, rfl, by decide +kernel, by decide +kernel⟩
theorem bp_lets : BindP "lets" s_lets ["shape", "point"] := fun _ _ _ _ _ _ us hl => match us, hl with | [_, _], _ => rfl
abbrev DD_lets (P : Program) (w : World) (K : Kx) (mg : Str → Option Value) (base : Heap) : Prop := Df P w K mg base "lets" s_lets ["shape", "point"] 7 0 fLets
theorem ok_lets (Lf : Lo K mg "lets" s_lets) (D_need_shape : DD_need_shape P w K mg base) (D_need_point : DD_need_point P w K mg base) (D_all_let : DD_all_let P w K mg base) : DD_lets P w K mg base := by
  obtain ⟨fa, fd, hm, Fu⟩ := Lf
  refine ⟨fa, fd, fn_make Fu sc_lets (by decide) fun cd A outer s H E hr hg => ⟨_, _, ?_, (ss_cons (s_expr (e_def D_need_shape bp_need_shape (a_cons (nm 0) a_nil)))
    (ss_cons (s_expr (e_def D_need_point bp_need_point (a_cons (nm 1) a_nil)))
    (ss_cons (s_ret (e_def D_all_let bp_all_let (a_cons (nm 0) (a_cons (nm 1) a_nil))))
    ss_nil))), fun xs R hl h => ?_⟩, hm, Fu⟩
  · exact Nat.le_of_ble_eq_true rfl
  · obtain ⟨ls, p, rfl, hls, hf, hp, q⟩ := h
    try (walk_at "pz")
    refine ⟨ls, rfl, hls, hf, ?_⟩
    try (walk_at "pz")
    exact ⟨ls, p, rfl, hls, hp, q⟩
abbrev s_tight : Stmt := topS 27
theorem sc_tight : FnScope ["shape", "point", "number", "line"] ["shape", "point"] (defScope s_tight) := ⟨rfl, rfl, rfl, by decide +kernel, rfl, by decide +kernel, by decide +kernel⟩
theorem bp_tight : BindP "tight" s_tight ["shape", "point"] := fun _ _ _ _ _ _ us hl => match us, hl with | [_, _], _ => rfl
abbrev DD_tight (P : Program) (w : World) (K : Kx) (mg : Str → Option Value) (base : Heap) : Prop := Df P w K mg base "tight" s_tight ["shape", "point"] 8 0 fTight
theorem ok_tight (Lf : Lo K mg "tight" s_tight) (m_tuple : mg "tuple" = none) (m_enumerate : mg "enumerate" = none) (D_lets : DD_lets P w K mg base) (D_beyond : DD_beyond P w K mg base) : DD_tight P w K mg base := by
  obtain ⟨fa, fd, hm, Fu⟩ := Lf
  refine ⟨fa, fd, fn_make Fu sc_tight (by decide) fun cd A outer s H E hr hg => ⟨_, _, ?_, (ss_cons (s_if (t_not (t_val (e_def D_lets bp_lets (a_cons (nm 0) (a_cons (nm 1) a_nil))))) (ss_cons (s_ret (e_tup a_nil))
    ss_nil) ss_nil)
    (ss_cons (s_ret (e_callT cTuple sTuple m_tuple (by decide +kernel) (a_cons (e_l (l_lc [("number", 2), ("line", 3)] (i_enum m_enumerate (a_cons (nm 0) a_nil)) (fun _ => blkOk_by (N := ["shape", "point", "number", "line"]) (sc := defScope s_tight) (by decide +kernel)) (g_tup (gs_cons (tn 2) (gs_cons (tn 3) gs_nil)) rfl fun c h => pg_tup c h) (ts_one (t_cmp oEq sEq (e_def D_beyond bp_beyond (a_cons (nm 3) (a_cons (nm 1) a_nil))) e_int)) (nm 2))) a_nil)))
    ss_nil)), fun xs R hl h => ?_⟩, hm, Fu⟩
  · exact Nat.le_of_ble_eq_true rfl
  · obtain ⟨ls, p, rfl, hls, hf, hp, q⟩ := h
    try (walk_at "pz")
    refine ⟨ls, p, rfl, hls, hf, hp, ?_⟩
    try (walk_at "pz")
    by_cases z : ∀ s ∈ ls, beyI s p ≤ 0
    · rw [if_pos z] at q
      rw [if_neg (by simpa using z)]
      unfold linesD
      try (walk_at "pz")
      refine ⟨by rw [List.length_map, List.length_zipIdx]; have := hls.2.1; omega, lc_filter (fun q : Line × Nat => Vl.d (.tuple [.int (q.2 : Nat), lineD q.1])) (fun q => decide (beyI q.1 p = 0)) (fun q => .int (q.2 : Nat)) ls.zipIdx [] _ (fun q hq T1 T2 hT1 => ?_) ?_⟩
      · have hs : LOk q.1 := hls.2.2 _ (by
          obtain ⟨s, i⟩ := q
          exact (List.mem_zipIdx hq).2.2 ▸ List.getElem_mem _)
        try (walk_at "pz")
        refine ⟨q.1, p, 10, 1000, rfl, hs.b, hp, by decide, by decide, ?_⟩
        show fEq false _ _ _
        rw [fEq_int]
        simpa [asB] using hT1
      · rw [List.nil_append]
        exact q
    · rw [if_neg z] at q
      rw [if_pos (by simpa using z)]
      exact q
abbrev DDX_need_lines (P : Program) (w : World) (K : Kx) (mg : Str → Option Value) (base : Heap) : Prop := DfX P w K mg base "need_lines" s_need_lines ["lines"] 4 0 fNeedLinesX
theorem okx_need_lines (Lf : Lo K mg "need_lines" s_need_lines) (m_enumerate : mg "enumerate" = none) (c_MOST_LINES : Cn K mg "MOST_LINES" (.int 8)) (D_is_row : DD_is_row P w K mg base) (D_is_line : DD_is_line P w K mg base) (C_BadShape : Px.Cl P w K mg base "BadShape" "place") : DDX_need_lines P w K mg base := by
  obtain ⟨fa, fd, hm, Fu⟩ := Lf
  refine ⟨fa, fd, fnX_make Fu sc_need_lines (by decide) fun cd A outer s H E hr hg => ⟨_, _, ?_, (xs_cons (x_if (t_not (t_val (e_def D_is_row bp_is_row (a_cons (nm 0) (a_cons e_int (a_cons (e_con c_MOST_LINES) a_nil)))))) (xs_cons (x_raise C_BadShape (a_cons (e_tup a_nil) a_nil))
    xs_nil) xs_nil)
    (xs_cons (x_for (i_enum m_enumerate (a_cons (nm 0) a_nil)) (g_tup (gs_cons (tn 1) (gs_cons (tn 2) gs_nil)) rfl fun c h => pg_tup c h) (xs_cons (x_if (t_not (t_val (e_def D_is_line bp_is_line (a_cons (nm 2) a_nil)))) (xs_cons (x_raise C_BadShape (a_cons (e_tup (a_cons (nm 1) a_nil)) a_nil))
    xs_nil) xs_nil)
    xs_nil))
    (xs_cons (x_of (s_ret (nm 0)))
    xs_nil))), fun xs R EX hl h => ?_⟩, hm, Fu⟩
  · exact Nat.le_of_ble_eq_true rfl
  · obtain ⟨ls, rfl, ⟨h1, h8, hs⟩, q⟩ := h
    unfold linesD at *
    have e : isRow (.tuple (ls.map lineD)) 1 8 = true := by simp [isRow]; omega
    try (walk_at "pz")
    rw [e]
    try (walk_at "pz")
    refine loop_overX (fun p : Line × Nat => Vl.d (.tuple [.int (p.2 : Nat), lineD p.1])) ls.zipIdx (fun i ρ => ∃ s1 s2, ρ = [.v (.d (.tuple (ls.map lineD))), s1, s2]) ?_ ?_ _ ⟨_, _, rfl⟩
    · rintro i hi ρ L hL ⟨s1, s2, rfl⟩
      have hi' : i < ls.length := by simpa using hi
      have ej : ls.zipIdx[i] = (ls[i], i) := by simp
      rw [ej]
      try (walk_at "pz")
      refine ⟨_, rfl, hs _ (List.getElem_mem hi'), ?_⟩
      try (walk_at "pz")
      exact hL _ ⟨_, _, rfl⟩
    · rintro ρ ⟨s1, s2, rfl⟩
      try (walk_at "pz")
      exact q
abbrev DDX_need_shape (P : Program) (w : World) (K : Kx) (mg : Str → Option Value) (base : Heap) : Prop := DfX P w K mg base "need_shape" s_need_shape ["shape"] 5 0 fNeedShapeX
theorem okx_need_shape (Lf : Lo K mg "need_shape" s_need_shape) (D_paper_of : DD_paper_of P w K mg base) (DX_need_lines : DDX_need_lines P w K mg base) (C_BadShape : Px.Cl P w K mg base "BadShape" "place") : DDX_need_shape P w K mg base := by
  obtain ⟨fa, fd, hm, Fu⟩ := Lf
  refine ⟨fa, fd, fnX_make Fu sc_need_shape (by decide) fun cd A outer s H E hr hg => ⟨_, _, ?_, (xs_cons (x_expr (e_defX DX_need_lines bp_need_lines (a_cons (nm 0) a_nil)))
    (xs_cons (x_if (t_cmp oIsNot sIsNot (e_def D_paper_of bp_paper_of (a_cons (nm 0) a_nil)) e_none) (xs_cons (x_raise C_BadShape (a_cons (e_tup a_nil) a_nil))
    xs_nil) xs_nil)
    (xs_cons (x_of (s_ret (nm 0)))
    xs_nil))), fun xs R EX hl h => ?_⟩, hm, Fu⟩
  · exact Nat.le_of_ble_eq_true rfl
  · obtain ⟨ls, rfl, hls, q1, q2⟩ := h
    try (walk_at "pz")
    refine ⟨ls, rfl, hls, ?_⟩
    refine ⟨ls, rfl, hls, fun hf => ?_, fun p hp => ?_⟩
    · try (walk_at "pz")
      exact q1 hf
    · unfold paperP
      try (walk_at "pz")
      exact ⟨_, rfl, q2 (paper_none hp)⟩

end
end K06

set_option Elab.async false
set_option linter.all false
set_option maxRecDepth 100000
set_option maxHeartbeats 4000000
set_option exponentiation.threshold 10000
namespace K06
local macro_rules | `(tactic| walk_at "px") => `(tactic| simp only [Px.rd, Px.ownAt, Px.frz, Px.fAdd, Px.fSub, Px.fMul, Px.fFdiv, Px.fMod, Px.fPow, Px.fRel, Px.fEq_int, Px.fEq_str, Px.fEq_bool, Px.fEq_fq, Px.fIs, Px.fIsTy, Px.fIx_l, Px.fIx_t, Px.ix0, Px.ix1, Px.at_0, Px.at_1, Px.at_2, Px.at_3, Px.at_4, Px.ex_some, Px.fSl, Px.gLen, Px.gAbs, Px.gInt, Px.gTuple, Px.gList, Px.gGcd, Px.gSum, Px.gMax, Px.gMin, Px.gAll, Px.gAny, Px.gRepr, Px.gTy, Px.tyOf, Px.asB, Px.asTru, Px.truD, Px.asNeg, Px.asI, Px.asL, Px.asT, Px.asS, Px.asR1, Px.asR2, Px.asZ, Px.asZM, Px.asRg, Px.asRgI, Px.blkE, Px.wipeE, Px.unown, Px.asS, Px.asE, Px.asTwo, Px.asApp, Px.allD, Px.gNm, Px.isNon, Px.isSt, Px.pick,
  List.map_cons, List.map_nil, List.length_cons, List.length_nil, List.length_set, List.replicate_succ, List.replicate_zero, List.cons_append, List.nil_append, List.append_nil, List.getElem?_cons_zero, List.getD_cons_zero, List.getD_cons_succ, List.getElem?_cons_succ, List.set_cons_zero, List.set_cons_succ, Nat.reduceAdd, Nat.reduceSub, Nat.reduceLT, Nat.reduceLeDiff, Nat.zero_add, Nat.mul_zero, Nat.add_zero, eq_self, Nat.sub_self, true_and, and_true, true_or, if_true, Bool.false_eq_true, if_false, ne_eq, not_false_eq_true, Nat.zero_lt_succ, Nat.lt_add_one, Nat.succ_lt_succ_iff])
local macro_rules | `(tactic| walk_at "pz") => `(tactic| simp only [Px.at_last, Px.fKind_eq, Px.fPair_eq, Px.fIsFr_eq, Px.fRow_eq, Px.fWithin_eq, Px.fmOf_mg, Px.isFr_fq, Px.isTy, decide_true, Bool.not_true, Bool.not_false, Bool.and_true, Bool.true_and, Bool.false_and, Bool.and_false, Bool.or_false, Bool.or_true, Px.px0, Px.px1, Px.fNeedPt_eq, Px.fNeedFr_eq, Px.isSt, List.length_append, List.getElem?_map, and_self, Px.map_d, Px.pairs_map, Px.enumD_map, Px.rd, Px.ownAt, Px.frz, Px.fAdd, Px.fSub, Px.fMul, Px.fFdiv, Px.fMod, Px.fPow, Px.fRel, Px.fEq_int, Px.fEq_str, Px.fEq_bool, Px.fEq_fq, Px.fIs, Px.fIsTy, Px.fIx_l, Px.fIx_t, Px.ix0, Px.ix1, Px.at_0, Px.at_1, Px.at_2, Px.at_3, Px.at_4, Px.ex_some, Px.fSl, Px.gLen_l, Px.gLen_t, Px.gLen_tab, Px.gLen_row, Px.gLen_sh, Px.asS_tab, Px.asS_row, Px.asS_sh, Px.asE_tab, Px.asE_row, Px.asE_sh, Px.asZ_tab, Px.asZ_row, Px.ix_tab0, Px.ix_c0, Px.ix_c1, Px.gAbs, Px.gInt, Px.gTuple_l, Px.gTuple_t, Px.gList_l, Px.gList_t, Px.gGcd, Px.gSum, Px.gMax, Px.gMin, Px.gAll, Px.gAny, Px.gRepr, Px.gTy, Px.tyOf, Px.asB, Px.asTru, Px.truD, Px.asNeg, Px.asI, Px.asL, Px.asT, Px.asS_l, Px.asS_t, Px.asR1, Px.asR2, Px.asZ, Px.asZ_ll, Px.asZ_tt, Px.asZ_lt, Px.asRg, Px.asRgI, Px.blkE, Px.wipeE, Px.unown, Px.asE_l, Px.asE_t, Px.asTwo, Px.asApp, Px.allD, Px.gNm, Px.isNon, Px.isSt, Px.pick,
  List.map_cons, List.map_nil, List.length_cons, List.length_nil, List.length_set, List.replicate_succ, List.replicate_zero, List.cons_append, List.nil_append, List.append_nil, List.getElem?_cons_zero, List.getD_cons_zero, List.getD_cons_succ, List.getElem?_cons_succ, List.set_cons_zero, List.set_cons_succ, Nat.reduceAdd, Nat.reduceSub, Nat.reduceLT, Nat.reduceLeDiff, Nat.zero_add, Nat.mul_zero, Nat.add_zero, eq_self, Nat.sub_self, true_and, and_true, true_or, if_true, Bool.false_eq_true, if_false, ne_eq, not_false_eq_true, Nat.zero_lt_succ, Nat.lt_add_one, Nat.succ_lt_succ_iff])
open PySem PySem.Spec PyProof.Rows L2 Px
section
variable {P : Program} {w : World} {K : Kx} {fg : Fg} {d c l : Addr} {nC : Nat} {mg : Str → Option Value} {base : Heap}

abbrev s__law_sides : Stmt := topS 48
theorem sc__law_sides : FnScope ["state_so", "most", "high", "middle", "step"] ["state_so", "most", "high"] (defScope s__law_sides) := ⟨rfl, rfl, rfl, by decide +kernel, rfl, by decide +kernel, by decide +kernel⟩
theorem bp__law_sides : BindP "_law_sides" s__law_sides ["state_so", "most", "high"] := fun _ _ _ _ _ _ us hl => match us, hl with | [_, _, _], _ => rfl
abbrev DD__law_sides (P : Program) (w : World) (fg : Fg) (d c l : Addr) (nC : Nat) (mg : Str → Option Value) (base : Heap) : Prop := Df P w (stK fg d c l nC) mg base "_law_sides" s__law_sides ["state_so", "most", "high"] 5 42535295865117307937533511947398414339 fSides
theorem ok__law_sides (Lf : Lo fg mg "_law_sides" s__law_sides) (m_tuple : mg "tuple" = none) (m_range : mg "range" = none) (D__law_cell : DD__law_cell P w fg d c l nC mg base) (D__law_draw : DD__law_draw P w fg d c l nC mg base) (D__law_side : DD__law_side P w fg d c l nC mg base) : DD__law_sides P w fg d c l nC mg base := by
  obtain ⟨fa, fd, hm, Fu⟩ := Lf
  refine ⟨fa, fd, fn_make Fu sc__law_sides (by decide) fun cd A outer s H E hr hg => ⟨_, _, ?_, (ss_cons (s_set 3 rfl (e_def D__law_cell bp__law_cell (a_cons (nm 0) (a_cons (nm 2) a_nil))))
    (ss_cons (s_ret (e_callT cTuple sTuple m_tuple (by decide +kernel) (a_cons (e_l (l_lc [("step", 4)] (i_rng1 m_range (a_cons (e_bin oAdd sAdd e_int (e_def D__law_draw bp__law_draw (a_cons (nm 0) (a_cons (nm 1) a_nil)))) a_nil)) (fun _ => blkOk_by (N := ["state_so", "most", "high", "middle", "step"]) (sc := defScope s__law_sides) (by decide +kernel)) (tn 4) ts_nil (e_def D__law_side bp__law_side (a_cons (nm 0) (a_cons (nm 3) a_nil))))) a_nil)))
    ss_nil)), fun xs R hl h => ?_⟩, hm, Fu⟩
  · exact Nat.le_of_ble_eq_true rfl
  · obtain ⟨n, rfl, n1, n8, q⟩ := h
    try (walk_at "pz")
    refine ⟨3, rfl, by decide, by decide, fun c hc => ?_⟩
    try (walk_at "pz")
    refine ⟨n, rfl, n1, (Bd.of_lt (n := 10) (j := 9) (by omega) (by decide)).mono (by decide), fun k k0 k1 => ?_⟩
    try (walk_at "pz")
    refine ⟨by omega, by omega, by rw [irange_len]; omega, ?_⟩
    refine lc_draw (fun d => ∃ s : Line, LOk s ∧ d = lineD s) _ _ _ (fun x T T' hT => ?_) fun ds hl hg => ?_
    · try (walk_at "pz")
      refine ⟨c, rfl, hc, fun a b r h0 a1 a2 b1 b2 r1 r2 => ?_⟩
      exact hT _ ⟨_, side_ok hc h0 a1 a2 b1 b2 r1 r2, rfl⟩
    · obtain ⟨ls, rfl, hls⟩ := of_good lineD LOk ds hg
      rw [List.length_map] at hl
      exact q ls ⟨by omega, by omega, hls⟩
abbrev s__law_inside : Stmt := topS 50
theorem sc__law_inside : FnScope ["sides_so", "one", "side"] ["sides_so", "one"] (defScope s__law_inside) := ⟨rfl, rfl, rfl, by decide +kernel, rfl, by decide +kernel, by decide +kernel⟩
theorem bp__law_inside : BindP "_law_inside" s__law_inside ["sides_so", "one"] := fun _ _ _ _ _ _ us hl => match us, hl with | [_, _], _ => rfl
abbrev DD__law_inside (P : Program) (w : World) (K : Kx) (mg : Str → Option Value) (base : Heap) : Prop := Df P w K mg base "_law_inside" s__law_inside ["sides_so", "one"] 6 0 fInside
theorem ok__law_inside (Lf : Lo K mg "_law_inside" s__law_inside) (D__law_above : DD__law_above P w K mg base) : DD__law_inside P w K mg base := by
  obtain ⟨fa, fd, hm, Fu⟩ := Lf
  refine ⟨fa, fd, fn_make Fu sc__law_inside (by decide) fun cd A outer s H E hr hg => ⟨_, _, ?_, (ss_cons (s_ret (e_cmp oEq sEq (e_l (l_lc [("side", 2)] (i_seq (nm 0)) (fun _ => blkOk_by (N := ["sides_so", "one", "side"]) (sc := defScope s__law_inside) (by decide +kernel)) (tn 2) (ts_one (t_cmp oGt sRel (e_ix oIx sIx (e_def D__law_above bp__law_above (a_cons (nm 2) (a_cons (nm 1) a_nil))) e_int) e_int)) e_int)) (e_l (l_lst a_nil))))
    ss_nil), fun xs R hl h => ?_⟩, hm, Fu⟩
  · exact Nat.le_of_ble_eq_true rfl
  · obtain ⟨ls, p, rfl, hls, hp, q⟩ := h
    unfold linesD
    try (walk_at "pz")
    refine ⟨by rw [List.length_map]; have := hls.2.1; omega, lc_filter (fun s => Vl.d (lineD s)) (fun s => decide (0 < abv s p)) (fun _ => .int 1) ls [] _ (fun s hs T1 T2 hT1 => ?_) ?_⟩
    · try (walk_at "pz")
      refine ⟨s, p, 10, 1000, rfl, (hls.2.2 s hs).b, hp, by decide, by decide, ?_⟩
      show fIx _ _ _
      rw [fq_ix0]
      try (walk_at "pz")
      have e : decide (0 < (abv s p).num) = decide (0 < abv s p) := by rw [decide_eq_decide]; exact num_posq _
      rw [e]
      exact hT1
    · rw [List.nil_append]
      have e : (ls.filter fun s => decide (0 < abv s p)).map (fun _ => PyData.int 1) = ((ls.filter fun s => decide (0 < abv s p)).map fun _ => (1 : Int)).map PyData.int := by rw [List.map_map]; rfl
      rw [e, fEq_l0]
      have e2 : decide ((ls.filter fun s => decide (0 < abv s p)).map (fun _ => (1 : Int)) = []) = decide (∀ s ∈ ls, abv s p ≤ 0) := by
        rw [decide_eq_decide, List.map_eq_nil_iff, List.filter_eq_nil_iff]
        exact ⟨fun h s hs => Rat.not_lt.mp fun c => h s hs (decide_eq_true c), fun h s hs c => absurd (of_decide_eq_true c) (Rat.not_lt.mpr (h s hs))⟩
      rw [e2]
      exact q
abbrev s__law_meeting : Stmt := topS 51
theorem sc__law_meeting : FnScope ["near", "far", "whole", "across"] ["near", "far"] (defScope s__law_meeting) := ⟨rfl, rfl, rfl, by decide +kernel, rfl, by decide +kernel, by decide +kernel⟩
theorem bp__law_meeting : BindP "_law_meeting" s__law_meeting ["near", "far"] := fun _ _ _ _ _ _ us hl => match us, hl with | [_, _], _ => rfl
abbrev DD__law_meeting (P : Program) (w : World) (K : Kx) (mg : Str → Option Value) (base : Heap) : Prop := Df P w K mg base "_law_meeting" s__law_meeting ["near", "far"] 3 0 fMeet
theorem ok__law_meeting (Lf : Lo K mg "_law_meeting" s__law_meeting) (D__law_share : DD__law_share P w K mg base) : DD__law_meeting P w K mg base := by
  obtain ⟨fa, fd, hm, Fu⟩ := Lf
  refine ⟨fa, fd, fn_make Fu sc__law_meeting (by decide) fun cd A outer s H E hr hg => ⟨_, _, ?_, (ss_cons (s_set 2 rfl (e_bin oSub sSub (e_bin oMul sMul (e_ix oIx sIx (nm 0) e_int) (e_ix oIx sIx (nm 1) e_int)) (e_bin oMul sMul (e_ix oIx sIx (nm 0) e_int) (e_ix oIx sIx (nm 1) e_int))))
    (ss_cons (s_if (t_cmp oEq sEq (nm 2) e_int) (ss_cons (s_ret e_none)
    ss_nil) ss_nil)
    (ss_cons (s_set 3 rfl (e_def D__law_share bp__law_share (a_cons (e_bin oSub sSub (e_bin oMul sMul (e_ix oIx sIx (nm 0) e_int) (e_ix oIx sIx (nm 1) e_int)) (e_bin oMul sMul (e_ix oIx sIx (nm 0) e_int) (e_ix oIx sIx (nm 1) e_int))) (a_cons (nm 2) a_nil))))
    (ss_cons (s_ret (e_tup (a_cons (nm 3) (a_cons (e_def D__law_share bp__law_share (a_cons (e_bin oSub sSub (e_bin oMul sMul (e_ix oIx sIx (nm 0) e_int) (e_ix oIx sIx (nm 1) e_int)) (e_bin oMul sMul (e_ix oIx sIx (nm 0) e_int) (e_ix oIx sIx (nm 1) e_int))) (a_cons (nm 2) a_nil))) a_nil))))
    ss_nil)))), fun xs R hl h => ?_⟩, hm, Fu⟩
  · exact Nat.le_of_ble_eq_true rfl
  · obtain ⟨l, m, rfl, hl, hm, q⟩ := h
    try (walk_at "pz")
    simp only [ix_l0, ix_l1, ix_l2]
    try (walk_at "pz")
    have bl := hl.b
    have bm := hm.b
    refine ⟨bl.1.ok bm.2.1 (by decide) (by decide) (by decide), bl.2.1.ok bm.1 (by decide) (by decide) (by decide), ?_⟩
    have et : l.1 * m.2.1 - l.2.1 * m.1 = turnI l m := rfl
    rw [et]
    by_cases z : turnI l m = 0
    · rw [if_pos (by simp [z])]
      rw [if_pos z] at q
      exact q
    · rw [if_neg (by simp [z])]
      rw [if_neg z] at q
      have bt : Bd 8000 (turnI l m) := (turn_bd hl hm).mono (by decide)
      refine ⟨bl.2.2.ok bm.2.1 (by decide) (by decide) (by decide), bl.2.1.ok bm.2.2 (by decide) (by decide) (by decide), ?_⟩
      rw [fRed_eq z bt]
      refine ⟨bl.1.ok bm.2.2 (by decide) (by decide) (by decide), bl.2.2.ok bm.1 (by decide) (by decide) (by decide), ?_⟩
      rw [fRed_eq z bt]
      exact q
abbrev s__law_corners : Stmt := topS 52
theorem sc__law_corners : FnScope ["sides_so", "found", "near", "far", "one"] ["sides_so"] (defScope s__law_corners) := ⟨rfl, rfl, rfl, by decide +kernel, rfl, by decide +kernel, by decide +kernel⟩
theorem bp__law_corners : BindP "_law_corners" s__law_corners ["sides_so"] := fun _ _ _ _ _ _ us hl => match us, hl with | [_], _ => rfl
abbrev DD__law_corners (P : Program) (w : World) (K : Kx) (mg : Str → Option Value) (base : Heap) : Prop := Df P w K mg base "_law_corners" s__law_corners ["sides_so"] 7 0 fCorners
theorem ok__law_corners (Lf : Lo K mg "_law_corners" s__law_corners) (D__law_meeting : DD__law_meeting P w K mg base) (D__law_inside : DD__law_inside P w K mg base) : DD__law_corners P w K mg base := by
  obtain ⟨fa, fd, hm, Fu⟩ := Lf
  refine ⟨fa, fd, fn_make Fu sc__law_corners (by decide) fun cd A outer s H E hr hg => ⟨_, _, ?_, (ss_cons (s_own 1 rfl (l_lst a_nil))
    (ss_cons (s_for (i_seq (nm 0)) (tn 2) (ss_cons (s_for (i_seq (nm 0)) (tn 3) (ss_cons (s_set 4 rfl (e_def D__law_meeting bp__law_meeting (a_cons (nm 2) (a_cons (nm 3) a_nil))))
    (ss_cons (s_if (t_w (w_and (t_cmp oIsNot sIsNot (nm 4) e_none) (w_and (t_inOwn true 1 (nm 4)) (w_one1 (t_val (e_def D__law_inside bp__law_inside (a_cons (nm 0) (a_cons (nm 4) a_nil)))))))) (ss_cons (s_app 1 rfl (nm 4) (by intro _; first | exact .inl rfl | exact .inr (.inl rfl)) fun a b => ps_expr (pe_bm PySem.F.plainAttrs_list PySem.F.slot_list_append PySem.F.type_list_append mt_append a (pa_cons b pa_nil)))
    ss_nil) ss_nil)
    ss_nil)))
    ss_nil))
    (ss_cons (s_frz 1 (s_ret (nm 1)))
    ss_nil))), fun xs R hl h => ?_⟩, hm, Fu⟩
  · exact Nat.le_of_ble_eq_true rfl
  · obtain ⟨ls, rfl, hls, q⟩ := h
    have h8 := hls.2.1
    unfold linesD
    try (walk_at "pz")
    refine loop_over' (fun s => Vl.d (lineD s)) ls (fun i ρ => ∃ (ps : List (Rat × Rat)) (s2 s3 s4 : Sl), ρ = [.v (.d (linesD ls)), .own (ps.map pt), s2, s3, s4] ∧ CornI ls ps (i * 8) ((ls.take i).flatMap fun l => ls.map fun m => (l, m))) ?_ ?_ _ ⟨[], _, _, _, rfl, cornI_nil⟩
    · rintro i hi ρ L hL ⟨ps, s2, s3, s4, rfl, hI⟩
      have hl := hls.2.2 _ (List.getElem_mem hi)
      have ei : (ls.take (i + 1)).flatMap (fun l => ls.map fun m => (l, m)) = (ls.take i).flatMap (fun l => ls.map fun m => (l, m)) ++ ls.map fun m => (ls[i], m) := by
        rw [List.take_add_one, List.getElem?_eq_getElem hi, List.flatMap_append]
        exact congrArg (_ ++ ·) (List.append_nil _)
      unfold linesD
      try (walk_at "pz")
      refine loop_over' (fun s => Vl.d (lineD s)) ls (fun j ρ => ∃ (ps : List (Rat × Rat)) (s3 s4 : Sl), ρ = [.v (.d (linesD ls)), .own (ps.map pt), .v (.d (lineD ls[i])), s3, s4] ∧ CornI ls ps (i * 8 + j) ((ls.take i).flatMap (fun l => ls.map fun m => (l, m)) ++ (ls.take j).map fun m => (ls[i], m))) ?_ ?_ _ ⟨ps, _, _, rfl, by simpa using hI⟩
      · rintro j hj ρ L2 hL2 ⟨ps, s3, s4, rfl, hI⟩
        have hm := hls.2.2 _ (List.getElem_mem hj)
        have ej : (ls.take i).flatMap (fun l => ls.map fun m => (l, m)) ++ (ls.take (j + 1)).map (fun m => (ls[i], m)) = ((ls.take i).flatMap (fun l => ls.map fun m => (l, m)) ++ (ls.take j).map fun m => (ls[i], m)) ++ [(ls[i], ls[j])] := by
          rw [List.take_add_one, List.getElem?_eq_getElem hj, List.map_append, List.append_assoc]; rfl
        have lp := hI.len
        try (walk_at "pz")
        refine ⟨_, _, rfl, hl, hm, ?_⟩
        by_cases z : turnI ls[i] ls[j] = 0
        · rw [if_pos z]
          try (walk_at "pz")
          exact hL2 _ ⟨ps, _, _, rfl, by rw [ej]; exact hI.skip fun h => absurd z h⟩
        · rw [if_neg z]
          have mb := meet_b hl hm z
          show gInO true _ (ps.map pt) (.d (pt (meetI ls[i] ls[j])))
          refine ⟨rfl, shaped_pts ps, ?_⟩
          rw [any_pts]
          by_cases w : meetI ls[i] ls[j] ∈ ps
          · simp only [w, decide_true, Bool.bne_true, Bool.not_true]
            try (walk_at "pz")
            exact hL2 _ ⟨ps, _, _, rfl, by rw [ej]; exact hI.skip fun _ _ z => by rw [z] at w; cases w⟩
          · simp only [w, decide_false, Bool.xor_false]
            try (walk_at "pz")
            refine ⟨ls, _, rfl, hls, mb.mono (by decide), ?_⟩
            by_cases v : ∀ s ∈ ls, abv s (meetI ls[i] ls[j]) ≤ 0
            · rw [decide_eq_true v]
              try (walk_at "pz")
              refine ⟨by rw [List.length_map]; omega, hL2 _ ⟨ps ++ [meetI ls[i] ls[j]], _, _, by rw [List.map_append]; rfl, by rw [ej]; exact hI.put ⟨v, mb⟩⟩⟩
            · rw [decide_eq_false v]
              try (walk_at "pz")
              exact hL2 _ ⟨ps, _, _, rfl, by rw [ej]; exact hI.skip fun _ h => absurd h v⟩
      · rintro ρ ⟨ps, s3, s4, rfl, hI⟩
        refine hL _ ⟨ps, _, _, _, rfl, ?_⟩
        rw [ei]
        rw [List.take_of_length_le (Nat.le_refl _)] at hI
        exact hI.le (by omega)
    · rintro ρ ⟨ps, s2, s3, s4, rfl, hI⟩
      rw [List.take_of_length_le (Nat.le_refl _)] at hI
      try (walk_at "pz")
      refine q ps (by have := hI.len; omega) hI.good fun ⟨l, hl, m, hm, hq⟩ => hI.ne (l, m) ?_ hq.1 hq.2
      exact List.mem_flatMap.mpr ⟨l, hl, List.mem_map_of_mem hm⟩
abbrev s__law_foot : Stmt := topS 53
theorem sc__law_foot : FnScope ["side", "one", "size", "back"] ["side", "one"] (defScope s__law_foot) := ⟨rfl, rfl, rfl, by decide +kernel, rfl, by decide +kernel, by decide +kernel⟩
theorem bp__law_foot : BindP "_law_foot" s__law_foot ["side", "one"] := fun _ _ _ _ _ _ us hl => match us, hl with | [_, _], _ => rfl
abbrev DD__law_foot (P : Program) (w : World) (K : Kx) (mg : Str → Option Value) (base : Heap) : Prop := Df P w K mg base "_law_foot" s__law_foot ["side", "one"] 6 0 fFoot
theorem ok__law_foot (Lf : Lo K mg "_law_foot" s__law_foot) (D__law_over : DD__law_over P w K mg base) (D__law_above : DD__law_above P w K mg base) (D__law_spot_plus : DD__law_spot_plus P w K mg base) (D__law_spot_times : DD__law_spot_times P w K mg base) (D__law_spot : DD__law_spot P w K mg base) : DD__law_foot P w K mg base := by
  obtain ⟨fa, fd, hm, Fu⟩ := Lf
  refine ⟨fa, fd, fn_make Fu sc__law_foot (by decide) fun cd A outer s H E hr hg => ⟨_, _, ?_, (ss_cons (s_set 2 rfl (e_bin oAdd sAdd (e_bin oMul sMul (e_ix oIx sIx (nm 0) e_int) (e_ix oIx sIx (nm 0) e_int)) (e_bin oMul sMul (e_ix oIx sIx (nm 0) e_int) (e_ix oIx sIx (nm 0) e_int))))
    (ss_cons (s_set 3 rfl (e_def D__law_over bp__law_over (a_cons (e_def D__law_above bp__law_above (a_cons (nm 0) (a_cons (nm 1) a_nil))) (a_cons (e_tup (a_cons (e_neg (nm 2)) (a_cons e_int a_nil))) a_nil))))
    (ss_cons (s_ret (e_def D__law_spot_plus bp__law_spot_plus (a_cons (nm 1) (a_cons (e_def D__law_spot_times bp__law_spot_times (a_cons (e_def D__law_spot bp__law_spot (a_cons (e_tup (a_cons (e_ix oIx sIx (nm 0) e_int) (a_cons (e_ix oIx sIx (nm 0) e_int) a_nil))) a_nil)) (a_cons (nm 3) a_nil))) a_nil))))
    ss_nil))), fun xs R hl h => ?_⟩, hm, Fu⟩
  · exact Nat.le_of_ble_eq_true rfl
  · obtain ⟨s, p, n, rfl, hs, hp, hn, q⟩ := h
    try (walk_at "pz")
    simp only [ix_l0, ix_l1, ix_l2]
    try (walk_at "pz")
    obtain ⟨f1, f2, f3⟩ := foot_b hs hp
    refine ⟨hs.b.1.ok hs.b.1 (by decide) (by decide) (by decide), hs.b.2.1.ok hs.b.2.1 (by decide) (by decide) (by decide), ?_⟩
    refine ⟨s, p, 10, n, rfl, hs.b, hp, by decide, by omega, ?_⟩
    have es : s.1 * s.1 + s.2.1 * s.2.1 = sizeI s := rfl
    have ne : ((-sizeI s : Int) : Rat) ≠ 0 := by
      intro e
      have := size_pos hs
      have : -sizeI s = 0 := by exact_mod_cast e
      omega
    rw [es, iq]
    show fOver _ _
    rw [fOver_eq (fb_abv hs.b hp (by decide)) (fb_int (size_b hs) (by decide)) ne (by omega)]
    have ec : PyData.tuple [.int s.1, .int s.2.1] = cellD (s.1, s.2.1) := rfl
    rw [ec]
    refine ⟨_, rfl, ?_⟩
    show fPtTimes _ _
    rw [fPtTimes_eq (n := 10) (cq_b10 hs) f1 (by omega)]
    rw [fPtPlus_eq hp (show Pb (10 + (64 + 4 * n)) (pMul (cq (s.1, s.2.1)) (abv s p / ((-sizeI s : Int) : Rat))) from f2) (by omega)]
    exact q
abbrev s__law_marks : Stmt := topS 54
theorem sc__law_marks : FnScope ["sides_so", "feet", "side", "one"] ["sides_so"] (defScope s__law_marks) := ⟨rfl, rfl, rfl, by decide +kernel, rfl, by decide +kernel, by decide +kernel⟩
theorem bp__law_marks : BindP "_law_marks" s__law_marks ["sides_so"] := fun _ _ _ _ _ _ us hl => match us, hl with | [_], _ => rfl
abbrev DD__law_marks (P : Program) (w : World) (K : Kx) (mg : Str → Option Value) (base : Heap) : Prop := Df P w K mg base "_law_marks" s__law_marks ["sides_so"] 8 0 fMarks
theorem ok__law_marks (Lf : Lo K mg "_law_marks" s__law_marks) (D__law_foot : DD__law_foot P w K mg base) (D__law_corners : DD__law_corners P w K mg base) (D__law_inside : DD__law_inside P w K mg base) : DD__law_marks P w K mg base := by
  obtain ⟨fa, fd, hm, Fu⟩ := Lf
  refine ⟨fa, fd, fn_make Fu sc__law_marks (by decide) fun cd A outer s H E hr hg => ⟨_, _, ?_, (ss_cons (s_lc (p_lc 1 rfl [("side", 2)] (i_seq (nm 0)) (fun _ => blkOk_by (N := ["sides_so", "feet", "side", "one"]) (sc := defScope s__law_marks) (by decide +kernel)) (tn 2) ts_nil (e_def D__law_foot bp__law_foot (a_cons (nm 2) (a_cons (e_tup (a_cons (e_tup (a_cons e_int (a_cons e_int a_nil))) (a_cons (e_tup (a_cons e_int (a_cons e_int a_nil))) a_nil))) a_nil))) (fun _ => rfl) (fun _ => sw_true rfl rfl rfl (by decide +kernel))))
    (ss_cons (s_ret (e_bin oAdd sAdd (e_def D__law_corners bp__law_corners (a_cons (nm 0) a_nil)) (e_l (l_lc [("one", 3)] (i_seq (nm 1)) (fun _ => blkOk_by (N := ["sides_so", "feet", "side", "one"]) (sc := defScope s__law_marks) (by decide +kernel)) (tn 3) (ts_one (t_val (e_def D__law_inside bp__law_inside (a_cons (nm 0) (a_cons (nm 3) a_nil))))) (nm 3)))))
    ss_nil)), fun xs R hl h => ?_⟩, hm, Fu⟩
  · exact Nat.le_of_ble_eq_true rfl
  · obtain ⟨ls, rfl, hls, q⟩ := h
    have h8 := hls.2.1
    unfold linesD
    try (walk_at "pz")
    rw [List.length_map]
    refine ⟨by omega, lc_map (fun s => Vl.d (lineD s)) (fun s => pt (footQ s (0, 0))) ls [] _ (fun s hs T1 T2 hT1 => ?_) ?_⟩
    · try (walk_at "pz")
      exact ⟨s, (0, 0), 1, rfl, hls.2.2 s hs, ⟨fz 1 (by decide), fz 1 (by decide)⟩, by decide, hT1⟩
    · rw [List.nil_append]
      have eL : PyData.tuple (ls.map lineD) = linesD ls := rfl
      rw [eL]
      refine ⟨ls, rfl, hls, fun cs c64 hc hcn => ?_⟩
      rw [List.length_map, List.length_map]
      have e : (ls.map fun s => pt (footQ s (0, 0))).map Vl.d = ls.map fun s => Vl.d (pt (footQ s (0, 0))) := by rw [List.map_map]; rfl
      rw [e]
      refine ⟨by omega, lc_filter (fun s => Vl.d (pt (footQ s (0, 0)))) (fun s => decide (∀ t ∈ ls, abv t (footQ s (0, 0)) ≤ 0)) (fun s => pt (footQ s (0, 0))) ls [] _ (fun s hs T1 T2 hT1 => ?_) ?_⟩
      · have fb : Pb 100 (footQ s (0, 0)) := (foot_b (n := 1) (hls.2.2 s hs) ⟨fz 1 (by decide), fz 1 (by decide)⟩).2.2.mono (by decide)
        try (walk_at "pz")
        refine ⟨ls, _, rfl, hls, fb.mono (by decide), ?_⟩
        exact hT1
      · rw [List.nil_append]
        try (walk_at "pz")
        have ef : (ls.filter fun s => decide (∀ t ∈ ls, abv t (footQ s (0, 0)) ≤ 0)).map (fun s => pt (footQ s (0, 0))) = ((ls.filter fun s => decide (∀ t ∈ ls, abv t (footQ s (0, 0)) ≤ 0)).map fun s => footQ s (0, 0)).map pt := by rw [List.map_map]; rfl
        have lf : (ls.filter fun s => decide (∀ t ∈ ls, abv t (footQ s (0, 0)) ≤ 0)).length ≤ ls.length := List.length_filter_le _ _
        refine ⟨by rw [List.length_map, List.length_map]; omega, ?_⟩
        rw [ef, ← List.map_append]
        refine q _ (by rw [List.length_append, List.length_map]; omega) (fun p hp => ?_) ?_
        · rcases List.mem_append.mp hp with hp | hp
          · exact ⟨(hc p hp).1, (hc p hp).2.mono (by decide)⟩
          · obtain ⟨s, hs, rfl⟩ := List.mem_map.mp hp
            obtain ⟨m1, m2⟩ := List.mem_filter.mp hs
            have m3 := of_decide_eq_true m2
            exact ⟨m3, (foot_b (n := 1) (hls.2.2 s m1) ⟨fz 1 (by decide), fz 1 (by decide)⟩).2.2.mono (by decide)⟩
        · rw [feas_marks hls]
          constructor
          · rintro (h | ⟨s, hs, hq⟩)
            · exact fun z => hcn h (List.append_eq_nil_iff.mp z).1
            · intro z
              have := (List.append_eq_nil_iff.mp z).2
              rw [List.map_eq_nil_iff, List.filter_eq_nil_iff] at this
              exact this s hs (decide_eq_true hq)
          · intro z
            rw [← feas_marks hls]
            cases cs with
            | cons c cs => exact ⟨c, (hc c (List.mem_cons_self ..)).1⟩
            | nil =>
              rw [List.nil_append] at z
              obtain ⟨p, hp⟩ := List.exists_mem_of_ne_nil _ z
              obtain ⟨s, hs, rfl⟩ := List.mem_map.mp hp
              obtain ⟨m1, m2⟩ := List.mem_filter.mp hs
              have m3 := of_decide_eq_true m2
              exact ⟨_, m3⟩
abbrev s__law_where : Stmt := topS 55
theorem sc__law_where : FnScope ["state_so", "high", "low", "across"] ["state_so", "high"] (defScope s__law_where) := ⟨rfl, rfl, rfl, by decide +kernel, rfl, by decide +kernel, by decide +kernel⟩
theorem bp__law_where : BindP "_law_where" s__law_where ["state_so", "high"] := fun _ _ _ _ _ _ us hl => match us, hl with | [_, _], _ => rfl
abbrev DD__law_where (P : Program) (w : World) (fg : Fg) (d c l : Addr) (nC : Nat) (mg : Str → Option Value) (base : Heap) : Prop := Df P w (stK fg d c l nC) mg base "_law_where" s__law_where ["state_so", "high"] 3 4 fWhere
theorem ok__law_where (Lf : Lo fg mg "_law_where" s__law_where) (hC : 0 < nC ∧ nC ≤ 1000) (D__law_draw : DD__law_draw P w fg d c l nC mg base) (D__law_share : DD__law_share P w (stK fg d c l nC) mg base) : DD__law_where P w fg d c l nC mg base := by
  obtain ⟨fa, fd, hm, Fu⟩ := Lf
  refine ⟨fa, fd, fn_make Fu sc__law_where (by decide) fun cd A outer s H E hr hg => ⟨_, _, ?_, (ss_cons (s_set 2 rfl (e_bin oAdd sAdd e_int (e_def D__law_draw bp__law_draw (a_cons (nm 0) (a_cons e_int a_nil)))))
    (ss_cons (s_set 3 rfl (e_def D__law_share bp__law_share (a_cons (e_bin oSub sSub (e_def D__law_draw bp__law_draw (a_cons (nm 0) (a_cons (e_bin oAdd sAdd (e_bin oMul sMul (e_bin oMul sMul e_int (nm 1)) (nm 2)) e_int) a_nil))) (e_bin oMul sMul (nm 1) (nm 2))) (a_cons (nm 2) a_nil))))
    (ss_cons (s_ret (e_tup (a_cons (nm 3) (a_cons (e_def D__law_share bp__law_share (a_cons (e_bin oSub sSub (e_def D__law_draw bp__law_draw (a_cons (nm 0) (a_cons (e_bin oAdd sAdd (e_bin oMul sMul e_int (nm 1)) e_int) a_nil))) (nm 1)) (a_cons (e_bin oAdd sAdd e_int (e_def D__law_draw bp__law_draw (a_cons (nm 0) (a_cons e_int a_nil)))) a_nil))) a_nil))))
    ss_nil))), fun xs R hl h => ?_⟩, hm, Fu⟩
  · exact Nat.le_of_ble_eq_true rfl
  · obtain ⟨rfl, q⟩ := h
    have d4 : ∀ j : Int, 0 ≤ j → j ≤ 1000 → Bd 20 j := fun j _ _ => Bd.of_lt (n := 20) (j := 1001) (by omega) (by decide)
    try (walk_at "pz")
    refine ⟨4, rfl, by decide, Bd.lit (by decide), fun k k0 k1 => ?_⟩
    try (walk_at "pz")
    have b1 : Bd 20 (1 + k) := Bd.of_lt (j := 1001) (by omega) (by decide)
    refine ⟨(Bd.lit (n := 20) (by decide)).ok (Bd.lit (n := 20) (by decide)) (by decide) (by decide) (by decide), (Bd.lit (n := 20) (by decide)).ok b1 (by decide) (by decide) (by decide), _, rfl, by omega, (Bd.of_lt (n := 20) (j := 1001) (by omega) (by decide)).mono (by decide), fun j j0 j1 => ?_⟩
    refine ⟨(Bd.lit (n := 20) (by decide)).ok b1 (by decide) (by decide) (by decide), ?_⟩
    try (walk_at "pz")
    rw [fRed_eq (show (1 + k) ≠ 0 by omega) (b1.mono (by decide))]
    refine ⟨(Bd.lit (n := 20) (by decide)).ok (Bd.lit (n := 20) (by decide)) (by decide) (by decide) (by decide), _, rfl, by decide, Bd.lit (by decide), fun j2 j20 j21 => ?_⟩
    try (walk_at "pz")
    refine ⟨3, rfl, by decide, Bd.lit (by decide), fun k2 k20 k21 => ?_⟩
    try (walk_at "pz")
    have b2 : Bd 20 (1 + k2) := Bd.of_lt (j := 1001) (by omega) (by decide)
    rw [fRed_eq (show (1 + k2) ≠ 0 by omega) (b2.mono (by decide))]
    try (walk_at "pz")
    exact q (_, _) ⟨Fb.red (by omega) (Bd.of_lt (j := 1001) (by omega) (by decide)) b1, Fb.red (by omega) (Bd.of_lt (j := 1001) (by omega) (by decide)) b2⟩
abbrev s__law_loose : Stmt := topS 56
theorem sc__law_loose : FnScope ["state_so", "most", "found", "step"] ["state_so", "most"] (defScope s__law_loose) := ⟨rfl, rfl, rfl, by decide +kernel, rfl, by decide +kernel, by decide +kernel⟩
theorem bp__law_loose : BindP "_law_loose" s__law_loose ["state_so", "most"] := fun _ _ _ _ _ _ us hl => match us, hl with | [_, _], _ => rfl
abbrev DD__law_loose (P : Program) (w : World) (fg : Fg) (d c l : Addr) (nC : Nat) (mg : Str → Option Value) (base : Heap) : Prop := Df P w (stK fg d c l nC) mg base "_law_loose" s__law_loose ["state_so", "most"] 5 42535295865117307946756883984253190145 fLoose
theorem ok__law_loose (Lf : Lo fg mg "_law_loose" s__law_loose) (m_tuple : mg "tuple" = none) (m_range : mg "range" = none) (D__law_draw : DD__law_draw P w fg d c l nC mg base) (D__law_side : DD__law_side P w fg d c l nC mg base) (D__law_cell : DD__law_cell P w fg d c l nC mg base) : DD__law_loose P w fg d c l nC mg base := by
  obtain ⟨fa, fd, hm, Fu⟩ := Lf
  refine ⟨fa, fd, fn_make Fu sc__law_loose (by decide) fun cd A outer s H E hr hg => ⟨_, _, ?_, (ss_cons (s_own 2 rfl (l_lst a_nil))
    (ss_cons (s_for (i_rng1 m_range (a_cons (e_bin oAdd sAdd e_int (e_def D__law_draw bp__law_draw (a_cons (nm 0) (a_cons (nm 1) a_nil)))) a_nil)) (tn 3) (ss_cons (s_app 2 rfl (e_def D__law_side bp__law_side (a_cons (nm 0) (a_cons (e_def D__law_cell bp__law_cell (a_cons (nm 0) (a_cons e_int a_nil))) a_nil))) (by intro _; first | exact .inl rfl | exact .inr (.inl rfl)) fun a b => ps_expr (pe_bm PySem.F.plainAttrs_list PySem.F.slot_list_append PySem.F.type_list_append mt_append a (pa_cons b pa_nil)))
    ss_nil))
    (ss_cons (s_ret (e_ownTuple m_tuple 2))
    ss_nil))), fun xs R hl h => ?_⟩, hm, Fu⟩
  · exact Nat.le_of_ble_eq_true rfl
  · obtain ⟨n, rfl, n1, n8, q⟩ := h
    try (walk_at "pz")
    refine ⟨n, rfl, n1, (Bd.of_lt (n := 10) (j := 9) (by omega) (by decide)).mono (by decide), fun k k0 k1 => ?_⟩
    try (walk_at "pz")
    refine ⟨by omega, by omega, .inr (le_big (by rw [irange_len]; omega)), loop_rng 0 _ (fun i ρ => ∃ (ls : List Line) (s3 : Sl), ρ = [.v .st, .v (.d (.int n)), .own (ls.map lineD), s3] ∧ ls.length = i ∧ ∀ s ∈ ls, LOk s) ?_ ?_ _ ⟨[], _, rfl, rfl, fun s hs => nomatch hs⟩⟩
    · rintro i ρ L hi hL ⟨ls, s3, rfl, hl, hs⟩
      try (walk_at "pz")
      refine ⟨3, rfl, by decide, by decide, fun c hc => ?_⟩
      try (walk_at "pz")
      refine ⟨c, rfl, hc, fun a b r h0 a1 a2 b1 b2 r1 r2 => ?_⟩
      try (walk_at "pz")
      refine ⟨by rw [List.length_map]; omega, hL _ ⟨ls ++ [_], _, by rw [List.map_append]; rfl, by rw [List.length_append, hl]; rfl, fun s hs' => ?_⟩⟩
      rcases List.mem_append.mp hs' with h | h
      · exact hs s h
      · rw [List.mem_singleton.mp h]; exact side_ok hc h0 a1 a2 b1 b2 r1 r2
    · rintro ρ ⟨ls, s3, rfl, hl, hs⟩
      try (walk_at "pz")
      exact q ls ⟨by omega, by omega, hs⟩
abbrev s__law_heard : Stmt := topS 58
theorem sc__law_heard : FnScope ["sides_so", "found", "error_so"] ["sides_so"] (defScope s__law_heard) := ⟨rfl, rfl, rfl, by decide +kernel, rfl, by decide +kernel, by decide +kernel⟩
theorem bp__law_heard : BindP "_law_heard" s__law_heard ["sides_so"] := fun _ _ _ _ _ _ us hl => match us, hl with | [_], _ => rfl
abbrev DD__law_heard (P : Program) (w : World) (K : Kx) (mg : Str → Option Value) (base : Heap) : Prop := Df P w K mg base "_law_heard" s__law_heard ["sides_so"] 6 0 fHeard
theorem ok__law_heard (Lf : Lo K mg "_law_heard" s__law_heard) (m_isinstance : mg "isinstance" = none) (DX_need_shape : DDX_need_shape P w K mg base) (H_BadShape : Px.ClH K mg "BadShape") (F_BadShape : Px.ClF K mg "BadShape" "place" "ShapeError") : DD__law_heard P w K mg base := by
  obtain ⟨fa, fd, hm, Fu⟩ := Lf
  refine ⟨fa, fd, fn_make Fu sc__law_heard (by decide) fun cd A outer s H E hr hg => ⟨_, _, ?_, (ss_cons (s_set 1 rfl e_none)
    (ss_cons (e1_of (x_try H_BadShape 2 rfl (fun _ => (xs_cons (x_set 1 rfl (xe_tup (xa_cons (xe_of e_str) (xa_cons (e_defX DX_need_shape bp_need_shape (a_cons (nm 0) a_nil)) (xa_of a_nil)))))
    xs_nil)) (hd_setT 1 rfl (by decide) (ha_cons he_str (ha_cons (he_fld F_BadShape rfl) (ha_cons (he_is F_BadShape rfl m_isinstance) ha_nil))))))
    (ss_cons (s_ret (nm 1))
    ss_nil))), fun xs R hl h => ?_⟩, hm, Fu⟩
  · exact Nat.le_of_ble_eq_true rfl
  · obtain ⟨ls, rfl, hls, q1, q2⟩ := h
    try (walk_at "pz")
    refine ⟨ls, rfl, hls, fun hf => ?_, fun hf => ?_⟩
    · exact q1 hf
    · exact ⟨rfl, rfl, rfl, q2 hf⟩
abbrev s__law_points_right : Stmt := topS 59
theorem sc__law_points_right : FnScope ["state_so", "sides_so", "some", "one", "inside", "due", "step", "spot", "side"] ["state_so", "sides_so"] (defScope s__law_points_right) := ⟨rfl, rfl, rfl, by decide +kernel, rfl, by decide +kernel, by decide +kernel⟩
theorem bp__law_points_right : BindP "_law_points_right" s__law_points_right ["state_so", "sides_so"] := fun _ _ _ _ _ _ us hl => match us, hl with | [_, _], _ => rfl
abbrev DD__law_points_right (P : Program) (w : World) (fg : Fg) (d c l : Addr) (nC : Nat) (mg : Str → Option Value) (base : Heap) : Prop := Df P w (stK fg d c l nC) mg base "_law_points_right" s__law_points_right ["state_so", "sides_so"] 9 18446744073709551617 fPtsRight
theorem ok__law_points_right (Lf : Lo fg mg "_law_points_right" s__law_points_right) (m_tuple : mg "tuple" = none) (m_range : mg "range" = none) (m_enumerate : mg "enumerate" = none) (D__law_marks : DD__law_marks P w (stK fg d c l nC) mg base) (D__law_where : DD__law_where P w fg d c l nC mg base) (D__law_foot : DD__law_foot P w (stK fg d c l nC) mg base) (D__law_of : DD__law_of P w fg d c l nC mg base) (D__law_inside : DD__law_inside P w (stK fg d c l nC) mg base) (D__law_above : DD__law_above P w (stK fg d c l nC) mg base) (D__law_like : DD__law_like P w (stK fg d c l nC) mg base) (D_lets : DD_lets P w (stK fg d c l nC) mg base) (D_tight : DD_tight P w (stK fg d c l nC) mg base) : DD__law_points_right P w fg d c l nC mg base := by
  obtain ⟨fa, fd, hm, Fu⟩ := Lf
  refine ⟨fa, fd, fn_make Fu sc__law_points_right (by decide) fun cd A outer s H E hr hg => ⟨_, _, ?_, (ss_cons (s_set 2 rfl (e_bin oAdd sAdd (e_slice (e_def D__law_marks bp__law_marks (a_cons (nm 1) a_nil)) o_none (o_some e_int)) (e_l (l_lc [("step", 6)] (i_rng1 m_range (a_cons e_int a_nil)) (fun _ => blkOk_by (N := ["state_so", "sides_so", "some", "one", "inside", "due", "step", "spot", "side"]) (sc := defScope s__law_points_right) (by decide +kernel)) (tn 6) ts_nil (e_def D__law_where bp__law_where (a_cons (nm 0) (a_cons e_int a_nil)))))))
    (ss_cons (s_set 2 rfl (e_bin oAdd sAdd (nm 2) (e_l (l_lst (a_cons (e_def D__law_foot bp__law_foot (a_cons (e_def D__law_of bp__law_of (a_cons (nm 0) (a_cons (nm 1) a_nil))) (a_cons (e_ix oIx sIx (nm 2) (e_neg e_int)) a_nil))) a_nil)))))
    (ss_cons (s_for (i_seq (nm 2)) (tn 3) (ss_cons (s_set 4 rfl (e_def D__law_inside bp__law_inside (a_cons (nm 1) (a_cons (nm 3) a_nil))))
    (ss_cons (s_lc (p_lc 5 rfl [("spot", 7), ("side", 8)] (i_enum m_enumerate (a_cons (nm 1) a_nil)) (fun _ => blkOk_by (N := ["state_so", "sides_so", "some", "one", "inside", "due", "step", "spot", "side"]) (sc := defScope s__law_points_right) (by decide +kernel)) (g_tup (gs_cons (tn 7) (gs_cons (tn 8) gs_nil)) rfl fun c h => pg_tup c h) (ts_one (t_cmp oEq sEq (e_def D__law_above bp__law_above (a_cons (nm 8) (a_cons (nm 3) a_nil))) (e_tup (a_cons e_int (a_cons e_int a_nil))))) (nm 7) (fun _ => rfl) (fun _ => sw_true rfl rfl rfl (by decide +kernel))))
    (ss_cons (s_if (t_not (t_val (e_def D__law_like bp__law_like (a_cons (e_l (l_lst (a_cons (e_def D_lets bp_lets (a_cons (nm 1) (a_cons (nm 3) a_nil))) (a_cons (e_def D_tight bp_tight (a_cons (nm 1) (a_cons (nm 3) a_nil))) a_nil)))) (a_cons (e_l (l_lst (a_cons (nm 4) (a_cons (e_if (t_val (nm 4)) (e_callT cTuple sTuple m_tuple (by decide +kernel) (a_cons (nm 5) a_nil)) (e_tup a_nil)) a_nil)))) a_nil))))) (ss_cons (s_ret e_bool)
    ss_nil) ss_nil)
    ss_nil))))
    (ss_cons (s_ret e_bool)
    ss_nil)))), fun xs R hl h => ?_⟩, hm, Fu⟩
  · exact Nat.le_of_ble_eq_true rfl
  · obtain ⟨ls, rfl, hls, hf, q⟩ := h
    try (walk_at "pz")
    refine ⟨ls, rfl, hls, fun ps p72 hp _ => ?_⟩
    try (walk_at "pz")
    refine ⟨by decide, by decide, by rw [irange_len]; decide, ?_⟩
    refine lc_draw (fun d => ∃ p, Pb 20 p ∧ d = pt p) _ _ _ (fun x T T' hT => ?_) fun ds hl hg => ?_
    · try (walk_at "pz")
      exact ⟨rfl, fun p hp => hT _ ⟨p, hp, rfl⟩⟩
    · obtain ⟨rs, rfl, hr⟩ := of_good pt (Pb 20) ds hg
      rw [List.length_map] at hl
      obtain ⟨qs, e, ql, qm⟩ := cut_pts ps none (some 4)
      rw [e]
      obtain ⟨r', r, rfl⟩ : ∃ r' r, rs = r' ++ [r] := ⟨rs.dropLast, rs.getLast (fun z => by rw [z] at hl; cases hl), (List.dropLast_concat_getLast _).symm⟩
      have hl' : r'.length = 2 := by simpa using hl
      have eA : qs.map pt ++ (r' ++ [r]).map pt = ((qs ++ r') ++ [r]).map pt := by rw [List.map_append, List.map_append, List.map_append, List.append_assoc]
      rw [eA]
      refine ⟨by rw [List.length_map, List.length_map, List.length_append]; simp only [List.length_cons, List.length_nil]; omega, ?_⟩
      refine ⟨ls.map lineD, rfl, by rw [List.length_map]; have := hls.1; omega, by rw [List.length_map]; have := hls.2.1; omega, fun x hx => ?_⟩
      obtain ⟨s, hs, rfl⟩ := List.mem_map.mp hx
      refine ⟨_, atI_last pt (qs ++ r') r, s, r, 20, rfl, hls.2.2 s hs, hr r (by simp), by decide, ?_⟩
      have fb := (foot_b (hls.2.2 s hs) (hr r (by simp))).2.2
      try (walk_at "pz")
      refine ⟨by rw [List.length_map, List.length_map, List.length_append]; simp only [List.length_cons, List.length_nil]; omega, ?_⟩
      have eB : ((qs ++ r') ++ [r]).map pt ++ [pt (footQ s r)] = (((qs ++ r') ++ [r]) ++ [footQ s r]).map pt := by simp
      rw [eB, List.map_map]
      have hb : ∀ p ∈ ((qs ++ r') ++ [r]) ++ [footQ s r], Pb 300 p := fun p hp' => by
        rcases List.mem_append.mp hp' with h | h
        · rcases List.mem_append.mp h with h | h
          · rcases List.mem_append.mp h with h | h
            · exact (hp p (qm p h)).2.mono (by decide)
            · exact (hr p (by simp [h])).mono (by decide)
          · rw [List.mem_singleton.mp h]; exact (hr r (by simp)).mono (by decide)
        · rw [List.mem_singleton.mp h]; exact fb.mono (by decide)
      generalize ((qs ++ r') ++ [r]) ++ [footQ s r] = os at hb
      refine loop_over' (fun p => Vl.d (pt p)) os (fun i ρ => ∃ s0 s2 s4 s5 s6 s7 s8 : Sl, ∃ s3 : Sl, ρ = [.v .st, .v (.d (linesD ls)), s2, s3, s4, s5, s6, s7, s8]) ?_ ?_ _ ⟨.non, _, _, _, _, _, _, _, rfl⟩
      · rintro i hi ρ L hL ⟨s0, s2, s4, s5, s6, s7, s8, s3, rfl⟩
        have h1 := hb _ (List.getElem_mem hi)
        generalize os[i] = p at h1 ⊢
        try (walk_at "pz")
        refine ⟨ls, p, rfl, hls, h1.mono (by decide), ?_⟩
        show asE _ _
        rw [asE_ln]
        refine ⟨by rw [List.length_map, List.length_zipIdx]; have := hls.2.1; omega, lc_filter (fun q : Line × Nat => Vl.d (.tuple [.int (q.2 : Nat), lineD q.1])) (fun q => decide (abv q.1 p = 0)) (fun q => .int (q.2 : Nat)) ls.zipIdx [] _ (fun q hq T1 T2 hT1 => ?_) ?_⟩
        · have hs : LOk q.1 := hls.2.2 _ (by
            obtain ⟨s, i⟩ := q
            exact (List.mem_zipIdx hq).2.2 ▸ List.getElem_mem _)
          try (walk_at "pz")
          refine ⟨q.1, p, 10, 300, rfl, hs.b, h1, by decide, by decide, ?_⟩
          show fEq false _ _ _
          have e0 : PyData.tuple [.int 0, .int 1] = fq 0 := rfl
          rw [e0, fEq_fq]
          simpa [asB] using hT1
        · rw [List.nil_append]
          have eT : (ls.zipIdx.filter fun q => decide (abv q.1 p = 0)).map (fun q => PyData.int (q.2 : Nat)) = tightQ ls p := rfl
          rw [eT]
          refine ⟨ls, p, rfl, hls, hf, h1.mono (by decide), ?_⟩
          refine ⟨ls, p, rfl, hls, hf, h1.mono (by decide), ?_⟩
          rw [tight_eq]
          by_cases v : ∀ s ∈ ls, abv s p ≤ 0
          · have v' := (let_eq ls p).mpr v
            rw [decide_eq_true v, decide_eq_true v', if_pos v']
            try (walk_at "pz")
            rw [fLike_eq]
            refine ⟨rfl, shw_tight hls.2.1 p true, ?_⟩
            try (walk_at "pz")
            exact hL _ ⟨.non, _, _, _, _, _, _, _, rfl⟩
          · have v' : ¬ ∀ s ∈ ls, beyI s p ≤ 0 := fun c => v ((let_eq ls p).mp c)
            rw [decide_eq_false v, decide_eq_false v', if_neg v']
            try (walk_at "pz")
            rw [fLike_eq]
            refine ⟨rfl, shw_out false, ?_⟩
            try (walk_at "pz")
            exact hL _ ⟨.non, _, _, _, _, _, _, _, rfl⟩
      · rintro ρ ⟨s0, s2, s4, s5, s6, s7, s8, s3, rfl⟩
        try (walk_at "pz")
        exact q

end
end K06

set_option Elab.async false
set_option linter.all false
set_option maxRecDepth 100000
set_option maxHeartbeats 4000000
set_option exponentiation.threshold 10000
namespace K06
local macro_rules | `(tactic| walk_at "px") => `(tactic| simp only [Px.rd, Px.ownAt, Px.frz, Px.fAdd, Px.fSub, Px.fMul, Px.fFdiv, Px.fMod, Px.fPow, Px.fRel, Px.fEq_int, Px.fEq_str, Px.fEq_bool, Px.fEq_fq, Px.fIs, Px.fIsTy, Px.fIx_l, Px.fIx_t, Px.ix0, Px.ix1, Px.at_0, Px.at_1, Px.at_2, Px.at_3, Px.at_4, Px.ex_some, Px.fSl, Px.gLen, Px.gAbs, Px.gInt, Px.gTuple, Px.gList, Px.gGcd, Px.gSum, Px.gMax, Px.gMin, Px.gAll, Px.gAny, Px.gRepr, Px.gTy, Px.tyOf, Px.asB, Px.asTru, Px.truD, Px.asNeg, Px.asI, Px.asL, Px.asT, Px.asS, Px.asR1, Px.asR2, Px.asZ, Px.asZM, Px.asRg, Px.asRgI, Px.blkE, Px.wipeE, Px.unown, Px.asS, Px.asE, Px.asTwo, Px.asApp, Px.allD, Px.gNm, Px.isNon, Px.isSt, Px.pick,
  List.map_cons, List.map_nil, List.length_cons, List.length_nil, List.length_set, List.replicate_succ, List.replicate_zero, List.cons_append, List.nil_append, List.append_nil, List.getElem?_cons_zero, List.getD_cons_zero, List.getD_cons_succ, List.getElem?_cons_succ, List.set_cons_zero, List.set_cons_succ, Nat.reduceAdd, Nat.reduceSub, Nat.reduceLT, Nat.reduceLeDiff, Nat.zero_add, Nat.mul_zero, Nat.add_zero, eq_self, Nat.sub_self, true_and, and_true, true_or, if_true, Bool.false_eq_true, if_false, ne_eq, not_false_eq_true, Nat.zero_lt_succ, Nat.lt_add_one, Nat.succ_lt_succ_iff])
local macro_rules | `(tactic| walk_at "pz") => `(tactic| simp only [Px.at_last, Px.fKind_eq, Px.fPair_eq, Px.fIsFr_eq, Px.fRow_eq, Px.fWithin_eq, Px.fmOf_mg, Px.isFr_fq, Px.isTy, decide_true, Bool.not_true, Bool.not_false, Bool.and_true, Bool.true_and, Bool.false_and, Bool.and_false, Bool.or_false, Bool.or_true, Px.px0, Px.px1, Px.fNeedPt_eq, Px.fNeedFr_eq, Px.isSt, List.length_append, List.getElem?_map, and_self, Px.map_d, Px.pairs_map, Px.enumD_map, Px.rd, Px.ownAt, Px.frz, Px.fAdd, Px.fSub, Px.fMul, Px.fFdiv, Px.fMod, Px.fPow, Px.fRel, Px.fEq_int, Px.fEq_str, Px.fEq_bool, Px.fEq_fq, Px.fIs, Px.fIsTy, Px.fIx_l, Px.fIx_t, Px.ix0, Px.ix1, Px.at_0, Px.at_1, Px.at_2, Px.at_3, Px.at_4, Px.ex_some, Px.fSl, Px.gLen_l, Px.gLen_t, Px.gLen_tab, Px.gLen_row, Px.gLen_sh, Px.asS_tab, Px.asS_row, Px.asS_sh, Px.asE_tab, Px.asE_row, Px.asE_sh, Px.asZ_tab, Px.asZ_row, Px.ix_tab0, Px.ix_c0, Px.ix_c1, Px.gAbs, Px.gInt, Px.gTuple_l, Px.gTuple_t, Px.gList_l, Px.gList_t, Px.gGcd, Px.gSum, Px.gMax, Px.gMin, Px.gAll, Px.gAny, Px.gRepr, Px.gTy, Px.tyOf, Px.asB, Px.asTru, Px.truD, Px.asNeg, Px.asI, Px.asL, Px.asT, Px.asS_l, Px.asS_t, Px.asR1, Px.asR2, Px.asZ, Px.asZ_ll, Px.asZ_tt, Px.asZ_lt, Px.asRg, Px.asRgI, Px.blkE, Px.wipeE, Px.unown, Px.asE_l, Px.asE_t, Px.asTwo, Px.asApp, Px.allD, Px.gNm, Px.isNon, Px.isSt, Px.pick,
  List.map_cons, List.map_nil, List.length_cons, List.length_nil, List.length_set, List.replicate_succ, List.replicate_zero, List.cons_append, List.nil_append, List.append_nil, List.getElem?_cons_zero, List.getD_cons_zero, List.getD_cons_succ, List.getElem?_cons_succ, List.set_cons_zero, List.set_cons_succ, Nat.reduceAdd, Nat.reduceSub, Nat.reduceLT, Nat.reduceLeDiff, Nat.zero_add, Nat.mul_zero, Nat.add_zero, eq_self, Nat.sub_self, true_and, and_true, true_or, if_true, Bool.false_eq_true, if_false, ne_eq, not_false_eq_true, Nat.zero_lt_succ, Nat.lt_add_one, Nat.succ_lt_succ_iff])
open PySem PySem.Spec PyProof.Rows L2 Px
section
variable {P : Program} {w : World} {K : Kx} {fg : Fg} {d c l : Addr} {nC : Nat} {mg : Str → Option Value} {base : Heap}

abbrev s_law : Stmt := topS 60
theorem sc_law : FnScope ["script", "state_so", "turn", "sides_so", "good", "corner_so", "half", "got"] ["script"] (defScope s_law) := ⟨rfl, rfl, rfl, by decide +kernel, rfl, by decide +kernel, by decide +kernel⟩
theorem bp_law : BindP "law" s_law ["script"] := fun _ _ _ _ _ _ us hl => match us, hl with | [_], _ => rfl
theorem law_rest {fa : Addr} (m_range : mg "range" = none) (D__law_draw : DD__law_draw P w fg d c l nC mg base) (D__law_loose : DD__law_loose P w fg d c l nC mg base) (D__law_sides : DD__law_sides P w fg d c l nC mg base) (D__law_marks : DD__law_marks P w (stK fg d c l nC) mg base) (D__law_like : DD__law_like P w (stK fg d c l nC) mg base) (D__law_heard : DD__law_heard P w (stK fg d c l nC) mg base) (D__law_points_right : DD__law_points_right P w fg d c l nC mg base) (D_lets : DD_lets P w (stK fg d c l nC) mg base) (D_tight : DD_tight P w (stK fg d c l nC) mg base) (D_need_shape : DD_need_shape P w (stK fg d c l nC) mg base)
    (cd : Value) (A : Around) (outer : List PySem.Env) (s : Shared) (H : Hp) (E : XK) (hr : Room 9 (A.deeper (envOfC "law" (defScope s_law) s.heap.objs.size fa cd))) (hg : A.guards = some []) :
    ∃ k g, k ≤ lim ∧ Es (fmOf P w (stK fg d c l nC) mg base ["script", "state_so", "turn", "sides_so", "good", "corner_so", "half", "got"] "law" s_law fa cd A outer s H E 9 sc_law.nd hr hg) (defBody s_law).tail k g ∧
      ∀ a : Addr, g [.v (.o (.ref a)), .v .st, .non, .non, .non, .non, .non, .non] { nx := fun _ => False, rt := fun x => x = .d (.bool true) } := by
  refine ⟨_, _, ?_, (ss_cons (s_for (i_rng1 m_range (a_cons e_int a_nil)) (tn 2) (ss_cons (s_set 3 rfl (e_if (t_cmp oEq sEq (e_def D__law_draw bp__law_draw (a_cons (nm 1) (a_cons e_int a_nil))) e_int) (e_def D__law_loose bp__law_loose (a_cons (nm 1) (a_cons e_int a_nil))) (e_def D__law_sides bp__law_sides (a_cons (nm 1) (a_cons e_int (a_cons e_int a_nil))))))
    (ss_cons (s_set 4 rfl (e_cmp oNe sNe (e_def D__law_marks bp__law_marks (a_cons (nm 3) a_nil)) (e_l (l_lst a_nil))))
    (ss_cons (s_if (t_not (t_val (e_def D__law_like bp__law_like (a_cons (e_def D__law_heard bp__law_heard (a_cons (nm 3) a_nil)) (a_cons (e_if (t_val (nm 4)) (e_tup (a_cons e_str (a_cons (nm 3) a_nil))) (e_tup (a_cons e_str (a_cons (e_tup a_nil) (a_cons e_bool a_nil))))) a_nil))))) (ss_cons (s_ret e_bool)
    ss_nil) ss_nil)
    (ss_cons (s_if (t_w (w_and (t_val (nm 4)) (w_one1 (t_not (t_val (e_def D__law_points_right bp__law_points_right (a_cons (nm 1) (a_cons (nm 3) a_nil)))))))) (ss_cons (s_ret e_bool)
    ss_nil) ss_nil)
    ss_nil)))))
    (ss_cons (s_unp (g_tup (gs_cons (tn 5) (gs_cons (tn 6) gs_nil)) rfl fun c h => pg_tup c h) (e_tup (a_cons (e_tup (a_cons (e_tup (a_cons e_int (a_cons e_int (a_cons e_int a_nil)))) (a_cons (e_tup (a_cons e_int (a_cons e_int (a_cons e_int a_nil)))) a_nil))) (a_cons (e_tup (a_cons e_int (a_cons e_int a_nil))) a_nil))))
    (ss_cons (s_set 7 rfl (e_l (l_lst (a_cons (e_defK0 [1, 0] ["point", "shape"] D_lets (by decide) (fun _ _ _ _ _ _ us ws h1 h2 => match us, ws, h1, h2 with | [], [_, _], _, _ => rfl) (k_cons (e_tup (a_cons (nm 6) (a_cons (e_tup (a_cons e_int (a_cons e_int a_nil))) a_nil))) (k_cons (nm 5) k_nil))) (a_cons (e_defK0 [1, 0] ["point", "shape"] D_tight (by decide) (fun _ _ _ _ _ _ us ws h1 h2 => match us, ws, h1, h2 with | [], [_, _], _, _ => rfl) (k_cons (e_tup (a_cons (nm 6) (a_cons (e_tup (a_cons e_int (a_cons e_int a_nil))) a_nil))) (k_cons (nm 5) k_nil))) a_nil)))))
    (ss_cons (s_set 7 rfl (e_bin oAdd sAdd (nm 7) (e_l (l_lst (a_cons (e_def D_tight bp_tight (a_cons (nm 5) (a_cons (e_tup (a_cons (e_tup (a_cons e_int (a_cons e_int a_nil))) (a_cons (nm 6) a_nil))) a_nil))) (a_cons (e_def D_tight bp_tight (a_cons (nm 5) (a_cons (e_tup (a_cons (nm 6) (a_cons (nm 6) a_nil))) a_nil))) (a_cons (e_defK0 [0] ["shape"] D_need_shape (by decide) (fun _ _ _ _ _ _ us ws h1 h2 => match us, ws, h1, h2 with | [], [_], _, _ => rfl) (k_cons (nm 5) k_nil)) a_nil)))))))
    (ss_cons (s_ret (e_def D__law_like bp__law_like (a_cons (nm 7) (a_cons (e_l (l_lst (a_cons e_bool (a_cons (e_tup (a_cons e_int a_nil)) (a_cons (e_tup a_nil) (a_cons (e_tup (a_cons e_int (a_cons e_int a_nil))) (a_cons (nm 5) a_nil))))))) a_nil))))
    ss_nil))))), fun a => ?_⟩
  · exact Nat.le_of_ble_eq_true rfl
  · try (walk_at "pz")
    refine ⟨by decide, by decide, .inr (le_big (by rw [irange_len]; decide)), loop_rng 0 _ (fun i ρ => ∃ s2 s3 s4, ρ = [.v (.o (.ref a)), .v .st, s2, s3, s4, .non, .non, .non]) ?_ ?_ _ ⟨_, _, _, rfl⟩⟩
    · rintro i ρ L hi hL ⟨s2, s3, s4, rfl⟩
      try (walk_at "pz")
      refine ⟨2, rfl, by decide, Bd.lit (by decide), fun k k0 k1 => ?_⟩
      show fEq false _ _ _
      rw [fEq_int]
      by_cases z : k = 0
      · simp only [asB, z, decide_true, Bool.xor_true, Bool.not_false, if_true]
        try (walk_at "pz")
        refine ⟨5, rfl, by decide, by decide, fun ls hls => ?_⟩
        try (walk_at "pz")
        refine ⟨ls, rfl, hls, fun ps p72 hp hne => ?_⟩
        show fEq true _ _ _
        rw [fEq_pts]
        refine ⟨ls, rfl, hls, fun hf => ?_, fun hf => ?_⟩
        · rw [decide_eq_false (hne.mp hf)]
          try (walk_at "pz")
          rw [fLike_eq]
          refine ⟨rfl, shw_is hls, ?_⟩
          try (walk_at "pz")
          refine ⟨ls, rfl, hls, hf, ?_⟩
          try (walk_at "pz")
          exact hL _ ⟨_, _, _, rfl⟩
        · have np : ps = [] := Classical.byContradiction fun c => hf (hne.mpr c)
          rw [decide_eq_true np]
          try (walk_at "pz")
          rw [fLike_eq]
          refine ⟨rfl, shw_bad, ?_⟩
          try (walk_at "pz")
          exact hL _ ⟨_, _, _, rfl⟩
      · simp only [asB, z, decide_false, Bool.xor_false, Bool.false_eq_true, if_false]
        try (walk_at "pz")
        refine ⟨7, rfl, by decide, by decide, fun ls hls => ?_⟩
        try (walk_at "pz")
        refine ⟨ls, rfl, hls, fun ps p72 hp hne => ?_⟩
        show fEq true _ _ _
        rw [fEq_pts]
        refine ⟨ls, rfl, hls, fun hf => ?_, fun hf => ?_⟩
        · rw [decide_eq_false (hne.mp hf)]
          try (walk_at "pz")
          rw [fLike_eq]
          refine ⟨rfl, shw_is hls, ?_⟩
          try (walk_at "pz")
          refine ⟨ls, rfl, hls, hf, ?_⟩
          try (walk_at "pz")
          exact hL _ ⟨_, _, _, rfl⟩
        · have np : ps = [] := Classical.byContradiction fun c => hf (hne.mpr c)
          rw [decide_eq_true np]
          try (walk_at "pz")
          rw [fLike_eq]
          refine ⟨rfl, shw_bad, ?_⟩
          try (walk_at "pz")
          exact hL _ ⟨_, _, _, rfl⟩
    · rintro ρ ⟨s2, s3, s4, rfl⟩
      try (walk_at "pz")
      have c0 : PyData.tuple [.tuple [.int 2, .int 0, .int 1], .tuple [.int 0, .int 2, .int 1]] = linesD cornerL := rfl
      have c1 : PyData.tuple [.tuple [.int 1, .int 2], .tuple [.int 0, .int 1]] = pt (qH, q0) := rfl
      have c2 : PyData.tuple [.tuple [.int 1, .int 1], .tuple [.int 1, .int 2]] = pt (q1, qH) := rfl
      have c3 : PyData.tuple [.tuple [.int 1, .int 2], .tuple [.int 1, .int 2]] = pt (qH, qH) := rfl
      have b1 : Pb 1000 (qH, q0) := pbH _ _ ⟨by decide, by decide⟩ ⟨by decide, by decide⟩
      have b2 : Pb 1000 (q1, qH) := pbH _ _ ⟨by decide, by decide⟩ ⟨by decide, by decide⟩
      have b3 : Pb 1000 (qH, qH) := pbH _ _ ⟨by decide, by decide⟩ ⟨by decide, by decide⟩
      rw [c0, c1, c2, c3]
      refine ⟨_, _, rfl, corner_ok, corner_feas, b1, ?_⟩
      refine ⟨_, _, rfl, corner_ok, corner_feas, b1, ?_⟩
      rw [let1, let2]
      try (walk_at "pz")
      refine ⟨_, _, rfl, corner_ok, corner_feas, b2, ?_⟩
      rw [let3]
      try (walk_at "pz")
      refine ⟨_, _, rfl, corner_ok, corner_feas, b3, ?_⟩
      rw [let4]
      try (walk_at "pz")
      refine ⟨_, rfl, corner_ok, corner_feas, ?_⟩
      try (walk_at "pz")
      rw [fLike_eq]
      exact ⟨rfl, ⟨by decide +kernel, by decide +kernel, by decide +kernel⟩, rfl⟩

end
end K06

set_option Elab.async false
set_option linter.all false
set_option maxRecDepth 100000
set_option maxHeartbeats 4000000
set_option exponentiation.threshold 10000
namespace K06
local macro_rules | `(tactic| walk_at "px") => `(tactic| simp only [Px.rd, Px.ownAt, Px.frz, Px.fAdd, Px.fSub, Px.fMul, Px.fFdiv, Px.fMod, Px.fPow, Px.fRel, Px.fEq_int, Px.fEq_str, Px.fEq_bool, Px.fEq_fq, Px.fIs, Px.fIsTy, Px.fIx_l, Px.fIx_t, Px.ix0, Px.ix1, Px.at_0, Px.at_1, Px.at_2, Px.at_3, Px.at_4, Px.ex_some, Px.fSl, Px.gLen, Px.gAbs, Px.gInt, Px.gTuple, Px.gList, Px.gGcd, Px.gSum, Px.gMax, Px.gMin, Px.gAll, Px.gAny, Px.gRepr, Px.gTy, Px.tyOf, Px.asB, Px.asTru, Px.truD, Px.asNeg, Px.asI, Px.asL, Px.asT, Px.asS, Px.asR1, Px.asR2, Px.asZ, Px.asZM, Px.asRg, Px.asRgI, Px.blkE, Px.wipeE, Px.unown, Px.asS, Px.asE, Px.asTwo, Px.asApp, Px.allD, Px.gNm, Px.isNon, Px.isSt, Px.pick,
  List.map_cons, List.map_nil, List.length_cons, List.length_nil, List.length_set, List.replicate_succ, List.replicate_zero, List.cons_append, List.nil_append, List.append_nil, List.getElem?_cons_zero, List.getD_cons_zero, List.getD_cons_succ, List.getElem?_cons_succ, List.set_cons_zero, List.set_cons_succ, Nat.reduceAdd, Nat.reduceSub, Nat.reduceLT, Nat.reduceLeDiff, Nat.zero_add, Nat.mul_zero, Nat.add_zero, eq_self, Nat.sub_self, true_and, and_true, true_or, if_true, Bool.false_eq_true, if_false, ne_eq, not_false_eq_true, Nat.zero_lt_succ, Nat.lt_add_one, Nat.succ_lt_succ_iff])
local macro_rules | `(tactic| walk_at "pz") => `(tactic| simp only [Px.at_last, Px.fKind_eq, Px.fPair_eq, Px.fIsFr_eq, Px.fRow_eq, Px.fWithin_eq, Px.fmOf_mg, Px.isFr_fq, Px.isTy, decide_true, Bool.not_true, Bool.not_false, Bool.and_true, Bool.true_and, Bool.false_and, Bool.and_false, Bool.or_false, Bool.or_true, Px.px0, Px.px1, Px.fNeedPt_eq, Px.fNeedFr_eq, Px.isSt, List.length_append, List.getElem?_map, and_self, Px.map_d, Px.pairs_map, Px.enumD_map, Px.rd, Px.ownAt, Px.frz, Px.fAdd, Px.fSub, Px.fMul, Px.fFdiv, Px.fMod, Px.fPow, Px.fRel, Px.fEq_int, Px.fEq_str, Px.fEq_bool, Px.fEq_fq, Px.fIs, Px.fIsTy, Px.fIx_l, Px.fIx_t, Px.ix0, Px.ix1, Px.at_0, Px.at_1, Px.at_2, Px.at_3, Px.at_4, Px.ex_some, Px.fSl, Px.gLen_l, Px.gLen_t, Px.gLen_tab, Px.gLen_row, Px.gLen_sh, Px.asS_tab, Px.asS_row, Px.asS_sh, Px.asE_tab, Px.asE_row, Px.asE_sh, Px.asZ_tab, Px.asZ_row, Px.ix_tab0, Px.ix_c0, Px.ix_c1, Px.gAbs, Px.gInt, Px.gTuple_l, Px.gTuple_t, Px.gList_l, Px.gList_t, Px.gGcd, Px.gSum, Px.gMax, Px.gMin, Px.gAll, Px.gAny, Px.gRepr, Px.gTy, Px.tyOf, Px.asB, Px.asTru, Px.truD, Px.asNeg, Px.asI, Px.asL, Px.asT, Px.asS_l, Px.asS_t, Px.asR1, Px.asR2, Px.asZ, Px.asZ_ll, Px.asZ_tt, Px.asZ_lt, Px.asRg, Px.asRgI, Px.blkE, Px.wipeE, Px.unown, Px.asE_l, Px.asE_t, Px.asTwo, Px.asApp, Px.allD, Px.gNm, Px.isNon, Px.isSt, Px.pick,
  List.map_cons, List.map_nil, List.length_cons, List.length_nil, List.length_set, List.replicate_succ, List.replicate_zero, List.cons_append, List.nil_append, List.append_nil, List.getElem?_cons_zero, List.getD_cons_zero, List.getD_cons_succ, List.getElem?_cons_succ, List.set_cons_zero, List.set_cons_succ, Nat.reduceAdd, Nat.reduceSub, Nat.reduceLT, Nat.reduceLeDiff, Nat.zero_add, Nat.mul_zero, Nat.add_zero, eq_self, Nat.sub_self, true_and, and_true, true_or, if_true, Bool.false_eq_true, if_false, ne_eq, not_false_eq_true, Nat.zero_lt_succ, Nat.lt_add_one, Nat.succ_lt_succ_iff])
open PySem PySem.Spec PyProof.Rows L2 Px

abbrev s__law_begin : Stmt := topS 34
theorem sc__law_begin : FnScope ["script", "cells_so", "cell"] ["script"] (defScope s__law_begin) := ⟨rfl, rfl, rfl, by decide +kernel, rfl, by decide +kernel, by decide +kernel⟩
theorem bp__law_begin : BindP "_law_begin" s__law_begin ["script"] := fun _ _ _ _ _ _ us hl => match us, hl with | [_], _ => rfl
structure Tops (fg : Fg) (mg : Str → Option Value) : Prop where
  t__law_mixed : Lo fg mg "_law_mixed" s__law_mixed
  t__law_draw : Lo fg mg "_law_draw" s__law_draw
  t__law_of : Lo fg mg "_law_of" s__law_of
  t__law_side : Lo fg mg "_law_side" s__law_side
  t__law_cell : Lo fg mg "_law_cell" s__law_cell
  t__law_loose : Lo fg mg "_law_loose" s__law_loose
  t__law_sides : Lo fg mg "_law_sides" s__law_sides
  t__law_divisor : Lo fg mg "_law_divisor" s__law_divisor
  t__law_share : Lo fg mg "_law_share" s__law_share
  t__law_over : Lo fg mg "_law_over" s__law_over
  t__law_plus : Lo fg mg "_law_plus" s__law_plus
  t__law_sum : Lo fg mg "_law_sum" s__law_sum
  t__law_times : Lo fg mg "_law_times" s__law_times
  t__law_above : Lo fg mg "_law_above" s__law_above
  t__law_spot_plus : Lo fg mg "_law_spot_plus" s__law_spot_plus
  t__law_spot_times : Lo fg mg "_law_spot_times" s__law_spot_times
  t__law_spot : Lo fg mg "_law_spot" s__law_spot
  t__law_foot : Lo fg mg "_law_foot" s__law_foot
  t__law_meeting : Lo fg mg "_law_meeting" s__law_meeting
  t__law_inside : Lo fg mg "_law_inside" s__law_inside
  t__law_corners : Lo fg mg "_law_corners" s__law_corners
  t__law_marks : Lo fg mg "_law_marks" s__law_marks
  t__law_like : Lo fg mg "_law_like" s__law_like
  t_turned_by : Lo fg mg "turned_by" s_turned_by
  t_weights_of_two : Lo fg mg "weights_of_two" s_weights_of_two
  t_weights_of_three : Lo fg mg "weights_of_three" s_weights_of_three
  t_weighed_sum : Lo fg mg "weighed_sum" s_weighed_sum
  t_paper_of : Lo fg mg "paper_of" s_paper_of
  t_is_tuple : Lo fg mg "is_tuple" s_is_tuple
  t_is_row : Lo fg mg "is_row" s_is_row
  t_is_int : Lo fg mg "is_int" s_is_int
  t_is_int_within : Lo fg mg "is_int_within" s_is_int_within
  t_is_line : Lo fg mg "is_line" s_is_line
  t_need_lines : Lo fg mg "need_lines" s_need_lines
  t_need_shape : Lo fg mg "need_shape" s_need_shape
  t__law_heard : Lo fg mg "_law_heard" s__law_heard
  t__law_where : Lo fg mg "_law_where" s__law_where
  t_is_pair : Lo fg mg "is_pair" s_is_pair
  t_is_fraction : Lo fg mg "is_fraction" s_is_fraction
  t_is_point : Lo fg mg "is_point" s_is_point
  t_need_point : Lo fg mg "need_point" s_need_point
  t_beyond : Lo fg mg "beyond" s_beyond
  t_all_let : Lo fg mg "all_let" s_all_let
  t_lets : Lo fg mg "lets" s_lets
  t_tight : Lo fg mg "tight" s_tight
  t__law_points_right : Lo fg mg "_law_points_right" s__law_points_right
  t__law_begin : Lo fg mg "_law_begin" s__law_begin
  m_list : mg "list" = none
  m_int : mg "int" = none
  m_len : mg "len" = none
  m_range : mg "range" = none
  m_tuple : mg "tuple" = none
  m_abs : mg "abs" = none
  m_repr : mg "repr" = none
  m_max : mg "max" = none
  m_min : mg "min" = none
  m_sum : mg "sum" = none
  m_zip : mg "zip" = none
  m_type : mg "type" = none
  m_all : mg "all" = none
  m_enumerate : mg "enumerate" = none
  m_isinstance : mg "isinstance" = none
  m_combinations : mg "combinations" = some (.type "itertools.combinations")
  m_gcd : mg "gcd" = some (.builtin "math.gcd")
  c_MOST_IN_LINE : Cn fg mg "MOST_IN_LINE" (.int 1000)
  c_MOST_LINES : Cn fg mg "MOST_LINES" (.int 8)
  k_BadShape : Px.ClT fg mg "BadShape" "place" "ShapeError"
section
variable {P : Program} {w : World} {fg : Fg} {mg : Str → Option Value} {base : Heap}
theorem beg_fn {fa : Addr} {fd : FuncData} (Fu : Fun fg "_law_begin" "_law_begin" s__law_begin fa fd) (m_list : mg "list" = none) : FnG P w fg mg base CX0 1 fa fd ["script"] (spBeg fg) := by
  refine FnG.make Fu sc__law_begin (fun vs H Q E h => by obtain ⟨a, ns, rfl, _⟩ := h; rfl) fun cd A outer s H vs Q E hg hr h => ?_
  obtain ⟨a, ns, rfl, hs, hn, k⟩ := h
  have key : ∃ t, (∀ i, PSs ((fmOf P w (K0 fg) mg base ["script", "cells_so", "cell"] "_law_begin" s__law_begin fa cd A outer s H E 0 sc__law_begin.nd hr hg).X i) (defBody s__law_begin) t) ∧
    ∀ (D : Ends) (H : Hp) (a : Addr) (ns : List Int), SqL fg H a (ns.map V.int) → ns.length ≤ 1000 →
      (∀ (d c l : Addr) (H' : Hp) (nC : Nat), H d = none → H c = none → H l = none → (∀ b o, H b = some o → H' b = some o) → stI d c l nC 0 H' → 0 < nC → nC ≤ 1000 → D.rt (.ref d) H') → t D [some (.ref a), none, none] H := ss_begin rfl m_list
    (l_lc [("cell", 2)] (i_seq (nm 1)) (fun _ => blkOk_by (N := ["script", "cells_so", "cell"]) (sc := defScope s__law_begin) (by decide +kernel)) (tn 2) ts_nil (e_if (t_cmp oGe sRel (nm 2) (e_bin oPow sPow e_int e_int)) (nm 2) e_int)) (Nat.zero_le _) rfl rfl
    (fun a ns hn => by
      try (walk_at "px")
      refine ⟨by simp; omega, lc_all (fun d => ∃ i : Int, d = .int i) _ _ _ (fun x hx T T' hT => ?_) fun ds hl hg => ?_⟩
      · simp only [List.mem_map] at hx
        obtain ⟨_, ⟨i, _, rfl⟩, rfl⟩ := hx
        have e : blkE [Sl.v (Vl.o (V.ref a)), Sl.v (Vl.d (PyData.list (List.map PyData.int ns))), Sl.non] [2] = [Sl.v (Vl.o (V.ref a)), Sl.v (Vl.d (PyData.list (List.map PyData.int ns))), Sl.non] := rfl
        try rw [e]
        try (walk_at "px")
        refine ⟨⟨by decide, by decide, by decide⟩, ?_⟩
        split
        · exact hT _ ⟨_, rfl⟩
        · exact hT _ ⟨_, rfl⟩
      · obtain ⟨ls, rfl⟩ := ints_of ds hg
        exact ⟨ls, by simp, by simpa using hl⟩)
  obtain ⟨t, pt, ht⟩ := key
  exact ⟨t, PSs.nox (pt ()), ht _ H a ns hs hn k⟩
theorem law_fn {fa : Addr} {fd : FuncData} (T : Tops fg mg) (Fu : Fun fg "law" "law" s_law fa fd) : FnG P w fg mg base CX0 10 fa fd ["script"] (spLaw fg) := by
  refine FnG.make Fu sc_law (fun vs H Q E h => by obtain ⟨a, ns, rfl, _⟩ := h; rfl) fun cd A outer s H vs Q E hg hr h => ?_
  obtain ⟨a, ns, rfl, hs, hn, k⟩ := h
  have rest : ∀ i : Addr × Addr × Addr × {n : Nat // 0 < n ∧ n ≤ 1000}, ∃ c g, c ≤ lim ∧ Es (fmOf P w (stK fg i.1 i.2.1 i.2.2.1 i.2.2.2.1) mg base ["script", "state_so", "turn", "sides_so", "good", "corner_so", "half", "got"] "law" s_law fa cd A outer s H E 9 sc_law.nd hr hg) (defBody s_law).tail c g ∧
      ∀ a : Addr, g [.v (.o (.ref a)), .v .st, .non, .non, .non, .non, .non, .non] { nx := fun _ => False, rt := fun x => x = .d (.bool true) } := fun ⟨d, c, l, nC, hC⟩ => by
    have b__law_mixed := ok__law_mixed (P := P) (w := w) (base := base) (K := stK fg d c l nC) T.t__law_mixed  T.m_int
    have b__law_draw := ok__law_draw (P := P) (w := w) (base := base) (fg := fg) (d := d) (c := c) (l := l) (nC := nC) T.t__law_draw hC T.m_int T.m_len b__law_mixed
    have b__law_of := ok__law_of (P := P) (w := w) (base := base) (fg := fg) (d := d) (c := c) (l := l) (nC := nC) T.t__law_of  T.m_len b__law_draw
    have b__law_side := ok__law_side (P := P) (w := w) (base := base) (fg := fg) (d := d) (c := c) (l := l) (nC := nC) T.t__law_side  T.m_range b__law_draw b__law_of
    have b__law_cell := ok__law_cell (P := P) (w := w) (base := base) (fg := fg) (d := d) (c := c) (l := l) (nC := nC) T.t__law_cell  b__law_draw
    have b__law_loose := ok__law_loose (P := P) (w := w) (base := base) (fg := fg) (d := d) (c := c) (l := l) (nC := nC) T.t__law_loose  T.m_tuple T.m_range b__law_draw b__law_side b__law_cell
    have b__law_sides := ok__law_sides (P := P) (w := w) (base := base) (fg := fg) (d := d) (c := c) (l := l) (nC := nC) T.t__law_sides  T.m_tuple T.m_range b__law_cell b__law_draw b__law_side
    have b__law_divisor := ok__law_divisor (P := P) (w := w) (base := base) (K := stK fg d c l nC) T.t__law_divisor  T.m_abs T.m_range
    have b__law_share := ok__law_share (P := P) (w := w) (base := base) (K := stK fg d c l nC) T.t__law_share  b__law_divisor
    have b__law_over := ok__law_over (P := P) (w := w) (base := base) (K := stK fg d c l nC) T.t__law_over  b__law_share
    have b__law_plus := ok__law_plus (P := P) (w := w) (base := base) (K := stK fg d c l nC) T.t__law_plus  b__law_share
    have b__law_sum := ok__law_sum (P := P) (w := w) (base := base) (K := stK fg d c l nC) T.t__law_sum  b__law_plus
    have b__law_times := ok__law_times (P := P) (w := w) (base := base) (K := stK fg d c l nC) T.t__law_times  b__law_share
    have b__law_above := ok__law_above (P := P) (w := w) (base := base) (K := stK fg d c l nC) T.t__law_above  b__law_sum b__law_times
    have b__law_spot_plus := ok__law_spot_plus (P := P) (w := w) (base := base) (K := stK fg d c l nC) T.t__law_spot_plus  b__law_plus
    have b__law_spot_times := ok__law_spot_times (P := P) (w := w) (base := base) (K := stK fg d c l nC) T.t__law_spot_times  b__law_times
    have b__law_spot := ok__law_spot (P := P) (w := w) (base := base) (K := stK fg d c l nC) T.t__law_spot  
    have b__law_foot := ok__law_foot (P := P) (w := w) (base := base) (K := stK fg d c l nC) T.t__law_foot  b__law_over b__law_above b__law_spot_plus b__law_spot_times b__law_spot
    have b__law_meeting := ok__law_meeting (P := P) (w := w) (base := base) (K := stK fg d c l nC) T.t__law_meeting  b__law_share
    have b__law_inside := ok__law_inside (P := P) (w := w) (base := base) (K := stK fg d c l nC) T.t__law_inside  b__law_above
    have b__law_corners := ok__law_corners (P := P) (w := w) (base := base) (K := stK fg d c l nC) T.t__law_corners  b__law_meeting b__law_inside
    have b__law_marks := ok__law_marks (P := P) (w := w) (base := base) (K := stK fg d c l nC) T.t__law_marks  b__law_foot b__law_corners b__law_inside
    have b__law_like := ok__law_like (P := P) (w := w) (base := base) (K := stK fg d c l nC) T.t__law_like  T.m_repr
    have b_turned_by := ok_turned_by (P := P) (w := w) (base := base) (K := stK fg d c l nC) T.t_turned_by  
    have b_weights_of_two := ok_weights_of_two (P := P) (w := w) (base := base) (K := stK fg d c l nC) T.t_weights_of_two  T.m_abs b_turned_by
    have b_weights_of_three := ok_weights_of_three (P := P) (w := w) (base := base) (K := stK fg d c l nC) T.t_weights_of_three  T.m_tuple T.m_max T.m_min b_turned_by
    have b_weighed_sum := ok_weighed_sum (P := P) (w := w) (base := base) (K := stK fg d c l nC) T.t_weighed_sum  T.m_sum
    have b_paper_of := ok_paper_of (P := P) (w := w) (base := base) (K := stK fg d c l nC) T.t_paper_of  T.m_tuple T.m_len T.m_range T.m_zip T.m_combinations b_weights_of_two b_weights_of_three b_weighed_sum
    have b_is_tuple := ok_is_tuple (P := P) (w := w) (base := base) (K := stK fg d c l nC) T.t_is_tuple  T.m_type T.m_tuple
    have b_is_row := ok_is_row (P := P) (w := w) (base := base) (K := stK fg d c l nC) T.t_is_row  T.m_len b_is_tuple
    have b_is_int := ok_is_int (P := P) (w := w) (base := base) (K := stK fg d c l nC) T.t_is_int  T.m_type T.m_int
    have b_is_int_within := ok_is_int_within (P := P) (w := w) (base := base) (K := stK fg d c l nC) T.t_is_int_within  b_is_int
    have b_is_line := ok_is_line (P := P) (w := w) (base := base) (K := stK fg d c l nC) T.t_is_line  T.m_all T.c_MOST_IN_LINE b_is_row b_is_int_within
    have bX_need_lines := okx_need_lines (P := P) (w := w) (base := base) (K := stK fg d c l nC) T.t_need_lines T.m_enumerate T.c_MOST_LINES b_is_row b_is_line (ClT.cl T.k_BadShape)
    have bX_need_shape := okx_need_shape (P := P) (w := w) (base := base) (K := stK fg d c l nC) T.t_need_shape b_paper_of bX_need_lines (ClT.cl T.k_BadShape)
    have b__law_heard := ok__law_heard (P := P) (w := w) (base := base) (K := stK fg d c l nC) T.t__law_heard  T.m_isinstance bX_need_shape (ClT.clh T.k_BadShape) (ClT.clf T.k_BadShape)
    have b__law_where := ok__law_where (P := P) (w := w) (base := base) (fg := fg) (d := d) (c := c) (l := l) (nC := nC) T.t__law_where hC b__law_draw b__law_share
    have b_need_lines := ok_need_lines (P := P) (w := w) (base := base) (K := stK fg d c l nC) T.t_need_lines  T.m_enumerate T.c_MOST_LINES b_is_row b_is_line
    have b_need_shape := ok_need_shape (P := P) (w := w) (base := base) (K := stK fg d c l nC) T.t_need_shape  b_need_lines b_paper_of
    have b_is_pair := ok_is_pair (P := P) (w := w) (base := base) (K := stK fg d c l nC) T.t_is_pair  b_is_row
    have b_is_fraction := ok_is_fraction (P := P) (w := w) (base := base) (K := stK fg d c l nC) T.t_is_fraction  T.m_gcd b_is_pair b_is_int
    have b_is_point := ok_is_point (P := P) (w := w) (base := base) (K := stK fg d c l nC) T.t_is_point  b_is_pair b_is_fraction
    have b_need_point := ok_need_point (P := P) (w := w) (base := base) (K := stK fg d c l nC) T.t_need_point  b_is_point
    have b_beyond := ok_beyond (P := P) (w := w) (base := base) (K := stK fg d c l nC) T.t_beyond  
    have b_all_let := ok_all_let (P := P) (w := w) (base := base) (K := stK fg d c l nC) T.t_all_let  T.m_all b_beyond
    have b_lets := ok_lets (P := P) (w := w) (base := base) (K := stK fg d c l nC) T.t_lets  b_need_shape b_need_point b_all_let
    have b_tight := ok_tight (P := P) (w := w) (base := base) (K := stK fg d c l nC) T.t_tight  T.m_tuple T.m_enumerate b_lets b_beyond
    have b__law_points_right := ok__law_points_right (P := P) (w := w) (base := base) (fg := fg) (d := d) (c := c) (l := l) (nC := nC) T.t__law_points_right  T.m_tuple T.m_range T.m_enumerate b__law_marks b__law_where b__law_foot b__law_of b__law_inside b__law_above b__law_like b_lets b_tight
    exact law_rest T.m_range b__law_draw b__law_loose b__law_sides b__law_marks b__law_like b__law_heard b__law_points_right b_lets b_tight b_need_shape cd A outer s H E hr hg
  obtain ⟨fb, fdb, hmb, Fub⟩ := T.t__law_begin
  have key : ∃ t, (∀ i, PSs ((fmOf P w (K0 fg) mg base ["script", "state_so", "turn", "sides_so", "good", "corner_so", "half", "got"] "law" s_law fa cd A outer s H E 9 sc_law.nd hr hg).X i) (defBody s_law) t) ∧
      ∀ (D : Ends) (H : Hp) (a : Addr) (ns : List Int) (σr : Sg), SqL (K0 fg) H a (ns.map V.int) → ns.length ≤ 1000 →
      (∀ (d c l : Addr) (H' : Hp) (nC : Nat), H d = none → H c = none → H l = none → (∀ b o, H b = some o → H' b = some o) → stI d c l nC 0 H' → 0 < nC → nC ≤ 1000 → ∃ i, (rest i).choose_spec.choose_spec.2.1.ex.choose D (some (.ref a) :: some (.ref d) :: σr) H') → t D (some (.ref a) :: none :: σr) H :=
    ss_first (F := fmOf P w (K0 fg) mg base ["script", "state_so", "turn", "sides_so", "good", "corner_so", "half", "got"] "law" s_law fa cd A outer s H E 9 sc_law.nd hr hg) (beg_fn Fub T.m_list) hmb Fub bp__law_begin (show 1 ≤ 9 from by decide) rfl rfl fun i r => (rest i).choose_spec.choose_spec.2.1.ex.choose_spec.1 r
  obtain ⟨t, pt, ht⟩ := key
  refine ⟨t, PSs.nox (pt ()), ht _ H a ns [none, none, none, none, none, none] hs hn fun d c l H' nC _ _ _ _ si c0 c1 => ⟨(d, c, l, ⟨nC, c0, c1⟩), ?_⟩⟩
  have R := rest (d, c, l, ⟨nC, c0, c1⟩)
  refine (rest (d, c, l, ⟨nC, c0, c1⟩)).choose_spec.choose_spec.2.1.ex.choose_spec.2 _ _ _ H' { nx := fun _ => False, rt := fun x => x = .d (.bool true) } _ (by show 0 + _ ≤ lim; rw [Nat.zero_add]; exact (rest (d, c, l, ⟨nC, c0, c1⟩)).choose_spec.choose_spec.1) (good_st 6 si) ((rest (d, c, l, ⟨nC, c0, c1⟩)).choose_spec.choose_spec.2.2 a)
    ⟨fun _ _ _ _ _ _ _ _ h => h.elim, fun _ _ _ _ _ _ _ _ h => h.elim, fun _ _ _ _ _ _ _ _ h => h.elim, fun v H2 x m _ _ _ _ o e => ?_⟩
  subst e
  cases Rd.inv_bool o
  exact k H2
end
end K06

set_option Elab.async false
set_option linter.all false
set_option maxRecDepth 100000
set_option maxHeartbeats 4000000
set_option exponentiation.threshold 10000
namespace K06
local macro_rules | `(tactic| walk_at "px") => `(tactic| simp only [Px.rd, Px.ownAt, Px.frz, Px.fAdd, Px.fSub, Px.fMul, Px.fFdiv, Px.fMod, Px.fPow, Px.fRel, Px.fEq_int, Px.fEq_str, Px.fEq_bool, Px.fEq_fq, Px.fIs, Px.fIsTy, Px.fIx_l, Px.fIx_t, Px.ix0, Px.ix1, Px.at_0, Px.at_1, Px.at_2, Px.at_3, Px.at_4, Px.ex_some, Px.fSl, Px.gLen, Px.gAbs, Px.gInt, Px.gTuple, Px.gList, Px.gGcd, Px.gSum, Px.gMax, Px.gMin, Px.gAll, Px.gAny, Px.gRepr, Px.gTy, Px.tyOf, Px.asB, Px.asTru, Px.truD, Px.asNeg, Px.asI, Px.asL, Px.asT, Px.asS, Px.asR1, Px.asR2, Px.asZ, Px.asZM, Px.asRg, Px.asRgI, Px.blkE, Px.wipeE, Px.unown, Px.asS, Px.asE, Px.asTwo, Px.asApp, Px.allD, Px.gNm, Px.isNon, Px.isSt, Px.pick,
  List.map_cons, List.map_nil, List.length_cons, List.length_nil, List.length_set, List.replicate_succ, List.replicate_zero, List.cons_append, List.nil_append, List.append_nil, List.getElem?_cons_zero, List.getD_cons_zero, List.getD_cons_succ, List.getElem?_cons_succ, List.set_cons_zero, List.set_cons_succ, Nat.reduceAdd, Nat.reduceSub, Nat.reduceLT, Nat.reduceLeDiff, Nat.zero_add, Nat.mul_zero, Nat.add_zero, eq_self, Nat.sub_self, true_and, and_true, true_or, if_true, Bool.false_eq_true, if_false, ne_eq, not_false_eq_true, Nat.zero_lt_succ, Nat.lt_add_one, Nat.succ_lt_succ_iff])
local macro_rules | `(tactic| walk_at "pz") => `(tactic| simp only [Px.at_last, Px.fKind_eq, Px.fPair_eq, Px.fIsFr_eq, Px.fRow_eq, Px.fWithin_eq, Px.fmOf_mg, Px.isFr_fq, Px.isTy, decide_true, Bool.not_true, Bool.not_false, Bool.and_true, Bool.true_and, Bool.false_and, Bool.and_false, Bool.or_false, Bool.or_true, Px.px0, Px.px1, Px.fNeedPt_eq, Px.fNeedFr_eq, Px.isSt, List.length_append, List.getElem?_map, and_self, Px.map_d, Px.pairs_map, Px.enumD_map, Px.rd, Px.ownAt, Px.frz, Px.fAdd, Px.fSub, Px.fMul, Px.fFdiv, Px.fMod, Px.fPow, Px.fRel, Px.fEq_int, Px.fEq_str, Px.fEq_bool, Px.fEq_fq, Px.fIs, Px.fIsTy, Px.fIx_l, Px.fIx_t, Px.ix0, Px.ix1, Px.at_0, Px.at_1, Px.at_2, Px.at_3, Px.at_4, Px.ex_some, Px.fSl, Px.gLen_l, Px.gLen_t, Px.gLen_tab, Px.gLen_row, Px.gLen_sh, Px.asS_tab, Px.asS_row, Px.asS_sh, Px.asE_tab, Px.asE_row, Px.asE_sh, Px.asZ_tab, Px.asZ_row, Px.ix_tab0, Px.ix_c0, Px.ix_c1, Px.gAbs, Px.gInt, Px.gTuple_l, Px.gTuple_t, Px.gList_l, Px.gList_t, Px.gGcd, Px.gSum, Px.gMax, Px.gMin, Px.gAll, Px.gAny, Px.gRepr, Px.gTy, Px.tyOf, Px.asB, Px.asTru, Px.truD, Px.asNeg, Px.asI, Px.asL, Px.asT, Px.asS_l, Px.asS_t, Px.asR1, Px.asR2, Px.asZ, Px.asZ_ll, Px.asZ_tt, Px.asZ_lt, Px.asRg, Px.asRgI, Px.blkE, Px.wipeE, Px.unown, Px.asE_l, Px.asE_t, Px.asTwo, Px.asApp, Px.allD, Px.gNm, Px.isNon, Px.isSt, Px.pick,
  List.map_cons, List.map_nil, List.length_cons, List.length_nil, List.length_set, List.replicate_succ, List.replicate_zero, List.cons_append, List.nil_append, List.append_nil, List.getElem?_cons_zero, List.getD_cons_zero, List.getD_cons_succ, List.getElem?_cons_succ, List.set_cons_zero, List.set_cons_succ, Nat.reduceAdd, Nat.reduceSub, Nat.reduceLT, Nat.reduceLeDiff, Nat.zero_add, Nat.mul_zero, Nat.add_zero, eq_self, Nat.sub_self, true_and, and_true, true_or, if_true, Bool.false_eq_true, if_false, ne_eq, not_false_eq_true, Nat.zero_lt_succ, Nat.lt_add_one, Nat.succ_lt_succ_iff])
open PySem PySem.Spec PyProof.Rows L2 Px

theorem all_mk {l : PySem.W.OpenLaw} {w : World} {K : PySem.W.Frag} {h : Heap} {mg : Str → Option Value} {fa : Addr} {f0 f1 f2 f3 f4 f5 f6 f7 f8 f9 f10 f11 f12 f13 f14 f15 f16 f17 f18 f19 f20 f21 f22 f23 f24 f25 f26 f27 f28 f29 f30 f31 f32 f33 f34 f35 f36 f37 f38 f39 f40 f41 f42 f43 f44 f45 f46 f47 : Addr} {od0 an0 od1 an1 od2 an2 od3 an3 od4 an4 od5 an5 od6 an6 od7 an7 od8 an8 od9 an9 od10 an10 od11 an11 od12 an12 od13 an13 od14 an14 od15 an15 od16 an16 od17 an17 od18 an18 od19 an19 od20 an20 od21 an21 od22 an22 od23 an23 od24 an24 od25 an25 od26 an26 od27 an27 od28 an28 od29 an29 od30 an30 od31 an31 od32 an32 od33 an33 od34 an34 od35 an35 od36 an36 od37 an37 od38 an38 od39 an39 od40 an40 od41 an41 od42 an42 od43 an43 od44 an44 od45 an45 od46 an46 od47 an47 : Option Addr} {sl0 sl1 sl2 sl3 sl4 sl5 sl6 sl7 sl8 sl9 sl10 sl11 sl12 sl13 sl14 sl15 sl16 sl17 sl18 sl19 sl20 sl21 sl22 sl23 sl24 sl25 sl26 sl27 sl28 sl29 sl30 sl31 sl32 sl33 sl34 sl35 sl36 sl37 sl38 sl39 sl40 sl41 sl42 sl43 sl44 sl45 sl46 sl47 : Array (Option Value)} {oc0 kV0 dc0 pm0 cd0 ct0 oc1 kV1 dc1 pm1 cd1 ct1 oc2 kV2 dc2 pm2 cd2 ct2 oc3 kV3 dc3 pm3 cd3 ct3 oc4 kV4 dc4 pm4 cd4 ct4 oc5 kV5 dc5 pm5 cd5 ct5 oc6 kV6 dc6 pm6 cd6 ct6 oc7 kV7 dc7 pm7 cd7 ct7 oc8 kV8 dc8 pm8 cd8 ct8 oc9 kV9 dc9 pm9 cd9 ct9 oc10 kV10 dc10 pm10 cd10 ct10 oc11 kV11 dc11 pm11 cd11 ct11 oc12 kV12 dc12 pm12 cd12 ct12 oc13 kV13 dc13 pm13 cd13 ct13 oc14 kV14 dc14 pm14 cd14 ct14 oc15 kV15 dc15 pm15 cd15 ct15 oc16 kV16 dc16 pm16 cd16 ct16 oc17 kV17 dc17 pm17 cd17 ct17 oc18 kV18 dc18 pm18 cd18 ct18 oc19 kV19 dc19 pm19 cd19 ct19 oc20 kV20 dc20 pm20 cd20 ct20 oc21 kV21 dc21 pm21 cd21 ct21 oc22 kV22 dc22 pm22 cd22 ct22 oc23 kV23 dc23 pm23 cd23 ct23 oc24 kV24 dc24 pm24 cd24 ct24 oc25 kV25 dc25 pm25 cd25 ct25 oc26 kV26 dc26 pm26 cd26 ct26 oc27 kV27 dc27 pm27 cd27 ct27 oc28 kV28 dc28 pm28 cd28 ct28 oc29 kV29 dc29 pm29 cd29 ct29 oc30 kV30 dc30 pm30 cd30 ct30 oc31 kV31 dc31 pm31 cd31 ct31 oc32 kV32 dc32 pm32 cd32 ct32 oc33 kV33 dc33 pm33 cd33 ct33 oc34 kV34 dc34 pm34 cd34 ct34 oc35 kV35 dc35 pm35 cd35 ct35 oc36 kV36 dc36 pm36 cd36 ct36 oc37 kV37 dc37 pm37 cd37 ct37 oc38 kV38 dc38 pm38 cd38 ct38 oc39 kV39 dc39 pm39 cd39 ct39 oc40 kV40 dc40 pm40 cd40 ct40 oc41 kV41 dc41 pm41 cd41 ct41 oc42 kV42 dc42 pm42 cd42 ct42 oc43 kV43 dc43 pm43 cd43 ct43 oc44 kV44 dc44 pm44 cd44 ct44 oc45 kV45 dc45 pm45 cd45 ct45 oc46 kV46 dc46 pm46 cd46 ct46 oc47 kV47 dc47 pm47 cd47 ct47 : Value} {tk0 : Tok} {tk1 : Tok} {aS : Addr} {cC0 cI0 cN0 : Addr} {cnm0 cq0 : Str} {cbs0 cbm0 csub0 : List Value} {csn0 : List Str} {cab0 : Bool} {ccol0 : Option Bool} {cm00 cm10 cm20 cm30 cm50 : Option Value} {cdd0 cod0 can0 : Option Addr} {csl0 : Array (Option Value)} {coc0 ckV0 cdc0 cpm0 ccd0 cct0 : Value} (X : K.In h) (G : h.Ns mainGlobals mg) (hfa : mg "law" = some (.ref fa))
    (a0 : PySem.W.nsIn K mainGlobals "_law_mixed" = some (some (.ref f0))) (l0 : K.lookup f0 = some ⟨oc0, od0, .func (PySem.W.fnOf "_law_mixed" "_law_mixed" (defArgs s__law_mixed) (defBody s__law_mixed) (defScope s__law_mixed) .none kV0 dc0 pm0 an0 cd0 ct0), sl0⟩) (c0 : PySem.W.codeIn K cd0 "_law_mixed" = true) (k0 : PySem.W.keepIn K (.ref f0) = true)
    (a1 : PySem.W.nsIn K mainGlobals "_law_draw" = some (some (.ref f1))) (l1 : K.lookup f1 = some ⟨oc1, od1, .func (PySem.W.fnOf "_law_draw" "_law_draw" (defArgs s__law_draw) (defBody s__law_draw) (defScope s__law_draw) .none kV1 dc1 pm1 an1 cd1 ct1), sl1⟩) (c1 : PySem.W.codeIn K cd1 "_law_draw" = true) (k1 : PySem.W.keepIn K (.ref f1) = true)
    (a2 : PySem.W.nsIn K mainGlobals "_law_of" = some (some (.ref f2))) (l2 : K.lookup f2 = some ⟨oc2, od2, .func (PySem.W.fnOf "_law_of" "_law_of" (defArgs s__law_of) (defBody s__law_of) (defScope s__law_of) .none kV2 dc2 pm2 an2 cd2 ct2), sl2⟩) (c2 : PySem.W.codeIn K cd2 "_law_of" = true) (k2 : PySem.W.keepIn K (.ref f2) = true)
    (a3 : PySem.W.nsIn K mainGlobals "_law_side" = some (some (.ref f3))) (l3 : K.lookup f3 = some ⟨oc3, od3, .func (PySem.W.fnOf "_law_side" "_law_side" (defArgs s__law_side) (defBody s__law_side) (defScope s__law_side) .none kV3 dc3 pm3 an3 cd3 ct3), sl3⟩) (c3 : PySem.W.codeIn K cd3 "_law_side" = true) (k3 : PySem.W.keepIn K (.ref f3) = true)
    (a4 : PySem.W.nsIn K mainGlobals "_law_cell" = some (some (.ref f4))) (l4 : K.lookup f4 = some ⟨oc4, od4, .func (PySem.W.fnOf "_law_cell" "_law_cell" (defArgs s__law_cell) (defBody s__law_cell) (defScope s__law_cell) .none kV4 dc4 pm4 an4 cd4 ct4), sl4⟩) (c4 : PySem.W.codeIn K cd4 "_law_cell" = true) (k4 : PySem.W.keepIn K (.ref f4) = true)
    (a5 : PySem.W.nsIn K mainGlobals "_law_loose" = some (some (.ref f5))) (l5 : K.lookup f5 = some ⟨oc5, od5, .func (PySem.W.fnOf "_law_loose" "_law_loose" (defArgs s__law_loose) (defBody s__law_loose) (defScope s__law_loose) .none kV5 dc5 pm5 an5 cd5 ct5), sl5⟩) (c5 : PySem.W.codeIn K cd5 "_law_loose" = true) (k5 : PySem.W.keepIn K (.ref f5) = true)
    (a6 : PySem.W.nsIn K mainGlobals "_law_sides" = some (some (.ref f6))) (l6 : K.lookup f6 = some ⟨oc6, od6, .func (PySem.W.fnOf "_law_sides" "_law_sides" (defArgs s__law_sides) (defBody s__law_sides) (defScope s__law_sides) .none kV6 dc6 pm6 an6 cd6 ct6), sl6⟩) (c6 : PySem.W.codeIn K cd6 "_law_sides" = true) (k6 : PySem.W.keepIn K (.ref f6) = true)
    (a7 : PySem.W.nsIn K mainGlobals "_law_divisor" = some (some (.ref f7))) (l7 : K.lookup f7 = some ⟨oc7, od7, .func (PySem.W.fnOf "_law_divisor" "_law_divisor" (defArgs s__law_divisor) (defBody s__law_divisor) (defScope s__law_divisor) .none kV7 dc7 pm7 an7 cd7 ct7), sl7⟩) (c7 : PySem.W.codeIn K cd7 "_law_divisor" = true) (k7 : PySem.W.keepIn K (.ref f7) = true)
    (a8 : PySem.W.nsIn K mainGlobals "_law_share" = some (some (.ref f8))) (l8 : K.lookup f8 = some ⟨oc8, od8, .func (PySem.W.fnOf "_law_share" "_law_share" (defArgs s__law_share) (defBody s__law_share) (defScope s__law_share) .none kV8 dc8 pm8 an8 cd8 ct8), sl8⟩) (c8 : PySem.W.codeIn K cd8 "_law_share" = true) (k8 : PySem.W.keepIn K (.ref f8) = true)
    (a9 : PySem.W.nsIn K mainGlobals "_law_over" = some (some (.ref f9))) (l9 : K.lookup f9 = some ⟨oc9, od9, .func (PySem.W.fnOf "_law_over" "_law_over" (defArgs s__law_over) (defBody s__law_over) (defScope s__law_over) .none kV9 dc9 pm9 an9 cd9 ct9), sl9⟩) (c9 : PySem.W.codeIn K cd9 "_law_over" = true) (k9 : PySem.W.keepIn K (.ref f9) = true)
    (a10 : PySem.W.nsIn K mainGlobals "_law_plus" = some (some (.ref f10))) (l10 : K.lookup f10 = some ⟨oc10, od10, .func (PySem.W.fnOf "_law_plus" "_law_plus" (defArgs s__law_plus) (defBody s__law_plus) (defScope s__law_plus) .none kV10 dc10 pm10 an10 cd10 ct10), sl10⟩) (c10 : PySem.W.codeIn K cd10 "_law_plus" = true) (k10 : PySem.W.keepIn K (.ref f10) = true)
    (a11 : PySem.W.nsIn K mainGlobals "_law_sum" = some (some (.ref f11))) (l11 : K.lookup f11 = some ⟨oc11, od11, .func (PySem.W.fnOf "_law_sum" "_law_sum" (defArgs s__law_sum) (defBody s__law_sum) (defScope s__law_sum) .none kV11 dc11 pm11 an11 cd11 ct11), sl11⟩) (c11 : PySem.W.codeIn K cd11 "_law_sum" = true) (k11 : PySem.W.keepIn K (.ref f11) = true)
    (a12 : PySem.W.nsIn K mainGlobals "_law_times" = some (some (.ref f12))) (l12 : K.lookup f12 = some ⟨oc12, od12, .func (PySem.W.fnOf "_law_times" "_law_times" (defArgs s__law_times) (defBody s__law_times) (defScope s__law_times) .none kV12 dc12 pm12 an12 cd12 ct12), sl12⟩) (c12 : PySem.W.codeIn K cd12 "_law_times" = true) (k12 : PySem.W.keepIn K (.ref f12) = true)
    (a13 : PySem.W.nsIn K mainGlobals "_law_above" = some (some (.ref f13))) (l13 : K.lookup f13 = some ⟨oc13, od13, .func (PySem.W.fnOf "_law_above" "_law_above" (defArgs s__law_above) (defBody s__law_above) (defScope s__law_above) .none kV13 dc13 pm13 an13 cd13 ct13), sl13⟩) (c13 : PySem.W.codeIn K cd13 "_law_above" = true) (k13 : PySem.W.keepIn K (.ref f13) = true)
    (a14 : PySem.W.nsIn K mainGlobals "_law_spot_plus" = some (some (.ref f14))) (l14 : K.lookup f14 = some ⟨oc14, od14, .func (PySem.W.fnOf "_law_spot_plus" "_law_spot_plus" (defArgs s__law_spot_plus) (defBody s__law_spot_plus) (defScope s__law_spot_plus) .none kV14 dc14 pm14 an14 cd14 ct14), sl14⟩) (c14 : PySem.W.codeIn K cd14 "_law_spot_plus" = true) (k14 : PySem.W.keepIn K (.ref f14) = true)
    (a15 : PySem.W.nsIn K mainGlobals "_law_spot_times" = some (some (.ref f15))) (l15 : K.lookup f15 = some ⟨oc15, od15, .func (PySem.W.fnOf "_law_spot_times" "_law_spot_times" (defArgs s__law_spot_times) (defBody s__law_spot_times) (defScope s__law_spot_times) .none kV15 dc15 pm15 an15 cd15 ct15), sl15⟩) (c15 : PySem.W.codeIn K cd15 "_law_spot_times" = true) (k15 : PySem.W.keepIn K (.ref f15) = true)
    (a16 : PySem.W.nsIn K mainGlobals "_law_spot" = some (some (.ref f16))) (l16 : K.lookup f16 = some ⟨oc16, od16, .func (PySem.W.fnOf "_law_spot" "_law_spot" (defArgs s__law_spot) (defBody s__law_spot) (defScope s__law_spot) .none kV16 dc16 pm16 an16 cd16 ct16), sl16⟩) (c16 : PySem.W.codeIn K cd16 "_law_spot" = true) (k16 : PySem.W.keepIn K (.ref f16) = true)
    (a17 : PySem.W.nsIn K mainGlobals "_law_foot" = some (some (.ref f17))) (l17 : K.lookup f17 = some ⟨oc17, od17, .func (PySem.W.fnOf "_law_foot" "_law_foot" (defArgs s__law_foot) (defBody s__law_foot) (defScope s__law_foot) .none kV17 dc17 pm17 an17 cd17 ct17), sl17⟩) (c17 : PySem.W.codeIn K cd17 "_law_foot" = true) (k17 : PySem.W.keepIn K (.ref f17) = true)
    (a18 : PySem.W.nsIn K mainGlobals "_law_meeting" = some (some (.ref f18))) (l18 : K.lookup f18 = some ⟨oc18, od18, .func (PySem.W.fnOf "_law_meeting" "_law_meeting" (defArgs s__law_meeting) (defBody s__law_meeting) (defScope s__law_meeting) .none kV18 dc18 pm18 an18 cd18 ct18), sl18⟩) (c18 : PySem.W.codeIn K cd18 "_law_meeting" = true) (k18 : PySem.W.keepIn K (.ref f18) = true)
    (a19 : PySem.W.nsIn K mainGlobals "_law_inside" = some (some (.ref f19))) (l19 : K.lookup f19 = some ⟨oc19, od19, .func (PySem.W.fnOf "_law_inside" "_law_inside" (defArgs s__law_inside) (defBody s__law_inside) (defScope s__law_inside) .none kV19 dc19 pm19 an19 cd19 ct19), sl19⟩) (c19 : PySem.W.codeIn K cd19 "_law_inside" = true) (k19 : PySem.W.keepIn K (.ref f19) = true)
    (a20 : PySem.W.nsIn K mainGlobals "_law_corners" = some (some (.ref f20))) (l20 : K.lookup f20 = some ⟨oc20, od20, .func (PySem.W.fnOf "_law_corners" "_law_corners" (defArgs s__law_corners) (defBody s__law_corners) (defScope s__law_corners) .none kV20 dc20 pm20 an20 cd20 ct20), sl20⟩) (c20 : PySem.W.codeIn K cd20 "_law_corners" = true) (k20 : PySem.W.keepIn K (.ref f20) = true)
    (a21 : PySem.W.nsIn K mainGlobals "_law_marks" = some (some (.ref f21))) (l21 : K.lookup f21 = some ⟨oc21, od21, .func (PySem.W.fnOf "_law_marks" "_law_marks" (defArgs s__law_marks) (defBody s__law_marks) (defScope s__law_marks) .none kV21 dc21 pm21 an21 cd21 ct21), sl21⟩) (c21 : PySem.W.codeIn K cd21 "_law_marks" = true) (k21 : PySem.W.keepIn K (.ref f21) = true)
    (a22 : PySem.W.nsIn K mainGlobals "_law_like" = some (some (.ref f22))) (l22 : K.lookup f22 = some ⟨oc22, od22, .func (PySem.W.fnOf "_law_like" "_law_like" (defArgs s__law_like) (defBody s__law_like) (defScope s__law_like) .none kV22 dc22 pm22 an22 cd22 ct22), sl22⟩) (c22 : PySem.W.codeIn K cd22 "_law_like" = true) (k22 : PySem.W.keepIn K (.ref f22) = true)
    (a23 : PySem.W.nsIn K mainGlobals "turned_by" = some (some (.ref f23))) (l23 : K.lookup f23 = some ⟨oc23, od23, .func (PySem.W.fnOf "turned_by" "turned_by" (defArgs s_turned_by) (defBody s_turned_by) (defScope s_turned_by) .none kV23 dc23 pm23 an23 cd23 ct23), sl23⟩) (c23 : PySem.W.codeIn K cd23 "turned_by" = true) (k23 : PySem.W.keepIn K (.ref f23) = true)
    (a24 : PySem.W.nsIn K mainGlobals "weights_of_two" = some (some (.ref f24))) (l24 : K.lookup f24 = some ⟨oc24, od24, .func (PySem.W.fnOf "weights_of_two" "weights_of_two" (defArgs s_weights_of_two) (defBody s_weights_of_two) (defScope s_weights_of_two) .none kV24 dc24 pm24 an24 cd24 ct24), sl24⟩) (c24 : PySem.W.codeIn K cd24 "weights_of_two" = true) (k24 : PySem.W.keepIn K (.ref f24) = true)
    (a25 : PySem.W.nsIn K mainGlobals "weights_of_three" = some (some (.ref f25))) (l25 : K.lookup f25 = some ⟨oc25, od25, .func (PySem.W.fnOf "weights_of_three" "weights_of_three" (defArgs s_weights_of_three) (defBody s_weights_of_three) (defScope s_weights_of_three) .none kV25 dc25 pm25 an25 cd25 ct25), sl25⟩) (c25 : PySem.W.codeIn K cd25 "weights_of_three" = true) (k25 : PySem.W.keepIn K (.ref f25) = true)
    (a26 : PySem.W.nsIn K mainGlobals "weighed_sum" = some (some (.ref f26))) (l26 : K.lookup f26 = some ⟨oc26, od26, .func (PySem.W.fnOf "weighed_sum" "weighed_sum" (defArgs s_weighed_sum) (defBody s_weighed_sum) (defScope s_weighed_sum) .none kV26 dc26 pm26 an26 cd26 ct26), sl26⟩) (c26 : PySem.W.codeIn K cd26 "weighed_sum" = true) (k26 : PySem.W.keepIn K (.ref f26) = true)
    (a27 : PySem.W.nsIn K mainGlobals "paper_of" = some (some (.ref f27))) (l27 : K.lookup f27 = some ⟨oc27, od27, .func (PySem.W.fnOf "paper_of" "paper_of" (defArgs s_paper_of) (defBody s_paper_of) (defScope s_paper_of) .none kV27 dc27 pm27 an27 cd27 ct27), sl27⟩) (c27 : PySem.W.codeIn K cd27 "paper_of" = true) (k27 : PySem.W.keepIn K (.ref f27) = true)
    (a28 : PySem.W.nsIn K mainGlobals "is_tuple" = some (some (.ref f28))) (l28 : K.lookup f28 = some ⟨oc28, od28, .func (PySem.W.fnOf "is_tuple" "is_tuple" (defArgs s_is_tuple) (defBody s_is_tuple) (defScope s_is_tuple) .none kV28 dc28 pm28 an28 cd28 ct28), sl28⟩) (c28 : PySem.W.codeIn K cd28 "is_tuple" = true) (k28 : PySem.W.keepIn K (.ref f28) = true)
    (a29 : PySem.W.nsIn K mainGlobals "is_row" = some (some (.ref f29))) (l29 : K.lookup f29 = some ⟨oc29, od29, .func (PySem.W.fnOf "is_row" "is_row" (defArgs s_is_row) (defBody s_is_row) (defScope s_is_row) .none kV29 dc29 pm29 an29 cd29 ct29), sl29⟩) (c29 : PySem.W.codeIn K cd29 "is_row" = true) (k29 : PySem.W.keepIn K (.ref f29) = true)
    (a30 : PySem.W.nsIn K mainGlobals "is_int" = some (some (.ref f30))) (l30 : K.lookup f30 = some ⟨oc30, od30, .func (PySem.W.fnOf "is_int" "is_int" (defArgs s_is_int) (defBody s_is_int) (defScope s_is_int) .none kV30 dc30 pm30 an30 cd30 ct30), sl30⟩) (c30 : PySem.W.codeIn K cd30 "is_int" = true) (k30 : PySem.W.keepIn K (.ref f30) = true)
    (a31 : PySem.W.nsIn K mainGlobals "is_int_within" = some (some (.ref f31))) (l31 : K.lookup f31 = some ⟨oc31, od31, .func (PySem.W.fnOf "is_int_within" "is_int_within" (defArgs s_is_int_within) (defBody s_is_int_within) (defScope s_is_int_within) .none kV31 dc31 pm31 an31 cd31 ct31), sl31⟩) (c31 : PySem.W.codeIn K cd31 "is_int_within" = true) (k31 : PySem.W.keepIn K (.ref f31) = true)
    (a32 : PySem.W.nsIn K mainGlobals "is_line" = some (some (.ref f32))) (l32 : K.lookup f32 = some ⟨oc32, od32, .func (PySem.W.fnOf "is_line" "is_line" (defArgs s_is_line) (defBody s_is_line) (defScope s_is_line) .none kV32 dc32 pm32 an32 cd32 ct32), sl32⟩) (c32 : PySem.W.codeIn K cd32 "is_line" = true) (k32 : PySem.W.keepIn K (.ref f32) = true)
    (a33 : PySem.W.nsIn K mainGlobals "need_lines" = some (some (.ref f33))) (l33 : K.lookup f33 = some ⟨oc33, od33, .func (PySem.W.fnOf "need_lines" "need_lines" (defArgs s_need_lines) (defBody s_need_lines) (defScope s_need_lines) .none kV33 dc33 pm33 an33 cd33 ct33), sl33⟩) (c33 : PySem.W.codeIn K cd33 "need_lines" = true) (k33 : PySem.W.keepIn K (.ref f33) = true)
    (a34 : PySem.W.nsIn K mainGlobals "need_shape" = some (some (.ref f34))) (l34 : K.lookup f34 = some ⟨oc34, od34, .func (PySem.W.fnOf "need_shape" "need_shape" (defArgs s_need_shape) (defBody s_need_shape) (defScope s_need_shape) .none kV34 dc34 pm34 an34 cd34 ct34), sl34⟩) (c34 : PySem.W.codeIn K cd34 "need_shape" = true) (k34 : PySem.W.keepIn K (.ref f34) = true)
    (a35 : PySem.W.nsIn K mainGlobals "_law_heard" = some (some (.ref f35))) (l35 : K.lookup f35 = some ⟨oc35, od35, .func (PySem.W.fnOf "_law_heard" "_law_heard" (defArgs s__law_heard) (defBody s__law_heard) (defScope s__law_heard) .none kV35 dc35 pm35 an35 cd35 ct35), sl35⟩) (c35 : PySem.W.codeIn K cd35 "_law_heard" = true) (k35 : PySem.W.keepIn K (.ref f35) = true)
    (a36 : PySem.W.nsIn K mainGlobals "_law_where" = some (some (.ref f36))) (l36 : K.lookup f36 = some ⟨oc36, od36, .func (PySem.W.fnOf "_law_where" "_law_where" (defArgs s__law_where) (defBody s__law_where) (defScope s__law_where) .none kV36 dc36 pm36 an36 cd36 ct36), sl36⟩) (c36 : PySem.W.codeIn K cd36 "_law_where" = true) (k36 : PySem.W.keepIn K (.ref f36) = true)
    (a37 : PySem.W.nsIn K mainGlobals "is_pair" = some (some (.ref f37))) (l37 : K.lookup f37 = some ⟨oc37, od37, .func (PySem.W.fnOf "is_pair" "is_pair" (defArgs s_is_pair) (defBody s_is_pair) (defScope s_is_pair) .none kV37 dc37 pm37 an37 cd37 ct37), sl37⟩) (c37 : PySem.W.codeIn K cd37 "is_pair" = true) (k37 : PySem.W.keepIn K (.ref f37) = true)
    (a38 : PySem.W.nsIn K mainGlobals "is_fraction" = some (some (.ref f38))) (l38 : K.lookup f38 = some ⟨oc38, od38, .func (PySem.W.fnOf "is_fraction" "is_fraction" (defArgs s_is_fraction) (defBody s_is_fraction) (defScope s_is_fraction) .none kV38 dc38 pm38 an38 cd38 ct38), sl38⟩) (c38 : PySem.W.codeIn K cd38 "is_fraction" = true) (k38 : PySem.W.keepIn K (.ref f38) = true)
    (a39 : PySem.W.nsIn K mainGlobals "is_point" = some (some (.ref f39))) (l39 : K.lookup f39 = some ⟨oc39, od39, .func (PySem.W.fnOf "is_point" "is_point" (defArgs s_is_point) (defBody s_is_point) (defScope s_is_point) .none kV39 dc39 pm39 an39 cd39 ct39), sl39⟩) (c39 : PySem.W.codeIn K cd39 "is_point" = true) (k39 : PySem.W.keepIn K (.ref f39) = true)
    (a40 : PySem.W.nsIn K mainGlobals "need_point" = some (some (.ref f40))) (l40 : K.lookup f40 = some ⟨oc40, od40, .func (PySem.W.fnOf "need_point" "need_point" (defArgs s_need_point) (defBody s_need_point) (defScope s_need_point) .none kV40 dc40 pm40 an40 cd40 ct40), sl40⟩) (c40 : PySem.W.codeIn K cd40 "need_point" = true) (k40 : PySem.W.keepIn K (.ref f40) = true)
    (a41 : PySem.W.nsIn K mainGlobals "beyond" = some (some (.ref f41))) (l41 : K.lookup f41 = some ⟨oc41, od41, .func (PySem.W.fnOf "beyond" "beyond" (defArgs s_beyond) (defBody s_beyond) (defScope s_beyond) .none kV41 dc41 pm41 an41 cd41 ct41), sl41⟩) (c41 : PySem.W.codeIn K cd41 "beyond" = true) (k41 : PySem.W.keepIn K (.ref f41) = true)
    (a42 : PySem.W.nsIn K mainGlobals "all_let" = some (some (.ref f42))) (l42 : K.lookup f42 = some ⟨oc42, od42, .func (PySem.W.fnOf "all_let" "all_let" (defArgs s_all_let) (defBody s_all_let) (defScope s_all_let) .none kV42 dc42 pm42 an42 cd42 ct42), sl42⟩) (c42 : PySem.W.codeIn K cd42 "all_let" = true) (k42 : PySem.W.keepIn K (.ref f42) = true)
    (a43 : PySem.W.nsIn K mainGlobals "lets" = some (some (.ref f43))) (l43 : K.lookup f43 = some ⟨oc43, od43, .func (PySem.W.fnOf "lets" "lets" (defArgs s_lets) (defBody s_lets) (defScope s_lets) .none kV43 dc43 pm43 an43 cd43 ct43), sl43⟩) (c43 : PySem.W.codeIn K cd43 "lets" = true) (k43 : PySem.W.keepIn K (.ref f43) = true)
    (a44 : PySem.W.nsIn K mainGlobals "tight" = some (some (.ref f44))) (l44 : K.lookup f44 = some ⟨oc44, od44, .func (PySem.W.fnOf "tight" "tight" (defArgs s_tight) (defBody s_tight) (defScope s_tight) .none kV44 dc44 pm44 an44 cd44 ct44), sl44⟩) (c44 : PySem.W.codeIn K cd44 "tight" = true) (k44 : PySem.W.keepIn K (.ref f44) = true)
    (a45 : PySem.W.nsIn K mainGlobals "_law_points_right" = some (some (.ref f45))) (l45 : K.lookup f45 = some ⟨oc45, od45, .func (PySem.W.fnOf "_law_points_right" "_law_points_right" (defArgs s__law_points_right) (defBody s__law_points_right) (defScope s__law_points_right) .none kV45 dc45 pm45 an45 cd45 ct45), sl45⟩) (c45 : PySem.W.codeIn K cd45 "_law_points_right" = true) (k45 : PySem.W.keepIn K (.ref f45) = true)
    (a46 : PySem.W.nsIn K mainGlobals "_law_begin" = some (some (.ref f46))) (l46 : K.lookup f46 = some ⟨oc46, od46, .func (PySem.W.fnOf "_law_begin" "_law_begin" (defArgs s__law_begin) (defBody s__law_begin) (defScope s__law_begin) .none kV46 dc46 pm46 an46 cd46 ct46), sl46⟩) (c46 : PySem.W.codeIn K cd46 "_law_begin" = true) (k46 : PySem.W.keepIn K (.ref f46) = true)
    (a47 : PySem.W.nsIn K mainGlobals "law" = some (some (.ref f47))) (l47 : K.lookup f47 = some ⟨oc47, od47, .func (PySem.W.fnOf "law" "law" (defArgs s_law) (defBody s_law) (defScope s_law) .none kV47 dc47 pm47 an47 cd47 ct47), sl47⟩) (c47 : PySem.W.codeIn K cd47 "law" = true) (k47 : PySem.W.keepIn K (.ref f47) = true)
    (z_list : PySem.W.nsIn K mainGlobals "list" = some none)
    (z_int : PySem.W.nsIn K mainGlobals "int" = some none)
    (z_len : PySem.W.nsIn K mainGlobals "len" = some none)
    (z_range : PySem.W.nsIn K mainGlobals "range" = some none)
    (z_tuple : PySem.W.nsIn K mainGlobals "tuple" = some none)
    (z_abs : PySem.W.nsIn K mainGlobals "abs" = some none)
    (z_repr : PySem.W.nsIn K mainGlobals "repr" = some none)
    (z_max : PySem.W.nsIn K mainGlobals "max" = some none)
    (z_min : PySem.W.nsIn K mainGlobals "min" = some none)
    (z_sum : PySem.W.nsIn K mainGlobals "sum" = some none)
    (z_zip : PySem.W.nsIn K mainGlobals "zip" = some none)
    (z_type : PySem.W.nsIn K mainGlobals "type" = some none)
    (z_all : PySem.W.nsIn K mainGlobals "all" = some none)
    (z_enumerate : PySem.W.nsIn K mainGlobals "enumerate" = some none)
    (z_isinstance : PySem.W.nsIn K mainGlobals "isinstance" = some none)
    (z_combinations : PySem.W.nsIn K mainGlobals "combinations" = some (some (.type "itertools.combinations")))
    (z_gcd : PySem.W.nsIn K mainGlobals "gcd" = some (some (.builtin "math.gcd")))
    (y0 : PySem.W.nsIn K mainGlobals "MOST_IN_LINE" = some (some (.int 1000 tk0)))
    (y1 : PySem.W.nsIn K mainGlobals "MOST_LINES" = some (some (.int 8 tk1)))
    (zS : PySem.W.nsIn K mainGlobals "ShapeError" = some (some (.ref aS)))
    (ac0 : PySem.W.nsIn K mainGlobals "BadShape" = some (some (.ref cC0))) (xl0 : K.lookup cC0 = some (excClassObj cnm0 cq0 cC0 cN0 cbs0 cbm0 true csn0 csub0 cab0 ccol0 cdd0 cm00 cm10 cm20 cm30 cm50 "ValueError.__new__")) (rv0 : PySem.HandSPX.refsVE cbm0 = true) (sa0 : PySem.W.findIn K (.ref cC0) "__setattr__" = some (some (.builtin "object.__setattr__"))) (ga0 : PySem.W.findIn K (.ref cC0) "__getattribute__" = some (some (.builtin "BaseException.__getattribute__"))) (gg0 : PySem.W.findIn K (.ref cC0) "__getattr__" = some none) (nf0 : PySem.W.findIn K (.ref cC0) "place" = some none) (ni0 : PySem.W.findIn K (.ref cC0) "__init__" = some (some (.ref cI0))) (ti0 : PySem.W.typeIn K (.ref cI0) = some (.type "function")) (kc0 : PySem.W.keepIn K (.ref cC0) = true) (ec0 : PySem.W.subIn K (.ref cC0) (.type "BaseException") = some true) (tc0 : PySem.W.typeIn K (.ref cC0) = some (.type "type")) (hc0 : PySem.W.hasDictIn K cC0 = true) (sc0 : PySem.W.subIn K (.ref cC0) (.ref cC0) = some true) (dc0 : PySem.W.findIn K (.ref cC0) "__class__" = some (some (.builtin "object.__class__"))) (dg0 : PySem.W.specialIn K (.builtin "object.__class__") "__get__" = some (some (.builtin "getset_descriptor.__get__"))) (dt0 : PySem.W.takesIn K (.builtin "object.__class__") = some true) (mo0 : PySem.W.mroIn K cC0 (.type "object") = some true) (li0 : K.lookup cI0 = some ⟨coc0, cod0, .func (PySem.W.fnOf "__init__" "BadShape.__init__" (defArgs (Px.clsInit (topS 4))) (defBody (Px.clsInit (topS 4))) (defScope (Px.clsInit (topS 4))) .none ckV0 cdc0 cpm0 can0 ccd0 cct0), csl0⟩) (ci0 : PySem.W.codeIn K ccd0 "BadShape.__init__" = true) (kt0 : PySem.W.kitOne K (.ref cC0) (.ref aS) = some true) :
    ∃ fd : FuncData, (∀ (s : Shared) (v : Value), BindsTo s fd ⟨[v], []⟩ [("script", v)]) ∧ ∀ base : Heap, K.In base → base.Ns mainGlobals mg → FnG l.prog w K mg base CX0 10 fa fd ["script"] (spLaw K) := by
  have e := hfa.symm.trans (PySem.W.mg_of X G a47)
  cases e
  exact ⟨_, fun s v => .of_eq rfl, fun base _ _ => law_fn ⟨lo_mkD X G a0 l0 c0 k0, lo_mkD X G a1 l1 c1 k1, lo_mkD X G a2 l2 c2 k2, lo_mkD X G a3 l3 c3 k3, lo_mkD X G a4 l4 c4 k4, lo_mkD X G a5 l5 c5 k5, lo_mkD X G a6 l6 c6 k6, lo_mkD X G a7 l7 c7 k7, lo_mkD X G a8 l8 c8 k8, lo_mkD X G a9 l9 c9 k9, lo_mkD X G a10 l10 c10 k10, lo_mkD X G a11 l11 c11 k11, lo_mkD X G a12 l12 c12 k12, lo_mkD X G a13 l13 c13 k13, lo_mkD X G a14 l14 c14 k14, lo_mkD X G a15 l15 c15 k15, lo_mkD X G a16 l16 c16 k16, lo_mkD X G a17 l17 c17 k17, lo_mkD X G a18 l18 c18 k18, lo_mkD X G a19 l19 c19 k19, lo_mkD X G a20 l20 c20 k20, lo_mkD X G a21 l21 c21 k21, lo_mkD X G a22 l22 c22 k22, lo_mkD X G a23 l23 c23 k23, lo_mkD X G a24 l24 c24 k24, lo_mkD X G a25 l25 c25 k25, lo_mkD X G a26 l26 c26 k26, lo_mkD X G a27 l27 c27 k27, lo_mkD X G a28 l28 c28 k28, lo_mkD X G a29 l29 c29 k29, lo_mkD X G a30 l30 c30 k30, lo_mkD X G a31 l31 c31 k31, lo_mkD X G a32 l32 c32 k32, lo_mkD X G a33 l33 c33 k33, lo_mkD X G a34 l34 c34 k34, lo_mkD X G a35 l35 c35 k35, lo_mkD X G a36 l36 c36 k36, lo_mkD X G a37 l37 c37 k37, lo_mkD X G a38 l38 c38 k38, lo_mkD X G a39 l39 c39 k39, lo_mkD X G a40 l40 c40 k40, lo_mkD X G a41 l41 c41 k41, lo_mkD X G a42 l42 c42 k42, lo_mkD X G a43 l43 c43 k43, lo_mkD X G a44 l44 c44 k44, lo_mkD X G a45 l45 c45 k45, lo_mkD X G a46 l46 c46 k46, PySem.W.mg_none_of X G z_list, PySem.W.mg_none_of X G z_int, PySem.W.mg_none_of X G z_len, PySem.W.mg_none_of X G z_range, PySem.W.mg_none_of X G z_tuple, PySem.W.mg_none_of X G z_abs, PySem.W.mg_none_of X G z_repr, PySem.W.mg_none_of X G z_max, PySem.W.mg_none_of X G z_min, PySem.W.mg_none_of X G z_sum, PySem.W.mg_none_of X G z_zip, PySem.W.mg_none_of X G z_type, PySem.W.mg_none_of X G z_all, PySem.W.mg_none_of X G z_enumerate, PySem.W.mg_none_of X G z_isinstance, PySem.W.mg_of X G z_combinations, PySem.W.mg_of X G z_gcd, int_mk X G y0, int_mk X G y1, ⟨cC0, cI0, aS, _, ["self", "place"], PySem.W.mg_of X G ac0, ⟨⟨_, _, _, _, _, _, _, _, _, _, _, _, _, _, _, xl0, rv0⟩, sa0, ga0, gg0, nf0, ni0, ti0, kc0, ec0, tc0, hc0, sc0, dc0, dg0, dt0, mo0⟩, fun P w base => Px.init_ok li0 ci0 ⟨rfl, rfl, rfl, by decide +kernel, rfl, by decide +kernel, by decide +kernel⟩ rfl, Binds.all (fun us hl => match us, hl with | [_, _], _ => rfl), PySem.W.mg_of X G zS, kt0⟩⟩ (fun_mk l47 c47 k47)⟩
end K06
open PySem PySem.W PyProof.Rows
set_option maxRecDepth 100000 in
set_option maxHeartbeats 0 in
theorem PySem.Challenge.cw_withinshapes_k06_whole_shapes_and_what_t_holds : PySem.Challenge.rw_withinshapes_k06_whole_shapes_and_what_t.Holds := by
  w_on; o_law; k_head; (case hw => w_witness2)
  k_fill
  refine Px.walkG (l := PySem.Challenge.rw_withinshapes_k06_whole_shapes_and_what_t) (n := 63) (k := 10) (x := "script") (sp := fun K => Px.spLaw K) rfl (by decide) rfl ⟨rfl, by decide, by decide⟩ (fun w h Y => PySem.W.kIn_of Y) ?F (fun _ _ a ns hl _ hS => ⟨a, ns, rfl, hS, Nat.le_trans hl (by decide), fun _ => rfl⟩)
  case F =>
    intro w mg fa h KX G hmg
    refine' K06.all_mk KX G hmg ?a0 ?l0 ?c0 ?k0 ?a1 ?l1 ?c1 ?k1 ?a2 ?l2 ?c2 ?k2 ?a3 ?l3 ?c3 ?k3 ?a4 ?l4 ?c4 ?k4 ?a5 ?l5 ?c5 ?k5 ?a6 ?l6 ?c6 ?k6 ?a7 ?l7 ?c7 ?k7 ?a8 ?l8 ?c8 ?k8 ?a9 ?l9 ?c9 ?k9 ?a10 ?l10 ?c10 ?k10 ?a11 ?l11 ?c11 ?k11 ?a12 ?l12 ?c12 ?k12 ?a13 ?l13 ?c13 ?k13 ?a14 ?l14 ?c14 ?k14 ?a15 ?l15 ?c15 ?k15 ?a16 ?l16 ?c16 ?k16 ?a17 ?l17 ?c17 ?k17 ?a18 ?l18 ?c18 ?k18 ?a19 ?l19 ?c19 ?k19 ?a20 ?l20 ?c20 ?k20 ?a21 ?l21 ?c21 ?k21 ?a22 ?l22 ?c22 ?k22 ?a23 ?l23 ?c23 ?k23 ?a24 ?l24 ?c24 ?k24 ?a25 ?l25 ?c25 ?k25 ?a26 ?l26 ?c26 ?k26 ?a27 ?l27 ?c27 ?k27 ?a28 ?l28 ?c28 ?k28 ?a29 ?l29 ?c29 ?k29 ?a30 ?l30 ?c30 ?k30 ?a31 ?l31 ?c31 ?k31 ?a32 ?l32 ?c32 ?k32 ?a33 ?l33 ?c33 ?k33 ?a34 ?l34 ?c34 ?k34 ?a35 ?l35 ?c35 ?k35 ?a36 ?l36 ?c36 ?k36 ?a37 ?l37 ?c37 ?k37 ?a38 ?l38 ?c38 ?k38 ?a39 ?l39 ?c39 ?k39 ?a40 ?l40 ?c40 ?k40 ?a41 ?l41 ?c41 ?k41 ?a42 ?l42 ?c42 ?k42 ?a43 ?l43 ?c43 ?k43 ?a44 ?l44 ?c44 ?k44 ?a45 ?l45 ?c45 ?k45 ?a46 ?l46 ?c46 ?k46 ?a47 ?l47 ?c47 ?k47 ?z_list ?z_int ?z_len ?z_range ?z_tuple ?z_abs ?z_repr ?z_max ?z_min ?z_sum ?z_zip ?z_type ?z_all ?z_enumerate ?z_isinstance ?z_combinations ?z_gcd ?y0 ?y1 ?zS ?ac0 ?xl0 ?rv0 ?sa0 ?ga0 ?gg0 ?nf0 ?ni0 ?ti0 ?kc0 ?ec0 ?tc0 ?hc0 ?sc0 ?dc0 ?dg0 ?dt0 ?mo0 ?li0 ?ci0 ?kt0
    (case a0 => k_is)
    (case l0 => k_is)
    (case c0 => k_is)
    (case k0 => k_is)
    (case a1 => k_is)
    (case l1 => k_is)
    (case c1 => k_is)
    (case k1 => k_is)
    (case a2 => k_is)
    (case l2 => k_is)
    (case c2 => k_is)
    (case k2 => k_is)
    (case a3 => k_is)
    (case l3 => k_is)
    (case c3 => k_is)
    (case k3 => k_is)
    (case a4 => k_is)
    (case l4 => k_is)
    (case c4 => k_is)
    (case k4 => k_is)
    (case a5 => k_is)
    (case l5 => k_is)
    (case c5 => k_is)
    (case k5 => k_is)
    (case a6 => k_is)
    (case l6 => k_is)
    (case c6 => k_is)
    (case k6 => k_is)
    (case a7 => k_is)
    (case l7 => k_is)
    (case c7 => k_is)
    (case k7 => k_is)
    (case a8 => k_is)
    (case l8 => k_is)
    (case c8 => k_is)
    (case k8 => k_is)
    (case a9 => k_is)
    (case l9 => k_is)
    (case c9 => k_is)
    (case k9 => k_is)
    (case a10 => k_is)
    (case l10 => k_is)
    (case c10 => k_is)
    (case k10 => k_is)
    (case a11 => k_is)
    (case l11 => k_is)
    (case c11 => k_is)
    (case k11 => k_is)
    (case a12 => k_is)
    (case l12 => k_is)
    (case c12 => k_is)
    (case k12 => k_is)
    (case a13 => k_is)
    (case l13 => k_is)
    (case c13 => k_is)
    (case k13 => k_is)
    (case a14 => k_is)
    (case l14 => k_is)
    (case c14 => k_is)
    (case k14 => k_is)
    (case a15 => k_is)
    (case l15 => k_is)
    (case c15 => k_is)
    (case k15 => k_is)
    (case a16 => k_is)
    (case l16 => k_is)
    (case c16 => k_is)
    (case k16 => k_is)
    (case a17 => k_is)
    (case l17 => k_is)
    (case c17 => k_is)
    (case k17 => k_is)
    (case a18 => k_is)
    (case l18 => k_is)
    (case c18 => k_is)
    (case k18 => k_is)
    (case a19 => k_is)
    (case l19 => k_is)
    (case c19 => k_is)
    (case k19 => k_is)
    (case a20 => k_is)
    (case l20 => k_is)
    (case c20 => k_is)
    (case k20 => k_is)
    (case a21 => k_is)
    (case l21 => k_is)
    (case c21 => k_is)
    (case k21 => k_is)
    (case a22 => k_is)
    (case l22 => k_is)
    (case c22 => k_is)
    (case k22 => k_is)
    (case a23 => k_is)
    (case l23 => k_is)
    (case c23 => k_is)
    (case k23 => k_is)
    (case a24 => k_is)
    (case l24 => k_is)
    (case c24 => k_is)
    (case k24 => k_is)
    (case a25 => k_is)
    (case l25 => k_is)
    (case c25 => k_is)
    (case k25 => k_is)
    (case a26 => k_is)
    (case l26 => k_is)
    (case c26 => k_is)
    (case k26 => k_is)
    (case a27 => k_is)
    (case l27 => k_is)
    (case c27 => k_is)
    (case k27 => k_is)
    (case a28 => k_is)
    (case l28 => k_is)
    (case c28 => k_is)
    (case k28 => k_is)
    (case a29 => k_is)
    (case l29 => k_is)
    (case c29 => k_is)
    (case k29 => k_is)
    (case a30 => k_is)
    (case l30 => k_is)
    (case c30 => k_is)
    (case k30 => k_is)
    (case a31 => k_is)
    (case l31 => k_is)
    (case c31 => k_is)
    (case k31 => k_is)
    (case a32 => k_is)
    (case l32 => k_is)
    (case c32 => k_is)
    (case k32 => k_is)
    (case a33 => k_is)
    (case l33 => k_is)
    (case c33 => k_is)
    (case k33 => k_is)
    (case a34 => k_is)
    (case l34 => k_is)
    (case c34 => k_is)
    (case k34 => k_is)
    (case a35 => k_is)
    (case l35 => k_is)
    (case c35 => k_is)
    (case k35 => k_is)
    (case a36 => k_is)
    (case l36 => k_is)
    (case c36 => k_is)
    (case k36 => k_is)
    (case a37 => k_is)
    (case l37 => k_is)
    (case c37 => k_is)
    (case k37 => k_is)
    (case a38 => k_is)
    (case l38 => k_is)
    (case c38 => k_is)
    (case k38 => k_is)
    (case a39 => k_is)
    (case l39 => k_is)
    (case c39 => k_is)
    (case k39 => k_is)
    (case a40 => k_is)
    (case l40 => k_is)
    (case c40 => k_is)
    (case k40 => k_is)
    (case a41 => k_is)
    (case l41 => k_is)
    (case c41 => k_is)
    (case k41 => k_is)
    (case a42 => k_is)
    (case l42 => k_is)
    (case c42 => k_is)
    (case k42 => k_is)
    (case a43 => k_is)
    (case l43 => k_is)
    (case c43 => k_is)
    (case k43 => k_is)
    (case a44 => k_is)
    (case l44 => k_is)
    (case c44 => k_is)
    (case k44 => k_is)
    (case a45 => k_is)
    (case l45 => k_is)
    (case c45 => k_is)
    (case k45 => k_is)
    (case a46 => k_is)
    (case l46 => k_is)
    (case c46 => k_is)
    (case k46 => k_is)
    (case a47 => k_is)
    (case l47 => k_is)
    (case c47 => k_is)
    (case k47 => k_is)
    (case z_list => k_is)
    (case z_int => k_is)
    (case z_len => k_is)
    (case z_range => k_is)
    (case z_tuple => k_is)
    (case z_abs => k_is)
    (case z_repr => k_is)
    (case z_max => k_is)
    (case z_min => k_is)
    (case z_sum => k_is)
    (case z_zip => k_is)
    (case z_type => k_is)
    (case z_all => k_is)
    (case z_enumerate => k_is)
    (case z_isinstance => k_is)
    (case z_combinations => k_is)
    (case z_gcd => k_is)
    (case y0 => k_is)
    (case y1 => k_is)
    (case zS => k_is)
    (case ac0 => k_is)
    (case xl0 => k_is)
    (case rv0 => decide +kernel)
    (case sa0 => k_is)
    (case ga0 => k_is)
    (case gg0 => k_is)
    (case nf0 => k_is)
    (case ni0 => k_is)
    (case ti0 => k_is)
    (case kc0 => k_is)
    (case ec0 => k_is)
    (case tc0 => k_is)
    (case hc0 => k_is)
    (case sc0 => first | rfl | k_is)
    (case dc0 => k_is)
    (case dg0 => first | k_is | decide +kernel)
    (case dt0 => first | k_is | decide +kernel)
    (case mo0 => k_is)
    (case li0 => k_is)
    (case ci0 => k_is)
    (case kt0 => first | rfl | k_is | decide +kernel)

