import PyProof.Rows.All
import Wide.All
import OpenK.AllK
import Wide.FinOn
import HandS.Base
import HandS.Call
import HandS.List
import HandS.Comp
import HandS.Dict
import HandS.Iter
import HandS.Text
import HandS.Ends
import HandS.Words
import HandS.Evl
import HandS.Exc
import HandS.ExcInit
import HandS.ExcValue
import HandS.Wide
import HandS.TupAny
import HandS.IsInst
import HandS.Style
import HandS.ExcOwn
import HandS.Deep
import HandS.RevRange
import HandS.ClsMeth
import HandS.DictComp
import HandS.MakeKw
import HandS.MakeKwOnly
import KE.KMinKey
import HandS.SortKw
import HandS.Conv
import HandS.SlotsOwn
import HandS.More
import HandS.ExcField
import HandS.ExcIs
import HandS.WordsExc
import KE.KExcIs
import KE.KExcMore
import KE.KEqNest
import HandS.DeepEq
import PyProof.NeKinds
import PyProof.StrOps2
import PySem.Challenge.RW_forestrows_k07_deeds_as_things
set_option autoImplicit false
set_option Elab.async false
set_option linter.all false
set_option maxRecDepth 100000
/-! # DL: values as plain data. A layer over the readings: the heap is gone from what is left to be shown. -/
namespace DL
open PySem L2 Evl
abbrev RSt := L2.St

/-- a value as data -/
inductive D where
  | non | bl (b : Bool) | int (i : Int) | str (x : Str) | byt (b : Array UInt8)
  | lst (xs : List D) | tup (xs : List D) | dct (kvs : List (Key × D))
  | ins (C : Addr) (fs : List (Str × D)) | ptr (a : Addr) | ty (n : String) | exc (C : Addr) (fs : List (Str × D))

section
variable (K : PySem.W.Frag) (G : Hp)
mutual
inductive Rep : V → D → Prop
  | non : Rep .non .non
  | bl (b : Bool) : Rep (.bl b) (.bl b)
  | int (i : Int) : Rep (.int i) (.int i)
  | str (x : Str) : Rep (.str x) (.str x)
  | byt (x : Array UInt8) : Rep (.byt x) (.byt x)
  | ty (n : String) : Rep (.ty n) (.ty n)
  | ptr (a : Addr) : Rep (.ref a) (.ptr a)
  | lst {a : Addr} {vs : List V} {ds : List D} : SqL K G a vs → Reps vs ds → Rep (.ref a) (.lst ds)
  | tup {a : Addr} {vs : List V} {ds : List D} : SqT K G a vs → Reps vs ds → Rep (.ref a) (.tup ds)
  | dct {a : Addr} {vs : List (Key × V)} {ds : List (Key × D)} : G a = some (.dK vs) → RepK vs ds → Rep (.ref a) (.dct ds)
  | ins {a C dx : Addr} {vs : List (Str × V)} {ds : List (Str × D)} : G a = some (.ins C dx vs) → RepF vs ds → Rep (.ref a) (.ins C ds)
  | exc {a C d : Addr} {vs : List (Str × V)} {ds : List (Str × D)} : G a = some (exo a C (some d)) → G d = some (exd d vs) → RepF vs ds → Rep (.ref a) (.exc C ds)
  | exc0 {a C : Addr} : G a = some (ExO (.ref C) a) → Rep (.ref a) (.exc C [])
inductive Reps : List V → List D → Prop
  | nil : Reps [] []
  | cons {v : V} {d : D} {vs : List V} {ds : List D} : Rep v d → Reps vs ds → Reps (v :: vs) (d :: ds)
inductive RepK : List (Key × V) → List (Key × D) → Prop
  | nil : RepK [] []
  | cons {k : Key} {v : V} {d : D} {vs : List (Key × V)} {ds : List (Key × D)} : Rep v d → RepK vs ds → RepK ((k, v) :: vs) ((k, d) :: ds)
inductive RepF : List (Str × V) → List (Str × D) → Prop
  | nil : RepF [] []
  | cons {k : Str} {v : V} {d : D} {vs : List (Str × V)} {ds : List (Str × D)} : Rep v d → RepF vs ds → RepF ((k, v) :: vs) ((k, d) :: ds)
end
end

section
variable {K : PySem.W.Frag} {G G' H H' : Hp}
mutual
theorem Rep.mono (e : Ex G G') : ∀ {v : V} {d : D}, Rep K G v d → Rep K G' v d
  | _, _, .non => .non
  | _, _, .bl b => .bl b
  | _, _, .int i => .int i
  | _, _, .str i => .str i
  | _, _, .byt i => .byt i
  | _, _, .ty i => .ty i
  | _, _, .ptr i => .ptr i
  | _, _, .lst h r => .lst (ex_l e h) (Reps.mono e r)
  | _, _, .tup h r => .tup (ex_t e h) (Reps.mono e r)
  | _, _, .dct h r => .dct (e _ _ h) (RepK.mono e r)
  | _, _, .ins h r => .ins (e _ _ h) (RepF.mono e r)
  | _, _, .exc h k r => .exc (e _ _ h) (e _ _ k) (RepF.mono e r)
  | _, _, .exc0 h => .exc0 (e _ _ h)
theorem Reps.mono (e : Ex G G') : ∀ {v : List V} {d : List D}, Reps K G v d → Reps K G' v d
  | _, _, .nil => .nil
  | _, _, .cons h r => .cons (Rep.mono e h) (Reps.mono e r)
theorem RepK.mono (e : Ex G G') : ∀ {v : List (Key × V)} {d : List (Key × D)}, RepK K G v d → RepK K G' v d
  | _, _, .nil => .nil
  | _, _, .cons h r => .cons (Rep.mono e h) (RepK.mono e r)
theorem RepF.mono (e : Ex G G') : ∀ {v : List (Str × V)} {d : List (Str × D)}, RepF K G v d → RepF K G' v d
  | _, _, .nil => .nil
  | _, _, .cons h r => .cons (Rep.mono e h) (RepF.mono e r)
end

theorem Reps.length : ∀ {vs : List V} {ds : List D}, Reps K G vs ds → vs.length = ds.length
  | _, _, .nil => rfl
  | _, _, .cons _ r => by rw [List.length_cons, List.length_cons, Reps.length r]
theorem Reps.get : ∀ {vs : List V} {ds : List D} {i : Nat} {d : D}, Reps K G vs ds → ds[i]? = some d → ∃ v, vs[i]? = some v ∧ Rep K G v d
  | _, _, _, _, .nil, e => by simp at e
  | _, _, 0, _, .cons r _, e => by simp at e; subst e; exact ⟨_, rfl, r⟩
  | _, _, i + 1, _, .cons _ t, e => by
    obtain ⟨v, h1, h2⟩ := Reps.get (i := i) t (by simpa using e)
    exact ⟨v, by simpa using h1, h2⟩
theorem Reps.set {v : V} {d : D} (r : Rep K G v d) : ∀ {vs : List V} {ds : List D} (i : Nat), Reps K G vs ds → Reps K G (vs.set i v) (ds.set i d)
  | _, _, _, .nil => .nil
  | _, _, 0, .cons _ t => .cons r t
  | _, _, i + 1, .cons q t => .cons q (Reps.set r i t)
theorem Reps.append : ∀ {vs ws : List V} {ds es : List D}, Reps K G vs ds → Reps K G ws es → Reps K G (vs ++ ws) (ds ++ es)
  | _, _, _, _, .nil, s => s
  | _, _, _, _, .cons r t, s => .cons r (Reps.append t s)
theorem Reps.take : ∀ {vs : List V} {ds : List D} (n : Nat), Reps K G vs ds → Reps K G (vs.take n) (ds.take n)
  | _, _, 0, _ => by simp; exact .nil
  | _, _, _ + 1, .nil => .nil
  | _, _, n + 1, .cons r t => .cons r (Reps.take n t)
theorem Reps.drop : ∀ {vs : List V} {ds : List D} (n : Nat), Reps K G vs ds → Reps K G (vs.drop n) (ds.drop n)
  | _, _, 0, r => r
  | _, _, _ + 1, .nil => .nil
  | _, _, n + 1, .cons _ t => Reps.drop n t
theorem Reps.none_of {vs : List V} {ds : List D} {i : Nat} (r : Reps K G vs ds) (e : ds[i]? = none) : vs[i]? = none := by
  rw [List.getElem?_eq_none_iff] at e ⊢
  rw [r.length]; exact e
theorem Reps.dropLast {vs : List V} {ds : List D} (r : Reps K G vs ds) : Reps K G vs.dropLast ds.dropLast := by
  rw [List.dropLast_eq_take, List.dropLast_eq_take, r.length]; exact r.take _
theorem Reps.rep {vs : List V} {ds : List D} (r : Reps K G vs ds) : ∀ k : Nat, Reps K G (List.replicate k vs).flatten (List.replicate k ds).flatten
  | 0 => .nil
  | k + 1 => by
    rw [List.replicate_succ, List.replicate_succ, List.flatten_cons, List.flatten_cons]
    exact r.append (Reps.rep r k)
theorem Reps.ints : ∀ ns : List Int, Reps K G (ns.map V.int) (ns.map D.int)
  | [] => .nil
  | n :: ns => .cons (.int n) (Reps.ints ns)
end

/-! ### slots -/
inductive Sl where
  | no | val (d : D) | own (d : D) | par (d : D)
abbrev Ro := List Sl
def Sl.ownD : Sl → Option D
  | .own d => some d
  | .par d => some d
  | _ => none
/-- what an expression hands over: data, or the object that a slot owns -/
inductive T where
  | val (d : D) | bor (i : Nat)
def rd (ρ : Ro) : T → Option D
  | .val d => some d
  | .bor i => (ρ[i]?).bind Sl.ownD

section
variable (K : PySem.W.Frag)
def OwnAt (G H : Hp) (p : Addr) : D → Prop
  | .lst ds => ∃ vs, H p = some (.lst vs) ∧ Reps K G vs ds
  | .dct es => ∃ kvs, H p = some (.dK kvs) ∧ RepK K G kvs es
  | .ins C es => ∃ dx fs, H p = some (.ins C dx fs) ∧ RepF K G fs es
  | _ => False
/-- where the parameters lie; what has long been known -/
structure PaG where
  f : Nat → Addr
  g : Hp
structure Sim (pa : PaG) (F G : Hp) (σ : RSt) (H : Hp) (ρ : Ro) : Prop where
  len : ρ.length = σ.length
  ex : Ex G H
  /-- a frame: objects that stay as they are, whatever is done -/
  fx : Ex F H
  dj : ∀ (b : Addr) (o : HO), F b = some o → G b = none
  val : ∀ (i : Nat) (d : D), ρ[i]? = some (.val d) → ∃ v, σ[i]? = some (some v) ∧ Rep K G v d
  own : ∀ (i : Nat) (s : Sl) (d : D), ρ[i]? = some s → s.ownD = some d → ∃ p, σ[i]? = some (some (.ref p)) ∧ G p = none ∧ OwnAt K G H p d
  ofr : ∀ (i : Nat) (s : Sl) (d : D) (p : Addr), ρ[i]? = some s → s.ownD = some d → σ[i]? = some (some (.ref p)) → F p = none
  par : ∀ (i : Nat) (d : D), ρ[i]? = some (.par d) → σ[i]? = some (some (.ref (pa.f i)))
  gx : Ex pa.g G
  dis : ∀ (i j : Nat) (s t : Sl) (d e : D) (p : Addr), i ≠ j → ρ[i]? = some s → s.ownD = some d → ρ[j]? = some t → t.ownD = some e → σ[i]? = some (some (.ref p)) → σ[j]? = some (some (.ref p)) → False
/-- v is what t tells -/
def TkR (G : Hp) (σ : RSt) (v : V) : T → Prop
  | .val d => Rep K G v d
  | .bor i => σ[i]? = some (some v)
/-- v stands for d, read now -/
def RepT (G H : Hp) (v : V) (d : D) : Prop := Rep K G v d ∨ ∃ p, v = .ref p ∧ G p = none ∧ OwnAt K G H p d
end

section
variable {K : PySem.W.Frag} {pa : PaG} {F G G' H H' : Hp} {σ : RSt} {ρ ρ' : Ro} {p : Addr} {d : D} {v : V} {t : T}
theorem TkR.mono (e : Ex G G') (h : TkR K G σ v t) : TkR K G' σ v t := by
  cases t with
  | val d => exact Rep.mono e h
  | bor i => exact h
theorem Sim.rdT (S : Sim K pa F G σ H ρ) (h : TkR K G σ v t) (e : rd ρ t = some d) : RepT K G H v d := by
  cases t with
  | val d' => cases e; exact .inl h
  | bor i =>
    replace e : (ρ[i]?).bind Sl.ownD = some d := e
    cases q : ρ[i]? with
    | none => rw [q] at e; cases e
    | some s =>
      rw [q] at e
      obtain ⟨p, h1, h2, h3⟩ := S.own i s d q e
      have h' : σ[i]? = some (some v) := h
      rw [h'] at h1
      cases h1
      exact .inr ⟨p, rfl, h2, h3⟩
theorem OwnAt.mono (e : Ex G G') (eh : H p = H' p) (h : OwnAt K G H p d) : OwnAt K G' H' p d := by
  cases d with
  | lst ds => obtain ⟨vs, h1, h2⟩ := h; exact ⟨vs, eh ▸ h1, h2.mono e⟩
  | dct ds => obtain ⟨vs, h1, h2⟩ := h; exact ⟨vs, eh ▸ h1, h2.mono e⟩
  | ins C ds => obtain ⟨dx, vs, h1, h2⟩ := h; exact ⟨dx, vs, eh ▸ h1, h2.mono e⟩
  | _ => exact h.elim
theorem OwnAt.some (h : OwnAt K G H p d) : ∃ o, H p = some o := by
  cases d with
  | lst ds => obtain ⟨vs, h1, h2⟩ := h; exact ⟨_, h1⟩
  | dct ds => obtain ⟨vs, h1, h2⟩ := h; exact ⟨_, h1⟩
  | ins C ds => obtain ⟨dx, vs, h1, h2⟩ := h; exact ⟨_, h1⟩
  | _ => exact h.elim
/-- what is known grows, the owned objects stand -/
theorem Sim.grow (S : Sim K pa F G σ H ρ) (e : Ex G G') (eh : Ex G' H') (ef : Ex F H') (ed : ∀ (b : Addr) (o : HO), F b = some o → G' b = none) (k : ∀ (i : Nat) (s : Sl) (d : D) (p : Addr), ρ[i]? = some s → s.ownD = some d → σ[i]? = some (some (.ref p)) → G' p = none ∧ H' p = H p) : Sim K pa F G' σ H' ρ where
  len := S.len
  ex := eh
  fx := ef
  dj := ed
  val := fun i d h => let ⟨v, h1, h2⟩ := S.val i d h; ⟨v, h1, h2.mono e⟩
  own := fun i s d h hd => by
    obtain ⟨p, h1, h2, h3⟩ := S.own i s d h hd
    obtain ⟨k1, k2⟩ := k i s d p h hd h1
    exact ⟨p, h1, k1, h3.mono e k2.symm⟩
  ofr := S.ofr
  par := S.par
  gx := S.gx.trans e
  dis := S.dis
/-- new objects, all known -/
structure Al (G H G' H' : Hp) : Prop where
  g : Ex G G'
  h : Ex H H'
  gh : Ex G' H'
  n : ∀ b, G b = none → H b ≠ none → G' b = none
theorem Al.refl (e : Ex G H) : Al G H G H := ⟨Ex.refl G, Ex.refl H, e, fun _ h _ => h⟩
theorem Al.trans {G2 H2 : Hp} (a : Al G H G' H') (b : Al G' H' G2 H2) : Al G H G2 H2 := ⟨a.g.trans b.g, a.h.trans b.h, b.gh, fun x h1 h2 => b.n x (a.n x h1 h2) (by
  cases q : H x with
  | none => exact absurd q h2
  | some o => rw [a.h x o q]; simp)⟩
theorem Sim.al (S : Sim K pa F G σ H ρ) (a : Al G H G' H') : Sim K pa F G' σ H' ρ := S.grow a.g a.gh (S.fx.trans a.h) (fun b o q => a.n b (S.dj b o q) (by rw [S.fx b o q]; simp)) fun i s d p h1 h2 h3 => by
  obtain ⟨b, q1, q2, q3⟩ := S.own i s d h1 h2
  rw [h3] at q1
  cases q1
  obtain ⟨o, ho⟩ := q3.some
  exact ⟨a.n p q2 (by rw [ho]; simp), by rw [a.h p o ho, ho]⟩
/-- another, smaller frame -/
theorem Sim.frame {F' : Hp} (S : Sim K pa F G σ H ρ) (e : Ex F' F) : Sim K pa F' G σ H ρ :=
  ⟨S.len, S.ex, e.trans S.fx, fun b o q => S.dj b o (e b o q), S.val, S.own, fun i s d p h1 h2 h3 => fresh_back e (S.ofr i s d p h1 h2 h3), S.par, S.gx, S.dis⟩
/-- one new object -/
theorem Al.one {o : HO} (e : Ex G H) (hp : H p = none) : Al G H (upd G p o) (upd H p o) := by
  have gp : G p = none := fresh_back e hp
  refine ⟨Ex.new gp, Ex.new hp, fun b u q => ?_, fun b h1 h2 => ?_⟩
  · by_cases hb : b = p
    · subst hb; rw [upd_same] at q ⊢; exact q
    · rw [upd_ne hb] at q ⊢; exact e b u q
  · rw [upd_ne (fun z => h2 (by rw [z]; exact hp))]; exact h1
end

/-! ### data read off -/
section
variable {K : PySem.W.Frag} {G H : Hp} {v : V}
theorem RepT.int {i : Int} (h : RepT K G H v (.int i)) : v = .int i := by
  rcases h with h | ⟨p, _, _, h⟩
  · cases h; rfl
  · exact h.elim
theorem RepT.str {i : Str} (h : RepT K G H v (.str i)) : v = .str i := by
  rcases h with h | ⟨p, _, _, h⟩
  · cases h; rfl
  · exact h.elim
theorem RepT.bl {i : Bool} (h : RepT K G H v (.bl i)) : v = .bl i := by
  rcases h with h | ⟨p, _, _, h⟩
  · cases h; rfl
  · exact h.elim
theorem RepT.byt {i : Array UInt8} (h : RepT K G H v (.byt i)) : v = .byt i := by
  rcases h with h | ⟨p, _, _, h⟩
  · cases h; rfl
  · exact h.elim
theorem RepT.non (h : RepT K G H v .non) : v = .non := by
  rcases h with h | ⟨p, _, _, h⟩
  · cases h; rfl
  · exact h.elim
theorem RepT.ty {n : String} (h : RepT K G H v (.ty n)) : v = .ty n := by
  rcases h with h | ⟨p, _, _, h⟩
  · cases h; rfl
  · exact h.elim
theorem RepT.ptr {n : Addr} (h : RepT K G H v (.ptr n)) : v = .ref n := by
  rcases h with h | ⟨p, _, _, h⟩
  · cases h; rfl
  · exact h.elim
theorem RepT.lstR {ds : List D} (e : Ex G H) (h : RepT K G H v (.lst ds)) : ∃ p vs, v = .ref p ∧ SqL K H p vs ∧ Reps K G vs ds := by
  rcases h with h | ⟨p, hp, _, h⟩
  · cases h with | lst h r => exact ⟨_, _, rfl, ex_l e h, r⟩
  · obtain ⟨vs, h1, h2⟩ := h; exact ⟨p, vs, hp, SqL.of h1, h2⟩
theorem RepT.lst {ds : List D} (e : Ex G H) (h : RepT K G H v (.lst ds)) : ∃ p vs, v = .ref p ∧ SqL K H p vs ∧ Reps K G vs ds := by
  obtain ⟨p, vs, h1, h2, h3⟩ := h.lstR e
  exact ⟨p, vs, h1, h2, h3⟩
theorem RepT.tup {ds : List D} (e : Ex G H) (h : RepT K G H v (.tup ds)) : ∃ p vs, v = .ref p ∧ SqT K H p vs ∧ Reps K G vs ds := by
  rcases h with h | ⟨p, hp, _, h⟩
  · cases h with | tup h r => exact ⟨_, _, rfl, ex_t e h, r⟩
  · exact h.elim
theorem RepT.tupR {ds : List D} (h : RepT K G H v (.tup ds)) : Rep K G v (.tup ds) := by
  rcases h with h | ⟨p, hp, _, h⟩
  · exact h
  · exact h.elim
theorem RepT.dct {ds : List (Key × D)} (e : Ex G H) (h : RepT K G H v (.dct ds)) : ∃ p vs, v = .ref p ∧ H p = some (.dK vs) ∧ RepK K G vs ds := by
  rcases h with h | ⟨p, hp, _, h⟩
  · cases h with | dct h r => exact ⟨_, _, rfl, e _ _ h, r⟩
  · obtain ⟨vs, h1, h2⟩ := h; exact ⟨p, vs, hp, h1, h2⟩
theorem RepT.ins {C : Addr} {ds : List (Str × D)} (e : Ex G H) (h : RepT K G H v (.ins C ds)) : ∃ p dx vs, v = .ref p ∧ H p = some (.ins C dx vs) ∧ RepF K G vs ds := by
  rcases h with h | ⟨p, hp, _, h⟩
  · cases h with | ins h r => exact ⟨_, _, _, rfl, e _ _ h, r⟩
  · obtain ⟨dx, vs, h1, h2⟩ := h; exact ⟨p, dx, vs, hp, h1, h2⟩
end

/-! ### the judgements -/
def Opt {α : Type} (o : Option α) (k : α → Prop) : Prop := ∃ a, o = some a ∧ k a
theorem Opt_some {α : Type} {a : α} {k : α → Prop} : Opt (some a) k ↔ k a := by
  constructor
  · intro h
    obtain ⟨b, e, h⟩ := h
    cases e
    exact h
  · intro h
    exact ⟨a, rfl, h⟩
theorem Opt_none {α : Type} {k : α → Prop} : Opt none k ↔ False := by
  constructor
  · intro h
    obtain ⟨b, e, h⟩ := h
    cases e
  · intro h
    exact h.elim
/-- what is wanted of an exception: its class, its fields -/
abbrev ER := Addr → List (Str × D) → Ro → Prop
abbrev E0 : ER := fun _ _ _ => False
abbrev DE := Ro → (T → Ro → Prop) → ER → Prop
abbrev DT := Ro → (Bool → Ro → Prop) → ER → Prop
abbrev DA := Ro → (List T → Ro → Prop) → ER → Prop
/-- an expression that makes a new object -/
abbrev DF := Ro → (D → Ro → Prop) → ER → Prop
abbrev DI := Ro → (List D → Ro → Prop) → ER → Prop
structure Do where
  nx : Ro → Prop
  rt : T → Ro → Prop
  rf : D → Ro → Prop := fun _ _ => False
  bk : Ro → Prop := fun _ => False
  ct : Ro → Prop := fun _ => False
  er : ER := fun _ _ _ => False
abbrev DS := Do → Ro → Prop
abbrev DG := T → Ro → (Ro → Prop) → Prop
section
variable (K : PySem.W.Frag) (pa : PaG)
def XL (F G : Hp) (W : WX) (σ : RSt) (er : ER) : Prop := ∀ (G' H' : Hp) (ρ' : Ro) (C d : Addr) (vs : List (Str × V)) (fs : List (Str × D)), Ex G G' → Sim K pa F G' σ H' ρ' → er C fs ρ' → G' d = some (.xd vs) → RepF K G' vs fs → W (.ref C) (some d) σ H'
def SE (W : WX) (te : TE) (de : DE) : Prop := ∀ (F G : Hp) (σ : RSt) (H : Hp) (ρ : Ro) (Q : VK) (q : T → Ro → Prop) (er : ER), Sim K pa F G σ H ρ → de ρ q er →
  (∀ G' H' v t ρ', Ex G G' → Sim K pa F G' σ H' ρ' → TkR K G' σ v t → q t ρ' → Q v H') → XL K pa F G W σ er → te σ H Q
def SF (W : WX) (te : TE) (de : DF) : Prop := ∀ (F G : Hp) (σ : RSt) (H : Hp) (ρ : Ro) (Q : VK) (q : D → Ro → Prop) (er : ER), Sim K pa F G σ H ρ → de ρ q er →
  (∀ G' H' p d ρ', Ex G G' → Sim K pa F G' σ H' ρ' → G' p = none ∧ F p = none → OwnAt K G' H' p d → (∀ (i : Nat) (s : Sl) (d : D), ρ'[i]? = some s → s.ownD = some d → σ[i]? ≠ some (some (.ref p))) → q d ρ' → Q (.ref p) H') → XL K pa F G W σ er → te σ H Q
def ST (W : WX) (tt : TT) (dt : DT) : Prop := ∀ (F G : Hp) (σ : RSt) (H : Hp) (ρ : Ro) (Q : Bool → Hp → Prop) (q : Bool → Ro → Prop) (er : ER), Sim K pa F G σ H ρ → dt ρ q er →
  (∀ G' H' b ρ', Ex G G' → Sim K pa F G' σ H' ρ' → q b ρ' → Q b H') → XL K pa F G W σ er → tt σ H Q
inductive TkRs (G : Hp) (σ : RSt) : List V → List T → Prop
  | nil : TkRs G σ [] []
  | cons {v : V} {t : T} {vs : List V} {ts : List T} : TkR K G σ v t → TkRs G σ vs ts → TkRs G σ (v :: vs) (t :: ts)
def SA (W : WX) (ta : TA) (da : DA) : Prop := ∀ (F G : Hp) (σ : RSt) (H : Hp) (ρ : Ro) (Q : List V → Hp → Prop) (q : List T → Ro → Prop) (er : ER), Sim K pa F G σ H ρ → da ρ q er →
  (∀ G' H' vs ts ρ', Ex G G' → Sim K pa F G' σ H' ρ' → TkRs K G' σ vs ts → q ts ρ' → Q vs H') → XL K pa F G W σ er → ta σ H Q
/-- ns: the slots that the target stores to -/
def SG (ns : List Nat) (g : TG) (dg : DG) : Prop := ∀ (F G : Hp) (σ : RSt) (H : Hp) (ρ : Ro) (v : V) (t : T) (Q : RSt → Hp → Prop) (q : Ro → Prop), Sim K pa F G σ H ρ → TkR K G σ v t → dg t ρ q →
  (∀ G' σ' H' ρ', Ex G G' → Sim K pa F G' σ' H' ρ' → (∀ vs : List Nat, (∀ i ∈ ns, i ∈ vs) → wipe σ' vs = wipe σ vs) → q ρ' → Q σ' H') → g v σ H Q
structure Lk (F : Hp) (W : WX) (G : Hp) (D : Ends) (DD : Do) : Prop where
  nx : ∀ G' σ' H' ρ', Ex G G' → Sim K pa F G' σ' H' ρ' → DD.nx ρ' → D.nx σ' H'
  bk : ∀ G' σ' H' ρ', Ex G G' → Sim K pa F G' σ' H' ρ' → DD.bk ρ' → D.bk σ' H'
  ct : ∀ G' σ' H' ρ', Ex G G' → Sim K pa F G' σ' H' ρ' → DD.ct ρ' → D.ct σ' H'
  rt : ∀ G' σ' H' ρ' v t, Ex G G' → Sim K pa F G' σ' H' ρ' → TkR K G' σ' v t → DD.rt t ρ' → D.rt v H'
  rf : ∀ G' σ' H' ρ' p d, Ex G G' → Sim K pa F G' σ' H' ρ' → G' p = none ∧ F p = none → OwnAt K G' H' p d → (∀ (i : Nat) (s : Sl) (d : DL.D), ρ'[i]? = some s → s.ownD = some d → σ'[i]? ≠ some (some (.ref p))) → DD.rf d ρ' → D.rt (.ref p) H'
  er : ∀ G' σ' H' ρ' C d vs fs, Ex G G' → Sim K pa F G' σ' H' ρ' → DD.er C fs ρ' → G' d = some (.xd vs) → RepF K G' vs fs → W (.ref C) (some d) σ' H'
def SS (W : WX) (ts : TS) (ds : DS) : Prop := ∀ (F G : Hp) (σ : RSt) (H : Hp) (ρ : Ro) (D : Ends) (DD : Do), Sim K pa F G σ H ρ → ds DD ρ → Lk K pa F W G D DD → ts D σ H
/-- J, over what grows from G, hands over ds -/
structure ItOk (G : Hp) (J : It) (ds : List DL.D) : Prop where
  go : ∀ i H, Ex G H → i < ds.length → J.go i H
  stop : ∀ i H, Ex G H → ds.length ≤ i → J.stop i H
  yld : ∀ i H x H', J.yld i H x H' → ∀ G1, Ex G G1 → Ex G1 H → ∀ d, ds[i]? = some d → ∃ G2, Al G1 H G2 H' ∧ Rep K G2 x d
def SI (W : WX) (wi : TI) (di : DI) : Prop := ∀ (F G : Hp) (σ : RSt) (H : Hp) (ρ : Ro) (R : It → Hp → Prop) (q : List DL.D → Ro → Prop) (er : ER), Sim K pa F G σ H ρ → di ρ q er →
  (∀ G' H' J ds ρ', Ex G G' → Sim K pa F G' σ H' ρ' → ItOk K G' J ds → q ds ρ' → R J H') → XL K pa F G W σ er → wi σ H R
end
end DL
set_option autoImplicit false
set_option Elab.async false
set_option linter.all false
set_option maxRecDepth 100000
namespace DL
open PySem L2 Evl

/-! ### expressions -/
def dC (d : D) : DE := fun ρ q _ => q (.val d) ρ
def dVar (i : Nat) : DE := fun ρ q _ => match ρ[i]? with
  | some (.val d) => q (.val d) ρ
  | some (.own _) => q (.bor i) ρ
  | some (.par _) => q (.bor i) ρ
  | _ => False
def dOp (f : D → D → Option D) (da db : DE) : DE := fun ρ q er => da ρ (fun s ρ1 => db ρ1 (fun t ρ2 => Opt (rd ρ2 s) fun x => Opt (rd ρ2 t) fun y => Opt (f x y) fun z => q (.val z) ρ2) er) er
def dUn (f : D → Option D) (da : DE) : DE := fun ρ q er => da ρ (fun s ρ1 => Opt (rd ρ1 s) fun x => Opt (f x) fun z => q (.val z) ρ1) er
def D.bool : D → Option Bool
  | .bl b => some b
  | _ => none
def dTest (da : DE) : DT := fun ρ q er => da ρ (fun s ρ1 => Opt (rd ρ1 s) fun x => Opt x.bool fun b => q b ρ1) er
def D.truth : D → Option Bool
  | .non => some false
  | .bl b => some b
  | .int i => some (i != 0)
  | .str y => if y.length ≤ sizeLine then some ((y.length : Int) != 0) else none
  | .lst xs => some (!xs.isEmpty)
  | .tup xs => some (!xs.isEmpty)
  | .dct xs => some (!xs.isEmpty)
  | _ => none
def dTruth (da : DE) : DT := fun ρ q er => da ρ (fun s ρ1 => Opt (rd ρ1 s) fun x => Opt x.truth fun b => q b ρ1) er
def dAnd (t u : DT) : DT := fun ρ q er => t ρ (fun c ρ1 => if c = true then u ρ1 q er else q false ρ1) er
def dOr (t u : DT) : DT := fun ρ q er => t ρ (fun c ρ1 => if c = true then q true ρ1 else u ρ1 q er) er
def dNot (t : DT) : DT := fun ρ q er => t ρ (fun c ρ1 => q (!c) ρ1) er
def dAndV (da db : DE) : DE := fun ρ q er => da ρ (fun s ρ1 => Opt (rd ρ1 s) fun x => Opt x.bool fun c => if c = true then db ρ1 q er else q (.val (.bl false)) ρ1) er
def dOrV (da db : DE) : DE := fun ρ q er => da ρ (fun s ρ1 => Opt (rd ρ1 s) fun x => Opt x.bool fun c => if c = true then q (.val (.bl true)) ρ1 else db ρ1 q er) er
def dNotV (da : DE) : DE := fun ρ q er => da ρ (fun s ρ1 => Opt (rd ρ1 s) fun x => Opt x.bool fun c => q (.val (.bl (!c))) ρ1) er
def dIf (t : DT) (da db : DE) : DE := fun ρ q er => t ρ (fun c ρ1 => if c = true then da ρ1 q er else db ρ1 q er) er
def dNil : DA := fun ρ q _ => q [] ρ
def dCons (da : DE) (dr : DA) : DA := fun ρ q er => da ρ (fun s ρ1 => dr ρ1 (fun ts ρ2 => q (s :: ts) ρ2) er) er
def rds (ρ : Ro) : List T → Option (List D)
  | [] => some []
  | t :: ts => (rd ρ t).bind fun d => (rds ρ ts).map fun ds => d :: ds
/-- data alone: what is stored must not be a slot's own object -/
def vals : List T → Option (List D)
  | [] => some []
  | .val d :: ts => (vals ts).map fun ds => d :: ds
  | .bor _ :: _ => none
def dTup (da : DA) : DE := fun ρ q er => da ρ (fun ts ρ1 => Opt (vals ts) fun ds => ds.length ≤ sizeLine ∧ q (.val (.tup ds)) ρ1) er
def dLst (da : DA) : DF := fun ρ q er => da ρ (fun ts ρ1 => Opt (vals ts) fun ds => ds.length ≤ sizeLine ∧ q (.lst ds) ρ1) er
/-- a new object as plain data -/
def dV (da : DF) : DE := fun ρ q er => da ρ (fun d ρ1 => q (.val d) ρ1) er
def dCB (f : List D → Option D) (da : DA) : DE := fun ρ q er => da ρ (fun ts ρ1 => Opt (rds ρ1 ts) fun ds => Opt (f ds) fun z => q (.val z) ρ1) er
def dChain (f g : D → D → Option D) (da db dc : DE) : DE := fun ρ q er => da ρ (fun s ρ1 => db ρ1 (fun t ρ2 => Opt (rd ρ2 s) fun x => Opt (rd ρ2 t) fun y => Opt (f x y) fun z => Opt z.bool fun k =>
  if k = true then dc ρ2 (fun u ρ3 => Opt (rd ρ3 t) fun y' => Opt (rd ρ3 u) fun w => Opt (g y' w) fun z' => q (.val z') ρ3) er else q (.val (.bl false)) ρ2) er) er

section
variable (K : PySem.W.Frag)
/-- a two-place operation on values does f on data, laying new objects alone -/
def SR (r : R2) (f : D → D → Option D) : Prop := ∀ (G H : Hp) (x y : V) (dx dy z : D) (Q : VK), Ex G H → RepT K G H x dx → RepT K G H y dy → f dx dy = some z → (∀ G' H' v, Al G H G' H' → Rep K G' v z → Q v H') → r x y H Q
def SU (r : V → Hp → VK → Prop) (f : D → Option D) : Prop := ∀ (G H : Hp) (x : V) (dx z : D) (Q : VK), Ex G H → RepT K G H x dx → f dx = some z → (∀ G' H' v, Al G H G' H' → Rep K G' v z → Q v H') → r x H Q
inductive RepTs (G H : Hp) : List V → List D → Prop
  | nil : RepTs G H [] []
  | cons {v : V} {d : D} {vs : List V} {ds : List D} : RepT K G H v d → RepTs G H vs ds → RepTs G H (v :: vs) (d :: ds)
def SC (r : List V → Hp → VK → Prop) (f : List D → Option D) : Prop := ∀ (G H : Hp) (xs : List V) (ds : List D) (z : D) (Q : VK), Ex G H → RepTs K G H xs ds → f ds = some z → (∀ G' H' v, Al G H G' H' → Rep K G' v z → Q v H') → r xs H Q
end

section
variable {K : PySem.W.Frag} {pa : PaG} {W : WX} {ta tb tc te : TE} {da db dc de : DE} {tt uu : TT} {dt du : DT} {r r' : R2} {f f' : D → D → Option D}
theorem XL.grow {F G G' : Hp} {σ : RSt} {er : ER} (e : Ex G G') (x : XL K pa F G W σ er) : XL K pa F G' W σ er := fun G2 H2 ρ2 C d vs fs e2 => x G2 H2 ρ2 C d vs fs (e.trans e2)
theorem se_c {v : V} {d : D} (h : ∀ G, Rep K G v d) : SE K pa W (tC v) (dC d) := fun F G σ H ρ Q q er S h1 k _ => k G H v (.val d) ρ (Ex.refl G) S (h G) h1
theorem se_var {i : Nat} : SE K pa W (tVar i) (dVar i) := fun F G σ H ρ Q q er S h1 k _ => by
  unfold dVar at h1
  cases e : ρ[i]? with
  | none => rw [e] at h1; exact h1.elim
  | some s =>
    rw [e] at h1
    cases s with
    | no => exact h1.elim
    | val d =>
      obtain ⟨v, hv, r⟩ := S.val i d e
      exact ⟨v, hv, k G H v (.val d) ρ (Ex.refl G) S r h1⟩
    | own d =>
      obtain ⟨p, hp, _⟩ := S.own i _ d e rfl
      exact ⟨_, hp, k G H _ (.bor i) ρ (Ex.refl G) S hp h1⟩
    | par d =>
      obtain ⟨p, hp, _⟩ := S.own i _ d e rfl
      exact ⟨_, hp, k G H _ (.bor i) ρ (Ex.refl G) S hp h1⟩
theorem se_op (hr : SR K r f) (ha : SE K pa W ta da) (hb : SE K pa W tb db) : SE K pa W (tOp r ta tb) (dOp f da db) := fun F G σ H ρ Q q er S h k x =>
  ha F G σ H ρ _ _ er S h (fun G1 H1 v s ρ1 e1 S1 r1 h1 => hb F G1 σ H1 ρ1 _ _ er S1 h1 (fun G2 H2 w t ρ2 e2 S2 r2 h2 => by
    obtain ⟨dx, ex, dy, ey, z, ez, h3⟩ := h2
    exact hr G2 H2 v w dx dy z _ S2.ex (S2.rdT (r1.mono e2) ex) (S2.rdT r2 ey) ez fun G3 H3 u a r3 => k G3 H3 u (.val z) ρ2 ((e1.trans e2).trans a.g) (S2.al a) r3 h3) (x.grow e1)) x
theorem se_un {r : V → Hp → VK → Prop} {f : D → Option D} (hr : SU K r f) (ha : SE K pa W ta da) : SE K pa W (tUn r ta) (dUn f da) := fun F G σ H ρ Q q er S h k x =>
  ha F G σ H ρ _ _ er S h (fun G1 H1 v s ρ1 e1 S1 r1 h1 => by
    obtain ⟨dx, ex, z, ez, h3⟩ := h1
    exact hr G1 H1 v dx z _ S1.ex (S1.rdT r1 ex) ez fun G3 H3 u a r3 => k G3 H3 u (.val z) ρ1 (e1.trans a.g) (S1.al a) r3 h3) x
theorem bool_of {d : D} {b : Bool} (h : d.bool = some b) : d = .bl b := by
  cases d <;> first | (cases h; rfl) | cases h
theorem st_test (ha : SE K pa W ta da) : ST K pa W (tTest ta) (dTest da) := fun F G σ H ρ Q q er S h k x =>
  ha F G σ H ρ _ _ er S h (fun G1 H1 v s ρ1 e1 S1 r1 h1 => by
    obtain ⟨dx, ex, b, eb, h3⟩ := h1
    cases bool_of eb
    exact ⟨b, (S1.rdT r1 ex).bl, k G1 H1 b ρ1 e1 S1 h3⟩) x
theorem st_B (ha : SE K pa W ta da) : ST K pa W (tB ta) (dTest da) := st_test ha
theorem tru_of {G H : Hp} {v : V} {d : D} {b : Bool} (e : Ex G H) (r : RepT K G H v d) (h : d.truth = some b) : TruV K v H b := by
  cases d with
  | non => cases h; rw [r.non]; rfl
  | bl c => cases h; rw [r.bl]; rfl
  | int i => cases h; rw [r.int]; rfl
  | str y =>
    rw [r.str]
    have h : (if y.length ≤ sizeLine then some ((y.length : Int) != 0) else none) = some b := h
    split at h
    · rename_i hl; cases h; exact ⟨hl, rfl⟩
    · cases h
  | lst xs =>
    cases h
    obtain ⟨p, vs, rfl, hs, hr⟩ := r.lst e
    refine .inl ⟨vs, hs, ?_⟩
    cases hr <;> rfl
  | tup xs =>
    cases h
    obtain ⟨p, vs, rfl, hs, hr⟩ := r.tup e
    refine .inr (.inl ⟨vs, hs, ?_⟩)
    cases hr <;> rfl
  | dct xs =>
    cases h
    obtain ⟨p, vs, rfl, hs, hr⟩ := r.dct e
    refine .inr (.inr ⟨vs, hs, ?_⟩)
    cases hr <;> rfl
  | byt _ => cases h
  | ins _ _ => cases h
  | ptr _ => cases h
  | ty _ => cases h
  | exc _ _ => cases h
theorem st_truth (ha : SE K pa W ta da) : ST K pa W (fun σ H Q => ta σ H fun x H' => ∃ k, TruV K x H' k ∧ Q k H') (dTruth da) := fun F G σ H ρ Q q er S h k x =>
  ha F G σ H ρ _ _ er S h (fun G1 H1 v s ρ1 e1 S1 r1 h1 => by
    obtain ⟨dx, ex, b, eb, h3⟩ := h1
    exact ⟨b, tru_of S1.ex (S1.rdT r1 ex) eb, k G1 H1 b ρ1 e1 S1 h3⟩) x
theorem st_and (ha : ST K pa W tt dt) (hb : ST K pa W uu du) : ST K pa W (tAnd tt uu) (dAnd dt du) := fun F G σ H ρ Q q er S h k x =>
  ha F G σ H ρ _ _ er S h (fun G1 H1 c ρ1 e1 S1 h1 => by
    cases c with
    | true => exact hb F G1 σ H1 ρ1 Q q er S1 h1 (fun G2 H2 b ρ2 e2 => k G2 H2 b ρ2 (e1.trans e2)) (x.grow e1)
    | false => exact k G1 H1 false ρ1 e1 S1 h1) x
theorem st_or (ha : ST K pa W tt dt) (hb : ST K pa W uu du) : ST K pa W (tOr tt uu) (dOr dt du) := fun F G σ H ρ Q q er S h k x =>
  ha F G σ H ρ _ _ er S h (fun G1 H1 c ρ1 e1 S1 h1 => by
    cases c with
    | false => exact hb F G1 σ H1 ρ1 Q q er S1 h1 (fun G2 H2 b ρ2 e2 => k G2 H2 b ρ2 (e1.trans e2)) (x.grow e1)
    | true => exact k G1 H1 true ρ1 e1 S1 h1) x
theorem st_not (ha : ST K pa W tt dt) : ST K pa W (tNot tt) (dNot dt) := fun F G σ H ρ Q q er S h k x =>
  ha F G σ H ρ _ _ er S h (fun G1 H1 c ρ1 e1 S1 h1 => k G1 H1 (!c) ρ1 e1 S1 h1) x
theorem st_yes : ST K pa W tYes (fun ρ q _ => q true ρ) := fun F G σ H ρ Q q er S h k x => k G H true ρ (Ex.refl G) S h
theorem se_andV (ha : SE K pa W ta da) (hb : SE K pa W tb db) : SE K pa W (tAndV ta tb) (dAndV da db) := fun F G σ H ρ Q q er S h k x =>
  ha F G σ H ρ _ _ er S h (fun G1 H1 v s ρ1 e1 S1 r1 h1 => by
    obtain ⟨dx, ex, c, eb, h3⟩ := h1
    cases bool_of eb
    refine ⟨c, (S1.rdT r1 ex).bl, ?_⟩
    cases c with
    | true => exact hb F G1 σ H1 ρ1 Q q er S1 h3 (fun G2 H2 v t ρ2 e2 => k G2 H2 v t ρ2 (e1.trans e2)) (x.grow e1)
    | false => exact k G1 H1 _ (.val (.bl false)) ρ1 e1 S1 (.bl false) h3) x
theorem se_orV (ha : SE K pa W ta da) (hb : SE K pa W tb db) : SE K pa W (tOrV ta tb) (dOrV da db) := fun F G σ H ρ Q q er S h k x =>
  ha F G σ H ρ _ _ er S h (fun G1 H1 v s ρ1 e1 S1 r1 h1 => by
    obtain ⟨dx, ex, c, eb, h3⟩ := h1
    cases bool_of eb
    refine ⟨c, (S1.rdT r1 ex).bl, ?_⟩
    cases c with
    | false => exact hb F G1 σ H1 ρ1 Q q er S1 h3 (fun G2 H2 v t ρ2 e2 => k G2 H2 v t ρ2 (e1.trans e2)) (x.grow e1)
    | true => exact k G1 H1 _ (.val (.bl true)) ρ1 e1 S1 (.bl true) h3) x
theorem se_notV (ha : SE K pa W ta da) : SE K pa W (tNotV ta) (dNotV da) := fun F G σ H ρ Q q er S h k x =>
  ha F G σ H ρ _ _ er S h (fun G1 H1 v s ρ1 e1 S1 r1 h1 => by
    obtain ⟨dx, ex, c, eb, h3⟩ := h1
    cases bool_of eb
    exact ⟨c, (S1.rdT r1 ex).bl, k G1 H1 _ (.val (.bl (!c))) ρ1 e1 S1 (.bl (!c)) h3⟩) x
theorem se_if (ht : ST K pa W tt dt) (ha : SE K pa W ta da) (hb : SE K pa W tb db) : SE K pa W (tIf tt ta tb) (dIf dt da db) := fun F G σ H ρ Q q er S h k x =>
  ht F G σ H ρ _ _ er S h (fun G1 H1 c ρ1 e1 S1 h1 => by
    cases c with
    | true => exact ha F G1 σ H1 ρ1 Q q er S1 h1 (fun G2 H2 v t ρ2 e2 => k G2 H2 v t ρ2 (e1.trans e2)) (x.grow e1)
    | false => exact hb F G1 σ H1 ρ1 Q q er S1 h1 (fun G2 H2 v t ρ2 e2 => k G2 H2 v t ρ2 (e1.trans e2)) (x.grow e1)) x
theorem sa_nil : SA K pa W tNil dNil := fun F G σ H ρ Q q er S h k x => k G H [] [] ρ (Ex.refl G) S .nil h
theorem TkRs.mono {G G' : Hp} {σ : RSt} (e : Ex G G') : ∀ {vs : List V} {ts : List T}, TkRs K G σ vs ts → TkRs K G' σ vs ts
  | _, _, .nil => .nil
  | _, _, .cons h r => .cons (h.mono e) (TkRs.mono e r)
theorem sa_cons {tr : TA} {dr : DA} (ha : SE K pa W ta da) (hr : SA K pa W tr dr) : SA K pa W (tCons ta tr) (dCons da dr) := fun F G σ H ρ Q q er S h k x =>
  ha F G σ H ρ _ _ er S h (fun G1 H1 v s ρ1 e1 S1 r1 h1 => hr F G1 σ H1 ρ1 _ _ er S1 h1 (fun G2 H2 vs ts ρ2 e2 S2 r2 h2 => k G2 H2 _ _ ρ2 (e1.trans e2) S2 (.cons (r1.mono e2) r2) h2) (x.grow e1)) x
theorem vals_reps {G : Hp} {σ : RSt} : ∀ {vs : List V} {ts : List T} {ds : List D}, TkRs K G σ vs ts → vals ts = some ds → Reps K G vs ds
  | _, _, _, .nil, e => by cases e; exact .nil
  | _, .val d :: ts, _, .cons h r, e => by
    have e : (vals ts).map (fun ds => d :: ds) = some _ := e
    cases q : vals ts with
    | none => rw [q] at e; cases e
    | some es => rw [q] at e; cases e; exact .cons h (vals_reps r q)
  | _, .bor _ :: ts, _, .cons h r, e => by cases e
theorem rds_reps {F G H : Hp} {σ : RSt} {ρ : Ro} (S : Sim K pa F G σ H ρ) : ∀ {vs : List V} {ts : List T} {ds : List D}, TkRs K G σ vs ts → rds ρ ts = some ds → RepTs K G H vs ds
  | _, _, _, .nil, e => by cases e; exact .nil
  | _, t :: ts, _, .cons h r, e => by
    have e : (rd ρ t).bind (fun d => (rds ρ ts).map fun ds => d :: ds) = some _ := e
    cases q1 : rd ρ t with
    | none => rw [q1] at e; cases e
    | some d =>
      rw [q1] at e
      have e : (rds ρ ts).map (fun ds => d :: ds) = some _ := e
      cases q : rds ρ ts with
      | none => rw [q] at e; cases e
      | some es => rw [q] at e; cases e; exact .cons (S.rdT h q1) (rds_reps S r q)
theorem se_tup {ta : TA} {da : DA} (ha : SA K pa W ta da) : SE K pa W (tTup ta) (dTup da) := fun F G σ H ρ Q q er S h k x =>
  ha F G σ H ρ _ _ er S h (fun G1 H1 vs ts ρ1 e1 S1 r1 h1 => by
    obtain ⟨ds, ed, hl, h2⟩ := h1
    have R := vals_reps r1 ed
    refine ⟨by rw [R.length]; exact hl, fun p hp => ?_⟩
    have a := Al.one (G := G1) (p := p) (o := .tup vs) S1.ex hp
    exact k _ _ _ (.val (.tup ds)) ρ1 (e1.trans a.g) (S1.al a) (.tup (SqT.of upd_same) (R.mono a.g)) h2) x
/-- a new object that nobody knows as yet -/
theorem Sim.new {F G H : Hp} {σ : RSt} {ρ : Ro} {p : Addr} {o : HO} (S : Sim K pa F G σ H ρ) (hp : H p = none) : Sim K pa F G σ (upd H p o) ρ :=
  S.grow (Ex.refl G) (S.ex.trans (Ex.new hp)) (S.fx.trans (Ex.new hp)) S.dj fun i s d b h1 h2 h3 => by
    obtain ⟨b', q1, q2, q3⟩ := S.own i s d h1 h2
    rw [h3] at q1
    cases q1
    obtain ⟨u, hu⟩ := q3.some
    exact ⟨q2, upd_ne fun z => by rw [z, hp] at hu; cases hu⟩
theorem sf_lst {ta : TA} {da : DA} (ha : SA K pa W ta da) : SF K pa W (tLst ta) (dLst da) := fun F G σ H ρ Q q er S h k x =>
  ha F G σ H ρ _ _ er S h (fun G1 H1 vs ts ρ1 e1 S1 r1 h1 => by
    obtain ⟨ds, ed, hl, h2⟩ := h1
    have R := vals_reps r1 ed
    refine ⟨by rw [R.length]; exact hl, fun p hp => ?_⟩
    have gp : G1 p = none := fresh_back S1.ex hp
    refine k G1 _ p (.lst ds) ρ1 e1 (S1.new hp) ⟨gp, fresh_back S1.fx hp⟩ ⟨vs, upd_same, R⟩ (fun i s d hs hd hσ => ?_) h2
    · obtain ⟨b, hb, _, ow⟩ := S1.own i s d hs hd
      rw [hσ] at hb
      cases hb
      obtain ⟨o, ho⟩ := ow.some
      rw [hp] at ho
      cases ho) x
/-- a new object, taken as plain data -/
theorem se_new {te : TE} {df : DF} (h : SF K pa W te df) : SE K pa W te (dV df) := fun F G σ H ρ Q q er S h0 k x =>
  h F G σ H ρ Q _ er S h0 (fun G1 H1 p d ρ1 e1 S1 gp ow fr h1 => by
    obtain ⟨o, ho⟩ := ow.some
    have e2 : Ex G1 (upd G1 p o) := Ex.new gp.1
    have S2 : Sim K pa F (upd G1 p o) σ H1 ρ1 := {
      len := S1.len
      ex := fun b u q => by
        by_cases hb : b = p
        · subst hb; rw [upd_same] at q; cases q; exact ho
        · rw [upd_ne hb] at q; exact S1.ex b u q
      fx := S1.fx
      dj := fun b u q => by rw [upd_ne (fun z => by rw [z, gp.2] at q; cases q)]; exact S1.dj b u q
      val := fun i d h => let ⟨v, h1, h2⟩ := S1.val i d h; ⟨v, h1, h2.mono e2⟩
      own := fun i s d h hd => by
        obtain ⟨b, h1, h2, h3⟩ := S1.own i s d h hd
        exact ⟨b, h1, by rw [upd_ne (fun z => fr i s d h hd (by rw [h1, z]))]; exact h2, h3.mono e2 rfl⟩
      ofr := S1.ofr
      par := S1.par
      gx := S1.gx.trans e2
      dis := S1.dis }
    refine k (upd G1 p o) H1 _ (.val d) ρ1 (e1.trans e2) S2 ?_ h1
    cases d with
    | lst ds => obtain ⟨vs, h1, h2⟩ := ow; rw [ho] at h1; cases h1; exact Rep.lst (SqL.of upd_same) (h2.mono e2)
    | dct ds => obtain ⟨vs, h1, h2⟩ := ow; rw [ho] at h1; cases h1; exact Rep.dct upd_same (h2.mono e2)
    | ins C ds => obtain ⟨dx, vs, h1, h2⟩ := ow; rw [ho] at h1; cases h1; exact Rep.ins upd_same (h2.mono e2)
    | _ => exact ow.elim) x
theorem se_cb {r : List V → Hp → VK → Prop} {f : List D → Option D} {ta : TA} {da : DA} (hr : SC K r f) (ha : SA K pa W ta da) : SE K pa W (tCB r ta) (dCB f da) := fun F G σ H ρ Q q er S h k x =>
  ha F G σ H ρ _ _ er S h (fun G1 H1 vs ts ρ1 e1 S1 r1 h1 => by
    obtain ⟨ds, ed, z, ez, h2⟩ := h1
    exact hr G1 H1 vs ds z _ S1.ex (rds_reps S1 r1 ed) ez fun G2 H2 v a r2 => k G2 H2 v (.val z) ρ1 (e1.trans a.g) (S1.al a) r2 h2) x
theorem se_chain (hr : SR K r f) (hr' : SR K r' f') (ha : SE K pa W ta da) (hb : SE K pa W tb db) (hc : SE K pa W tc dc) : SE K pa W (tChain r r' ta tb tc) (dChain f f' da db dc) := fun F G σ H ρ Q q er S h k x =>
  ha F G σ H ρ _ _ er S h (fun G1 H1 v s ρ1 e1 S1 r1 h1 => hb F G1 σ H1 ρ1 _ _ er S1 h1 (fun G2 H2 w t ρ2 e2 S2 r2 h2 => by
    obtain ⟨dx, ex, dy, ey, z, ez, c, ec, h3⟩ := h2
    refine hr G2 H2 v w dx dy z _ S2.ex (S2.rdT (r1.mono e2) ex) (S2.rdT r2 ey) ez fun G3 H3 u a r3 => ?_
    cases bool_of ec
    cases r3
    refine ⟨c, rfl, ?_⟩
    cases c with
    | false => exact k G3 H3 _ (.val (.bl false)) ρ2 ((e1.trans e2).trans a.g) (S2.al a) (.bl false) h3
    | true =>
      refine hc F G3 σ H3 ρ2 _ _ er (S2.al a) h3 (fun G4 H4 y u ρ4 e4 S4 r4 h4 => ?_) (x.grow ((e1.trans e2).trans a.g))
      obtain ⟨dy', ey', dw, ew, z', ez', h5⟩ := h4
      exact hr' G4 H4 w y dy' dw z' _ S4.ex (S4.rdT ((r2.mono a.g).mono e4) ey') (S4.rdT r4 ew) ez' fun G5 H5 u5 a5 r5 => k G5 H5 u5 (.val z') ρ4 ((((e1.trans e2).trans a.g).trans e4).trans a5.g) (S4.al a5) r5 h5) (x.grow e1)) x
end

/-! ### statements -/
def dNext : DS := fun DD ρ => DD.nx ρ
def dNever : DS := fun _ _ => False
def dSeq (a b : DS) : DS := fun DD ρ => a { DD with nx := b DD } ρ
def dDrop (de : DE) : DS := fun DD ρ => de ρ (fun _ ρ1 => DD.nx ρ1) DD.er
def dRet (de : DE) : DS := fun DD ρ => de ρ DD.rt DD.er
def dRetF (de : DF) : DS := fun DD ρ => de ρ DD.rf DD.er
def dRetN : DS := fun DD ρ => DD.rt (.val .non) ρ
def dIfS (t : DT) (a b : DS) : DS := fun DD ρ => t ρ (fun c ρ1 => if c = true then a DD ρ1 else b DD ρ1) DD.er
def dBrk : DS := fun DD ρ => DD.bk ρ
def dCnt : DS := fun DD ρ => DD.ct ρ
def isPar (ρ : Ro) (i : Nat) : Bool := match ρ[i]? with
  | some (.par _) => true
  | _ => false
def dgName (i : Nat) : DG := fun t ρ q => match t with
  | .val d => isPar ρ i = false ∧ q (ρ.set i (.val d))
  | .bor _ => False
def dAsg (de : DE) (g : DG) : DS := fun DD ρ => de ρ (fun t ρ1 => g t ρ1 DD.nx) DD.er
/-- name = a new object: the slot's own -/
def dOwn (df : DF) (i : Nat) : DS := fun DD ρ => df ρ (fun d ρ1 => (isPar ρ1 i = false ∧ i < ρ1.length) ∧ DD.nx (ρ1.set i (.own d))) DD.er
/-- a ghost step: a slot's own object is plain data from here on -/
def dFrz (i : Nat) (s : DS) : DS := fun DD ρ => match ρ[i]? with
  | some (.own d) => s DD (ρ.set i (.val d))
  | _ => False

section
variable {K : PySem.W.Frag} {pa : PaG} {W : WX} {ts us : TS} {ds es : DS} {te : TE} {de : DE} {tt : TT} {dt : DT} {g : TG} {dg : DG}
theorem Lk.grow {F G G' : Hp} {D : Ends} {DD : Do} (e : Ex G G') (l : Lk K pa F W G D DD) : Lk K pa F W G' D DD :=
  ⟨fun a b c d x => l.nx a b c d (e.trans x), fun a b c d x => l.bk a b c d (e.trans x), fun a b c d x => l.ct a b c d (e.trans x), fun a b c d v t x => l.rt a b c d v t (e.trans x), fun a b c d v t x => l.rf a b c d v t (e.trans x), fun a b c d C y vs fs x => l.er a b c d C y vs fs (e.trans x)⟩
theorem Lk.xl {F G : Hp} {D : Ends} {DD : Do} (l : Lk K pa F W G D DD) (σ : RSt) : XL K pa F G W σ DD.er := fun G' H' ρ' C d vs fs e => l.er G' σ H' ρ' C d vs fs e
theorem ss_next : SS K pa W tNext dNext := fun F G σ H ρ D DD S h l => l.nx G σ H ρ (Ex.refl G) S h
theorem ss_never {ts : TS} : SS K pa W ts dNever := fun _ _ _ _ _ _ _ _ h _ => h.elim
theorem ss_seq (h1 : SS K pa W ts ds) (h2 : SS K pa W us es) : SS K pa W (tSeq ts us) (dSeq ds es) := fun F G σ H ρ D DD S h l =>
  h1 F G σ H ρ _ _ S h ⟨fun G' σ' H' ρ' e S' q => h2 F G' σ' H' ρ' D DD S' q (l.grow e), l.bk, l.ct, l.rt, l.rf, l.er⟩
theorem ss_drop (h1 : SE K pa W te de) : SS K pa W (tDrop te) (dDrop de) := fun F G σ H ρ D DD S h l =>
  h1 F G σ H ρ _ _ _ S h (fun G' H' v t ρ' e S' r q => l.nx G' σ H' ρ' e S' q) (l.xl σ)
theorem ss_ret (h1 : SE K pa W te de) : SS K pa W (tRet te) (dRet de) := fun F G σ H ρ D DD S h l =>
  h1 F G σ H ρ _ _ _ S h (fun G' H' v t ρ' e S' r q => l.rt G' σ H' ρ' v t e S' r q) (l.xl σ)
theorem ss_retF {df : DF} (h1 : SF K pa W te df) : SS K pa W (tRet te) (dRetF df) := fun F G σ H ρ D DD S h l =>
  h1 F G σ H ρ _ _ _ S h (fun G' H' p d ρ' e S' gp ow fr q => l.rf G' σ H' ρ' p d e S' gp ow fr q) (l.xl σ)
theorem ss_retN : SS K pa W tRetN dRetN := fun F G σ H ρ D DD S h l => l.rt G σ H ρ .non (.val .non) (Ex.refl G) S .non h
theorem ss_if (ht : ST K pa W tt dt) (h1 : SS K pa W ts ds) (h2 : SS K pa W us es) : SS K pa W (tIfS tt ts us) (dIfS dt ds es) := fun F G σ H ρ D DD S h l =>
  ht F G σ H ρ _ _ _ S h (fun G' H' b ρ' e S' q => by
    cases b with
    | true => exact h1 F G' σ H' ρ' D DD S' q (l.grow e)
    | false => exact h2 F G' σ H' ρ' D DD S' q (l.grow e)) (l.xl σ)
theorem ss_brk : SS K pa W tBreak dBrk := fun F G σ H ρ D DD S h l => l.bk G σ H ρ (Ex.refl G) S h
theorem ss_cnt : SS K pa W tCont dCnt := fun F G σ H ρ D DD S h l => l.ct G σ H ρ (Ex.refl G) S h
theorem isPar_of {ρ : Ro} {i : Nat} {d : D} (h : isPar ρ i = false) (e : ρ[i]? = some (.par d)) : False := by
  unfold isPar at h; rw [e] at h; cases h
/-- a slot is stored: plain data -/
theorem Sim.store {F G H : Hp} {σ : RSt} {ρ : Ro} {i : Nat} {v : V} {d : D} (S : Sim K pa F G σ H ρ) (hp : isPar ρ i = false) (r : Rep K G v d) : Sim K pa F G (σ.set i (some v)) H (ρ.set i (.val d)) where
  len := by rw [List.length_set, List.length_set]; exact S.len
  ex := S.ex
  fx := S.fx
  dj := S.dj
  ofr := fun j s e p h hd hσ => by
    by_cases hj : i = j
    · subst hj
      rw [List.getElem?_set, if_pos rfl] at h
      split at h
      · cases h; cases hd
      · cases h
    · rw [List.getElem?_set_ne hj] at h hσ
      exact S.ofr j s e p h hd hσ
  val := fun j e h => by
    by_cases hj : i = j
    · subst hj
      rw [List.getElem?_set] at h ⊢
      rw [if_pos rfl] at h ⊢
      split at h
      · rename_i hl
        cases h
        rw [if_pos (by rw [← S.len]; exact hl)]
        exact ⟨v, rfl, r⟩
      · cases h
    · rw [List.getElem?_set_ne hj] at h ⊢
      exact S.val j e h
  own := fun j s e h hd => by
    by_cases hj : i = j
    · subst hj
      rw [List.getElem?_set, if_pos rfl] at h
      split at h
      · cases h; cases hd
      · cases h
    · rw [List.getElem?_set_ne hj] at h ⊢
      exact S.own j s e h hd
  par := fun j e h => by
    by_cases hj : i = j
    · subst hj
      rw [List.getElem?_set, if_pos rfl] at h
      split at h <;> cases h
    · rw [List.getElem?_set_ne hj] at h ⊢
      exact S.par j e h
  gx := S.gx
  dis := fun j k s t e f p hjk h1 h2 h3 h4 h5 h6 => by
    have nj : i ≠ j := fun z => by
      subst z
      rw [List.getElem?_set, if_pos rfl] at h1
      split at h1
      · cases h1; cases h2
      · cases h1
    have nk : i ≠ k := fun z => by
      subst z
      rw [List.getElem?_set, if_pos rfl] at h3
      split at h3
      · cases h3; cases h4
      · cases h3
    rw [List.getElem?_set_ne nj] at h1 h5
    rw [List.getElem?_set_ne nk] at h3 h6
    exact S.dis j k s t e f p hjk h1 h2 h3 h4 h5 h6
/-- .. an object of its own -/
theorem Sim.storeOwn {F G H : Hp} {σ : RSt} {ρ : Ro} {i : Nat} {p : Addr} {d : D} (S : Sim K pa F G σ H ρ) (hp : isPar ρ i = false) (gp : G p = none ∧ F p = none) (ow : OwnAt K G H p d)
    (fr : ∀ (i : Nat) (s : Sl) (d : D), ρ[i]? = some s → s.ownD = some d → σ[i]? ≠ some (some (.ref p))) : Sim K pa F G (σ.set i (some (.ref p))) H (ρ.set i (.own d)) where
  len := by rw [List.length_set, List.length_set]; exact S.len
  ex := S.ex
  fx := S.fx
  dj := S.dj
  ofr := fun j s e b h hd hσ => by
    by_cases hj : i = j
    · subst hj
      rw [List.getElem?_set, if_pos rfl] at hσ
      split at hσ
      · cases hσ; exact gp.2
      · cases hσ
    · rw [List.getElem?_set_ne hj] at h hσ
      exact S.ofr j s e b h hd hσ
  val := fun j e h => by
    by_cases hj : i = j
    · subst hj
      rw [List.getElem?_set, if_pos rfl] at h
      split at h <;> cases h
    · rw [List.getElem?_set_ne hj] at h ⊢
      exact S.val j e h
  own := fun j s e h hd => by
    by_cases hj : i = j
    · subst hj
      rw [List.getElem?_set] at h ⊢
      rw [if_pos rfl] at h ⊢
      split at h
      · rename_i hl
        cases h
        cases hd
        rw [if_pos (by rw [← S.len]; exact hl)]
        exact ⟨p, rfl, gp.1, ow⟩
      · cases h
    · rw [List.getElem?_set_ne hj] at h ⊢
      exact S.own j s e h hd
  par := fun j e h => by
    by_cases hj : i = j
    · subst hj
      rw [List.getElem?_set, if_pos rfl] at h
      split at h <;> cases h
    · rw [List.getElem?_set_ne hj] at h ⊢
      exact S.par j e h
  gx := S.gx
  dis := fun j k s t e f b hjk h1 h2 h3 h4 h5 h6 => by
    by_cases nj : i = j
    · subst nj
      rw [List.getElem?_set_ne hjk] at h3 h6
      rw [List.getElem?_set, if_pos rfl] at h5
      split at h5
      · cases h5; exact fr k t f h3 h4 h6
      · cases h5
    · by_cases nk : i = k
      · subst nk
        rw [List.getElem?_set_ne nj] at h1 h5
        rw [List.getElem?_set, if_pos rfl] at h6
        split at h6
        · cases h6; exact fr j s e h1 h2 h5
        · cases h6
      · rw [List.getElem?_set_ne nj] at h1 h5
        rw [List.getElem?_set_ne nk] at h3 h6
        exact S.dis j k s t e f b hjk h1 h2 h3 h4 h5 h6
theorem wipe_get (σ : RSt) (j : Nat) : ∀ vs : List Nat, (wipe σ vs)[j]? = if j ∈ vs then (if j < σ.length then some none else none) else σ[j]?
  | [] => by simp [wipe]
  | v :: vs => by
    have ih := wipe_get σ j vs
    unfold wipe
    by_cases h : v = j
    · subst h
      rw [List.getElem?_set, if_pos rfl, wipe_length, if_pos (List.mem_cons_self)]
    · rw [List.getElem?_set_ne h, ih]
      by_cases h2 : j ∈ vs
      · rw [if_pos h2, if_pos (List.mem_cons_of_mem _ h2)]
      · rw [if_neg h2, if_neg (fun z => by rcases List.mem_cons.mp z with z | z; exact h z.symm; exact h2 z)]
theorem wipe_set {σ : RSt} {i : Nat} {x : Option V} {vs : List Nat} (h : i ∈ vs) : wipe (σ.set i x) vs = wipe σ vs := by
  apply List.ext_getElem?
  intro j
  rw [wipe_get, wipe_get, List.length_set]
  by_cases hj : j ∈ vs
  · rw [if_pos hj, if_pos hj]
  · rw [if_neg hj, if_neg hj, List.getElem?_set_ne (fun z => hj (by rw [← z]; exact h))]
theorem wipe_wipe {σ : RSt} {vs : List Nat} : wipe (wipe σ vs) vs = wipe σ vs := by
  apply List.ext_getElem?
  intro j
  rw [wipe_get, wipe_length, wipe_get]
  by_cases hj : j ∈ vs
  · rw [if_pos hj, if_pos hj]
  · rw [if_neg hj, if_neg hj]
theorem sg_name {i : Nat} : SG K pa [i] (gName i) (dgName i) := fun F G σ H ρ v t Q q S r h k => by
  cases t with
  | bor j => exact h.elim
  | val d => exact k G _ H _ (Ex.refl G) (S.store h.1 r) (fun vs hv => wipe_set (hv i List.mem_cons_self)) h.2
/-- a, b, .. = a tuple -/
def dgNil : List D → Ro → (Ro → Prop) → Prop := fun ds ρ q => ds = [] ∧ q ρ
def dgCons (g : DG) (r : List D → Ro → (Ro → Prop) → Prop) : List D → Ro → (Ro → Prop) → Prop := fun ds ρ q => match ds with
  | d :: ds => g (.val d) ρ fun ρ1 => r ds ρ1 q
  | [] => False
def dgTup (n : Nat) (r : List D → Ro → (Ro → Prop) → Prop) : DG := fun t ρ q => match t with
  | .val (.tup ds) => ds.length = n ∧ r ds ρ q
  | _ => False
def SGs (K : PySem.W.Frag) (pa : PaG) (ns : List Nat) (g : TGs) (dg : List D → Ro → (Ro → Prop) → Prop) : Prop := ∀ (F G : Hp) (σ : RSt) (H : Hp) (ρ : Ro) (vs : List V) (ds : List D) (Q : RSt → Hp → Prop) (q : Ro → Prop), Sim K pa F G σ H ρ → Reps K G vs ds → dg ds ρ q →
  (∀ G' σ' H' ρ', Ex G G' → Sim K pa F G' σ' H' ρ' → (∀ vs : List Nat, (∀ i ∈ ns, i ∈ vs) → wipe σ' vs = wipe σ vs) → q ρ' → Q σ' H') → g vs σ H Q
theorem sgs_nil : SGs K pa [] gNil dgNil := fun F G σ H ρ vs ds Q q S r h k => by
  obtain ⟨rfl, h⟩ := h
  cases r
  exact ⟨rfl, k G σ H ρ (Ex.refl G) S (fun _ _ => rfl) h⟩
theorem sgs_cons {n1 n2 : List Nat} {g : TG} {dg : DG} {gs : TGs} {dr : List D → Ro → (Ro → Prop) → Prop} (h1 : SG K pa n1 g dg) (h2 : SGs K pa n2 gs dr) : SGs K pa (n1 ++ n2) (gCons g gs) (dgCons dg dr) := fun F G σ H ρ vs ds Q q S r h k => by
  cases r with
  | nil => exact h.elim
  | cons r rr =>
    refine ⟨_, _, rfl, h1 F G σ H ρ _ (.val _) _ _ S r h fun G1 σ1 H1 ρ1 e1 S1 w1 q1 => h2 F G1 σ1 H1 ρ1 _ _ _ _ S1 (rr.mono e1) q1 fun G2 σ2 H2 ρ2 e2 S2 w2 q2 => k G2 σ2 H2 ρ2 (e1.trans e2) S2 (fun vs hv => ?_) q2⟩
    rw [w2 vs fun i hi => hv i (List.mem_append_right _ hi), w1 vs fun i hi => hv i (List.mem_append_left _ hi)]
theorem sg_tup {ns : List Nat} {gs : TGs} {n : Nat} {dr : List D → Ro → (Ro → Prop) → Prop} (h : SGs K pa ns gs dr) : SG K pa ns (gTup K n gs) (dgTup n dr) := fun F G σ H ρ v t Q q S r h0 k => by
  cases t with
  | bor j => exact h0.elim
  | val d =>
    have r : Rep K G v d := r
    cases r with
    | tup hs rr => exact ⟨_, _, rfl, ex_t S.ex hs, by rw [rr.length]; exact h0.1, h F G σ H ρ _ _ _ _ S rr h0.2 k⟩
    | _ => exact h0.elim
theorem ss_asg {ns : List Nat} (he : SE K pa W te de) (hg : SG K pa ns g dg) : SS K pa W (tAsg te g) (dAsg de dg) := fun F G σ H ρ D DD S h l =>
  he F G σ H ρ _ _ _ S h (fun G' H' v t ρ' e S' r q => hg F G' σ H' ρ' v t _ _ S' r q fun G2 σ2 H2 ρ2 e2 S2 _ q2 => l.nx G2 σ2 H2 ρ2 (e.trans e2) S2 q2) (l.xl σ)
theorem ss_own {df : DF} {i : Nat} (he : SF K pa W te df) : SS K pa W (tAsg te (gName i)) (dOwn df i) := fun F G σ H ρ D DD S h l =>
  he F G σ H ρ _ _ _ S h (fun G' H' p d ρ' e S' gp ow fr q => l.nx G' _ H' _ e (S'.storeOwn q.1.1 gp ow fr) q.2) (l.xl σ)
theorem Sim.frz {F G H : Hp} {σ : RSt} {ρ : Ro} {i : Nat} {d : D} (S : Sim K pa F G σ H ρ) (h : ρ[i]? = some (.own d)) : ∃ G', Ex G G' ∧ Sim K pa F G' σ H (ρ.set i (.val d)) := by
  obtain ⟨p, hσ, gp, ow⟩ := S.own i _ d h rfl
  obtain ⟨o, ho⟩ := ow.some
  have e2 : Ex G (upd G p o) := Ex.new gp
  have hi : i < ρ.length := (List.getElem?_eq_some_iff.mp h).1
  refine ⟨upd G p o, e2, ?_⟩
  have S2 : Sim K pa F (upd G p o) σ H (ρ.set i .no) := {
    len := by rw [List.length_set]; exact S.len
    ex := fun b u q => by
      by_cases hb : b = p
      · subst hb; rw [upd_same] at q; cases q; exact ho
      · rw [upd_ne hb] at q; exact S.ex b u q
    fx := S.fx
    dj := fun b u q => by rw [upd_ne (fun z => by rw [z, S.ofr i _ d p h rfl hσ] at q; cases q)]; exact S.dj b u q
    ofr := fun j s e b hj hd hs => by
      by_cases z : i = j
      · subst z; rw [List.getElem?_set_self hi] at hj; cases hj; cases hd
      · rw [List.getElem?_set_ne z] at hj; exact S.ofr j s e b hj hd hs
    val := fun j e hj => by
      by_cases z : i = j
      · subst z; rw [List.getElem?_set_self hi] at hj; cases hj
      · rw [List.getElem?_set_ne z] at hj
        obtain ⟨v, h1, h2⟩ := S.val j e hj
        exact ⟨v, h1, h2.mono e2⟩
    own := fun j s e hj hd => by
      by_cases z : i = j
      · subst z; rw [List.getElem?_set_self hi] at hj; cases hj; cases hd
      · rw [List.getElem?_set_ne z] at hj
        obtain ⟨b, h1, h2, h3⟩ := S.own j s e hj hd
        exact ⟨b, h1, by rw [upd_ne (fun y => S.dis i j _ s d e p z h rfl hj hd hσ (by rw [h1, y]))]; exact h2, h3.mono e2 rfl⟩
    par := fun j e hj => by
      by_cases z : i = j
      · subst z; rw [List.getElem?_set_self hi] at hj; cases hj
      · rw [List.getElem?_set_ne z] at hj; exact S.par j e hj
    gx := S.gx.trans (Ex.new gp)
    dis := fun j k s t e f b hjk h1 h2 h3 h4 h5 h6 => by
      have nj : i ≠ j := fun z => by subst z; rw [List.getElem?_set_self hi] at h1; cases h1; cases h2
      have nk : i ≠ k := fun z => by subst z; rw [List.getElem?_set_self hi] at h3; cases h3; cases h4
      rw [List.getElem?_set_ne nj] at h1
      rw [List.getElem?_set_ne nk] at h3
      exact S.dis j k s t e f b hjk h1 h2 h3 h4 h5 h6 }
  have r : Rep K (upd G p o) (.ref p) d := by
    cases d with
    | lst ds => obtain ⟨vs, h1, h2⟩ := ow; rw [ho] at h1; cases h1; exact Rep.lst (SqL.of upd_same) (h2.mono e2)
    | dct ds => obtain ⟨vs, h1, h2⟩ := ow; rw [ho] at h1; cases h1; exact Rep.dct upd_same (h2.mono e2)
    | ins C ds => obtain ⟨dx, vs, h1, h2⟩ := ow; rw [ho] at h1; cases h1; exact Rep.ins upd_same (h2.mono e2)
    | _ => exact ow.elim
  have S3 := S2.store (i := i) (v := .ref p) (d := d) (by unfold isPar; rw [List.getElem?_set_self hi]) r
  rw [List.set_set] at S3
  have es : σ.set i (some (.ref p)) = σ := by
    apply List.ext_getElem?
    intro j
    by_cases z : i = j
    · subst z; rw [hσ, List.getElem?_set_self (by rw [← S.len]; exact hi)]
    · rw [List.getElem?_set_ne z]
  rw [es] at S3
  exact S3
theorem ss_frz {i : Nat} (h1 : SS K pa W ts ds) : SS K pa W ts (dFrz i ds) := fun F G σ H ρ D DD S h l => by
  unfold dFrz at h
  cases e : ρ[i]? with
  | none => rw [e] at h; exact h.elim
  | some s =>
    rw [e] at h
    cases s with
    | own d =>
      obtain ⟨G', e', S'⟩ := S.frz e
      exact h1 F G' σ H _ D DD S' h (l.grow e')
    | _ => exact h.elim
end
end DL
set_option autoImplicit false
set_option Elab.async false
set_option linter.all false
set_option maxRecDepth 100000
namespace DL
open PySem L2 Evl

/-! ### operations on data -/
def D.add : D → D → Option D
  | .int i, .int j => some (.int (i + j))
  | .str x, .str y => if x.length + y.length ≤ sizeLine then some (.str (x ++ y)) else none
  | .lst xs, .lst ys => if xs.length + ys.length ≤ sizeLine then some (.lst (xs ++ ys)) else none
  | .tup xs, .tup ys => if xs.length + ys.length ≤ sizeLine then some (.tup (xs ++ ys)) else none
  | _, _ => none
def D.sub : D → D → Option D
  | .int i, .int j => some (.int (i - j))
  | _, _ => none
instance (i j : Int) : Decidable (CMul i j) := by unfold CMul; infer_instance
instance (i j : Int) : Decidable (CMulW i j) := by unfold CMulW; infer_instance
instance (i j : Int) : Decidable (CDivW i j) := by unfold CDivW; infer_instance
instance (i j : Int) : Decidable (CPow i j) := by unfold CPow; infer_instance
def D.mul : D → D → Option D
  | .int i, .int j => if CMul i j ∨ CMulW i j then some (.int (i * j)) else none
  | .lst xs, .int k => if 0 ≤ k ∧ k < 2 ^ 63 ∧ xs.length * k.toNat ≤ sizeLine then some (.lst (List.replicate k.toNat xs).flatten) else none
  | _, _ => none
def D.mod : D → D → Option D
  | .int i, .int j => if 0 < j then some (.int (i % j)) else none
  | _, _ => none
def D.fdiv : D → D → Option D
  | .int i, .int j => if CDivW i j then some (.int (i / j)) else none
  | _, _ => none
def D.pow : D → D → Option D
  | .int i, .int j => if CPow i j then some (.int (i ^ j.toNat)) else none
  | _, _ => none
def D.neg : D → Option D
  | .int i => some (.int (-i))
  | _ => none
def D.cmp (p : Int → Int → Bool) : D → D → Option D
  | .int i, .int j => some (.bl (p i j))
  | _, _ => none
abbrev D.lt := D.cmp fun i j => decide (i < j)
abbrev D.le := D.cmp fun i j => decide (i ≤ j)
abbrev D.gt := D.cmp fun i j => decide (j < i)
abbrev D.ge := D.cmp fun i j => decide (j ≤ i)
def D.isN : D → D → Option D
  | .non, .non => some (.bl true)
  | _, .non => some (.bl false)
  | _, _ => none
def D.isNotN : D → D → Option D
  | .non, .non => some (.bl false)
  | _, .non => some (.bl true)
  | _, _ => none
def D.ix : D → D → Option D
  | .lst xs, .int i => atI xs i
  | .tup xs, .int i => atI xs i
  | .str z, .int i => if z.length ≤ sizeLine then (atI z.cps.toList i).map fun c => .str ⟨#[c]⟩ else none
  | _, _ => none
def D.len : List D → Option D
  | [.str z] => if z.length ≤ sizeLine then some (.int z.length) else none
  | [.byt z] => if z.size ≤ sizeLine then some (.int z.size) else none
  | [.lst xs] => some (.int xs.length)
  | [.tup xs] => some (.int xs.length)
  | _ => none
def D.toInt : List D → Option D
  | [.int i] => some (.int i)
  | [.bl b] => some (.int (if b then 1 else 0))
  | _ => none
def D.toStr : List D → Option D
  | [.int i] => if i.natAbs.log2 < 1920 then some (.str (toString i)) else none
  | _ => none
def D.toTuple : List D → Option D
  | [.lst xs] => some (.tup xs)
  | [.tup xs] => some (.tup xs)
  | _ => none

section
variable {K : PySem.W.Frag} {X : Cx}
theorem SR.or {r r' : R2} {f g h : D → D → Option D} (h1 : SR K r f) (h2 : SR K r' g) (e : ∀ a b z, h a b = some z → f a b = some z ∨ g a b = some z) : SR K (fun x y H Q => r x y H Q ∨ r' x y H Q) h := fun G H x y dx dy z Q eg rx ry q k => by
  rcases e dx dy z q with q | q
  · exact .inl (h1 G H x y dx dy z Q eg rx ry q k)
  · exact .inr (h2 G H x y dx dy z Q eg rx ry q k)
def rCatL (K : PySem.W.Frag) : R2 := fun x y H Q => ∃ l b xs zs, x = .ref l ∧ y = .ref b ∧ SqL K H l xs ∧ SqL K H b zs ∧ xs.length + zs.length ≤ sizeLine ∧ ∀ p, H p = none → Q (.ref p) (upd H p (.lst (xs ++ zs)))
theorem op_catL : OpR X (binaryOp .Add) (rCatL X.K) := by
  rintro pins s σ H x y v u Q I rx ry ⟨l, b, xs, zs, rfl, rfl, hx, hz, hl, q⟩
  cases rx; cases ry
  obtain ⟨us, r1, ⟨⟨c1, d1, t1, s1⟩, n1, g1, p1, p2, p3⟩, z1⟩ := I.list hx
  obtain ⟨ws, r2, ⟨⟨c2, d2, t2, s2⟩, n2, g2, q1, q2, q3⟩, z2⟩ := I.list hz
  simp only at p1 p2 p3 q1 q2 q3
  subst p1 p2 p3 q1 q2 q3
  have hs : us.toArray.size + ws.toArray.size ≤ sizeLine := by rw [List.size_toArray, List.size_toArray, ← r1.length, ← r2.length]; exact hl
  refine concat_meets ⟨_, g1, rfl⟩ ⟨_, g2, rfl⟩ noFill_list_add seq_list_add PySem.F.slot_list_add PySem.F.entry_list_add (PySem.F.args_list_add_2 _ _) (PyProof.Rows.list_addW l b us.toArray ws.toArray n1 n2 none none s1 s2 hs) ⟨g1, g2, ?_⟩
  have ea : us.toArray ++ ws.toArray = (us ++ ws).toArray := by simp
  rw [ea]
  exact ⟨.ref _, _, I.lnew (t' := s.toks) (r1.append r2) (by rw [List.length_append]; omega), rfl, q _ I.fresh⟩
def rAddI : R2 := rI0 fun i j => .int (i + j)
def rAddS : R2 := fun x y H Q => ∃ i j, x = .str i ∧ y = .str j ∧ i.length + j.length ≤ sizeLine ∧ Q (.str (i ++ j)) H
def rAdd (K : PySem.W.Frag) : R2 := fun x y H Q => rAddI x y H Q ∨ rAddS x y H Q ∨ rCatL K x y H Q ∨ rCatA K x y H Q
theorem op_addX : OpR X (binaryOp .Add) (rAdd X.K) := OpR.or (r := rAddI) op_add (OpR.or (r := rAddS) op_add_str (OpR.or (r := rCatL X.K) op_catL op_catA))
theorem sr_add : SR K (rAdd K) D.add := fun G H x y dx dy z Q e rx ry q k => by
  unfold D.add at q
  split at q
  · cases q; rw [rx.int, ry.int]; exact .inl ⟨_, _, rfl, rfl, k G H _ (Al.refl e) (.int _)⟩
  · split at q
    · rename_i hl; cases q; rw [rx.str, ry.str]; exact .inr (.inl ⟨_, _, rfl, rfl, hl, k G H _ (Al.refl e) (.str _)⟩)
    · cases q
  · split at q
    · rename_i hl
      cases q
      obtain ⟨p, vs, rfl, h1, r1⟩ := rx.lstR e
      obtain ⟨p2, vs2, rfl, h2, r2⟩ := ry.lstR e
      refine .inr (.inr (.inl ⟨p, p2, vs, vs2, rfl, rfl, h1, h2, by rw [r1.length, r2.length]; exact hl, fun b hb => ?_⟩))
      have a := Al.one (G := G) (p := b) (o := .lst (vs ++ vs2)) e hb
      exact k _ _ _ a (.lst (SqL.of upd_same) ((r1.append r2).mono a.g))
    · cases q
  · split at q
    · rename_i xs ys hl
      cases q
      have gx := rx.tupR
      have gy := ry.tupR
      obtain ⟨p, vs, rfl, h1, r1⟩ := rx.tup e
      obtain ⟨p2, vs2, rfl, h2, r2⟩ := ry.tup e
      refine .inr (.inr (.inr ⟨p, p2, vs, vs2, rfl, rfl, h1, h2, by rw [r1.length, r2.length]; exact hl, fun z => ?_, fun _ z => ?_, fun _ _ b hb => ?_⟩))
      · subst z
        cases r1
        exact k G H _ (Al.refl e) gy
      · subst z
        cases r2
        rw [List.append_nil] at k
        exact k G H _ (Al.refl e) gx
      · have a := Al.one (G := G) (p := b) (o := .tup (vs ++ vs2)) e hb
        exact k _ _ _ a (.tup (SqT.of upd_same) ((r1.append r2).mono a.g))
    · cases q
  · cases q
def rSubI : R2 := rI0 fun i j => .int (i - j)
theorem op_subX : OpR X (binaryOp .Sub) rSubI := op_sub
theorem sr_sub : SR K rSubI D.sub := fun G H x y dx dy z Q e rx ry q k => by
  unfold D.sub at q
  split at q
  · cases q; rw [rx.int, ry.int]; exact ⟨_, _, rfl, rfl, k G H _ (Al.refl e) (.int _)⟩
  · cases q
def rRepL (K : PySem.W.Frag) : R2 := fun x y H Q => ∃ l k xs, x = .ref l ∧ y = .int k ∧ SqL K H l xs ∧ -(2 ^ 63) ≤ k ∧ k < 2 ^ 63 ∧ xs.length * k.toNat ≤ sizeLine ∧
  ∀ p, H p = none → Q (.ref p) (upd H p (.lst (List.replicate k.toNat xs).flatten))
open PySem.Spec PyProof.Rows PySem in
theorem op_repL : OpR X (binaryOp .Mult) (rRepL X.K) := by
  rintro pins s σ H x y v u Q I rx ry ⟨l, k, xs, rfl, rfl, hx, h1, h2, hz, q⟩
  obtain ⟨t, rfl⟩ := ry
  cases rx
  obtain ⟨us, r1, ⟨⟨c1, d1, t1, s1⟩, n1, g1, p1, p2, p3⟩, z1⟩ := I.list hx
  simp only at p1 p2 p3
  subst p1 p2 p3
  have tl : s.TypeIs (.ref l) "list" := ⟨_, g1, rfl⟩
  have hs : us.toArray.size * k.toNat ≤ sizeLine := by rw [List.size_toArray, ← r1.length]; exact hz
  have cap : ¬ us.toArray.size * k.toNat > (2 ^ 63 - 1) / 8 := by have : (sizeLine : Nat) ≤ (2 ^ 63 - 1) / 8 := by decide
                                                                  omega
  have fit : ¬ (!Builtin.List.listFitsIndex k) = true := by rw [fitsIndex_both h1 h2]; exact Bool.false_ne_true
  have lng : ¬ Builtin.List.listTooLong (us.toArray.size * k.toNat) = true := by rw [notLongL hs]; exact Bool.false_ne_true
  refine wpAny_binaryOp_repeat_ref (T := "list") (U := "int") (by decide) tl (fun s1 => typeIs_int s1 k t) noFill_list_mul F.fills_int_mul F.slot_int_rmul repeat_list F.slot_int_index.lookup (call_meets F.slot_int_rmul (typeIs_int s k t) F.entry_int_rmul (F.args_int_rmul_2 _ _) (lm_int_rmul_list_any k t l us.toArray n1 none s1) ⟨g1, rfl, tl, call_meets F.slot_list_mul tl F.entry_list_mul (F.args_list_mul_2 _ _) (lm_list_mul_any l us.toArray n1 none s1 k t fit cap lng) ⟨g1, ?_⟩⟩)
  rw [listMul_foldl_if]
  exact ⟨.ref _, _, I.lnew (t' := s.toks) (r1.rep k.toNat) (by rw [PyProof.Rows.lm_len_rep_flat, Nat.mul_comm]; exact hz), rfl, q _ I.fresh⟩
def rMulI : R2 := rI CMul fun i j => .int (i * j)
def rMulW : R2 := rI CMulW fun i j => .int (i * j)
def rMul (K : PySem.W.Frag) : R2 := fun x y H Q => rMulI x y H Q ∨ rMulW x y H Q ∨ rRepL K x y H Q
theorem op_mulX : OpR X (binaryOp .Mult) (rMul X.K) := OpR.or (r := rMulI) op_mul (OpR.or (r := rMulW) op_mulW op_repL)
theorem sr_mul : SR K (rMul K) D.mul := fun G H x y dx dy z Q e rx ry q k => by
  unfold D.mul at q
  split at q
  · split at q
    · rename_i hc
      cases q
      rw [rx.int, ry.int]
      rcases hc with hc | hc
      · exact .inl ⟨_, _, rfl, rfl, hc, k G H _ (Al.refl e) (.int _)⟩
      · exact .inr (.inl ⟨_, _, rfl, rfl, hc, k G H _ (Al.refl e) (.int _)⟩)
    · cases q
  · split at q
    · rename_i hc
      cases q
      obtain ⟨p, vs, rfl, h1, r1⟩ := rx.lstR e
      rw [ry.int]
      refine .inr (.inr ⟨p, _, vs, rfl, rfl, h1, Int.le_trans (by decide) hc.1, hc.2.1, by rw [r1.length]; exact hc.2.2, fun b hb => ?_⟩)
      exact k _ _ _ (Al.one (G := G) (p := b) e hb) (.lst (SqL.of upd_same) ((r1.rep _).mono (Al.one (G := G) (p := b) e hb).g))
    · cases q
  · cases q
def rModI : R2 := rI (fun _ j => 0 < j) fun i j => .int (i % j)
theorem op_modX : OpR X (binaryOp .Mod) rModI := op_mod
theorem sr_mod : SR K rModI D.mod := fun G H x y dx dy z Q e rx ry q k => by
  unfold D.mod at q
  split at q
  · split at q
    · rename_i hc; cases q; rw [rx.int, ry.int]; exact ⟨_, _, rfl, rfl, hc, k G H _ (Al.refl e) (.int _)⟩
    · cases q
  · cases q
def rDivI : R2 := rI CDivW fun i j => .int (i / j)
theorem op_divX : OpR X (binaryOp .FloorDiv) rDivI := op_fdivW
theorem sr_fdiv : SR K rDivI D.fdiv := fun G H x y dx dy z Q e rx ry q k => by
  unfold D.fdiv at q
  split at q
  · split at q
    · rename_i hc; cases q; rw [rx.int, ry.int]; exact ⟨_, _, rfl, rfl, hc, k G H _ (Al.refl e) (.int _)⟩
    · cases q
  · cases q
def rPowI : R2 := rI CPow fun i j => .int (i ^ j.toNat)
theorem op_powX : OpR X (binaryOp .Pow) rPowI := op_pow
theorem sr_pow : SR K rPowI D.pow := fun G H x y dx dy z Q e rx ry q k => by
  unfold D.pow at q
  split at q
  · split at q
    · rename_i hc; cases q; rw [rx.int, ry.int]; exact ⟨_, _, rfl, rfl, hc, k G H _ (Al.refl e) (.int _)⟩
    · cases q
  · cases q
def rCmpI (p : Int → Int → Bool) : R2 := rI0 fun i j => .bl (p i j)
theorem sr_cmp {p : Int → Int → Bool} : SR K (rCmpI p) (D.cmp p) := fun G H x y dx dy z Q e rx ry q k => by
  unfold D.cmp at q
  split at q
  · cases q; rw [rx.int, ry.int]; exact ⟨_, _, rfl, rfl, k G H _ (Al.refl e) (.bl _)⟩
  · cases q
abbrev rLtI := rCmpI fun i j => decide (i < j)
abbrev rLeI := rCmpI fun i j => decide (i ≤ j)
abbrev rGtI := rCmpI fun i j => decide (j < i)
abbrev rGeI := rCmpI fun i j => decide (j ≤ i)
theorem op_ltX : OpR X (compareOp .Lt) rLtI := op_lt
theorem op_leX : OpR X (compareOp .LtE) rLeI := op_le
theorem op_gtX : OpR X (compareOp .Gt) rGtI := op_gt
theorem op_geX : OpR X (compareOp .GtE) rGeI := op_ge
def rNegI : V → Hp → VK → Prop := rU fun i => .int (-i)
theorem un_negX : UnR X (unaryOp .USub) rNegI := un_neg
theorem su_neg : SU K rNegI D.neg := fun G H x dx z Q e rx q k => by
  unfold D.neg at q
  split at q
  · cases q; rw [rx.int]; exact ⟨_, rfl, k G H _ (Al.refl e) (.int _)⟩
  · cases q
def rIsNX : R2 := fun x y H Q => y = .non ∧ Q (.bl (decide (x = .non))) H
def rNotNX : R2 := fun x y H Q => y = .non ∧ Q (.bl (!decide (x = .non))) H
theorem op_isNX : OpR X (compareOp .Is) rIsNX := op_isN
theorem op_notNX : OpR X (compareOp .IsNot) rNotNX := op_notN
theorem isN_of {G H : Hp} {x : V} {d : D} (r : RepT K G H x d) : decide (x = .non) = (match d with | .non => true | _ => false) := by
  rcases r with r | ⟨p, rfl, _, r⟩
  · cases r <;> rfl
  · cases d <;> first | exact r.elim | rfl
theorem sr_isN : SR K rIsNX D.isN := fun G H x y dx dy z Q e rx ry q k => by
  have h := isN_of rx
  unfold D.isN at q
  split at q
  · cases q; rw [ry.non]; exact ⟨rfl, by rw [h]; exact k G H _ (Al.refl e) (.bl _)⟩
  · cases q
    rw [ry.non]
    refine ⟨rfl, ?_⟩
    have h2 : decide (x = .non) = false := by
      rw [h]
      cases dx <;> first | rfl | (rename_i hn; exact absurd rfl hn) | (rename_i hn; exact (hn rfl).elim)
    rw [h2]
    exact k G H _ (Al.refl e) (.bl _)
  · cases q
theorem sr_notN : SR K rNotNX D.isNotN := fun G H x y dx dy z Q e rx ry q k => by
  have h := isN_of rx
  unfold D.isNotN at q
  split at q
  · cases q; rw [ry.non]; exact ⟨rfl, by rw [h]; exact k G H _ (Al.refl e) (.bl _)⟩
  · cases q
    rw [ry.non]
    refine ⟨rfl, ?_⟩
    have h2 : decide (x = .non) = false := by
      rw [h]
      cases dx <;> first | rfl | (rename_i hn; exact absurd rfl hn) | (rename_i hn; exact (hn rfl).elim)
    rw [h2]
    exact k G H _ (Al.refl e) (.bl _)
  · cases q
/-! ### o[i] -/
theorem atI_rep {G : Hp} {vs : List V} {ds : List D} {i : Int} {d : D} (r : Reps K G vs ds) (h : atI ds i = some d) : ∃ v, atI vs i = some v ∧ Rep K G v d := by
  unfold atI at h ⊢
  rw [r.length]
  cases q : ixN ds.length i with
  | none => rw [q] at h; cases h
  | some j =>
    rw [q] at h
    exact r.get (i := j) h
theorem sr_ix : SR K (rIx K) D.ix := fun G H x y dx dy z Q e rx ry q k => by
  unfold D.ix at q
  split at q
  · obtain ⟨p, vs, rfl, h1, r1⟩ := rx.lst e
    rw [ry.int]
    obtain ⟨v, hv, rv⟩ := atI_rep r1 q
    exact .inl ⟨p, vs, _, v, rfl, rfl, h1, hv, k G H _ (Al.refl e) rv⟩
  · obtain ⟨p, vs, rfl, h1, r1⟩ := rx.tup e
    rw [ry.int]
    obtain ⟨v, hv, rv⟩ := atI_rep r1 q
    exact .inr (.inl ⟨p, vs, _, v, rfl, rfl, h1, hv, k G H _ (Al.refl e) rv⟩)
  · split at q
    · rename_i zz i hl
      rw [rx.str, ry.int]
      cases q2 : atI zz.cps.toList i with
      | none => rw [q2] at q; cases q
      | some c =>
        rw [q2] at q
        cases q
        exact .inr (.inr ⟨_, _, c, rfl, rfl, hl, q2, k G H _ (Al.refl e) (.str _)⟩)
    · cases q
  · cases q
/-! ### built-ins -/
theorem RepTs.one {G H : Hp} {xs : List V} {d : D} (h : RepTs K G H xs [d]) : ∃ x, xs = [x] ∧ RepT K G H x d := by
  cases h with
  | cons r t => cases t; exact ⟨_, rfl, r⟩
theorem RepTs.two {G H : Hp} {xs : List V} {d d2 : D} (h : RepTs K G H xs [d, d2]) : ∃ x y, xs = [x, y] ∧ RepT K G H x d ∧ RepT K G H y d2 := by
  cases h with
  | cons r t => cases t with | cons r2 t => cases t; exact ⟨_, _, rfl, r, r2⟩
def rLenX (K : PySem.W.Frag) : List V → Hp → VK → Prop := fun xs H Q => ∃ x n, xs = [x] ∧ LenV K x H n ∧ Q (.int n) H
theorem call_lenX : CallR X (.builtin "len") (rLenX X.K) := call_len
theorem sc_len : SC K (rLenX K) D.len := fun G H xs ds z Q e rx q k => by
  unfold D.len at q
  split at q
  · split at q
    · rename_i hl
      cases q
      obtain ⟨x, rfl, r⟩ := rx.one
      rw [r.str]
      exact ⟨_, _, rfl, ⟨hl, rfl⟩, k G H _ (Al.refl e) (.int _)⟩
    · cases q
  · split at q
    · rename_i hl
      cases q
      obtain ⟨x, rfl, r⟩ := rx.one
      rw [r.byt]
      exact ⟨_, _, rfl, ⟨hl, rfl⟩, k G H _ (Al.refl e) (.int _)⟩
    · cases q
  · cases q
    obtain ⟨x, rfl, r⟩ := rx.one
    obtain ⟨p, vs, rfl, h1, r1⟩ := r.lst e
    exact ⟨_, _, rfl, .inl ⟨vs, h1, rfl⟩, by rw [r1.length]; exact k G H _ (Al.refl e) (.int _)⟩
  · cases q
    obtain ⟨x, rfl, r⟩ := rx.one
    obtain ⟨p, vs, rfl, h1, r1⟩ := r.tup e
    exact ⟨_, _, rfl, .inr ⟨vs, h1, rfl⟩, by rw [r1.length]; exact k G H _ (Al.refl e) (.int _)⟩
  · cases q
def rIntX : List V → Hp → VK → Prop := fun xs H Q => (∃ i, xs = [.int i] ∧ Q (.int i) H) ∨ ∃ k, xs = [.bl k] ∧ Q (.int (if k then 1 else 0)) H
theorem call_intX : CallR X (.type "int") rIntX := call_int1
theorem sc_int : SC K rIntX D.toInt := fun G H xs ds z Q e rx q k => by
  unfold D.toInt at q
  split at q
  · cases q
    obtain ⟨x, rfl, r⟩ := rx.one
    rw [r.int]
    exact .inl ⟨_, rfl, k G H _ (Al.refl e) (.int _)⟩
  · cases q
    obtain ⟨x, rfl, r⟩ := rx.one
    rw [r.bl]
    exact .inr ⟨_, rfl, k G H _ (Al.refl e) (.int _)⟩
  · cases q
def rStrX : List V → Hp → VK → Prop := fun xs H Q => ∃ i, xs = [.int i] ∧ i.natAbs.log2 < 1920 ∧ Q (.str (toString i)) H
theorem call_strX : CallR X (.type "str") rStrX := call_str_int
theorem sc_str : SC K rStrX D.toStr := fun G H xs ds z Q e rx q k => by
  unfold D.toStr at q
  split at q
  · split at q
    · rename_i hl
      cases q
      obtain ⟨x, rfl, r⟩ := rx.one
      rw [r.int]
      exact ⟨_, rfl, hl, k G H _ (Al.refl e) (.str _)⟩
    · cases q
  · cases q
def rTupX (K : PySem.W.Frag) : List V → Hp → VK → Prop := fun xs H Q => ∃ p ys, xs = [.ref p] ∧ ((SqL K H p ys ∧ ∀ l, H l = none → Q (.ref l) (upd H l (.tup ys))) ∨ (SqT K H p ys ∧ Q (.ref p) H))
theorem call_tupX : CallR X (.type "tuple") (rTupX X.K) := call_tuple_of
theorem sc_tuple : SC K (rTupX K) D.toTuple := fun G H xs ds z Q e rx q k => by
  unfold D.toTuple at q
  split at q
  · cases q
    obtain ⟨x, rfl, r⟩ := rx.one
    obtain ⟨p, vs, rfl, h1, r1⟩ := r.lst e
    refine ⟨p, vs, rfl, .inl ⟨h1, fun l hl => ?_⟩⟩
    have a := Al.one (G := G) (p := l) (o := .tup vs) e hl
    exact k _ _ _ a (.tup (SqT.of upd_same) (r1.mono a.g))
  · cases q
    obtain ⟨x, rfl, r⟩ := rx.one
    have g := r.tupR
    obtain ⟨p, vs, rfl, h1, r1⟩ := r.tup e
    exact ⟨p, vs, rfl, .inr ⟨h1, k G H _ (Al.refl e) g⟩⟩
  · cases q
/-- list(xs), list(t): new -/
def D.seq : D → Option (List D)
  | .lst xs => some xs
  | .tup xs => some xs
  | _ => none
def rListX (K : PySem.W.Frag) : List V → Hp → VK → Prop := fun xs H Q => ∃ p ys, xs = [.ref p] ∧ (SqL K H p ys ∨ SqT K H p ys) ∧ ∀ l, H l = none → Q (.ref l) (upd H l (.lst ys))
theorem call_listX : CallR X (.type "list") (rListX X.K) := call_list_of
def dList (da : DE) : DF := fun ρ q er => da ρ (fun t ρ1 => Opt (rd ρ1 t) fun d => Opt d.seq fun ds => q (.lst ds) ρ1) er
theorem RepT.seq {G H : Hp} {v : V} {d : D} {ds : List D} (e : Ex G H) (r : RepT K G H v d) (h : d.seq = some ds) : ∃ p vs, v = .ref p ∧ (SqL K H p vs ∨ SqT K H p vs) ∧ Reps K G vs ds := by
  cases d with
  | lst xs => cases h; obtain ⟨p, vs, h1, h2, h3⟩ := r.lst e; exact ⟨p, vs, h1, .inl h2, h3⟩
  | tup xs => cases h; obtain ⟨p, vs, h1, h2, h3⟩ := r.tup e; exact ⟨p, vs, h1, .inr h2, h3⟩
  | _ => cases h
theorem fresh_no {pa : PaG} {F G H : Hp} {σ : RSt} {ρ : Ro} {p : Addr} (S : Sim K pa F G σ H ρ) (hp : H p = none) : ∀ (i : Nat) (s : Sl) (d : D), ρ[i]? = some s → s.ownD = some d → σ[i]? ≠ some (some (.ref p)) := fun i s d hs hd hσ => by
  obtain ⟨b, hb, _, ow⟩ := S.own i s d hs hd
  rw [hσ] at hb
  cases hb
  obtain ⟨o, ho⟩ := ow.some
  rw [hp] at ho
  cases ho
theorem sf_list {pa : PaG} {W : WX} {ta : TE} {da : DE} (ha : SE K pa W ta da) : SF K pa W (tCB (rListX K) (tCons ta tNil)) (dList da) := fun F G σ H ρ Q q er S h k x =>
  ha F G σ H ρ _ _ er S h (fun G1 H1 v t ρ1 e1 S1 r1 h1 => by
    obtain ⟨d, ed, ds, es, h2⟩ := h1
    obtain ⟨p, vs, rfl, hs, hr⟩ := RepT.seq S1.ex (S1.rdT r1 ed) es
    refine ⟨p, vs, rfl, hs, fun l hl => ?_⟩
    exact k G1 _ l (.lst ds) ρ1 e1 (S1.new hl) ⟨fresh_back S1.ex hl, fresh_back S1.fx hl⟩ ⟨vs, upd_same, hr⟩ (fresh_no S1 hl) h2) x
end
end DL
set_option autoImplicit false
set_option Elab.async false
set_option linter.all false
set_option maxRecDepth 100000
namespace DL
open PySem L2 Evl

/-! ### what is walked -/
def iAny (K : PySem.W.Frag) (te : TE) : TI := fun σ H R => te σ H fun x H1 =>
  (∃ a, x = .ref a ∧ (∃ xs, SqL K H1 a xs) ∧ R (Itl K a) H1) ∨ (∃ a, x = .ref a ∧ (∃ xs, SqT K H1 a xs) ∧ R (Itt K a) H1) ∨ ∃ y, x = .str y ∧ R (Its y) H1
section
variable {X : Cx} {tg : Expr}
open PySem.Spec PyProof.Rows in
theorem pi_any {l : Expr} {tl : TE} (hl : PE X l tl) : PI X tg l (iAny X.K tl) := by
  refine ⟨fun pins s σ H R I h => ?_⟩
  refine thn (hl.run pins s σ H _ I h) fun v s1 ⟨x, H1, I1, r1, q1⟩ => ?_
  rcases q1 with ⟨a, e, ⟨xs, hq⟩, q⟩ | ⟨a, e, ⟨xs, hq⟩, q⟩ | ⟨y, e, q⟩
  · subst e
    cases r1
    obtain ⟨its, rv, p, hz⟩ := I1.list hq
    refine wpAny_pyIter_list p.isList ?_
    refine ⟨s1.heap.objs.size, [s1.heap.objs.size], _, _, H1, rfl, I1.kept (t' := s1.toks) fun b o e => Heap.get?_push_of_some _ e, turn_list a _, ⟨_, Heap.get?_push_size _ rfl, rfl, rfl⟩, fun b hb => ?_, q⟩
    have e : b = s1.heap.objs.size := by simpa using hb
    subst e
    exact I1.fpOk (Nat.le_refl _) (I1.hok.fresh (Nat.le_refl _))
  · subst e
    cases r1
    obtain ⟨its, rv, p, hz⟩ := I1.tuple hq
    refine wpAny_pyIter_tuple (show s1.heap.IsTuple a its.toArray from p) ?_
    refine ⟨s1.heap.objs.size, [s1.heap.objs.size], _, _, H1, rfl, I1.kept (t' := s1.toks) fun b o e => Heap.get?_push_of_some _ e, turn_tuple a _, ⟨_, Heap.get?_push_size _ rfl, rfl, rfl⟩, fun b hb => ?_, q⟩
    have e : b = s1.heap.objs.size := by simpa using hb
    subst e
    exact I1.fpOk (Nat.le_refl _) (I1.hok.fresh (Nat.le_refl _))
  · subst e
    obtain ⟨t, rfl⟩ := r1
    cases ha : y.cps.all (· < 128)
    · exact wpAny_pyIter_wide ha (pi_one (tk := s1.toks) I1 _ (turn_str _ y t "str_iterator" (.inr rfl)) ⟨_, Heap.get?_push_size _ rfl, rfl, rfl⟩ q)
    · exact wpAny_pyIter_ascii ha (pi_one (tk := s1.toks) I1 _ (turn_str _ y t "str_ascii_iterator" (.inl rfl)) ⟨_, Heap.get?_push_size _ rfl, rfl, rfl⟩ q)
end
def D.items : D → Option (List D)
  | .lst xs => some xs
  | .tup xs => some xs
  | .str y => some (y.cps.toList.map fun c => .str ⟨#[c]⟩)
  | _ => none
/-- data alone is walked -/
def diAny (de : DE) : DI := fun ρ q er => de ρ (fun t ρ1 => match t with
  | .val d => Opt d.items fun ds => q ds ρ1
  | .bor _ => False) er
def diRng1 (de : DE) : DI := fun ρ q er => de ρ (fun t ρ1 => Opt (rd ρ1 t) fun d => match d with
  | .int j => (-(2 ^ 62) ≤ j ∧ j < 2 ^ 62) ∧ q ((List.range j.toNat).map fun (k : Nat) => .int (k : Int)) ρ1
  | _ => False) er
def diRng2 (da db : DE) : DI := fun ρ q er => da ρ (fun s ρ1 => db ρ1 (fun t ρ2 => Opt (rd ρ2 s) fun d => Opt (rd ρ2 t) fun e => match d, e with
  | .int i, .int j => (-(2 ^ 62) ≤ i ∧ i < 2 ^ 62 ∧ -(2 ^ 62) ≤ j ∧ j < 2 ^ 62) ∧ q ((List.range (j - i).toNat).map fun (k : Nat) => .int (i + (k : Int))) ρ2
  | _, _ => False) er) er
def enumD (ds : List D) : List D := ds.zipIdx.map fun p => .tup [.int (p.2 : Int), p.1]
def diEnum (de : DE) : DI := fun ρ q er => de ρ (fun t ρ1 => match t with
  | .val (.lst ds) => q (enumD ds) ρ1
  | _ => False) er
def diRev (de : DE) : DI := fun ρ q er => de ρ (fun t ρ1 => match t with
  | .val (.lst ds) => q ds.reverse ρ1
  | _ => False) er
section
variable {K : PySem.W.Frag} {pa : PaG} {W : WX} {te ta tb : TE} {de da db : DE}
theorem ItOk.mk0 {G : Hp} {J : It} {ds : List D} (h1 : ∀ i H, Ex G H → i < ds.length → J.go i H) (h2 : ∀ i H, Ex G H → ds.length ≤ i → J.stop i H)
    (h3 : ∀ i H x H', Ex G H → J.yld i H x H' → ∀ d, ds[i]? = some d → H' = H ∧ Rep K G x d) : ItOk K G J ds where
  go := h1
  stop := h2
  yld := fun i H x H' y G1 e1 e2 d hd => by
    obtain ⟨e, r⟩ := h3 i H x H' (e1.trans e2) y d hd
    subst e
    exact ⟨G1, Al.refl e2, r.mono e1⟩
theorem itOk_list {G : Hp} {a : Addr} {vs : List V} {ds : List D} (h : SqL K G a vs) (r : Reps K G vs ds) : ItOk K G (Itl K a) ds :=
  .mk0 (fun i H e hi => ⟨vs, vs[i]'(by rw [r.length]; exact hi), ex_l e h, by simp⟩) (fun i H e hi => ⟨vs, ex_l e h, by rw [r.length]; exact hi⟩)
    fun i H x H' e y d hd => by
      obtain ⟨e1, y⟩ := y
      obtain ⟨v, hv, rv⟩ := r.get hd
      have := y vs (ex_l e h)
      rw [hv] at this
      cases this
      exact ⟨e1, rv⟩
theorem itOk_tup {G : Hp} {a : Addr} {vs : List V} {ds : List D} (h : SqT K G a vs) (r : Reps K G vs ds) : ItOk K G (Itt K a) ds :=
  .mk0 (fun i H e hi => ⟨vs, vs[i]'(by rw [r.length]; exact hi), ex_t e h, by simp⟩) (fun i H e hi => ⟨vs, ex_t e h, by rw [r.length]; exact hi⟩)
    fun i H x H' e y d hd => by
      obtain ⟨e1, y⟩ := y
      obtain ⟨v, hv, rv⟩ := r.get hd
      have := y vs (ex_t e h)
      rw [hv] at this
      cases this
      exact ⟨e1, rv⟩
theorem itOk_str {G : Hp} (y : Str) : ItOk K G (Its y) (y.cps.toList.map fun c => .str ⟨#[c]⟩) :=
  .mk0 (fun i H e hi => by show i < y.cps.size; simpa using hi) (fun i H e hi => by show y.cps.size ≤ i; simpa using hi)
    fun i H x H' e h d hd => by
      obtain ⟨e1, c, hc, rfl⟩ := h
      rw [List.getElem?_map, Array.getElem?_toList, hc] at hd
      cases hd
      exact ⟨e1, .str _⟩
theorem itOk_rng {G : Hp} (lo : Int) (n : Nat) : ItOk K G (Itr lo n) ((List.range n).map fun (k : Nat) => .int (lo + (k : Int))) :=
  .mk0 (fun i H e hi => by show i < n; simpa using hi) (fun i H e hi => by show n ≤ i; simpa using hi)
    fun i H x H' e h d hd => by
      obtain ⟨e1, rfl⟩ := h
      rw [List.getElem?_map] at hd
      by_cases hi : i < n
      · rw [List.getElem?_range hi] at hd
        cases hd
        exact ⟨e1, .int _⟩
      · rw [List.getElem?_eq_none (by simpa using hi)] at hd
        cases hd
theorem enumD_get {ds : List D} {i : Nat} {d : D} (h : (enumD ds)[i]? = some d) : ∃ e, ds[i]? = some e ∧ d = .tup [.int (i : Int), e] := by
  unfold enumD at h
  rw [List.getElem?_map, List.getElem?_zipIdx] at h
  cases q : ds[i]? with
  | none => rw [q] at h; cases h
  | some e =>
    rw [q] at h
    simp at h
    exact ⟨e, rfl, h.symm⟩
theorem enumD_length (ds : List D) : (enumD ds).length = ds.length := by unfold enumD; simp
theorem itOk_enum {G : Hp} {a : Addr} {vs : List V} {ds : List D} (h : SqL K G a vs) (r : Reps K G vs ds) : ItOk K G (Ite K a) (enumD ds) where
  go := fun i H e hi => ⟨vs, vs[i]'(by rw [r.length, ← enumD_length]; exact hi), ex_l e h, by simp⟩
  stop := fun i H e hi => ⟨vs, ex_l e h, by rw [r.length, ← enumD_length]; exact hi⟩
  yld := fun i H x H' y G1 e1 e2 d hd => by
    obtain ⟨T, z, rfl, hT, rfl, hz⟩ := y
    obtain ⟨e, he, rfl⟩ := enumD_get hd
    obtain ⟨v, hv, rv⟩ := r.get he
    have := hz vs (ex_l (e1.trans e2) h)
    rw [hv] at this
    obtain rfl : v = z := Option.some.inj this
    have a := Al.one (G := G1) (p := T) (o := .tup [.int (i : Int), v]) e2 hT
    exact ⟨_, a, .tup (SqT.of upd_same) (.cons (.int _) (.cons ((rv.mono e1).mono a.g) .nil))⟩
theorem itOk_rev {G : Hp} {a : Addr} {vs : List V} {ds : List D} (h : SqL K G a vs) (r : Reps K G vs ds) : ItOk K G (Itv K a vs.length) ds.reverse :=
  .mk0 (fun i H e hi => by
      have hi : i < vs.length := by rw [r.length]; simpa using hi
      exact ⟨hi, vs, vs[vs.length - 1 - i]'(by omega), ex_l e h, by simp [show vs.length - 1 - i < vs.length by omega]⟩)
    (fun i H e hi => by show vs.length ≤ i; rw [r.length]; simpa using hi)
    fun i H x H' e y d hd => by
      obtain ⟨e1, y⟩ := y
      have hi : i < ds.length := by
        have := (List.getElem?_eq_some_iff.mp hd).1
        simpa using this
      rw [List.getElem?_reverse hi] at hd
      obtain ⟨v, hv, rv⟩ := r.get hd
      have := y vs (ex_l e h)
      rw [r.length, hv] at this
      cases this
      exact ⟨e1, rv⟩
theorem si_rev {pa : PaG} {W : WX} {te : TE} {de : DE} (he : SE K pa W te de) : SI K pa W (iRev K (tCons te tNil)) (diRev de) := fun F G σ H ρ R q er S h k x =>
  he F G σ H ρ _ _ er S h (fun G1 H1 v t ρ1 e1 S1 r1 h1 => by
    cases t with
    | bor i => exact h1.elim
    | val d =>
      have r1 : Rep K G1 v d := r1
      cases r1 with
      | lst hr rr => exact ⟨_, _, rfl, ex_l S1.ex hr, k G1 H1 _ _ ρ1 e1 S1 (itOk_rev hr rr) h1⟩
      | _ => exact h1.elim) x
theorem si_any (he : SE K pa W te de) : SI K pa W (iAny K te) (diAny de) := fun F G σ H ρ R q er S h k x =>
  he F G σ H ρ _ _ er S h (fun G1 H1 v t ρ1 e1 S1 r1 h1 => by
    cases t with
    | bor i => exact h1.elim
    | val d =>
      obtain ⟨ds, es, h2⟩ := h1
      have r1 : Rep K G1 v d := r1
      cases r1 with
      | lst hr rr => cases es; exact .inl ⟨_, rfl, ⟨_, ex_l S1.ex hr⟩, k G1 H1 _ ds ρ1 e1 S1 (itOk_list hr rr) h2⟩
      | tup hr rr => cases es; exact .inr (.inl ⟨_, rfl, ⟨_, ex_t S1.ex hr⟩, k G1 H1 _ ds ρ1 e1 S1 (itOk_tup hr rr) h2⟩)
      | str y => cases es; exact .inr (.inr ⟨y, rfl, k G1 H1 _ _ ρ1 e1 S1 (itOk_str y) h2⟩)
      | _ => cases es) x
theorem si_rng1 (he : SE K pa W te de) : SI K pa W (iRng1 (tCons te tNil)) (diRng1 de) := fun F G σ H ρ R q er S h k x =>
  he F G σ H ρ _ _ er S h (fun G1 H1 v t ρ1 e1 S1 r1 h1 => by
    obtain ⟨d, ed, h2⟩ := h1
    cases d with
    | int j =>
      rw [(S1.rdT r1 ed).int]
      have := itOk_rng (K := K) (G := G1) 0 j.toNat
      simp only [Int.zero_add] at this
      exact ⟨j, rfl, h2.1.1, h2.1.2, k G1 H1 _ _ ρ1 e1 S1 this h2.2⟩
    | _ => exact h2.elim) x
theorem si_rng2 (ha : SE K pa W ta da) (hb : SE K pa W tb db) : SI K pa W (iRng2 (tCons ta (tCons tb tNil))) (diRng2 da db) := fun F G σ H ρ R q er S h k x =>
  ha F G σ H ρ _ _ er S h (fun G1 H1 v s ρ1 e1 S1 r1 h1 => hb F G1 σ H1 ρ1 _ _ er S1 h1 (fun G2 H2 w t ρ2 e2 S2 r2 h2 => by
    obtain ⟨d, ed, e, ee, h3⟩ := h2
    cases d with
    | int i =>
      cases e with
      | int j =>
        rw [(S2.rdT (r1.mono e2) ed).int, (S2.rdT r2 ee).int]
        exact ⟨i, j, rfl, h3.1, k G2 H2 _ _ ρ2 (e1.trans e2) S2 (itOk_rng i _) h3.2⟩
      | _ => exact h3.elim
    | _ => exact h3.elim) (x.grow e1)) x
theorem si_enum (he : SE K pa W te de) : SI K pa W (iEnum K (tCons te tNil)) (diEnum de) := fun F G σ H ρ R q er S h k x =>
  he F G σ H ρ _ _ er S h (fun G1 H1 v t ρ1 e1 S1 r1 h1 => by
    cases t with
    | bor i => exact h1.elim
    | val d =>
      have r1 : Rep K G1 v d := r1
      cases r1 with
      | lst hr rr => exact ⟨_, _, rfl, ex_l S1.ex hr, k G1 H1 _ _ ρ1 e1 S1 (itOk_enum hr rr) h1⟩
      | _ => exact h1.elim) x
end

/-! ### for -/
def forL (g : DG) (db : DS) (DD : Do) : List D → Ro → Prop
  | [], ρ => DD.nx ρ
  | d :: ds, ρ => g (.val d) ρ fun ρ1 => db { DD with nx := forL g db DD ds, ct := forL g db DD ds, bk := DD.nx } ρ1
def dFor (di : DI) (g : DG) (db : DS) : DS := fun DD ρ => di ρ (fun ds ρ1 => forL g db DD ds ρ1) DD.er
section
variable {K : PySem.W.Frag} {pa : PaG} {W : WX} {wi : TI} {di : DI} {g : TG} {dg : DG} {tb : TS} {db : DS} {ns : List Nat}
theorem ss_for (hi : SI K pa W wi di) (hg : SG K pa ns g dg) (hb : SS K pa W tb db) : SS K pa W (tFor wi g tb) (dFor di dg db) := fun F G σ H ρ D DD S h l =>
  hi F G σ H ρ _ _ _ S h (fun G1 H1 J ds ρ1 e1 S1 ok h1 => by
    refine ⟨fun i m σ' H' => m = ds.length - i ∧ i ≤ ds.length ∧ ∃ G2 ρ2, Ex G1 G2 ∧ Sim K pa F G2 σ' H' ρ2 ∧ forL dg db DD (ds.drop i) ρ2, ⟨_, rfl, Nat.zero_le _, G1, ρ1, Ex.refl G1, S1, h1⟩, ?_⟩
    rintro i m σ' H' ⟨rfl, hi, G2, ρ2, e2, S2, h2⟩
    by_cases hlt : i < ds.length
    · rw [List.drop_eq_getElem_cons hlt] at h2
      refine .inr ⟨ok.go i H' (e2.trans S2.ex) hlt, fun σ' H' => ∃ G2 ρ2, Ex G1 G2 ∧ Sim K pa F G2 σ' H' ρ2 ∧ forL dg db DD (ds.drop (i + 1)) ρ2,
        fun σ3 H3 hN => ⟨ds.length - (i + 1), by omega, rfl, hlt, hN⟩, fun x H3 hy => ?_⟩
      obtain ⟨G3, a, r⟩ := ok.yld i H' x H3 hy G2 e2 S2.ex ds[i] (by simp [hlt])
      have S3 := S2.al a
      refine hg F G3 σ' H3 ρ2 x (.val ds[i]) _ _ S3 r h2 fun G4 σ4 H4 ρ4 e4 S4 _ h4 => ?_
      have eG : Ex G1 G4 := (e2.trans a.g).trans e4
      refine hb F G4 σ4 H4 ρ4 _ _ S4 h4 ⟨fun G5 σ5 H5 ρ5 e5 S5 h5 => ⟨G5, ρ5, eG.trans e5, S5, h5⟩, fun G5 σ5 H5 ρ5 e5 S5 h5 => l.nx G5 σ5 H5 ρ5 ((e1.trans eG).trans e5) S5 h5,
        fun G5 σ5 H5 ρ5 e5 S5 h5 => ⟨G5, ρ5, eG.trans e5, S5, h5⟩, fun G5 σ5 H5 ρ5 v t e5 => l.rt G5 σ5 H5 ρ5 v t ((e1.trans eG).trans e5), fun G5 σ5 H5 ρ5 v t e5 => l.rf G5 σ5 H5 ρ5 v t ((e1.trans eG).trans e5),
        fun G5 σ5 H5 ρ5 C y vs fs e5 => l.er G5 σ5 H5 ρ5 C y vs fs ((e1.trans eG).trans e5)⟩
    · have e : i = ds.length := by omega
      subst e
      rw [List.drop_length] at h2
      exact .inl ⟨ok.stop _ H' (e2.trans S2.ex) (Nat.le_refl _), l.nx G2 σ' H' ρ2 (e1.trans e2) S2 h2⟩) (l.xl σ)
end

/-! ### [e for x in xs if t] -/
def wipeD (ρ : Ro) : List Nat → Ro
  | [] => ρ
  | v :: vs => (wipeD ρ vs).set v .no
def lcL (g : DG) (t : DT) (de : DE) (vs : List Nat) (q : List D → Ro → Prop) : List D → List D → Ro → Prop
  | [], acc, ρ => q acc ρ
  | d :: ds, acc, ρ => g (.val d) (wipeD ρ vs) fun ρ1 => t ρ1 (fun b ρ2 => if b = true then de ρ2 (fun s ρ3 => match s with
      | .val y => acc.length < sizeLine ∧ lcL g t de vs q ds (acc ++ [y]) (wipeD ρ3 vs)
      | .bor _ => False) (fun _ _ _ => False) else lcL g t de vs q ds acc (wipeD ρ2 vs)) (fun _ _ _ => False)
def dLc (di : DI) (g : DG) (t : DT) (de : DE) (vs : List Nat) : DF := fun ρ q er => di ρ (fun ds ρ1 => lcL g t de vs (fun acc ρ2 => q (.lst acc) ρ2) ds [] ρ1) er
section
variable {K : PySem.W.Frag} {pa : PaG} {W : WX} {F G H : Hp} {σ : RSt} {ρ : Ro}
theorem wipeD_get (ρ : Ro) (j : Nat) : ∀ vs : List Nat, (wipeD ρ vs)[j]? = if j ∈ vs then (if j < ρ.length then some .no else none) else ρ[j]?
  | [] => by simp [wipeD]
  | v :: vs => by
    have ih := wipeD_get ρ j vs
    have hl : ∀ vs : List Nat, (wipeD ρ vs).length = ρ.length := by
      intro vs
      induction vs with
      | nil => rfl
      | cons a vs ih => unfold wipeD; rw [List.length_set, ih]
    unfold wipeD
    by_cases h : v = j
    · subst h
      rw [List.getElem?_set, if_pos rfl, hl, if_pos (List.mem_cons_self)]
    · rw [List.getElem?_set_ne h, ih]
      by_cases h2 : j ∈ vs
      · rw [if_pos h2, if_pos (List.mem_cons_of_mem _ h2)]
      · rw [if_neg h2, if_neg (fun z => by rcases List.mem_cons.mp z with z | z; exact h z.symm; exact h2 z)]
theorem wipeD_length (ρ : Ro) : ∀ vs : List Nat, (wipeD ρ vs).length = ρ.length
  | [] => rfl
  | v :: vs => by unfold wipeD; rw [List.length_set, wipeD_length ρ vs]
theorem wipeD_some {vs : List Nat} {j : Nat} {s : Sl} (h : (wipeD ρ vs)[j]? = some s) (hs : s ≠ .no) : j ∉ vs ∧ ρ[j]? = some s := by
  rw [wipeD_get] at h
  by_cases hj : j ∈ vs
  · rw [if_pos hj] at h
    split at h
    · cases h; exact absurd rfl hs
    · cases h
  · rw [if_neg hj] at h; exact ⟨hj, h⟩
/-- slots may be forgotten, on both sides -/
theorem Sim.wipeTo {σ' : RSt} {vs : List Nat} (S : Sim K pa F G σ H ρ) (h : wipe σ vs = wipe σ' vs) : Sim K pa F G σ' H (wipeD ρ vs) := by
  have hl : σ.length = σ'.length := by rw [← wipe_length σ vs, h, wipe_length]
  have get : ∀ j, j ∉ vs → σ[j]? = σ'[j]? := fun j hj => by
    have := congrArg (fun l => l[j]?) h
    simp only [wipe_get, if_neg hj] at this
    exact this
  have ne : ∀ {s : Sl} {d : D}, s.ownD = some d → s ≠ .no := fun {s d} e z => by subst z; cases e
  exact {
    len := by rw [wipeD_length, S.len, hl]
    ex := S.ex
    fx := S.fx
    dj := S.dj
    ofr := fun i s d p e hd hs => by
      obtain ⟨hi, e⟩ := wipeD_some e (ne hd)
      rw [← get i hi] at hs; exact S.ofr i s d p e hd hs
    val := fun i d e => by
      obtain ⟨hi, e⟩ := wipeD_some e (fun z => by cases z)
      rw [← get i hi]; exact S.val i d e
    own := fun i s d e hd => by
      obtain ⟨hi, e⟩ := wipeD_some e (ne hd)
      rw [← get i hi]; exact S.own i s d e hd
    par := fun i d e => by
      obtain ⟨hi, e⟩ := wipeD_some e (fun z => by cases z)
      rw [← get i hi]; exact S.par i d e
    gx := S.gx
    dis := fun i j s t d e p hij h1 h2 h3 h4 h5 h6 => by
      obtain ⟨hi, h1⟩ := wipeD_some h1 (ne h2)
      obtain ⟨hj, h3⟩ := wipeD_some h3 (ne h4)
      rw [← get i hi] at h5
      rw [← get j hj] at h6
      exact S.dis i j s t d e p hij h1 h2 h3 h4 h5 h6 }
/-- an object that stays as it is, for a while -/
theorem Sim.frameIn {D : Addr} {o : HO} (S : Sim K pa F G σ H ρ) (gD : G D = none) (hD : H D = some o) (fr : ∀ (i : Nat) (s : Sl) (d : DL.D), ρ[i]? = some s → s.ownD = some d → σ[i]? ≠ some (some (.ref D))) : Sim K pa (upd F D o) G σ H ρ where
  len := S.len
  ex := S.ex
  fx := fun b u q => by
    by_cases hb : b = D
    · subst hb; rw [upd_same] at q; cases q; exact hD
    · rw [upd_ne hb] at q; exact S.fx b u q
  dj := fun b u q => by
    by_cases hb : b = D
    · rw [hb]; exact gD
    · rw [upd_ne hb] at q; exact S.dj b u q
  val := S.val
  own := S.own
  ofr := fun i s d p h1 h2 h3 => by rw [upd_ne (fun z => fr i s d h1 h2 (by rw [h3, z]))]; exact S.ofr i s d p h1 h2 h3
  par := S.par
  gx := S.gx
  dis := S.dis
theorem xl_none {W : WX} {σ : RSt} : XL K pa F G W σ (fun _ _ _ => False) := fun _ _ _ _ _ _ _ _ _ h => h.elim
theorem sf_lc {wi : TI} {di : DI} {g : TG} {dg : DG} {tt : TT} {dt : DT} {te : TE} {de : DE} {vs ns : List Nat} (hn : ∀ i ∈ ns, i ∈ vs) (hi : SI K pa W wi di) (hg : SG K pa ns g dg) (ht : ST K pa W tt dt) (he : SE K pa W te de) : SF K pa W (tLc wi g tt te vs) (dLc di dg dt de vs) := fun F G σ H ρ Q q er S h k x =>
  hi F G σ H ρ _ _ _ S h (fun G1 H1 J ds ρ1 e1 S1 ok h1 => by
    intro D hD
    have fF : F D = none := fresh_back S1.fx hD
    have S1' : Sim K pa F G1 σ (upd H1 D (.lst [])) ρ1 := S1.new hD
    refine ⟨fun i m H' => m = ds.length - i ∧ i ≤ ds.length ∧ ∃ G2 ρ2 acc av, Ex G1 G2 ∧ Sim K pa F G2 σ H' ρ2 ∧ G2 D = none ∧ H' D = some (.lst av) ∧ Reps K G2 av acc ∧ (∀ (i : Nat) (s : Sl) (d : DL.D), ρ2[i]? = some s → s.ownD = some d → σ[i]? ≠ some (some (.ref D))) ∧ lcL dg dt de vs (fun acc ρ2 => q (.lst acc) ρ2) (ds.drop i) acc ρ2,
      ⟨_, rfl, Nat.zero_le _, G1, ρ1, [], [], Ex.refl G1, S1', fresh_back S1.ex hD, upd_same, .nil, fresh_no S1 hD, h1⟩, ?_⟩
    rintro i m H' ⟨rfl, hi, G2, ρ2, acc, av, e2, S2, gD, hHD, ra, fr, h2⟩
    by_cases hlt : i < ds.length
    · rw [List.drop_eq_getElem_cons hlt] at h2
      refine .inr ⟨ok.go i H' (e2.trans S2.ex) hlt, fun H' => ∃ G2 ρ2 acc av, Ex G1 G2 ∧ Sim K pa F G2 σ H' ρ2 ∧ G2 D = none ∧ H' D = some (.lst av) ∧ Reps K G2 av acc ∧ (∀ (i : Nat) (s : Sl) (d : DL.D), ρ2[i]? = some s → s.ownD = some d → σ[i]? ≠ some (some (.ref D))) ∧ lcL dg dt de vs (fun acc ρ2 => q (.lst acc) ρ2) (ds.drop (i + 1)) acc ρ2,
        fun H3 hN => ⟨ds.length - (i + 1), by omega, rfl, hlt, hN⟩, fun x H3 hy => ?_⟩
      obtain ⟨G3, a, r⟩ := ok.yld i H' x H3 hy G2 e2 S2.ex ds[i] (by simp [hlt])
      have hD3 : H3 D = some (.lst av) := a.h D _ hHD
      have S3 : Sim K pa (upd F D (.lst av)) G3 (wipe σ vs) H3 (wipeD ρ2 vs) := ((S2.al a).frameIn (a.n D gD (by rw [hHD]; simp)) hD3 fr).wipeTo wipe_wipe.symm
      refine hg _ G3 _ H3 _ x (.val ds[i]) _ _ S3 r h2 fun G4 σ4 H4 ρ4 e4 S4 w4 h4 => ?_
      have ws : wipe σ4 vs = wipe σ vs := by rw [w4 vs hn, wipe_wipe]
      refine ⟨ws, ht _ G4 σ4 H4 ρ4 _ _ _ S4 h4 (fun G5 H5 b ρ5 e5 S5 h5 => ?_) xl_none⟩
      have back : ∀ {G6 H6 : Hp} {ρ6 : Ro}, Sim K pa (upd F D (.lst av)) G6 σ4 H6 ρ6 → H6 D = some (.lst av) ∧ G6 D = none ∧ Sim K pa F G6 σ H6 (wipeD ρ6 vs) ∧ (∀ (i : Nat) (s : Sl) (d : DL.D), (wipeD ρ6 vs)[i]? = some s → s.ownD = some d → σ[i]? ≠ some (some (.ref D))) := fun {G6 H6 ρ6} S6 => by
        have S7 := S6.wipeTo (σ' := σ) ws
        refine ⟨S6.fx D _ upd_same, S6.dj D _ upd_same, S7.frame (Ex.new fF), fun i s d h1 h2 h3 => ?_⟩
        have := S7.ofr i s d D h1 h2 h3
        rw [upd_same] at this
        cases this
      cases b with
      | false =>
        obtain ⟨b1, b2, b3, b4⟩ := back S5
        exact ⟨G5, _, acc, av, ((e2.trans a.g).trans e4).trans e5, b3, b2, b1, ra.mono ((a.g.trans e4).trans e5), b4, h5⟩
      | true =>
        refine he _ G5 σ4 H5 ρ5 _ _ _ S5 h5 (fun G6 H6 y s ρ6 e6 S6 r6 h6 => ?_) xl_none
        obtain ⟨b1, b2, b3, b4⟩ := back S6
        cases s with
        | bor _ => exact h6.elim
        | val dy =>
          have ra6 := ra.mono (((a.g.trans e4).trans e5).trans e6)
          refine ⟨av, b1, by rw [ra.length]; exact h6.1, G6, _, acc ++ [dy], av ++ [y], (((e2.trans a.g).trans e4).trans e5).trans e6, ?_, b2, upd_same, ra6.append (.cons r6 .nil), b4, h6.2⟩
          refine b3.grow (Ex.refl G6) (fun b o q => ?_) (fun b o q => ?_) b3.dj fun i s d p h1 h2 h3 => ⟨?_, ?_⟩
          · rw [upd_ne (fun z => by rw [z, b2] at q; cases q)]; exact b3.ex b o q
          · rw [upd_ne (fun z => by rw [z, fF] at q; cases q)]; exact b3.fx b o q
          · obtain ⟨b', q1, q2, _⟩ := b3.own i s d h1 h2
            rw [h3] at q1
            cases q1
            exact q2
          · exact upd_ne fun z => b4 i s d h1 h2 (by rw [h3, z])
    · have e : i = ds.length := by omega
      subst e
      rw [List.drop_length] at h2
      exact .inl ⟨ok.stop _ H' (e2.trans S2.ex) (Nat.le_refl _), k G2 H' D (.lst acc) ρ2 (e1.trans e2) S2 ⟨gD, fF⟩ ⟨av, hHD, ra⟩ fr h2⟩) x
end
end DL
set_option autoImplicit false
set_option Elab.async false
set_option linter.all false
set_option maxRecDepth 100000
namespace DL
open PySem L2 Evl

/-! ### a def by what it does on data -/
/-- the arguments (plain data, or objects that the caller owns), what is wanted of the answer and of those objects behind it, what of an exception -/
abbrev DSp := List Sl → (D → List D → Prop) → (Addr → List (Str × D) → List D → Prop) → Prop
def outs (ρ : Ro) : List Nat → Option (List D)
  | [] => some []
  | i :: is => match ρ[i]? with
    | some (.par d) => (outs ρ is).map fun ds => d :: ds
    | _ => none
def parIx : List Sl → Nat → List Nat
  | [], _ => []
  | .par _ :: r, i => i :: parIx r (i + 1)
  | _ :: r, i => parIx r (i + 1)
/-- the objects that are handed over, behind the call -/
inductive Outs (K : PySem.W.Frag) (G H : Hp) : List V → List Sl → List D → Prop
  | nil : Outs K G H [] [] []
  | val {v : V} {d : D} {vs : List V} {av : List Sl} {os : List D} : Outs K G H vs av os → Outs K G H (v :: vs) (.val d :: av) os
  | par {p : Addr} {d e : D} {vs : List V} {av : List Sl} {os : List D} : G p = none → OwnAt K G H p e → Outs K G H vs av os → Outs K G H (.ref p :: vs) (.par d :: av) (e :: os)
inductive ArgsR (K : PySem.W.Frag) (F G H : Hp) : List V → List Sl → Prop
  | nil : ArgsR K F G H [] []
  | val {v : V} {d : D} {vs : List V} {av : List Sl} : Rep K G v d → ArgsR K F G H vs av → ArgsR K F G H (v :: vs) (.val d :: av)
  | par {p : Addr} {d : D} {vs : List V} {av : List Sl} : G p = none → F p = none → OwnAt K G H p d → ArgsR K F G H vs av → ArgsR K F G H (.ref p :: vs) (.par d :: av)
def parA : V → Sl → List Addr
  | .ref p, .par _ => [p]
  | _, _ => []
def parsOf : List V → List Sl → List Addr
  | v :: vs, a :: av => parA v a ++ parsOf vs av
  | _, _ => []
/-- a def that hands over plain data -/
def SpV (K : PySem.W.Frag) (n : Nat) (dsp : DSp) : Sp := fun vs H Q E => ∃ F G av, vs.length = n ∧ Ex G H ∧ Ex F H ∧ (∀ b o, F b = some o → G b = none) ∧ ArgsR K F G H vs av ∧ (parsOf vs av).Nodup ∧ ∃ q er, dsp av q er ∧
  (∀ G' H' v d os, Ex G G' → Ex G' H' → Ex F H' → (∀ b o, F b = some o → G' b = none) → Outs K G' H' vs av os → Rep K G' v d → q d os → Q v H') ∧
  (∀ G' H' C y fv fs os, Ex G G' → Ex G' H' → Ex F H' → (∀ b o, F b = some o → G' b = none) → Outs K G' H' vs av os → G' y = some (.xd fv) → RepF K G' fv fs → er C fs os → E (.ref C) (some y) H')
/-- .. a new object -/
def SpF (K : PySem.W.Frag) (n : Nat) (dsp : DSp) : Sp := fun vs H Q E => ∃ F G av, vs.length = n ∧ Ex G H ∧ Ex F H ∧ (∀ b o, F b = some o → G b = none) ∧ ArgsR K F G H vs av ∧ (parsOf vs av).Nodup ∧ ∃ q er, dsp av q er ∧
  (∀ G' H' p d os, Ex G G' → Ex G' H' → Ex F H' → (∀ b o, F b = some o → G' b = none) → Outs K G' H' vs av os → G' p = none → F p = none → p ∉ parsOf vs av → OwnAt K G' H' p d → q d os → Q (.ref p) H') ∧
  (∀ G' H' C y fv fs os, Ex G G' → Ex G' H' → Ex F H' → (∀ b o, F b = some o → G' b = none) → Outs K G' H' vs av os → G' y = some (.xd fv) → RepF K G' fv fs → er C fs os → E (.ref C) (some y) H')
/-- the body's word as a def's -/
def doV (av : List Sl) (q : D → List D → Prop) (er : Addr → List (Str × D) → List D → Prop) : Do where
  nx := fun ρ => Opt (outs ρ (parIx av 0)) fun os => q .non os
  rt := fun t ρ => match t with
    | .val d => Opt (outs ρ (parIx av 0)) fun os => q d os
    | .bor _ => False
  er := fun C fs ρ => Opt (outs ρ (parIx av 0)) fun os => er C fs os
def dBody (N : Nat) (body : DS) : DSp := fun av q er => body (doV av q er) (av ++ List.replicate (N - av.length) .no)
/-- .. that hands over a new object, or one of its own -/
def doF (av : List Sl) (q : D → List D → Prop) (er : Addr → List (Str × D) → List D → Prop) : Do where
  nx := fun _ => False
  rt := fun t ρ => match t with
    | .val _ => False
    | .bor i => match ρ[i]? with
      | some (.own d) => Opt (outs ρ (parIx av 0)) fun os => q d os
      | _ => False
  rf := fun d ρ => Opt (outs ρ (parIx av 0)) fun os => q d os
  er := fun C fs ρ => Opt (outs ρ (parIx av 0)) fun os => er C fs os
def dBodyF (N : Nat) (body : DS) : DSp := fun av q er => body (doF av q er) (av ++ List.replicate (N - av.length) .no)

section
variable {K : PySem.W.Frag} {F G H : Hp}
def paF (vs : List V) (i : Nat) : Addr := match vs[i]? with
  | some (.ref p) => p
  | _ => 0
def paOf (vs : List V) : PaG := ⟨paF vs, fun _ => none⟩
theorem ArgsR.length : ∀ {vs : List V} {av : List Sl}, ArgsR K F G H vs av → vs.length = av.length
  | _, _, .nil => rfl
  | _, _, .val _ r => by rw [List.length_cons, List.length_cons, r.length]
  | _, _, .par _ _ _ r => by rw [List.length_cons, List.length_cons, r.length]
theorem ArgsR.get : ∀ {vs : List V} {av : List Sl} {i : Nat} {s : Sl}, ArgsR K F G H vs av → av[i]? = some s → ∃ v, vs[i]? = some v ∧ ((∃ d, s = .val d ∧ Rep K G v d) ∨ ∃ d p, s = .par d ∧ v = .ref p ∧ G p = none ∧ F p = none ∧ OwnAt K G H p d)
  | _, _, _, _, .nil, e => by simp at e
  | _, _, 0, _, .val h _, e => by simp at e; subst e; exact ⟨_, rfl, .inl ⟨_, rfl, h⟩⟩
  | _, _, 0, _, .par h1 h2 h3 _, e => by simp at e; subst e; exact ⟨_, rfl, .inr ⟨_, _, rfl, rfl, h1, h2, h3⟩⟩
  | _, _, i + 1, _, .val _ r, e => by
    obtain ⟨v, h1, h2⟩ := ArgsR.get (i := i) r (by simpa using e)
    exact ⟨v, by simpa using h1, h2⟩
  | _, _, i + 1, _, .par _ _ _ r, e => by
    obtain ⟨v, h1, h2⟩ := ArgsR.get (i := i) r (by simpa using e)
    exact ⟨v, by simpa using h1, h2⟩
theorem parsOf_mem : ∀ {vs : List V} {av : List Sl} {i : Nat} {d : D} {p : Addr}, av[i]? = some (.par d) → vs[i]? = some (.ref p) → p ∈ parsOf vs av
  | [], _, _, _, _, _, h => by simp at h
  | _ :: _, [], _, _, _, h, _ => by simp at h
  | v :: vs, a :: av, 0, d, p, h1, h2 => by
    simp at h1 h2
    subst h1 h2
    exact List.mem_append_left _ List.mem_cons_self
  | v :: vs, a :: av, i + 1, d, p, h1, h2 => List.mem_append_right _ (parsOf_mem (vs := vs) (av := av) (i := i) (d := d) (p := p) (by simpa using h1) (by simpa using h2))
theorem parsOf_dis : ∀ {vs : List V} {av : List Sl} {i j : Nat} {d e : D} {p : Addr}, (parsOf vs av).Nodup → i ≠ j → av[i]? = some (.par d) → av[j]? = some (.par e) → vs[i]? = some (.ref p) → vs[j]? = some (.ref p) → False
  | [], _, _, _, _, _, _, _, _, _, _, h, _ => by simp at h
  | _ :: _, [], _, _, _, _, _, _, _, h, _, _, _ => by simp at h
  | v :: vs, a :: av, 0, 0, d, e, p, hn, h, _, _, _, _ => h rfl
  | v :: vs, a :: av, 0, j + 1, d, e, p, hn, _, h1, h2, h3, h4 => by
    simp at h1 h3
    subst h1 h3
    have := parsOf_mem (vs := vs) (av := av) (i := j) (d := e) (p := p) (by simpa using h2) (by simpa using h4)
    have hn : ([p] ++ parsOf vs av).Nodup := hn
    exact (List.nodup_cons.mp hn).1 this
  | v :: vs, a :: av, i + 1, 0, d, e, p, hn, _, h1, h2, h3, h4 => by
    simp at h2 h4
    subst h2 h4
    have := parsOf_mem (vs := vs) (av := av) (i := i) (d := d) (p := p) (by simpa using h1) (by simpa using h3)
    have hn : ([p] ++ parsOf vs av).Nodup := hn
    exact (List.nodup_cons.mp hn).1 this
  | v :: vs, a :: av, i + 1, j + 1, d, e, p, hn, hij, h1, h2, h3, h4 => by
    have hn : (parA v a ++ parsOf vs av).Nodup := hn
    exact parsOf_dis (vs := vs) (av := av) (i := i) (j := j) (List.nodup_append.mp hn).2.1 (fun z => hij (by rw [z])) (by simpa using h1) (by simpa using h2) (by simpa using h3) (by simpa using h4)
theorem start_get {N : List Str} {vs : List V} {i : Nat} {v : V} (h : vs[i]? = some v) : (L2.start N vs)[i]? = some (some v) := by
  unfold L2.start
  have hi : i < vs.length := (List.getElem?_eq_some_iff.mp h).1
  rw [List.getElem?_append_left (by simpa using hi), List.getElem?_map, h]
  rfl
theorem args_get {av : List Sl} {n i : Nat} {s : Sl} (h : (av ++ List.replicate n .no)[i]? = some s) (hs : s ≠ .no) : av[i]? = some s := by
  by_cases hi : i < av.length
  · rw [List.getElem?_append_left hi] at h; exact h
  · rw [List.getElem?_append_right (by omega)] at h
    rw [List.getElem?_replicate] at h
    split at h
    · cases h; exact absurd rfl hs
    · cases h
theorem args_own {s : Sl} {d : D} (h : s.ownD = some d) (hn : ∀ e, s ≠ .own e) : s = .par d := by
  cases s with
  | par e => cases h; rfl
  | own e => exact absurd rfl (hn e)
  | val e => cases h
  | no => cases h
/-- where a def's body begins -/
theorem sim_start {N : List Str} {vs : List V} {av : List Sl} (eg : Ex G H) (ef : Ex F H) (dj : ∀ b o, F b = some o → G b = none) (r : ArgsR K F G H vs av) (nd : (parsOf vs av).Nodup) (hN : vs.length ≤ N.length) :
    Sim K (paOf vs) F G (L2.start N vs) H (av ++ List.replicate (N.length - av.length) .no) := by
  have own : ∀ (i : Nat) (s : Sl) (d : D), (av ++ List.replicate (N.length - av.length) .no)[i]? = some s → s.ownD = some d → av[i]? = some (.par d) ∧ ∃ p, vs[i]? = some (.ref p) ∧ G p = none ∧ F p = none ∧ OwnAt K G H p d := fun i s d h hd => by
    have h := args_get h (fun z => by subst z; cases hd)
    obtain ⟨v, hv, q⟩ := r.get h
    rcases q with ⟨d', rfl, _⟩ | ⟨d', p, rfl, rfl, h1, h2, h3⟩
    · cases hd
    · cases hd; exact ⟨h, p, hv, h1, h2, h3⟩
  refine ⟨?_, eg, ef, dj, fun i d h => ?_, fun i s d h hd => ?_, fun i s d p h hd hp => ?_, fun i d h => ?_, fun _ _ q => (by cases q), fun i j s t d e p hij h1 h2 h3 h4 h5 h6 => ?_⟩
  · unfold L2.start
    rw [List.length_append, List.length_append, List.length_map, List.length_replicate, List.length_replicate, r.length]
  · have h := args_get h (fun z => by cases z)
    obtain ⟨v, hv, q⟩ := r.get h
    rcases q with ⟨d', e, hr⟩ | ⟨d', p, e, _⟩
    · cases e; exact ⟨v, start_get hv, hr⟩
    · cases e
  · obtain ⟨_, p, h1, h2, h3, h4⟩ := own i s d h hd
    exact ⟨p, start_get h1, h2, h4⟩
  · obtain ⟨_, p', h1, h2, h3, h4⟩ := own i s d h hd
    have := start_get (N := N) h1
    rw [hp] at this
    cases this
    exact h3
  · obtain ⟨_, p', h1, h2, h3, h4⟩ := own i _ d h rfl
    rw [start_get h1, show (paOf vs).f i = paF vs i from rfl]
    unfold paF
    rw [h1]
  · obtain ⟨a1, p1, b1, _⟩ := own i s d h1 h2
    obtain ⟨a2, p2, b2, _⟩ := own j t e h3 h4
    have c1 := start_get (N := N) b1
    have c2 := start_get (N := N) b2
    rw [h5] at c1
    rw [h6] at c2
    cases c1
    cases c2
    exact parsOf_dis nd hij a1 a2 b1 b2
/-- .. and where it ends -/
theorem outs_end {G' H' : Hp} {σ' : RSt} {ρ' : Ro} {vs0 : List V} (S : Sim K (paOf vs0) F G' σ' H' ρ') : ∀ {vs : List V} {av : List Sl} {k : Nat} {os : List D}, ArgsR K F G H vs av → (∀ i v, vs[i]? = some v → vs0[i + k]? = some v) → outs ρ' (parIx av k) = some os → Outs K G' H' vs av os
  | _, _, _, _, .nil, _, e => by cases e; exact .nil
  | _, _, k, _, .val _ r, h0, e => .val (outs_end S (k := k + 1) r (fun i v h => by have := h0 (i + 1) v (by simpa using h); rw [Nat.add_assoc, Nat.add_comm 1 k] at this; exact this) e)
  | .ref p :: vs, .par d0 :: av, k, os, .par h1 h2 h3 r, h0, e => by
    unfold parIx outs at e
    cases q : ρ'[k]? with
    | none => rw [q] at e; cases e
    | some s =>
      rw [q] at e
      cases s with
      | par d =>
        have e : (outs ρ' (parIx av (k + 1))).map (fun ds => d :: ds) = some os := e
        cases q2 : outs ρ' (parIx av (k + 1)) with
        | none => rw [q2] at e; cases e
        | some os' =>
          rw [q2] at e
          cases e
          obtain ⟨b, b1, b2, b3⟩ := S.own k _ d q rfl
          have b4 := S.par k d q
          have h00 := h0 0 _ rfl
          rw [Nat.zero_add] at h00
          rw [b4] at b1
          cases b1
          have ep : (paOf vs0).f k = p := by rw [show (paOf vs0).f k = paF vs0 k from rfl]; unfold paF; rw [h00]
          rw [ep] at b2 b3
          exact .par b2 b3 (outs_end S (k := k + 1) r (fun i v h => by have := h0 (i + 1) v (by simpa using h); rw [Nat.add_assoc, Nat.add_comm 1 k] at this; exact this) q2)
      | _ => cases e
theorem bodyV {N : List Str} {n : Nat} {ts : TS} {ds : DS} {vs : List V} {Q : VK} {E : XK} (h : SS K (paOf vs) (fun cls d _ H => E cls d H) ts ds) (hn : n ≤ N.length) (hs : SpV K n (dBody N.length ds) vs H Q E) :
    ts { nx := fun _ H' => Q .non H', rt := Q } (L2.start N vs) H := by
  obtain ⟨F, G, av, hl, eg, ef, dj, r, nd, q, er, hd, kq, ke⟩ := hs
  have S := sim_start (N := N) eg ef dj r nd (by omega)
  have fin : ∀ {G' H' : Hp} {σ' : RSt} {ρ' : Ro} {os : List D}, Sim K (paOf vs) F G' σ' H' ρ' → outs ρ' (parIx av 0) = some os → Outs K G' H' vs av os := fun {G' H' σ' ρ' os} S' e => outs_end S' r (fun i v h => h) e
  refine h F G _ H _ _ _ S hd ⟨fun G' σ' H' ρ' e S' q' => ?_, fun _ _ _ _ _ _ q' => q'.elim, fun _ _ _ _ _ _ q' => q'.elim, fun G' σ' H' ρ' v t e S' r' q' => ?_, fun _ _ _ _ _ _ _ _ _ _ _ q' => q'.elim, fun G' σ' H' ρ' C d vs' fs e S' q' h1 h2 => ?_⟩
  · obtain ⟨os, eo, q'⟩ := q'
    exact kq G' H' .non .non os e S'.ex S'.fx S'.dj (fin S' eo) .non q'
  · cases t with
    | bor i => exact q'.elim
    | val d =>
      obtain ⟨os, eo, q'⟩ := q'
      exact kq G' H' v d os e S'.ex S'.fx S'.dj (fin S' eo) r' q'
  · obtain ⟨os, eo, q'⟩ := q'
    exact ke G' H' C d vs' fs os e S'.ex S'.fx S'.dj (fin S' eo) h1 h2 q'
theorem par_in : ∀ {vs : List V} {av : List Sl} {p : Addr}, ArgsR K F G H vs av → p ∈ parsOf vs av → ∃ (i : Nat) (d : D), av[i]? = some (Sl.par d) ∧ vs[i]? = some (V.ref p)
  | _, _, p, .nil, h => by cases h
  | v :: vs, .val d :: av, p, .val _ r, h => by
    have e : parA v (.val d) = [] := by cases v <;> rfl
    unfold parsOf at h
    rw [e, List.nil_append] at h
    obtain ⟨i, d', h1, h2⟩ := par_in r h
    exact ⟨i + 1, d', by simpa using h1, by simpa using h2⟩
  | .ref b :: vs, .par d :: av, p, .par _ _ _ r, h => by
    have h : p ∈ [b] ++ parsOf vs av := h
    rcases List.mem_append.mp h with h | h
    · have : p = b := by simpa using h
      subst this
      exact ⟨0, d, rfl, rfl⟩
    · obtain ⟨i, d', h1, h2⟩ := par_in r h
      exact ⟨i + 1, d', by simpa using h1, by simpa using h2⟩
theorem outs_at {ρ : Ro} : ∀ {av : List Sl} {k i : Nat} {d : D} {os : List D}, outs ρ (parIx av k) = some os → av[i]? = some (.par d) → ∃ e, ρ[i + k]? = some (.par e)
  | [], _, _, _, _, _, h => by simp at h
  | a :: av, k, i, d, os, h, ha => by
    cases i with
    | zero =>
      simp at ha
      subst ha
      unfold parIx outs at h
      rw [Nat.zero_add]
      cases q : ρ[k]? with
      | none => rw [q] at h; cases h
      | some s =>
        rw [q] at h
        cases s with
        | par e => exact ⟨e, rfl⟩
        | _ => cases h
    | succ i =>
      have ha : av[i]? = some (.par d) := by simpa using ha
      have hk : ∃ os', outs ρ (parIx av (k + 1)) = some os' := by
        cases a with
        | par e =>
          unfold parIx outs at h
          cases q : ρ[k]? with
          | none => rw [q] at h; cases h
          | some s =>
            rw [q] at h
            cases s with
            | par e =>
              have h : (outs ρ (parIx av (k + 1))).map (fun ds => e :: ds) = some os := h
              cases q2 : outs ρ (parIx av (k + 1)) with
              | none => rw [q2] at h; cases h
              | some os' => exact ⟨os', rfl⟩
            | _ => cases h
        | _ => exact ⟨os, h⟩
      obtain ⟨os', h'⟩ := hk
      obtain ⟨e, he⟩ := outs_at h' ha
      exact ⟨e, by rw [Nat.add_assoc, Nat.add_comm 1 k]; exact he⟩
theorem bodyF {N : List Str} {n : Nat} {ts : TS} {ds : DS} {vs : List V} {Q : VK} {E : XK} (h : SS K (paOf vs) (fun cls d _ H => E cls d H) ts ds) (hn : n ≤ N.length) (hs : SpF K n (dBodyF N.length ds) vs H Q E) :
    ts { nx := fun _ H' => Q .non H', rt := Q } (L2.start N vs) H := by
  obtain ⟨F, G, av, hl, eg, ef, dj, r, nd, q, er, hd, kq, ke⟩ := hs
  have S := sim_start (N := N) eg ef dj r nd (by omega)
  have fin : ∀ {G' H' : Hp} {σ' : RSt} {ρ' : Ro} {os : List D}, Sim K (paOf vs) F G' σ' H' ρ' → outs ρ' (parIx av 0) = some os → Outs K G' H' vs av os := fun {G' H' σ' ρ' os} S' e => outs_end S' r (fun i v h => h) e
  have notin : ∀ {G' H' : Hp} {σ' : RSt} {ρ' : Ro} {os : List D} {p : Addr}, Sim K (paOf vs) F G' σ' H' ρ' → outs ρ' (parIx av 0) = some os → (∀ (i : Nat) (e : D), ρ'[i]? = some (.par e) → σ'[i]? ≠ some (some (.ref p))) → p ∉ parsOf vs av := fun {G' H' σ' ρ' os p} S' eo hp hm => by
    obtain ⟨i, d, h1, h2⟩ := par_in r hm
    obtain ⟨e, he⟩ := outs_at eo h1
    rw [Nat.add_zero] at he
    refine hp i e he ?_
    rw [S'.par i e he, show (paOf vs).f i = paF vs i from rfl]
    unfold paF
    rw [h2]
  refine h F G _ H _ _ _ S hd ⟨fun _ _ _ _ _ _ q' => q'.elim, fun _ _ _ _ _ _ q' => q'.elim, fun _ _ _ _ _ _ q' => q'.elim, fun G' σ' H' ρ' v t e S' r' q' => ?_, fun G' σ' H' ρ' p d e S' gp ow fr q' => ?_, fun G' σ' H' ρ' C d vs' fs e S' q' h1 h2 => ?_⟩
  · cases t with
    | val d => exact q'.elim
    | bor i =>
      have q' : (match ρ'[i]? with | some (.own d) => Opt (outs ρ' (parIx av 0)) fun os => q d os | _ => False) := q'
      have r' : σ'[i]? = some (some v) := r'
      cases ei : ρ'[i]? with
      | none => rw [ei] at q'; exact q'.elim
      | some s =>
        rw [ei] at q'
        cases s with
        | own d =>
          obtain ⟨os, eo, q'⟩ := q'
          obtain ⟨p, h1, h2, h3⟩ := S'.own i _ d ei rfl
          rw [r'] at h1
          cases h1
          exact kq G' H' p d os e S'.ex S'.fx S'.dj (fin S' eo) h2 (S'.ofr i _ d p ei rfl r') (notin S' eo fun j e' hj hp => S'.dis i j _ _ d e' p (fun z => by subst z; rw [ei] at hj; cases hj) ei rfl hj rfl r' hp) h3 q'
        | _ => exact q'.elim
  · obtain ⟨os, eo, q'⟩ := q'
    exact kq G' H' p d os e S'.ex S'.fx S'.dj (fin S' eo) gp.1 gp.2 (notin S' eo fun j e' hj hp => fr j _ e' hj rfl hp) ow q'
  · obtain ⟨os, eo, q'⟩ := q'
    exact ke G' H' C d vs' fs os e S'.ex S'.fx S'.dj (fin S' eo) h1 h2 q'
end
end DL
set_option autoImplicit false
set_option Elab.async false
set_option linter.all false
set_option maxRecDepth 100000
namespace DL
open PySem L2 Evl
/-! ### a call -/
def argsOf (ρ : Ro) : List T → Option (List Sl)
  | [] => some []
  | .val d :: ts => (argsOf ρ ts).map fun a => .val d :: a
  | .bor i :: ts => (rd ρ (.bor i)).bind fun d => (argsOf ρ ts).map fun a => .par d :: a
def bors : List T → List Nat
  | [] => []
  | .val _ :: ts => bors ts
  | .bor i :: ts => i :: bors ts
def Sl.setD (e : D) : Sl → Sl
  | .own _ => .own e
  | .par _ => .par e
  | s => s
def setD (ρ : Ro) (i : Nat) (e : D) : Ro := match ρ[i]? with
  | some s => ρ.set i (s.setD e)
  | none => ρ
def putOuts : Ro → List Nat → List D → Ro
  | ρ, i :: is, e :: es => putOuts (setD ρ i e) is es
  | ρ, _, _ => ρ
def dCall (dsp : DSp) (da : DA) : DE := fun ρ q er => da ρ (fun ts ρ1 => Opt (argsOf ρ1 ts) fun av => (bors ts).Nodup ∧ dsp av (fun d os => q (.val d) (putOuts ρ1 (bors ts) os)) (fun C fs os => er C fs (putOuts ρ1 (bors ts) os))) er
def dCallF (dsp : DSp) (da : DA) : DF := fun ρ q er => da ρ (fun ts ρ1 => Opt (argsOf ρ1 ts) fun av => (bors ts).Nodup ∧ dsp av (fun d os => q d (putOuts ρ1 (bors ts) os)) (fun C fs os => er C fs (putOuts ρ1 (bors ts) os))) er
section
variable {K : PySem.W.Frag} {pa : PaG} {F G G' H H' : Hp} {σ : RSt} {ρ : Ro}
theorem setD_get (ρ : Ro) (i j : Nat) (e : D) : (setD ρ i e)[j]? = if i = j then (ρ[j]?).map (Sl.setD e) else ρ[j]? := by
  unfold setD
  cases q : ρ[i]? with
  | none =>
    by_cases h : i = j
    · subst h; rw [if_pos rfl, q]; rfl
    · rw [if_neg h]
  | some s =>
    have hi : i < ρ.length := (List.getElem?_eq_some_iff.mp q).1
    by_cases h : i = j
    · subst h; rw [if_pos rfl, q]; simp [List.getElem?_set_self hi]
    · rw [if_neg h]; simp [List.getElem?_set_ne h]
theorem setD_length (ρ : Ro) (i : Nat) (e : D) : (setD ρ i e).length = ρ.length := by
  unfold setD; split <;> simp
theorem putOuts_length : ∀ (is : List Nat) (es : List D) (ρ : Ro), (putOuts ρ is es).length = ρ.length
  | [], es, ρ => by unfold putOuts; rfl
  | i :: is, [], ρ => by unfold putOuts; rfl
  | i :: is, e :: es, ρ => by unfold putOuts; rw [putOuts_length is es, setD_length]
theorem ownD_setD {s : Sl} {d e : D} (h : (s.setD e).ownD = some d) : d = e ∧ ∃ d', s.ownD = some d' := by
  cases s with
  | own x => cases h; exact ⟨rfl, x, rfl⟩
  | par x => cases h; exact ⟨rfl, x, rfl⟩
  | val x => cases h
  | no => cases h
/-- what a slot holds behind the call: as before, or (one that was handed over) something else in its own object -/
theorem putOuts_get (P : Nat → D → Prop) : ∀ (is : List Nat) (es : List D) (ρ : Ro) (j : Nat) (s : Sl), Paired P is es → (putOuts ρ is es)[j]? = some s → (j ∉ is ∧ ρ[j]? = some s) ∨ ∃ s' e, P j e ∧ s = s'.setD e ∧ ρ[j]? = some s' ∧ j ∈ is
  | [], es, ρ, j, s, _, h => .inl ⟨by simp, by unfold putOuts at h; exact h⟩
  | i :: is, _, ρ, j, s, .cons (b := e) (l₂ := es) p ps, h => by
    have h : (putOuts (setD ρ i e) is es)[j]? = some s := h
    rcases putOuts_get P is es _ j s ps h with ⟨h1, h2⟩ | ⟨s', e', h1, h2, h3, h4⟩
    · rw [setD_get] at h2
      by_cases hij : i = j
      · subst hij
        rw [if_pos rfl] at h2
        cases q : ρ[i]? with
        | none => rw [q] at h2; cases h2
        | some s0 => rw [q] at h2; cases h2; exact .inr ⟨s0, e, p, rfl, rfl, List.mem_cons_self⟩
      · rw [if_neg hij] at h2
        exact .inl ⟨fun z => by rcases List.mem_cons.mp z with z | z; exact hij z.symm; exact h1 z, h2⟩
    · rw [setD_get] at h3
      by_cases hij : i = j
      · subst hij
        rw [if_pos rfl] at h3
        cases q : ρ[i]? with
        | none => rw [q] at h3; cases h3
        | some s0 =>
          rw [q] at h3
          cases h3
          refine .inr ⟨s0, e', h1, ?_, rfl, List.mem_cons_self⟩
          rw [h2]
          cases s0 <;> rfl
      · rw [if_neg hij] at h3
        exact .inr ⟨s', e', h1, h2, h3, List.mem_cons_of_mem _ h4⟩
theorem call_args (S : Sim K pa F G σ H ρ) {F' : Hp} (hF : ∀ (i : Nat) (s : Sl) (d : D) (p : Addr), ρ[i]? = some s → s.ownD = some d → σ[i]? = some (some (.ref p)) → i ∈ [] → F' p = none) : True := trivial
open Classical in
/-- the callee's frame: the caller's, and all of its own objects that are not handed over -/
noncomputable def calF (F H : Hp) (σ : RSt) (ρ : Ro) (is : List Nat) : Hp := fun b => if ∃ (j : Nat) (s : Sl) (d : D), j ∉ is ∧ ρ[j]? = some s ∧ s.ownD = some d ∧ σ[j]? = some (some (.ref b)) then H b else F b
theorem calF_own {is : List Nat} {b : Addr} (h : ∃ (j : Nat) (s : Sl) (d : D), j ∉ is ∧ ρ[j]? = some s ∧ s.ownD = some d ∧ σ[j]? = some (some (.ref b))) : calF F H σ ρ is b = H b := by unfold calF; rw [if_pos h]
theorem calF_ne {is : List Nat} {b : Addr} (h : ¬ ∃ (j : Nat) (s : Sl) (d : D), j ∉ is ∧ ρ[j]? = some s ∧ s.ownD = some d ∧ σ[j]? = some (some (.ref b))) : calF F H σ ρ is b = F b := by unfold calF; rw [if_neg h]
theorem calF_in (S : Sim K pa F G σ H ρ) (is : List Nat) {j : Nat} {s : Sl} {d : D} {p : Addr} (hj : j ∈ is) (h1 : ρ[j]? = some s) (h2 : s.ownD = some d) (h3 : σ[j]? = some (some (.ref p))) : calF F H σ ρ is p = none := by
  rw [calF_ne ?_]
  · exact S.ofr j s d p h1 h2 h3
  · rintro ⟨k, t, e, hk, k1, k2, k3⟩
    exact S.dis j k s t d e p (fun z => hk (z ▸ hj)) h1 h2 k1 k2 h3 k3
theorem calF_ex (S : Sim K pa F G σ H ρ) (is : List Nat) : Ex (calF F H σ ρ is) H := fun b o h => by
  by_cases c : ∃ (j : Nat) (s : Sl) (d : D), j ∉ is ∧ ρ[j]? = some s ∧ s.ownD = some d ∧ σ[j]? = some (some (.ref b))
  · rw [calF_own c] at h; exact h
  · rw [calF_ne c] at h; exact S.fx b o h
theorem calF_dj (S : Sim K pa F G σ H ρ) (is : List Nat) : ∀ b o, calF F H σ ρ is b = some o → G b = none := fun b o h => by
  by_cases c : ∃ (j : Nat) (s : Sl) (d : D), j ∉ is ∧ ρ[j]? = some s ∧ s.ownD = some d ∧ σ[j]? = some (some (.ref b))
  · obtain ⟨j, s, d, _, h1, h2, h3⟩ := c
    obtain ⟨p, q1, q2, _⟩ := S.own j s d h1 h2
    rw [h3] at q1
    cases q1
    exact q2
  · rw [calF_ne c] at h; exact S.dj b o h
theorem calF_of (S : Sim K pa F G σ H ρ) (is : List Nat) : Ex F (calF F H σ ρ is) := fun b o h => by
  by_cases c : ∃ (j : Nat) (s : Sl) (d : D), j ∉ is ∧ ρ[j]? = some s ∧ s.ownD = some d ∧ σ[j]? = some (some (.ref b))
  · rw [calF_own c]; exact S.fx b o h
  · rw [calF_ne c]; exact h
theorem args_rel (S : Sim K pa F G σ H ρ) (is : List Nat) : ∀ {vs : List V} {ts : List T} {av : List Sl}, TkRs K G σ vs ts → argsOf ρ ts = some av → (∀ i ∈ bors ts, i ∈ is) → (bors ts).Nodup → ArgsR K (calF F H σ ρ is) G H vs av ∧ (parsOf vs av).Nodup ∧ ∀ p ∈ parsOf vs av, ∃ i ∈ bors ts, σ[i]? = some (some (.ref p)) ∧ ∃ s d, ρ[i]? = some s ∧ s.ownD = some d
  | _, _, _, .nil, e, _, _ => by cases e; exact ⟨.nil, List.nodup_nil, fun p h => by cases h⟩
  | v :: vs, .val d :: ts, av, .cons h r, e, hb, nd => by
    have e : (argsOf ρ ts).map (fun a => .val d :: a) = some av := e
    cases q : argsOf ρ ts with
    | none => rw [q] at e; cases e
    | some a =>
      rw [q] at e
      cases e
      obtain ⟨h1, h2, h3⟩ := args_rel S is r q hb nd
      have e0 : parA v (.val d) = [] := by cases v <;> rfl
      refine ⟨.val h h1, ?_, ?_⟩
      · unfold parsOf; rw [e0]; exact h2
      · intro p hp
        unfold parsOf at hp
        rw [e0] at hp
        exact h3 p hp
  | v :: vs, .bor i :: ts, av, .cons h r, e, hb, nd => by
    have e : ((ρ[i]?).bind Sl.ownD).bind (fun d => (argsOf ρ ts).map fun a => .par d :: a) = some av := e
    have h : σ[i]? = some (some v) := h
    cases q1 : ρ[i]? with
    | none => rw [q1] at e; cases e
    | some s =>
      rw [q1] at e
      cases q2 : s.ownD with
      | none => simp [q2] at e
      | some d =>
        have e : (argsOf ρ ts).map (fun a => .par d :: a) = some av := by simpa [q2] using e
        cases q : argsOf ρ ts with
        | none => rw [q] at e; cases e
        | some a =>
          rw [q] at e
          cases e
          have nd : (i :: bors ts).Nodup := nd
          obtain ⟨h1, h2, h3⟩ := args_rel S is r q (fun j hj => hb j (List.mem_cons_of_mem _ hj)) (List.nodup_cons.mp nd).2
          obtain ⟨p, k1, k2, k3⟩ := S.own i s d q1 q2
          rw [h] at k1
          cases k1
          refine ⟨.par k2 (calF_in S is (hb i List.mem_cons_self) q1 q2 h) k3 h1, ?_, ?_⟩
          · show ([p] ++ parsOf vs a).Nodup
            refine List.nodup_cons.mpr ⟨fun hm => ?_, h2⟩
            obtain ⟨j, hj, j1, s', d', j2, j3⟩ := h3 p hm
            have hij : i ≠ j := fun z => (List.nodup_cons.mp nd).1 (z ▸ hj)
            exact S.dis i j s s' d d' p hij q1 q2 j2 j3 h j1
          · intro b hm
            rcases List.mem_cons.mp (show b ∈ p :: parsOf vs a from hm) with z | z
            · subst z; exact ⟨i, List.mem_cons_self, h, s, d, q1, q2⟩
            · obtain ⟨j, hj, k⟩ := h3 b z
              exact ⟨j, List.mem_cons_of_mem _ hj, k⟩
theorem outs_rel : ∀ {vs : List V} {ts : List T} {av : List Sl} {os : List D}, TkRs K G σ vs ts → argsOf ρ ts = some av → Outs K G' H' vs av os → Paired (fun i e => ∃ p, σ[i]? = some (some (.ref p)) ∧ G' p = none ∧ OwnAt K G' H' p e) (bors ts) os
  | _, _, _, _, .nil, e, o => by cases e; cases o; exact .nil
  | v :: vs, .val d :: ts, av, os, .cons h r, e, o => by
    have e : (argsOf ρ ts).map (fun a => .val d :: a) = some av := e
    cases q : argsOf ρ ts with
    | none => rw [q] at e; cases e
    | some a =>
      rw [q] at e
      cases e
      cases o with
      | val o =>
        show Paired _ (bors ts) _
        exact outs_rel r q o
  | v :: vs, .bor i :: ts, av, os, .cons h r, e, o => by
    have e : (rd ρ (.bor i)).bind (fun d => (argsOf ρ ts).map fun a => .par d :: a) = some av := e
    have h : σ[i]? = some (some v) := h
    cases q1 : rd ρ (.bor i) with
    | none => rw [q1] at e; cases e
    | some d =>
      rw [q1] at e
      have e : (argsOf ρ ts).map (fun a => .par d :: a) = some av := e
      cases q : argsOf ρ ts with
      | none => rw [q] at e; cases e
      | some a =>
        rw [q] at e
        cases e
        cases o with
        | par h1 h2 o => exact .cons ⟨_, h, h1, h2⟩ (outs_rel r q o)
/-- behind a call -/
theorem Sim.behind (S : Sim K pa F G σ H ρ) {is : List Nat} {os : List D} (e : Ex G G') (gh : Ex G' H') (fx : Ex (calF F H σ ρ is) H') (dj : ∀ b o, calF F H σ ρ is b = some o → G' b = none)
    (po : Paired (fun i e => ∃ p, σ[i]? = some (some (.ref p)) ∧ G' p = none ∧ OwnAt K G' H' p e) is os) : Sim K pa F G' σ H' (putOuts ρ is os) := by
  have get := fun j s h => putOuts_get _ is os ρ j s po h
  have old : ∀ (j : Nat) (s : Sl) (d : D), (putOuts ρ is os)[j]? = some s → s.ownD = some d → ∃ s' d', ρ[j]? = some s' ∧ s'.ownD = some d' := fun j s d h hd => by
    rcases get j s h with ⟨_, h2⟩ | ⟨s', e', h1, h2, h3, _⟩
    · exact ⟨s, d, h2, hd⟩
    · subst h2
      obtain ⟨_, d', hd'⟩ := ownD_setD hd
      exact ⟨s', d', h3, hd'⟩
  refine ⟨by rw [putOuts_length, S.len], gh, (calF_of S is).trans fx, fun b o h => dj b o (calF_of S is b o h), fun i d h => ?_, fun i s d h hd => ?_, fun i s d p h hd hp => ?_, fun i d h => ?_, S.gx.trans e, fun i j s t d e p hij h1 h2 h3 h4 h5 h6 => ?_⟩
  · rcases get i _ h with ⟨_, h2⟩ | ⟨s', e', h1, h2, h3, _⟩
    · obtain ⟨v, k1, k2⟩ := S.val i d h2
      exact ⟨v, k1, k2.mono e⟩
    · cases s' with
      | val x => cases h2; obtain ⟨v, k1, k2⟩ := S.val i d h3; exact ⟨v, k1, k2.mono e⟩
      | _ => cases h2
  · rcases get i _ h with ⟨hn, h2⟩ | ⟨s', e', h1, h2, h3, _⟩
    · obtain ⟨p, k1, k2, k3⟩ := S.own i s d h2 hd
      obtain ⟨o, ho⟩ := k3.some
      have c : calF F H σ ρ is p = some o := by rw [calF_own ⟨i, s, d, hn, h2, hd, k1⟩]; exact ho
      exact ⟨p, k1, dj p o c, k3.mono e (by rw [ho, fx p o c])⟩
    · subst h2
      obtain ⟨rfl, d', hd'⟩ := ownD_setD hd
      obtain ⟨p, k1, k2, k3⟩ := h1
      exact ⟨p, k1, k2, k3⟩
  · obtain ⟨s', d', k1, k2⟩ := old i s d h hd
    exact S.ofr i s' d' p k1 k2 hp
  · rcases get i _ h with ⟨_, h2⟩ | ⟨s', e', h1, h2, h3, _⟩
    · exact S.par i d h2
    · cases s' with
      | par x => exact S.par i x h3
      | _ => cases h2
  · obtain ⟨s', d', k1, k2⟩ := old i s d h1 h2
    obtain ⟨t', e', k3, k4⟩ := old j t e h3 h4
    exact S.dis i j s' t' d' e' p hij k1 k2 k3 k4 h5 h6
end
section
variable {K : PySem.W.Frag} {pa : PaG} {W : WX} {ta : TA} {da : DA} {n : Nat} {dsp : DSp}
theorem argsOf_length {ρ : Ro} : ∀ {ts : List T} {av : List Sl}, argsOf ρ ts = some av → av.length = ts.length
  | [], _, e => by cases e; rfl
  | .val d :: ts, av, e => by
    have e : (argsOf ρ ts).map (fun a => .val d :: a) = some av := e
    cases q : argsOf ρ ts with
    | none => rw [q] at e; cases e
    | some a => rw [q] at e; cases e; rw [List.length_cons, List.length_cons, argsOf_length q]
  | .bor i :: ts, av, e => by
    have e : (rd ρ (.bor i)).bind (fun d => (argsOf ρ ts).map fun a => .par d :: a) = some av := e
    cases q1 : rd ρ (.bor i) with
    | none => rw [q1] at e; cases e
    | some d =>
      rw [q1] at e
      have e : (argsOf ρ ts).map (fun a => .par d :: a) = some av := e
      cases q : argsOf ρ ts with
      | none => rw [q] at e; cases e
      | some a => rw [q] at e; cases e; rw [List.length_cons, List.length_cons, argsOf_length q]
/-- the call's words, whatever it wants of exceptions -/
theorem call_core {F G : Hp} {σ : RSt} {H : Hp} {ρ : Ro} {vs : List V} {ts : List T} {av : List Sl} {Q : VK} {E : XK} {q : D → List D → Prop} {er : Addr → List (Str × D) → List D → Prop} (S : Sim K pa F G σ H ρ) (r : TkRs K G σ vs ts) (ea : argsOf ρ ts = some av) (nd : (bors ts).Nodup) (hn : vs.length = n)
    (hd : dsp av q er) (k : ∀ G' H' v d os, Ex G G' → Sim K pa F G' σ H' (putOuts ρ (bors ts) os) → Rep K G' v d → q d os → Q v H')
    (ke : ∀ G' H' C y fv fs os, Ex G G' → Sim K pa F G' σ H' (putOuts ρ (bors ts) os) → G' y = some (.xd fv) → RepF K G' fv fs → er C fs os → E (.ref C) (some y) H') : SpV K n dsp vs H Q E := by
  obtain ⟨a1, a2, a3⟩ := args_rel S (bors ts) r ea (fun i hi => hi) nd
  refine ⟨calF F H σ ρ (bors ts), G, av, hn, S.ex, calF_ex S _, calF_dj S _, a1, a2, q, er, hd, fun G' H' v d os e gh fx dj o rv hq => ?_, fun G' H' C y fv fs os e gh fx dj o h1 h2 hq => ?_⟩
  · exact k G' H' v d os e (S.behind e gh fx dj (outs_rel r ea o)) rv hq
  · exact ke G' H' C y fv fs os e (S.behind e gh fx dj (outs_rel r ea o)) h1 h2 hq
theorem call_coreF {F G : Hp} {σ : RSt} {H : Hp} {ρ : Ro} {vs : List V} {ts : List T} {av : List Sl} {Q : VK} {E : XK} {q : D → List D → Prop} {er : Addr → List (Str × D) → List D → Prop} (S : Sim K pa F G σ H ρ) (r : TkRs K G σ vs ts) (ea : argsOf ρ ts = some av) (nd : (bors ts).Nodup) (hn : vs.length = n)
    (hd : dsp av q er) (k : ∀ G' H' p d os, Ex G G' → Sim K pa F G' σ H' (putOuts ρ (bors ts) os) → G' p = none ∧ F p = none → OwnAt K G' H' p d → (∀ (i : Nat) (s : Sl) (d : D), (putOuts ρ (bors ts) os)[i]? = some s → s.ownD = some d → σ[i]? ≠ some (some (.ref p))) → q d os → Q (.ref p) H')
    (ke : ∀ G' H' C y fv fs os, Ex G G' → Sim K pa F G' σ H' (putOuts ρ (bors ts) os) → G' y = some (.xd fv) → RepF K G' fv fs → er C fs os → E (.ref C) (some y) H') : SpF K n dsp vs H Q E := by
  obtain ⟨a1, a2, a3⟩ := args_rel S (bors ts) r ea (fun i hi => hi) nd
  refine ⟨calF F H σ ρ (bors ts), G, av, hn, S.ex, calF_ex S _, calF_dj S _, a1, a2, q, er, hd, fun G' H' p d os e gh fx dj o gp fp np ow hq => ?_, fun G' H' C y fv fs os e gh fx dj o h1 h2 hq => ?_⟩
  · have po := outs_rel (σ := σ) r ea o
    have S' := S.behind e gh fx dj po
    refine k G' H' p d os e S' ⟨gp, fresh_back (calF_of S _) fp⟩ ow (fun i s d' hs hd' hp => ?_) hq
    rcases putOuts_get _ _ os ρ i s po hs with ⟨hi, h2⟩ | ⟨s', e', h1, h2, h3, h4⟩
    · obtain ⟨b, k1, _, k3⟩ := S.own i s d' h2 hd'
      rw [hp] at k1
      cases k1
      obtain ⟨o', ho⟩ := k3.some
      rw [calF_own ⟨i, s, d', hi, h2, hd', hp⟩, ho] at fp
      cases fp
    · refine np ?_
      have hlen : ∀ {vs : List V} {ts : List T} {av : List Sl}, TkRs K G σ vs ts → argsOf ρ ts = some av → i ∈ bors ts → p ∈ parsOf vs av := by
        intro vs ts
        induction ts generalizing vs with
        | nil => intro av _ _ h; cases h
        | cons t ts ih =>
          intro av r e hi
          cases r with
          | cons h r =>
            cases t with
            | val d =>
              have e : (argsOf ρ ts).map (fun a => .val d :: a) = some av := e
              cases q : argsOf ρ ts with
              | none => rw [q] at e; cases e
              | some a => rw [q] at e; cases e; exact List.mem_append_right _ (ih r q hi)
            | bor j =>
              have e : (rd ρ (.bor j)).bind (fun d => (argsOf ρ ts).map fun a => .par d :: a) = some av := e
              cases q1 : rd ρ (.bor j) with
              | none => rw [q1] at e; cases e
              | some d =>
                rw [q1] at e
                have e : (argsOf ρ ts).map (fun a => .par d :: a) = some av := e
                cases q : argsOf ρ ts with
                | none => rw [q] at e; cases e
                | some a =>
                  rw [q] at e
                  cases e
                  rcases List.mem_cons.mp (show i ∈ j :: bors ts from hi) with z | z
                  · subst z
                    have h : σ[i]? = some (some _) := h
                    rw [hp] at h
                    cases h
                    exact List.mem_append_left _ List.mem_cons_self
                  · exact List.mem_append_right _ (ih r q z)
      exact hlen r ea h4
  · exact ke G' H' C y fv fs os e (S.behind e gh fx dj (outs_rel r ea o)) h1 h2 hq
theorem TkRs.length {G : Hp} {σ : RSt} : ∀ {vs : List V} {ts : List T}, TkRs K G σ vs ts → vs.length = ts.length
  | _, _, .nil => rfl
  | _, _, .cons _ r => by rw [List.length_cons, List.length_cons, r.length]
/-- n arguments -/
def dN (n : Nat) (da : DA) : DA := fun ρ q er => da ρ (fun ts ρ1 => ts.length = n ∧ q ts ρ1) er
theorem se_callS (ha : SA K pa W ta da) : SE K pa W (tCallS (SpV K n dsp) (WE W) ta) (dCall dsp (dN n da)) := fun F G σ H ρ Q q er S h k x =>
  ha F G σ H ρ _ _ er S h (fun G1 H1 vs ts ρ1 e1 S1 r1 h1 => by
    obtain ⟨hl, av, ea, nd, hd⟩ := h1
    exact call_core S1 r1 ea nd (by rw [r1.length]; exact hl) hd (fun G' H' v d os e S' rv hq => k G' H' v (.val d) _ (e1.trans e) S' rv hq) (fun G' H' C y fv fs os e S' h1 h2 hq => x G' H' _ C y fv fs (e1.trans e) S' hq h1 h2)) x
theorem sf_callS (ha : SA K pa W ta da) : SF K pa W (tCallS (SpF K n dsp) (WE W) ta) (dCallF dsp (dN n da)) := fun F G σ H ρ Q q er S h k x =>
  ha F G σ H ρ _ _ er S h (fun G1 H1 vs ts ρ1 e1 S1 r1 h1 => by
    obtain ⟨hl, av, ea, nd, hd⟩ := h1
    exact call_coreF S1 r1 ea nd (by rw [r1.length]; exact hl) hd (fun G' H' p d os e S' gp ow fr hq => k G' H' p d _ (e1.trans e) S' gp ow fr hq) (fun G' H' C y fv fs os e S' h1 h2 hq => x G' H' _ C y fv fs (e1.trans e) S' hq h1 h2)) x
/-- a def that raises nothing -/
def noEr (dsp : DSp) : DSp := fun av q _ => dsp av q fun _ _ _ => False
theorem se_call (ha : SA K pa W ta da) : SE K pa W (tCall (SpV K n dsp) [] L2.E0 ta) (dCall (noEr dsp) (dN n da)) := fun F G σ H ρ Q q er S h k x =>
  ha F G σ H ρ _ _ er S h (fun G1 H1 vs ts ρ1 e1 S1 r1 h1 => by
    obtain ⟨hl, av, ea, nd, hd⟩ := h1
    show SpV K n dsp (vs ++ []) H1 _ _
    rw [List.append_nil]
    exact call_core S1 r1 ea nd (by rw [r1.length]; exact hl) hd (fun G' H' v d os e S' rv hq => k G' H' v (.val d) _ (e1.trans e) S' rv hq) (fun G' H' C y fv fs os e S' h1 h2 hq => hq.elim)) x
theorem sf_call (ha : SA K pa W ta da) : SF K pa W (tCall (SpF K n dsp) [] L2.E0 ta) (dCallF (noEr dsp) (dN n da)) := fun F G σ H ρ Q q er S h k x =>
  ha F G σ H ρ _ _ er S h (fun G1 H1 vs ts ρ1 e1 S1 r1 h1 => by
    obtain ⟨hl, av, ea, nd, hd⟩ := h1
    show SpF K n dsp (vs ++ []) H1 _ _
    rw [List.append_nil]
    exact call_coreF S1 r1 ea nd (by rw [r1.length]; exact hl) hd (fun G' H' p d os e S' gp ow fr hq => k G' H' p d _ (e1.trans e) S' gp ow fr hq) (fun G' H' C y fv fs os e S' h1 h2 hq => hq.elim)) x
end
end DL
set_option autoImplicit false
set_option Elab.async false
set_option linter.all false
set_option maxRecDepth 100000
namespace DL
open PySem L2 Evl

/-! ### objects that a slot owns are changed -/
section
variable {K : PySem.W.Frag} {pa : PaG} {F G G' H H' : Hp} {σ : RSt} {ρ : Ro}
theorem Sim.mut (S : Sim K pa F G σ H ρ) {i : Nat} {s : Sl} {d e : D} {p : Addr} {o : HO} (h1 : ρ[i]? = some s) (h2 : s.ownD = some d) (h3 : σ[i]? = some (some (.ref p))) (ow : OwnAt K G (upd H p o) p e) : Sim K pa F G σ (upd H p o) (setD ρ i e) := by
  obtain ⟨b, q1, gp, _⟩ := S.own i s d h1 h2
  rw [h3] at q1
  cases q1
  have fp := S.ofr i s d p h1 h2 h3
  refine ⟨by rw [setD_length, S.len], fun b o' q => ?_, fun b o' q => ?_, S.dj, fun j d' h => ?_, fun j t d' h hd => ?_, fun j t d' b h hd hb => ?_, fun j d' h => ?_, S.gx, fun j k t t' d' e' b hjk k1 k2 k3 k4 k5 k6 => ?_⟩
  · rw [upd_ne (fun z => by rw [z, gp] at q; cases q)]; exact S.ex b o' q
  · rw [upd_ne (fun z => by rw [z, fp] at q; cases q)]; exact S.fx b o' q
  · rw [setD_get] at h
    by_cases hij : i = j
    · subst hij
      rw [if_pos rfl, h1] at h
      have h : some (s.setD e) = some (Sl.val d') := h
      cases s <;> first | (cases h2; done) | cases h
    · rw [if_neg hij] at h; exact S.val j d' h
  · rw [setD_get] at h
    by_cases hij : i = j
    · subst hij
      rw [if_pos rfl, h1] at h
      cases h
      obtain ⟨rfl, _⟩ := ownD_setD hd
      exact ⟨p, h3, gp, ow⟩
    · rw [if_neg hij] at h
      obtain ⟨b, k1, k2, k3⟩ := S.own j t d' h hd
      exact ⟨b, k1, k2, k3.mono (Ex.refl G) (upd_ne fun z => S.dis i j s t d d' p hij h1 h2 h hd h3 (by rw [k1, z])).symm⟩
  · rw [setD_get] at h
    by_cases hij : i = j
    · subst hij
      rw [h3] at hb
      cases hb
      exact fp
    · rw [if_neg hij] at h; exact S.ofr j t d' b h hd hb
  · rw [setD_get] at h
    by_cases hij : i = j
    · subst hij
      rw [if_pos rfl, h1] at h
      cases s with
      | par x => exact S.par i x h1
      | _ => cases h
    · rw [if_neg hij] at h; exact S.par j d' h
  · have old : ∀ {j : Nat} {t : Sl} {d' : D}, (setD ρ i e)[j]? = some t → t.ownD = some d' → ∃ t' e', ρ[j]? = some t' ∧ t'.ownD = some e' := fun {j t d'} h hd => by
      rw [setD_get] at h
      by_cases hij : i = j
      · subst hij; exact ⟨s, d, h1, h2⟩
      · rw [if_neg hij] at h; exact ⟨t, d', h, hd⟩
    obtain ⟨t1, e1, m1, m2⟩ := old k1 k2
    obtain ⟨t2, e2, m3, m4⟩ := old k3 k4
    exact S.dis j k t1 t2 e1 e2 b hjk m1 m2 m3 m4 k5 k6
end
/-- the object that a slot owns -/
def ownAt (ρ : Ro) (i : Nat) : Option D := (ρ[i]?).bind Sl.ownD
theorem ownAt_some {ρ : Ro} {i : Nat} {d : D} (h : ownAt ρ i = some d) : ∃ s, ρ[i]? = some s ∧ s.ownD = some d := by
  unfold ownAt at h
  cases q : ρ[i]? with
  | none => rw [q] at h; cases h
  | some s => rw [q] at h; exact ⟨s, rfl, h⟩
def D.isLst : D → Bool
  | .lst _ => true
  | _ => false
/-- xs.append(e) -/
def dAppend (i : Nat) (de : DE) : DE := fun ρ q er => Opt (ownAt ρ i) fun d0 => d0.isLst = true ∧ de ρ (fun t ρ1 => match t with
  | .val e => Opt (ownAt ρ1 i) fun d => (match d with
    | .lst ds => ds.length < sizeLine ∧ q (.val .non) (setD ρ1 i (.lst (ds ++ [e])))
    | _ => False)
  | .bor _ => False) er
def dClear (i : Nat) : DE := fun ρ q _ => Opt (ownAt ρ i) fun d => match d with
  | .lst _ => q (.val .non) (setD ρ i (.lst []))
  | _ => False
/-- xs[k] = e: e first -/
def dSetIx (i : Nat) (dk de : DE) : DS := fun DD ρ => de ρ (fun t ρ1 => match t with
  | .val e => (ownAt ρ1 i).isSome = true ∧ dk ρ1 (fun u ρ2 => Opt (rd ρ2 u) fun k => Opt (ownAt ρ2 i) fun d => match d, k with
    | .lst ds, .int z => Opt (ixN ds.length z) fun j => DD.nx (setD ρ2 i (.lst (ds.set j e)))
    | _, _ => False) DD.er
  | .bor _ => False) DD.er
/-- o.f -/
def dFld (Cs : List Addr) (f : Str) (de : DE) : DE := fun ρ q er => de ρ (fun t ρ1 => Opt (rd ρ1 t) fun d => match d with
  | .ins C es => C ∈ Cs ∧ Opt (es.lookup f) fun e => q (.val e) ρ1
  | _ => False) er
def putFD (f : Str) (e : D) : List (Str × D) → List (Str × D)
  | [] => [(f, e)]
  | (g, x) :: r => if g = f then (g, e) :: r else (g, x) :: putFD f e r
/-- o.f = e, o a slot's own instance -/
def dSetF (Cs : List Addr) (i : Nat) (f : Str) (de : DE) : DS := fun DD ρ => de ρ (fun t ρ1 => match t with
  | .val e => Opt (ownAt ρ1 i) fun d => (match d with
    | .ins C es => C ∈ Cs ∧ es.length < 1000 ∧ DD.nx (setD ρ1 i (.ins C (putFD f e es)))
    | _ => False)
  | .bor _ => False) DD.er
section
variable {K : PySem.W.Frag} {pa : PaG} {W : WX} {te ta : TE} {de da dk : DE}
theorem own_lst {G H : Hp} {p : Addr} {d : D} (h : OwnAt K G H p d) (e : d.isLst = true) : ∃ vs, H p = some (HO.lst vs) := by
  cases d with
  | lst ds => obtain ⟨vs, h1, _⟩ := h; exact ⟨vs, h1⟩
  | _ => cases e
theorem se_append {i : Nat} (he : SE K pa W te de) : SE K pa W (tBM K "list" rAppend (tVar i) (tCons te tNil)) (dAppend i de) := fun F G σ H ρ Q q er S h k x => by
  obtain ⟨d0, e0, hl, h⟩ := h
  obtain ⟨s, es, ed⟩ := ownAt_some e0
  obtain ⟨p, hp, gp, ow⟩ := S.own i s d0 es ed
  obtain ⟨vs0, hv0⟩ := own_lst ow hl
  refine ⟨.ref p, hp, .inl ⟨rfl, vs0, SqL.of hv0⟩, ?_⟩
  refine he F G σ H ρ _ _ er S h (fun G1 H1 v t ρ1 e1 S1 r1 h1 => ?_) x
  cases t with
  | bor j => exact h1.elim
  | val e =>
    obtain ⟨d, ed1, h2⟩ := h1
    obtain ⟨s1, es1, ed1⟩ := ownAt_some ed1
    obtain ⟨b, hb, gb, ow1⟩ := S1.own i s1 d es1 ed1
    rw [hp] at hb
    cases hb
    cases d with
    | lst ds =>
      obtain ⟨vs, hv, rr⟩ := ow1
      refine ⟨p, vs, v, rfl, rfl, hv, by rw [rr.length]; exact h2.1, ?_⟩
      exact k G1 _ .non (.val .non) _ e1 (S1.mut (e := .lst (ds ++ [e])) es1 ed1 hp ⟨_, upd_same, rr.append (.cons r1 .nil)⟩) .non h2.2
    | _ => exact h2.elim
theorem se_clear {i : Nat} : SE K pa W (tBM0 K "list" rClear (tVar i)) (dClear i) := fun F G σ H ρ Q q er S h k x => by
  obtain ⟨d, e0, h⟩ := h
  obtain ⟨s, es, ed⟩ := ownAt_some e0
  obtain ⟨p, hp, gp, ow⟩ := S.own i s d es ed
  cases d with
  | lst ds =>
    obtain ⟨vs, hv, rr⟩ := ow
    refine ⟨.ref p, hp, .inl ⟨rfl, vs, SqL.of hv⟩, p, vs, rfl, rfl, hv, ?_⟩
    exact k G _ .non (.val .non) _ (Ex.refl G) (S.mut (e := .lst []) es ed hp ⟨_, upd_same, .nil⟩) .non h
  | _ => exact h.elim
theorem ss_setIx {i : Nat} {tk : TE} (hk : SE K pa W tk dk) (he : SE K pa W te de) : SS K pa W (tAsg te (gSub (tVar i) tk rSetL)) (dSetIx i dk de) := fun F G σ H ρ D DD S h l =>
  he F G σ H ρ _ _ _ S h (fun G1 H1 v t ρ1 e1 S1 r1 h1 => by
    cases t with
    | bor j => exact h1.elim
    | val e =>
      obtain ⟨hs, h1⟩ := h1
      cases q : ownAt ρ1 i with
      | none => rw [q] at hs; cases hs
      | some d0 =>
        obtain ⟨s, es, ed⟩ := ownAt_some q
        obtain ⟨p, hp, gp, ow⟩ := S1.own i s d0 es ed
        refine ⟨.ref p, hp, ?_⟩
        refine hk F G1 σ H1 ρ1 _ _ _ S1 h1 (fun G2 H2 w u ρ2 e2 S2 r2 h2 => ?_) ((l.xl σ).grow e1)
        obtain ⟨dk', ek, d, ed2, h3⟩ := h2
        obtain ⟨s2, es2, ed2⟩ := ownAt_some ed2
        obtain ⟨b, hb, gb, ow2⟩ := S2.own i s2 d es2 ed2
        rw [hp] at hb
        cases hb
        cases d with
        | lst ds =>
          cases dk' with
          | int z =>
            obtain ⟨j, ej, h4⟩ := h3
            obtain ⟨vs, hv, rr⟩ := ow2
            rw [(S2.rdT r2 ek).int]
            refine ⟨p, vs, z, j, rfl, rfl, hv, by rw [rr.length]; exact ej, ?_⟩
            have r1 : Rep K G1 v e := r1
            exact l.nx G2 σ _ _ (e1.trans e2) (S2.mut (e := .lst (ds.set j e)) es2 ed2 hp ⟨_, upd_same, rr.set (r1.mono e2) j⟩) h4
          | _ => exact h3.elim
        | _ => exact h3.elim) (l.xl σ)
theorem RepF.lookup {G : Hp} {f : Str} {e : D} : ∀ {vs : List (Str × V)} {ds : List (Str × D)}, RepF K G vs ds → ds.lookup f = some e → ∃ v, vs.lookup f = some v ∧ Rep K G v e
  | _, _, .nil, h => by cases h
  | _, _, .cons (k := k) (v := v) (d := d) (vs := vs) (ds := ds) r rr, h => by
    rw [List.lookup_cons] at h ⊢
    cases hk : (f == k) with
    | true => rw [hk] at h; cases h; exact ⟨v, rfl, r⟩
    | false => rw [hk] at h; exact RepF.lookup rr h
theorem RepF.length {G : Hp} : ∀ {vs : List (Str × V)} {ds : List (Str × D)}, RepF K G vs ds → vs.length = ds.length
  | _, _, .nil => rfl
  | _, _, .cons _ r => by rw [List.length_cons, List.length_cons, r.length]
theorem RepF.put {G : Hp} {f : Str} {v : V} {e : D} (r : Rep K G v e) : ∀ {vs : List (Str × V)} {ds : List (Str × D)}, RepF K G vs ds → RepF K G (putF f v vs) (putFD f e ds)
  | _, _, .nil => .cons r .nil
  | _, _, .cons (k := k) h rr => by
    unfold putF putFD
    split
    · exact .cons r rr
    · exact .cons h (RepF.put r rr)
theorem se_fld {Cs : List Addr} {f : Str} (hc : ∀ C ∈ Cs, Cls K C ∧ NoAttr K C f) (he : SE K pa W te de) : SE K pa W (tFld K te f) (dFld Cs f de) := fun F G σ H ρ Q q er S h k x =>
  he F G σ H ρ _ _ er S h (fun G1 H1 v t ρ1 e1 S1 r1 h1 => by
    obtain ⟨d, ed, h2⟩ := h1
    cases d with
    | ins C es =>
      obtain ⟨hC, e, ee, h3⟩ := h2
      obtain ⟨p, dx, vs, rfl, hp, rr⟩ := (S1.rdT r1 ed).ins S1.ex
      obtain ⟨w, hw, rw'⟩ := rr.lookup ee
      exact ⟨p, C, dx, vs, w, rfl, hp, (hc C hC).1, (hc C hC).2, hw, k G1 H1 w (.val e) ρ1 e1 S1 rw' h3⟩
    | _ => exact h2.elim) x
theorem ss_setF {Cs : List Addr} {f : Str} {i : Nat} (hc : ∀ C ∈ Cs, Cls K C ∧ NoAttr K C f) (he : SE K pa W te de) : SS K pa W (sFld K (tVar i) te f) (dSetF Cs i f de) := fun F G σ H ρ D DD S h l =>
  he F G σ H ρ _ _ _ S h (fun G1 H1 v t ρ1 e1 S1 r1 h1 => by
    cases t with
    | bor j => exact h1.elim
    | val e =>
      obtain ⟨d, ed, h2⟩ := h1
      obtain ⟨s, es, ed⟩ := ownAt_some ed
      obtain ⟨p, hp, gp, ow⟩ := S1.own i s d es ed
      cases d with
      | ins C fs =>
        obtain ⟨hC, hl, h3⟩ := h2
        obtain ⟨dx, vs, hv, rr⟩ := ow
        refine ⟨.ref p, hp, p, C, dx, vs, rfl, hv, (hc C hC).1, (hc C hC).2, by rw [rr.length]; exact hl, ?_⟩
        exact l.nx G1 σ _ _ e1 (S1.mut (e := .ins C (putFD f e fs)) es ed hp ⟨dx, _, upd_same, rr.put r1⟩) h3
      | _ => exact h2.elim) (l.xl σ)
end

/-! ### C(..) and o.m(..) -/
section
variable {K : PySem.W.Frag} {pa : PaG} {F G G' H H' : Hp} {σ : RSt} {ρ : Ro}
theorem Sim.push (S : Sim K pa F G σ H ρ) {p : Addr} {d : D} (gp : G p = none ∧ F p = none) (ow : OwnAt K G H p d) (fr : ∀ (i : Nat) (s : Sl) (d : D), ρ[i]? = some s → s.ownD = some d → σ[i]? ≠ some (some (.ref p))) :
    Sim K pa F G (σ ++ [some (.ref p)]) H (ρ ++ [.own d]) := by
  have ind : ∀ {i : Nat} {s : Sl}, (ρ ++ [.own d])[i]? = some s → (ρ[i]? = some s ∧ (σ ++ [some (.ref p)])[i]? = σ[i]?) ∨ (i = ρ.length ∧ s = .own d ∧ (σ ++ [some (V.ref p)])[i]? = some (some (.ref p))) := fun {i s} h => by
    by_cases hi : i < ρ.length
    · rw [List.getElem?_append_left hi] at h
      exact .inl ⟨h, List.getElem?_append_left (by rw [← S.len]; exact hi)⟩
    · rw [List.getElem?_append_right (by omega)] at h
      by_cases hi2 : i - ρ.length = 0
      · have e : i = ρ.length := by omega
        subst e
        rw [Nat.sub_self] at h
        cases h
        exact .inr ⟨rfl, rfl, by rw [S.len, List.getElem?_append_right (Nat.le_refl _), Nat.sub_self]; rfl⟩
      · rw [List.getElem?_cons] at h
        rw [if_neg hi2] at h
        cases h
  refine ⟨by rw [List.length_append, List.length_append, S.len]; rfl, S.ex, S.fx, S.dj, fun i e h => ?_, fun i s e h hd => ?_, fun i s e b h hd hb => ?_, fun i e h => ?_, S.gx, fun i j s t e f b hij h1 h2 h3 h4 h5 h6 => ?_⟩
  · rcases ind h with ⟨h, eq⟩ | ⟨_, z, _⟩
    · rw [eq]; exact S.val i e h
    · cases z
  · rcases ind h with ⟨h, eq⟩ | ⟨_, z, eq⟩
    · rw [eq]; exact S.own i s e h hd
    · subst z; cases hd; exact ⟨p, eq, gp.1, ow⟩
  · rcases ind h with ⟨h, eq⟩ | ⟨_, z, eq⟩
    · rw [eq] at hb; exact S.ofr i s e b h hd hb
    · rw [eq] at hb; cases hb; exact gp.2
  · rcases ind h with ⟨h, eq⟩ | ⟨_, z, _⟩
    · rw [eq]; exact S.par i e h
    · cases z
  · rcases ind h1 with ⟨k1, eq1⟩ | ⟨k1, z1, eq1⟩
    · rcases ind h3 with ⟨k3, eq3⟩ | ⟨k3, z3, eq3⟩
      · rw [eq1] at h5; rw [eq3] at h6; exact S.dis i j s t e f b hij k1 h2 k3 h4 h5 h6
      · rw [eq1] at h5; rw [eq3] at h6; cases h6; exact fr i s e k1 h2 h5
    · rcases ind h3 with ⟨k3, eq3⟩ | ⟨k3, z3, eq3⟩
      · rw [eq1] at h5; cases h5; rw [eq3] at h6; exact fr j t f k3 h4 h6
      · exact hij (k1.trans k3.symm)
theorem Sim.pop {x : Option V} {s : Sl} (S : Sim K pa F G (σ ++ [x]) H (ρ ++ [s])) : Sim K pa F G σ H ρ := by
  have hl : ρ.length = σ.length := by
    have := S.len
    rw [List.length_append, List.length_append] at this
    simpa using this
  have up : ∀ {i : Nat} {s' : Sl}, ρ[i]? = some s' → (ρ ++ [s])[i]? = some s' ∧ (σ ++ [x])[i]? = σ[i]? := fun {i s'} h => by
    have hi : i < ρ.length := (List.getElem?_eq_some_iff.mp h).1
    exact ⟨by rw [List.getElem?_append_left hi]; exact h, List.getElem?_append_left (by rw [← hl]; exact hi)⟩
  refine ⟨hl, S.ex, S.fx, S.dj, fun i e h => ?_, fun i s e h hd => ?_, fun i s e b h hd hb => ?_, fun i e h => ?_, S.gx, fun i j s t e f b hij h1 h2 h3 h4 h5 h6 => ?_⟩
  · obtain ⟨h, eq⟩ := up h; rw [← eq]; exact S.val i e h
  · obtain ⟨h, eq⟩ := up h; rw [← eq]; exact S.own i s e h hd
  · obtain ⟨h, eq⟩ := up h; rw [← eq] at hb; exact S.ofr i s e b h hd hb
  · obtain ⟨h, eq⟩ := up h; rw [← eq]; exact S.par i e h
  · obtain ⟨h1, eq1⟩ := up h1
    obtain ⟨h3, eq3⟩ := up h3
    rw [← eq1] at h5
    rw [← eq3] at h6
    exact S.dis i j s t e f b hij h1 h2 h3 h4 h5 h6
theorem argsOf_push {s : Sl} : ∀ {ts : List T} {av : List Sl}, argsOf ρ ts = some av → argsOf (ρ ++ [s]) ts = some av
  | [], _, e => e
  | .val d :: ts, av, e => by
    have e : (argsOf ρ ts).map (fun a => .val d :: a) = some av := e
    cases q : argsOf ρ ts with
    | none => rw [q] at e; cases e
    | some a =>
      rw [q] at e
      show (argsOf (ρ ++ [s]) ts).map (fun a => .val d :: a) = some av
      rw [argsOf_push q]; exact e
  | .bor i :: ts, av, e => by
    have e : ((ρ[i]?).bind Sl.ownD).bind (fun d => (argsOf ρ ts).map fun a => .par d :: a) = some av := e
    cases q1 : ρ[i]? with
    | none => rw [q1] at e; cases e
    | some s' =>
      have hi : i < ρ.length := (List.getElem?_eq_some_iff.mp q1).1
      cases q : argsOf ρ ts with
      | none => rw [q1, q] at e; cases h : s'.ownD <;> simp [h] at e
      | some a =>
        show (((ρ ++ [s])[i]?).bind Sl.ownD).bind (fun d => (argsOf (ρ ++ [s]) ts).map fun a => .par d :: a) = some av
        rw [argsOf_push q, List.getElem?_append_left hi, q1]
        rw [q1, q] at e
        exact e
theorem bors_lt {ts : List T} {av : List Sl} : argsOf ρ ts = some av → ∀ i ∈ bors ts, i < ρ.length := by
  induction ts generalizing av with
  | nil => intro _ i h; cases h
  | cons t ts ih =>
    intro e i hi
    cases t with
    | val d =>
      have e : (argsOf ρ ts).map (fun a => .val d :: a) = some av := e
      cases q : argsOf ρ ts with
      | none => rw [q] at e; cases e
      | some a => exact ih q i hi
    | bor j =>
      have e : ((ρ[j]?).bind Sl.ownD).bind (fun d => (argsOf ρ ts).map fun a => .par d :: a) = some av := e
      cases q1 : ρ[j]? with
      | none => rw [q1] at e; cases e
      | some s =>
        rcases List.mem_cons.mp (show i ∈ j :: bors ts from hi) with z | z
        · subst z; exact (List.getElem?_eq_some_iff.mp q1).1
        · cases q : argsOf ρ ts with
          | none => rw [q1, q] at e; cases h : s.ownD <;> simp [h] at e
          | some a => exact ih q i z
theorem setD_app {s : Sl} {i : Nat} {e : D} (h : i < ρ.length) : setD (ρ ++ [s]) i e = setD ρ i e ++ [s] := by
  unfold setD
  rw [List.getElem?_append_left h]
  cases q : ρ[i]? with
  | none => rfl
  | some s' =>
    show (ρ ++ [s]).set i _ = ρ.set i _ ++ [s]
    rw [List.set_append_left _ _ h]
theorem putOuts_app {s : Sl} : ∀ {is : List Nat} {os : List D} {ρ : Ro}, (∀ i ∈ is, i < ρ.length) → putOuts (ρ ++ [s]) is os = putOuts ρ is os ++ [s]
  | [], os, ρ, _ => by unfold putOuts; rfl
  | i :: is, [], ρ, _ => by unfold putOuts; rfl
  | i :: is, o :: os, ρ, h => by
    show putOuts (setD (ρ ++ [s]) i o) is os = putOuts (setD ρ i o) is os ++ [s]
    rw [setD_app (h i List.mem_cons_self), putOuts_app fun j hj => by rw [setD_length]; exact h j (List.mem_cons_of_mem _ hj)]
end
def dMake (C : Addr) (dsp : DSp) (da : DA) : DF := fun ρ q er => da ρ (fun ts ρ1 => Opt (argsOf ρ1 ts) fun av => (bors ts).Nodup ∧ dsp (.par (.ins C []) :: av) (fun d os => match d, os with
    | .non, o :: os => q o (putOuts ρ1 (bors ts) os)
    | _, _ => False) (fun C' fs os => match os with
    | _ :: os => er C' fs (putOuts ρ1 (bors ts) os)
    | _ => False)) er
def tMakeS (C : Addr) (sp : Sp) (E : RSt → XK) (t : TA) : TE := fun σ H Q => t σ H fun vs H1 => ∀ x dx, H1 x = none → H1 dx = none → dx ≠ x →
  sp (.ref x :: vs) (upd (upd H1 dx (.own x)) x (.ins C dx [])) (fun v H2 => v = .non ∧ Q (.ref x) H2) (E σ)
section
variable {K : PySem.W.Frag} {pa : PaG} {W : WX} {ta : TA} {da : DA} {n : Nat} {dsp : DSp} {C : Addr}
theorem make_core {F G : Hp} {σ : RSt} {H : Hp} {ρ : Ro} {vs : List V} {ts : List T} {av : List Sl} {x dx : Addr} {Q : VK} {E : XK} {q : D → List D → Prop} {er : Addr → List (Str × D) → List D → Prop} (S : Sim K pa F G σ H ρ) (r : TkRs K G σ vs ts) (ea : argsOf ρ ts = some av) (nd : (bors ts).Nodup) (hn : vs.length + 1 = n)
    (hx : H x = none) (hdx : H dx = none) (hne : dx ≠ x) (hd : dsp (.par (.ins C []) :: av) q er)
    (k : ∀ G' H' o os, Ex G G' → Sim K pa F G' σ H' (putOuts ρ (bors ts) os) → G' x = none ∧ F x = none → OwnAt K G' H' x o → (∀ (i : Nat) (s : Sl) (d : D), (putOuts ρ (bors ts) os)[i]? = some s → s.ownD = some d → σ[i]? ≠ some (some (.ref x))) → q .non (o :: os) → Q .non H')
    (k' : ∀ (d : D) (os : List D), q d os → (d = .non ∧ os ≠ [])) (ke : ∀ G' H' C y fv fs o os, Ex G G' → Sim K pa F G' σ H' (putOuts ρ (bors ts) os) → G' y = some (.xd fv) → RepF K G' fv fs → er C fs (o :: os) → E (.ref C) (some y) H') (ke' : ∀ C fs os, er C fs os → os ≠ []) :
    SpV K n dsp (.ref x :: vs) (upd (upd H dx (.own x)) x (.ins C dx [])) Q E := by
  have hx1 : (upd H dx (.own x)) x = none := by rw [upd_ne (Ne.symm hne)]; exact hx
  have S1 : Sim K pa F G σ (upd (upd H dx (.own x)) x (.ins C dx [])) ρ := (S.new hdx).new hx1
  have gx : G x = none := fresh_back S.ex hx
  have fx : F x = none := fresh_back S.fx hx
  have fr := fresh_no S hx
  have S2 := S1.push (p := x) (d := .ins C []) ⟨gx, fx⟩ ⟨dx, [], upd_same, .nil⟩ fr
  have lt := bors_lt ea
  have r2 : TkRs K G (σ ++ [some (.ref x)]) (.ref x :: vs) (.bor ρ.length :: ts) := by
    refine .cons (by show (σ ++ [some (V.ref x)])[ρ.length]? = _; rw [S.len, List.getElem?_append_right (Nat.le_refl _), Nat.sub_self]; rfl) ?_
    have go : ∀ {vs : List V} {ts : List T}, TkRs K G σ vs ts → (∀ i ∈ bors ts, i < ρ.length) → TkRs K G (σ ++ [some (.ref x)]) vs ts := by
      intro vs ts
      induction ts generalizing vs with
      | nil => intro r _; cases r; exact .nil
      | cons t ts ih =>
        intro r h
        cases r with
        | cons h1 r =>
          cases t with
          | val d => exact .cons h1 (ih r h)
          | bor i =>
            refine .cons ?_ (ih r fun j hj => h j (List.mem_cons_of_mem _ hj))
            have h1 : σ[i]? = some (some _) := h1
            show (σ ++ [some (V.ref x)])[i]? = _
            rw [List.getElem?_append_left (by rw [← S.len]; exact h i List.mem_cons_self)]
            exact h1
    exact go r lt
  have ea2 : argsOf (ρ ++ [.own (.ins C [])]) (.bor ρ.length :: ts) = some (.par (.ins C []) :: av) := by
    show (((ρ ++ [Sl.own (.ins C [])])[ρ.length]?).bind Sl.ownD).bind (fun d => (argsOf (ρ ++ [Sl.own (.ins C [])]) ts).map fun a => .par d :: a) = _
    rw [List.getElem?_append_right (Nat.le_refl _), Nat.sub_self, argsOf_push ea]
    rfl
  have nd2 : (bors (.bor ρ.length :: ts)).Nodup := List.nodup_cons.mpr ⟨fun h => absurd (lt _ h) (Nat.lt_irrefl _), nd⟩
  have po : ∀ (o : D) (os : List D), putOuts (ρ ++ [.own (.ins C [])]) (bors (.bor ρ.length :: ts)) (o :: os) = putOuts ρ (bors ts) os ++ [.own o] := fun o os => by
    show putOuts (setD (ρ ++ [.own (.ins C [])]) ρ.length o) (bors ts) os = _
    have e : setD (ρ ++ [.own (.ins C [])]) ρ.length o = ρ ++ [.own o] := by
      unfold setD
      rw [List.getElem?_append_right (Nat.le_refl _), Nat.sub_self]
      show (ρ ++ [Sl.own (.ins C [])]).set ρ.length _ = _
      rw [List.set_append_right _ _ (Nat.le_refl _), Nat.sub_self]
      rfl
    rw [e, putOuts_app lt]
  refine call_core S2 r2 ea2 nd2 (by rw [List.length_cons]; exact hn) hd (fun G' H' v d os e S' rv hq => ?_) (fun G' H' C' y fv fs os e S' h1 h2 hq => ?_)
  · obtain ⟨rfl, hos⟩ := k' d os hq
    cases rv
    cases os with
    | nil => exact absurd rfl hos
    | cons o os =>
      rw [po] at S'
      have hl : (putOuts ρ (bors ts) os).length = ρ.length := putOuts_length _ _ _
      have e1 : (putOuts ρ (bors ts) os ++ [Sl.own o])[ρ.length]? = some (.own o) := by rw [← hl, List.getElem?_append_right (Nat.le_refl _), Nat.sub_self]; rfl
      have e2 : (σ ++ [some (V.ref x)])[ρ.length]? = some (some (.ref x)) := by rw [S.len, List.getElem?_append_right (Nat.le_refl _), Nat.sub_self]; rfl
      obtain ⟨b, b1, b2, b3⟩ := S'.own ρ.length _ o e1 rfl
      rw [e2] at b1
      cases b1
      refine k G' H' o os e S'.pop ⟨b2, fx⟩ b3 (fun i s d hs hd' hp => ?_) hq
      have hi : i < ρ.length := by rw [← hl]; exact (List.getElem?_eq_some_iff.mp hs).1
      refine S'.dis i ρ.length s _ d o x (Nat.ne_of_lt hi) (by rw [List.getElem?_append_left (by rw [hl]; exact hi)]; exact hs) hd' e1 rfl (by rw [List.getElem?_append_left (by rw [← S.len]; exact hi)]; exact hp) e2
  · cases os with
    | nil => exact absurd rfl (ke' _ _ _ hq)
    | cons o os =>
      rw [po] at S'
      exact ke G' H' C' y fv fs o os e S'.pop h1 h2 hq
theorem sf_makeS (ha : SA K pa W ta da) : SF K pa W (tMakeS C (SpV K (n + 1) dsp) (WE W) ta) (dMake C dsp (dN n da)) := fun F G σ H ρ Q q er S h k x =>
  ha F G σ H ρ _ _ er S h (fun G1 H1 vs ts ρ1 e1 S1 r1 h1 => by
    obtain ⟨hl, av, ea, nd, hd⟩ := h1
    intro x' dx hx hdx hne
    refine make_core S1 r1 ea nd (by rw [r1.length, hl]) hx hdx hne hd (fun G' H' o os e S' gp ow fr hq => ⟨rfl, k G' H' x' o _ (e1.trans e) S' gp ow fr hq⟩) (fun d os hq => ?_) (fun G' H' C' y fv fs o os e S' h1 h2 hq => x G' H' _ C' y fv fs (e1.trans e) S' hq h1 h2) (fun C' fs os hq => ?_)
    · cases os with
      | nil => cases d <;> exact hq.elim
      | cons o os => cases d <;> first | exact ⟨rfl, by simp⟩ | exact hq.elim
    · cases os with
      | nil => exact hq.elim
      | cons o os => simp) x
theorem sf_make (ha : SA K pa W ta da) : SF K pa W (tMake C (SpV K (n + 1) dsp) [] L2.E0 ta) (dMake C (noEr dsp) (dN n da)) := fun F G σ H ρ Q q er S h k x =>
  ha F G σ H ρ _ _ er S h (fun G1 H1 vs ts ρ1 e1 S1 r1 h1 => by
    obtain ⟨hl, av, ea, nd, hd⟩ := h1
    intro x' dx hx hdx hne
    rw [List.append_nil]
    refine make_core S1 r1 ea nd (by rw [r1.length, hl]) hx hdx hne hd (fun G' H' o os e S' gp ow fr hq => ⟨rfl, k G' H' x' o _ (e1.trans e) S' gp ow fr hq⟩) (fun d os hq => ?_) (fun G' H' C' y fv fs o os e S' h1 h2 hq => hq.elim) (fun C' fs os hq => hq.elim)
    cases os with
    | nil => cases d <;> exact hq.elim
    | cons o os => cases d <;> first | exact ⟨rfl, by simp⟩ | exact hq.elim) x
end
/-! o.m(..) -/
def D.noF (m : Str) (C : Addr) : D → Bool
  | .ins C' es => C' == C && (es.lookup m).isNone
  | _ => false
def dMeth (C : Addr) (m : Str) (dsp : DSp) (de : DE) (da : DA) : DE := fun ρ q er => de ρ (fun t ρ1 => Opt (rd ρ1 t) fun d => d.noF m C = true ∧ da ρ1 (fun ts ρ2 => Opt (argsOf ρ2 (t :: ts)) fun av => (bors (t :: ts)).Nodup ∧ dsp av (fun d os => q (.val d) (putOuts ρ2 (bors (t :: ts)) os)) (fun C' fs os => er C' fs (putOuts ρ2 (bors (t :: ts)) os))) er) er
def tMethS (C : Addr) (m : Str) (sp : Sp) (E : RSt → XK) (ta : TE) (t : TA) : TE := fun σ H Q => ta σ H fun x H1 => ∃ a dx fs, x = .ref a ∧ H1 a = some (.ins C dx fs) ∧ fs.lookup m = none ∧
  t σ H1 fun vs H2 => sp (x :: vs) H2 Q (E σ)
section
variable {K : PySem.W.Frag} {pa : PaG} {W : WX} {ta : TA} {te : TE} {de : DE} {da : DA} {n : Nat} {dsp : DSp} {C : Addr} {m : Str}
theorem RepF.lookup_none {G : Hp} {f : Str} : ∀ {vs : List (Str × V)} {ds : List (Str × D)}, RepF K G vs ds → ds.lookup f = none → vs.lookup f = none
  | _, _, .nil, _ => rfl
  | _, _, .cons (k := k) (v := v) (d := d) (vs := vs) (ds := ds) r rr, h => by
    rw [List.lookup_cons] at h ⊢
    cases hk : (f == k) with
    | true => rw [hk] at h; cases h
    | false => rw [hk] at h; exact RepF.lookup_none rr h
theorem noF_of {G H : Hp} {v : V} {d : D} (e : Ex G H) (r : RepT K G H v d) (h : d.noF m C = true) : ∃ a dx fs, v = .ref a ∧ H a = some (.ins C dx fs) ∧ fs.lookup m = none := by
  cases d with
  | ins C' es =>
    have h : (C' == C && (es.lookup m).isNone) = true := h
    rw [Bool.and_eq_true] at h
    obtain ⟨p, dx, vs, rfl, hp, rr⟩ := r.ins e
    have ec : C' = C := by simpa using h.1
    subst ec
    exact ⟨p, dx, vs, rfl, hp, rr.lookup_none (by simpa using h.2)⟩
  | _ => cases h
theorem se_methS (he : SE K pa W te de) (ha : SA K pa W ta da) : SE K pa W (tMethS C m (SpV K (n + 1) dsp) (WE W) te ta) (dMeth C m dsp de (dN n da)) := fun F G σ H ρ Q q er S h k x =>
  he F G σ H ρ _ _ er S h (fun G0 H0 v t ρ0 e0 S0 r0 h0 => by
    obtain ⟨d, ed, hf, h0⟩ := h0
    obtain ⟨a, dx, fs, rfl, ha1, hl1⟩ := noF_of S0.ex (S0.rdT r0 ed) hf
    refine ⟨a, dx, fs, rfl, ha1, hl1, ?_⟩
    exact ha F G0 σ H0 ρ0 _ _ er S0 h0 (fun G1 H1 vs ts ρ1 e1 S1 r1 h1 => by
      obtain ⟨hl, av, ea, nd, hd⟩ := h1
      exact call_core S1 (.cons (r0.mono e1) r1) ea nd (by rw [List.length_cons, r1.length, hl]) hd (fun G' H' v d os e S' rv hq => k G' H' v (.val d) _ ((e0.trans e1).trans e) S' rv hq) (fun G' H' C y fv fs os e S' h1 h2 hq => x G' H' _ C y fv fs ((e0.trans e1).trans e) S' hq h1 h2)) (x.grow e0)) x
theorem se_meth (he : SE K pa W te de) (ha : SA K pa W ta da) : SE K pa W (tMeth C m (SpV K (n + 1) dsp) [] L2.E0 te ta) (dMeth C m (noEr dsp) de (dN n da)) := fun F G σ H ρ Q q er S h k x =>
  he F G σ H ρ _ _ er S h (fun G0 H0 v t ρ0 e0 S0 r0 h0 => by
    obtain ⟨d, ed, hf, h0⟩ := h0
    obtain ⟨a, dx, fs, rfl, ha1, hl1⟩ := noF_of S0.ex (S0.rdT r0 ed) hf
    refine ⟨a, dx, fs, rfl, ha1, hl1, ?_⟩
    exact ha F G0 σ H0 ρ0 _ _ er S0 h0 (fun G1 H1 vs ts ρ1 e1 S1 r1 h1 => by
      obtain ⟨hl, av, ea, nd, hd⟩ := h1
      rw [List.append_nil]
      exact call_core S1 (.cons (r0.mono e1) r1) ea nd (by rw [List.length_cons, r1.length, hl]) hd (fun G' H' v d os e S' rv hq => k G' H' v (.val d) _ ((e0.trans e1).trans e) S' rv hq) (fun G' H' C y fv fs os e S' h1 h2 hq => hq.elim)) (x.grow e0)) x
end
end DL
set_option autoImplicit false
set_option Elab.async false
set_option linter.all false
set_option maxRecDepth 100000
namespace DL
open PySem L2 Evl

/-! ### == -/
mutual
def D.toP : D → Option PyData
  | .non => some .none
  | .bl b => some (.bool b)
  | .int i => some (.int i)
  | .str x => some (.str x)
  | .lst xs => (D.toPs xs).map .list
  | .tup xs => (D.toPs xs).map .tuple
  | .byt _ => none
  | .dct _ => none
  | .ins _ _ => none
  | .ptr _ => none
  | .ty _ => none
  | .exc _ _ => none
def D.toPs : List D → Option (List PyData)
  | [] => some []
  | d :: ds => (D.toP d).bind fun p => (D.toPs ds).map fun ps => p :: ps
end
def D.eqB (a b : D) : Option Bool := a.toP.bind fun p => b.toP.bind fun q => if SeqAt.shaped p = true ∧ SeqAt.shaped q = true then some (PyData.eqv p q) else none
def D.eq (a b : D) : Option D := (D.eqB a b).map .bl
def D.ne (a b : D) : Option D := (D.eqB a b).map fun c => .bl (!c)
section
variable {K : PySem.W.Frag} {X : Cx}
mutual
theorem rep_dp {G H : Hp} (e : Ex G H) : ∀ {d : D} {v : V} {p : PyData}, Rep K G v d → d.toP = some p → Dp K H v p
  | .non, _, _, .non, h => by cases h; exact .non
  | .bl _, _, _, .bl _, h => by cases h; exact .bl _
  | .int _, _, _, .int _, h => by cases h; exact .int _
  | .str _, _, _, .str _, h => by cases h; exact .str _
  | .lst xs, _, p, .lst hr rr, h => by
    have h : (D.toPs xs).map PyData.list = some p := by rw [← h, D.toP]
    cases q : D.toPs xs with
    | none => rw [q] at h; cases h
    | some ps => rw [q] at h; cases h; exact .lst (ex_l e hr) (reps_dp e rr q)
  | .tup xs, _, p, .tup hr rr, h => by
    have h : (D.toPs xs).map PyData.tuple = some p := by rw [← h, D.toP]
    cases q : D.toPs xs with
    | none => rw [q] at h; cases h
    | some ps => rw [q] at h; cases h; exact .tup (ex_t e hr) (reps_dp e rr q)
  | .byt _, _, _, _, h => by rw [D.toP] at h; cases h
  | .dct _, _, _, _, h => by rw [D.toP] at h; cases h
  | .ins _ _, _, _, _, h => by rw [D.toP] at h; cases h
  | .ptr _, _, _, _, h => by rw [D.toP] at h; cases h
  | .ty _, _, _, _, h => by rw [D.toP] at h; cases h
  | .exc _ _, _, _, _, h => by rw [D.toP] at h; cases h
theorem reps_dp {G H : Hp} (e : Ex G H) : ∀ {ds : List D} {vs : List V} {ps : List PyData}, Reps K G vs ds → D.toPs ds = some ps → DpAll K H vs ps
  | [], _, _, .nil, h => by rw [D.toPs] at h; cases h; exact .nil
  | d :: ds, _, ps, .cons r rr, h => by
    rw [D.toPs] at h
    cases q : D.toP d with
    | none => rw [q] at h; cases h
    | some p =>
      rw [q] at h
      cases q2 : D.toPs ds with
      | none => rw [q2] at h; cases h
      | some ps => rw [q2] at h; cases h; exact .cons (rep_dp e r q) (reps_dp e rr q2)
end
theorem repT_dp {G H : Hp} {d : D} {v : V} {p : PyData} (e : Ex G H) (r : RepT K G H v d) (h : d.toP = some p) : Dp K H v p := by
  rcases r with r | ⟨b, rfl, _, r⟩
  · exact rep_dp e r h
  · cases d with
    | lst xs =>
      obtain ⟨vs, h1, rr⟩ := r
      rw [D.toP] at h
      cases q : D.toPs xs with
      | none => rw [q] at h; cases h
      | some ps => rw [q] at h; cases h; exact .lst (SqL.of h1) (reps_dp e rr q)
    | dct _ => rw [D.toP] at h; cases h
    | ins _ _ => rw [D.toP] at h; cases h
    | _ => exact r.elim
theorem eqB_some {a b : D} {c : Bool} (h : D.eqB a b = some c) : ∃ p q, a.toP = some p ∧ b.toP = some q ∧ SeqAt.shaped p = true ∧ SeqAt.shaped q = true ∧ c = PyData.eqv p q := by
  unfold D.eqB at h
  cases q1 : a.toP with
  | none => rw [q1] at h; cases h
  | some p =>
    cases q2 : b.toP with
    | none => rw [q1, q2] at h; cases h
    | some q =>
      rw [q1, q2] at h
      have h : (if SeqAt.shaped p = true ∧ SeqAt.shaped q = true then some (PyData.eqv p q) else none) = some c := h
      split at h
      · rename_i hs; cases h; exact ⟨p, q, rfl, rfl, hs.1, hs.2, rfl⟩
      · cases h
theorem sr_eq : SR K (rEqD K) D.eq := fun G H x y dx dy z Q e rx ry q k => by
  unfold D.eq at q
  cases qc : D.eqB dx dy with
  | none => rw [qc] at q; cases q
  | some c =>
    rw [qc] at q
    cases q
    obtain ⟨p1, p2, h1, h2, s1, s2, rfl⟩ := eqB_some qc
    exact ⟨p1, p2, repT_dp e rx h1, repT_dp e ry h2, s1, s2, k G H _ (Al.refl e) (.bl _)⟩
theorem sr_ne : SR K (rNeD K) D.ne := fun G H x y dx dy z Q e rx ry q k => by
  unfold D.ne at q
  cases qc : D.eqB dx dy with
  | none => rw [qc] at q; cases q
  | some c =>
    rw [qc] at q
    cases q
    obtain ⟨p1, p2, h1, h2, s1, s2, rfl⟩ := eqB_some qc
    exact ⟨p1, p2, repT_dp e rx h1, repT_dp e ry h2, s1, s2, k G H _ (Al.refl e) (.bl _)⟩
end

/-! ### in -/
def D.inStr : D → D → Option Bool
  | .str x, .str y => some (!(Builtin.Str.occurrences y x 0 y.length 1).isEmpty)
  | _, _ => none
def D.inLst : D → D → Option Bool
  | d, .lst ds => d.toP.bind fun p => (D.toPs ds).bind fun ps => if SeqAt.shaped p = true ∧ SeqAt.shaped (.list ps) = true then some (ps.any fun z => PyData.eqv z p) else none
  | _, _ => none
def D.flat : D → Option V
  | .non => some .non
  | .bl b => some (.bl b)
  | .int i => some (.int i)
  | .str x => some (.str x)
  | _ => none
def D.flats : List D → Option (List V)
  | [] => some []
  | d :: ds => d.flat.bind fun v => (D.flats ds).map fun vs => v :: vs
def D.inTup : D → D → Option Bool
  | d, .tup ds => d.flat.bind fun v => (D.flats ds).bind fun vs => if flatV v = true ∧ vs.all flatV = true then some (inV v vs) else none
  | _, _ => none
def D.isIn (a b : D) : Option D := ((D.inStr a b).or ((D.inLst a b).or (D.inTup a b))).map .bl
def D.notIn (a b : D) : Option D := ((D.inStr a b).or ((D.inLst a b).or (D.inTup a b))).map fun c => .bl (!c)
section
variable {K : PySem.W.Frag} {X : Cx}
def rInS : R2 := fun x y H Q => ∃ i j, x = .str i ∧ y = .str j ∧ Q (.bl (!(Builtin.Str.occurrences j i 0 j.length 1).isEmpty)) H
def rNotInS : R2 := fun x y H Q => ∃ i j, x = .str i ∧ y = .str j ∧ Q (.bl (!(!(Builtin.Str.occurrences j i 0 j.length 1).isEmpty))) H
def rInX (K : PySem.W.Frag) : R2 := fun x y H Q => rInS x y H Q ∨ rInD K x y H Q ∨ rIn K false x y H Q
def rNotInX (K : PySem.W.Frag) : R2 := fun x y H Q => rNotInS x y H Q ∨ rNotInD K x y H Q ∨ rIn K true x y H Q
theorem op_inX (hu : X.A.units + 65 < cLine) : OpR X (compareOp .In) (rInX X.K) := OpR.or (r := rInS) op_in_str (OpR.or (op_inD hu) op_in_seq)
theorem op_notInX (hu : X.A.units + 65 < cLine) : OpR X (compareOp .NotIn) (rNotInX X.K) := OpR.or (r := rNotInS) op_notin_str (OpR.or (op_notInD hu) op_notIn_seq)
theorem flat_of {G H : Hp} {d : D} {v w : V} (r : RepT K G H v d) (h : d.flat = some w) : v = w := by
  rcases r with r | ⟨b, rfl, _, r⟩
  · cases r <;> first | (cases h; rfl) | cases h
  · cases d <;> first | exact r.elim | cases h
theorem flats_of {G : Hp} : ∀ {ds : List D} {vs ws : List V}, Reps K G vs ds → D.flats ds = some ws → vs = ws
  | [], _, _, .nil, h => by cases h; rfl
  | d :: ds, _, ws, .cons r rr, h => by
    have h : d.flat.bind (fun v => (D.flats ds).map fun vs => v :: vs) = some ws := h
    cases q : d.flat with
    | none => rw [q] at h; cases h
    | some v =>
      cases q2 : D.flats ds with
      | none => rw [q, q2] at h; cases h
      | some vs =>
        rw [q, q2] at h
        cases h
        rw [flat_of (H := G) (.inl r) q, flats_of rr q2]
theorem or_cases {α : Type} {a b : Option α} {c : α} (h : a.or b = some c) : a = some c ∨ b = some c := by
  cases a with
  | some x => exact .inl h
  | none => exact .inr h
theorem in_split {a b : D} {c : Bool} (h : ((D.inStr a b).or ((D.inLst a b).or (D.inTup a b))) = some c) : D.inStr a b = some c ∨ D.inLst a b = some c ∨ D.inTup a b = some c := by
  rcases or_cases h with h | h
  · exact .inl h
  · exact .inr (or_cases h)
theorem inLst_some {a b : D} {c : Bool} (h : D.inLst a b = some c) : ∃ ds p ps, b = .lst ds ∧ a.toP = some p ∧ D.toPs ds = some ps ∧ SeqAt.shaped p = true ∧ SeqAt.shaped (.list ps) = true ∧ c = ps.any fun z => PyData.eqv z p := by
  cases b with
  | lst ds =>
    have h : (a.toP.bind fun p => (D.toPs ds).bind fun ps => if SeqAt.shaped p = true ∧ SeqAt.shaped (.list ps) = true then some (ps.any fun z => PyData.eqv z p) else none) = some c := by
      cases a <;> exact h
    cases q1 : a.toP with
    | none => rw [q1] at h; cases h
    | some p =>
      cases q2 : D.toPs ds with
      | none => rw [q1, q2] at h; cases h
      | some ps =>
        rw [q1, q2] at h
        have h : (if SeqAt.shaped p = true ∧ SeqAt.shaped (.list ps) = true then some (ps.any fun z => PyData.eqv z p) else none) = some c := h
        split at h
        · rename_i hs; cases h; exact ⟨ds, p, ps, rfl, rfl, q2, hs.1, hs.2, rfl⟩
        · cases h
  | _ => cases a <;> cases h
theorem inTup_some {a b : D} {c : Bool} (h : D.inTup a b = some c) : ∃ ds v vs, b = .tup ds ∧ a.flat = some v ∧ D.flats ds = some vs ∧ flatV v = true ∧ vs.all flatV = true ∧ c = inV v vs := by
  cases b with
  | tup ds =>
    have h : (a.flat.bind fun v => (D.flats ds).bind fun vs => if flatV v = true ∧ vs.all flatV = true then some (inV v vs) else none) = some c := by
      cases a <;> exact h
    cases q1 : a.flat with
    | none => rw [q1] at h; cases h
    | some v =>
      cases q2 : D.flats ds with
      | none => rw [q1, q2] at h; cases h
      | some vs =>
        rw [q1, q2] at h
        have h : (if flatV v = true ∧ vs.all flatV = true then some (inV v vs) else none) = some c := h
        split at h
        · rename_i hs; cases h; exact ⟨ds, v, vs, rfl, rfl, q2, hs.1, hs.2, rfl⟩
        · cases h
  | _ => cases a <;> cases h
theorem inStr_some {a b : D} {c : Bool} (h : D.inStr a b = some c) : ∃ x y, a = .str x ∧ b = .str y ∧ c = (!(Builtin.Str.occurrences y x 0 y.length 1).isEmpty) := by
  cases a with
  | str x => cases b with
    | str y => cases h; exact ⟨x, y, rfl, rfl, rfl⟩
    | _ => cases h
  | _ => cases h
theorem lst_dp {G H : Hp} {ds : List D} {v : V} {ps : List PyData} (e : Ex G H) (r : RepT K G H v (.lst ds)) (h : D.toPs ds = some ps) : Dp K H v (.list ps) := repT_dp e r (by rw [D.toP, h]; rfl)
theorem sr_in : SR K (rInX K) D.isIn := fun G H x y dx dy z Q e rx ry q k => by
  unfold D.isIn at q
  cases qc : ((D.inStr dx dy).or ((D.inLst dx dy).or (D.inTup dx dy))) with
  | none => rw [qc] at q; cases q
  | some c =>
    rw [qc] at q
    cases q
    rcases in_split qc with h | h | h
    · obtain ⟨a, b, rfl, rfl, rfl⟩ := inStr_some h
      rw [rx.str, ry.str]
      exact .inl ⟨_, _, rfl, rfl, k G H _ (Al.refl e) (.bl _)⟩
    · obtain ⟨ds, p, ps, rfl, h1, h2, s1, s2, rfl⟩ := inLst_some h
      exact .inr (.inl ⟨p, ps, repT_dp e rx h1, lst_dp e ry h2, s1, s2, k G H _ (Al.refl e) (.bl _)⟩)
    · obtain ⟨ds, v, vs, rfl, h1, h2, s1, s2, rfl⟩ := inTup_some h
      obtain ⟨p, ws, rfl, hs, rr⟩ := ry.tup e
      have e1 := flat_of rx h1
      have e2 := flats_of rr h2
      subst e1 e2
      exact .inr (.inr ⟨p, _, rfl, .inr hs, s1, s2, k G H _ (Al.refl e) (.bl _)⟩)
theorem sr_notIn : SR K (rNotInX K) D.notIn := fun G H x y dx dy z Q e rx ry q k => by
  unfold D.notIn at q
  cases qc : ((D.inStr dx dy).or ((D.inLst dx dy).or (D.inTup dx dy))) with
  | none => rw [qc] at q; cases q
  | some c =>
    rw [qc] at q
    cases q
    rcases in_split qc with h | h | h
    · obtain ⟨a, b, rfl, rfl, rfl⟩ := inStr_some h
      rw [rx.str, ry.str]
      exact .inl ⟨_, _, rfl, rfl, k G H _ (Al.refl e) (.bl _)⟩
    · obtain ⟨ds, p, ps, rfl, h1, h2, s1, s2, rfl⟩ := inLst_some h
      exact .inr (.inl ⟨p, ps, repT_dp e rx h1, lst_dp e ry h2, s1, s2, k G H _ (Al.refl e) (.bl _)⟩)
    · obtain ⟨ds, v, vs, rfl, h1, h2, s1, s2, rfl⟩ := inTup_some h
      obtain ⟨p, ws, rfl, hs, rr⟩ := ry.tup e
      have e1 := flat_of rx h1
      have e2 := flats_of rr h2
      subst e1 e2
      exact .inr (.inr ⟨p, _, rfl, .inr hs, s1, s2, k G H _ (Al.refl e) (.bl _)⟩)
end

/-! ### slices -/
def dCut (xs : List D) (lo hi : Option Int) : List D := (xs.drop (HT.sIx xs.length 0 lo)).take (HT.sIx xs.length xs.length hi - HT.sIx xs.length 0 lo)
def D.cut : D → Option Int → Option Int → Option D
  | .lst xs, lo, hi => some (.lst (dCut xs lo hi))
  | .tup xs, lo, hi => some (.tup (dCut xs lo hi))
  | .str z, lo, hi => if z.length ≤ sizeLine then some (.str (cutS z lo hi)) else none
  | _, _, _ => none
abbrev DO := Ro → (Option Int → Ro → Prop) → ER → Prop
def dNoP : DO := fun ρ q _ => q none ρ
def dPart (de : DE) : DO := fun ρ q er => de ρ (fun t ρ1 => Opt (rd ρ1 t) fun d => match d with
  | .int i => q (some i) ρ1
  | _ => False) er
def dSl (de : DE) (dl dh : DO) : DE := fun ρ q er => de ρ (fun t ρ1 => dl ρ1 (fun l ρ2 => dh ρ2 (fun u ρ3 => Opt (rd ρ3 t) fun d => Opt (d.cut l u) fun z => q (.val z) ρ3) er) er) er
def SO (K : PySem.W.Frag) (pa : PaG) (W : WX) (to : TO) (d : DO) : Prop := ∀ (F G : Hp) (σ : RSt) (H : Hp) (ρ : Ro) (Q : Option Int → Hp → Prop) (q : Option Int → Ro → Prop) (er : ER), Sim K pa F G σ H ρ → d ρ q er →
  (∀ G' H' o ρ', Ex G G' → Sim K pa F G' σ H' ρ' → q o ρ' → Q o H') → XL K pa F G W σ er → to σ H Q
def rSlX (K : PySem.W.Frag) : V → Option Int → Option Int → Hp → VK → Prop := fun x lo hi H Q => rSlL K x lo hi H Q ∨ rSlA K x lo hi H Q ∨ rSlS x lo hi H Q
section
variable {K : PySem.W.Frag} {pa : PaG} {W : WX} {te : TE} {de : DE} {tl th : TO} {dl dh : DO} {X : Cx}
theorem sl_any : SlR X (rSlX X.K) := SlR.or sl_list (SlR.or sl_tupA sl_str)
theorem so_none : SO K pa W tNoPart dNoP := fun F G σ H ρ Q q er S h k x => k G H none ρ (Ex.refl G) S h
theorem so_some (he : SE K pa W te de) : SO K pa W (tPart te) (dPart de) := fun F G σ H ρ Q q er S h k x =>
  he F G σ H ρ _ _ er S h (fun G1 H1 v t ρ1 e1 S1 r1 h1 => by
    obtain ⟨d, ed, h2⟩ := h1
    cases d with
    | int i => rw [(S1.rdT r1 ed).int]; exact ⟨i, rfl, k G1 H1 (some i) ρ1 e1 S1 h2⟩
    | _ => exact h2.elim) x
theorem reps_cut {G : Hp} {vs : List V} {ds : List D} (r : Reps K G vs ds) (lo hi : Option Int) : Reps K G (cutV vs lo hi) (dCut ds lo hi) := by
  unfold cutV dCut
  rw [r.length]
  exact (r.drop _).take _
theorem se_sl (he : SE K pa W te de) (hl : SO K pa W tl dl) (hh : SO K pa W th dh) : SE K pa W (tSl (rSlX K) te tl th) (dSl de dl dh) := fun F G σ H ρ Q q er S h k x =>
  he F G σ H ρ _ _ er S h (fun G1 H1 v t ρ1 e1 S1 r1 h1 => hl F G1 σ H1 ρ1 _ _ er S1 h1 (fun G2 H2 lo ρ2 e2 S2 h2 => hh F G2 σ H2 ρ2 _ _ er S2 h2 (fun G3 H3 hi ρ3 e3 S3 h3 => by
    obtain ⟨d, ed, z, ez, h4⟩ := h3
    have r := S3.rdT ((r1.mono e2).mono e3) ed
    have eG := (e1.trans e2).trans e3
    cases d with
    | lst ds =>
      cases ez
      obtain ⟨p, vs, rfl, hs, rr⟩ := r.lst S3.ex
      refine .inl ⟨p, vs, rfl, hs, fun b hb => ?_⟩
      have a := Al.one (G := G3) (p := b) (o := .lst (cutV vs lo hi)) S3.ex hb
      exact k _ _ _ (.val _) ρ3 (eG.trans a.g) (S3.al a) (.lst (SqL.of upd_same) ((reps_cut rr lo hi).mono a.g)) h4
    | tup ds =>
      cases ez
      have g := r.tupR
      obtain ⟨p, vs, rfl, hs, rr⟩ := r.tup S3.ex
      refine .inr (.inl ⟨p, vs, rfl, hs, fun hw => ?_, fun _ b hb => ?_⟩)
      · have ec : dCut ds lo hi = ds := by
          unfold dCut
          rw [← rr.length, hw.1, hw.2, List.drop_zero, Nat.sub_zero, rr.length, List.take_length]
        rw [ec] at h4
        exact k G3 H3 _ (.val _) ρ3 eG S3 g h4
      · have a := Al.one (G := G3) (p := b) (o := .tup (cutV vs lo hi)) S3.ex hb
        exact k _ _ _ (.val _) ρ3 (eG.trans a.g) (S3.al a) (.tup (SqT.of upd_same) ((reps_cut rr lo hi).mono a.g)) h4
    | str y =>
      have ez : (if y.length ≤ sizeLine then some (D.str (cutS y lo hi)) else none) = some z := ez
      split at ez
      · rename_i hy
        cases ez
        rw [r.str]
        exact .inr (.inr ⟨y, rfl, hy, k G3 H3 _ (.val _) ρ3 eG S3 (.str _) h4⟩)
      · cases ez
    | _ => cases ez) (x.grow (e1.trans e2))) (x.grow e1)) x
end

/-! ### dicts with numbers and texts as keys -/
def D.key : D → Option Key
  | .int i => some (.inl i)
  | .str x => some (.inr x)
  | _ => none
def valD (kvs : List (Key × D)) (k : Key) : Option D := (kvs.find? fun kv => decide (kv.1 = k)).map (·.2)
def putKD (kvs : List (Key × D)) (k : Key) (v : D) : List (Key × D) :=
  if (kvs.find? fun kv => decide (kv.1 = k)).isSome then kvs.map fun kv => if kv.1 = k then (kv.1, v) else kv else kvs ++ [(k, v)]
def dDNew : DF := fun ρ q _ => q (.dct []) ρ
def dDGet (dd dk : DE) : DE := fun ρ q er => dd ρ (fun s ρ1 => dk ρ1 (fun t ρ2 => Opt (rd ρ2 s) fun d => Opt (rd ρ2 t) fun e => Opt e.key fun k => match d with
  | .dct kvs => Opt (valD kvs k) fun z => q (.val z) ρ2
  | _ => False) er) er
def dDIn (neg : Bool) (dk dd : DE) : DE := fun ρ q er => dk ρ (fun t ρ1 => dd ρ1 (fun s ρ2 => Opt (rd ρ2 s) fun d => Opt (rd ρ2 t) fun e => Opt e.key fun k => match d with
  | .dct kvs => q (.val (.bl (if neg then !(valD kvs k).isSome else (valD kvs k).isSome))) ρ2
  | _ => False) er) er
/-- d[k] = e -/
def dDPut (i : Nat) (dk de : DE) : DS := fun DD ρ => de ρ (fun t ρ1 => match t with
  | .val e => (ownAt ρ1 i).isSome = true ∧ dk ρ1 (fun u ρ2 => Opt (rd ρ2 u) fun kd => Opt kd.key fun k => Opt (ownAt ρ2 i) fun d => (match d with
    | .dct kvs => kvs.length < sizeLine ∧ DD.nx (setD ρ2 i (.dct (putKD kvs k e)))
    | _ => False)) DD.er
  | .bor _ => False) DD.er
section
variable {K : PySem.W.Frag} {pa : PaG} {W : WX} {te td tk : TE} {de dd dk : DE}
theorem key_of {G H : Hp} {v : V} {d : D} {k : Key} (r : RepT K G H v d) (h : d.key = some k) : v = kV k := by
  cases d with
  | int i => cases h; exact r.int
  | str x => cases h; exact r.str
  | _ => cases h
theorem RepK.find {G : Hp} {k : Key} : ∀ {vs : List (Key × V)} {ds : List (Key × D)}, RepK K G vs ds → (∀ z, valD ds k = some z → ∃ v, valV vs k = some v ∧ Rep K G v z) ∧ (valD ds k).isSome = (valV vs k).isSome
  | _, _, .nil => ⟨(fun z h => by cases h), rfl⟩
  | _, _, .cons (k := k') (v := v) (d := d) (vs := vs) (ds := ds) r rr => by
    obtain ⟨h1, h2⟩ := RepK.find (k := k) rr
    unfold valD valV at *
    by_cases e : k' = k
    · rw [List.find?_cons_of_pos (by simpa using e), List.find?_cons_of_pos (by simpa using e)]
      exact ⟨fun z hz => by cases hz; exact ⟨v, rfl, r⟩, rfl⟩
    · rw [List.find?_cons_of_neg (by simpa using e), List.find?_cons_of_neg (by simpa using e)]
      exact ⟨h1, h2⟩
theorem RepK.length {G : Hp} : ∀ {vs : List (Key × V)} {ds : List (Key × D)}, RepK K G vs ds → vs.length = ds.length
  | _, _, .nil => rfl
  | _, _, .cons _ r => by rw [List.length_cons, List.length_cons, r.length]
theorem RepK.app {G : Hp} : ∀ {vs ws : List (Key × V)} {ds es : List (Key × D)}, RepK K G vs ds → RepK K G ws es → RepK K G (vs ++ ws) (ds ++ es)
  | _, _, _, _, .nil, s => s
  | _, _, _, _, .cons r t, s => .cons r (RepK.app t s)
theorem RepK.mapPut {G : Hp} {k : Key} {v : V} {d : D} (r : Rep K G v d) : ∀ {vs : List (Key × V)} {ds : List (Key × D)}, RepK K G vs ds → RepK K G (vs.map fun kv => if kv.1 = k then (kv.1, v) else kv) (ds.map fun kv => if kv.1 = k then (kv.1, d) else kv)
  | _, _, .nil => .nil
  | _, _, .cons (k := k') h rr => by
    rw [List.map_cons, List.map_cons]
    by_cases e : k' = k
    · rw [if_pos e, if_pos e]; exact .cons r (RepK.mapPut r rr)
    · rw [if_neg e, if_neg e]; exact .cons h (RepK.mapPut r rr)
theorem RepK.put {G : Hp} {k : Key} {v : V} {d : D} (r : Rep K G v d) {vs : List (Key × V)} {ds : List (Key × D)} (h : RepK K G vs ds) : RepK K G (putK vs k v) (putKD ds k d) := by
  have e := (h.find (k := k)).2
  have e2 := valV_any k vs
  have e3 : (ds.find? fun kv => decide (kv.1 = k)).isSome = (valD ds k).isSome := by unfold valD; rw [Option.isSome_map]
  unfold putKD putK
  rw [e2, ← e, e3]
  split
  · exact RepK.mapPut r h
  · exact h.app (.cons r .nil)
theorem sf_dnew : SF K pa W tDNewK dDNew := fun F G σ H ρ Q q er S h k x => fun p hp =>
  k G _ p (.dct []) ρ (Ex.refl G) (S.new hp) ⟨fresh_back S.ex hp, fresh_back S.fx hp⟩ ⟨[], upd_same, .nil⟩ (fresh_no S hp) h
theorem se_dget (hd : SE K pa W td dd) (hk : SE K pa W tk dk) : SE K pa W (tDGet td tk) (dDGet dd dk) := fun F G σ H ρ Q q er S h k x =>
  hd F G σ H ρ _ _ er S h (fun G1 H1 v s ρ1 e1 S1 r1 h1 => hk F G1 σ H1 ρ1 _ _ er S1 h1 (fun G2 H2 w t ρ2 e2 S2 r2 h2 => by
    obtain ⟨d, ed, e, ee, kk, ek, h3⟩ := h2
    have rk := key_of (S2.rdT r2 ee) ek
    subst rk
    cases d with
    | dct kvs =>
      obtain ⟨z, ez, h4⟩ := h3
      obtain ⟨p, vs, rfl, hp, rr⟩ := (S2.rdT (r1.mono e2) ed).dct S2.ex
      obtain ⟨v', hv', rv'⟩ := rr.find.1 z ez
      refine ⟨p, v', rfl, ?_, k G2 H2 v' (.val z) ρ2 (e1.trans e2) S2 rv' h4⟩
      rw [← hv']
      exact DGet.k hp
    | _ => exact h3.elim) (x.grow e1)) x
theorem se_din (hk : SE K pa W tk dk) (hd : SE K pa W td dd) : SE K pa W (tDIn tk td) (dDIn false dk dd) := fun F G σ H ρ Q q er S h k x =>
  hk F G σ H ρ _ _ er S h (fun G1 H1 v t ρ1 e1 S1 r1 h1 => hd F G1 σ H1 ρ1 _ _ er S1 h1 (fun G2 H2 w s ρ2 e2 S2 r2 h2 => by
    obtain ⟨d, ed, e, ee, kk, ek, h3⟩ := h2
    have rk := key_of (S2.rdT (r1.mono e2) ee) ek
    subst rk
    cases d with
    | dct kvs =>
      obtain ⟨p, vs, rfl, hp, rr⟩ := (S2.rdT r2 ed).dct S2.ex
      refine ⟨p, valV vs kk, rfl, DGet.k hp, ?_⟩
      rw [← rr.find.2]
      exact k G2 H2 _ (.val _) ρ2 (e1.trans e2) S2 (.bl _) h3
    | _ => exact h3.elim) (x.grow e1)) x
theorem se_dnotin (hk : SE K pa W tk dk) (hd : SE K pa W td dd) : SE K pa W (tDNotIn tk td) (dDIn true dk dd) := fun F G σ H ρ Q q er S h k x =>
  hk F G σ H ρ _ _ er S h (fun G1 H1 v t ρ1 e1 S1 r1 h1 => hd F G1 σ H1 ρ1 _ _ er S1 h1 (fun G2 H2 w s ρ2 e2 S2 r2 h2 => by
    obtain ⟨d, ed, e, ee, kk, ek, h3⟩ := h2
    have rk := key_of (S2.rdT (r1.mono e2) ee) ek
    subst rk
    cases d with
    | dct kvs =>
      obtain ⟨p, vs, rfl, hp, rr⟩ := (S2.rdT r2 ed).dct S2.ex
      refine ⟨p, valV vs kk, rfl, DGet.k hp, ?_⟩
      rw [← rr.find.2]
      exact k G2 H2 _ (.val _) ρ2 (e1.trans e2) S2 (.bl _) h3
    | _ => exact h3.elim) (x.grow e1)) x
theorem ss_dput {i : Nat} (hk : SE K pa W tk dk) (he : SE K pa W te de) : SS K pa W (sDPut (tVar i) tk te) (dDPut i dk de) := fun F G σ H ρ D DD S h l =>
  he F G σ H ρ _ _ _ S h (fun G1 H1 v t ρ1 e1 S1 r1 h1 => by
    cases t with
    | bor j => exact h1.elim
    | val e =>
      obtain ⟨hs, h1⟩ := h1
      cases q : ownAt ρ1 i with
      | none => rw [q] at hs; cases hs
      | some d0 =>
        obtain ⟨s, es, ed⟩ := ownAt_some q
        obtain ⟨p, hp, gp, ow⟩ := S1.own i s d0 es ed
        refine ⟨.ref p, hp, ?_⟩
        refine hk F G1 σ H1 ρ1 _ _ _ S1 h1 (fun G2 H2 w u ρ2 e2 S2 r2 h2 => ?_) ((l.xl σ).grow e1)
        obtain ⟨dk', ek, kk, ekk, d, ed2, h3⟩ := h2
        obtain ⟨s2, es2, ed2⟩ := ownAt_some ed2
        obtain ⟨b, hb, gb, ow2⟩ := S2.own i s2 d es2 ed2
        rw [hp] at hb
        cases hb
        have rk := key_of (S2.rdT r2 ek) ekk
        subst rk
        cases d with
        | dct kvs =>
          obtain ⟨hl, h4⟩ := h3
          obtain ⟨vs, hv, rr⟩ := ow2
          refine ⟨p, _, rfl, DPut.k hv (by rw [rr.length]; exact hl), ?_⟩
          have r1 : Rep K G1 v e := r1
          exact l.nx G2 σ _ _ (e1.trans e2) (S2.mut (e := .dct (putKD kvs kk e)) es2 ed2 hp ⟨_, upd_same, rr.put (r1.mono e2)⟩) h4
        | _ => exact h3.elim) (l.xl σ)
end
end DL
set_option autoImplicit false
set_option Elab.async false
set_option linter.all false
set_option maxRecDepth 100000
namespace DL
open PySem L2 Evl

theorem SpV.len {K : PySem.W.Frag} {n : Nat} {dsp : DSp} {vs : List V} {H : Hp} {Q : VK} {E : XK} (h : SpV K n dsp vs H Q E) : vs.length = n := by
  obtain ⟨_, _, _, h, _⟩ := h
  exact h
theorem SpF.len {K : PySem.W.Frag} {n : Nat} {dsp : DSp} {vs : List V} {H : Hp} {Q : VK} {E : XK} (h : SpF K n dsp vs H Q E) : vs.length = n := by
  obtain ⟨_, _, _, h, _⟩ := h
  exact h
theorem hu65 {A : Around} {k : Nat} (hr : Room k A) : A.units + 65 < cLine := by have := hr.un; omega

/-! ### a, b = x, y -/
def dPar (i j : Nat) (da : DA) : DS := fun DD ρ => da ρ (fun ts ρ1 => match ts with
  | [.val a, .val b] => (isPar ρ1 i = false ∧ isPar ρ1 j = false) ∧ DD.nx ((ρ1.set i (.val a)).set j (.val b))
  | _ => False) DD.er
def dPar3 (i j l : Nat) (da : DA) : DS := fun DD ρ => da ρ (fun ts ρ1 => match ts with
  | [.val a, .val b, .val c] => (isPar ρ1 i = false ∧ isPar ρ1 j = false ∧ isPar ρ1 l = false) ∧ DD.nx (((ρ1.set i (.val a)).set j (.val b)).set l (.val c))
  | _ => False) DD.er
def dParVO (i j : Nat) (da : DE) (db : DF) : DS := fun DD ρ => da ρ (fun t ρ1 => match t with
  | .val a => db ρ1 (fun b ρ2 => (isPar ρ2 i = false ∧ isPar ρ2 j = false) ∧ DD.nx ((ρ2.set i (.val a)).set j (.own b))) DD.er
  | .bor _ => False) DD.er
def dParOV (i j : Nat) (da : DF) (db : DE) : DS := fun DD ρ => da ρ (fun a ρ1 => db ρ1 (fun t ρ2 => match t with
  | .val b => (isPar ρ2 i = false ∧ isPar ρ2 j = false) ∧ DD.nx ((ρ2.set i (.own a)).set j (.val b))
  | .bor _ => False) DD.er) DD.er
def dParOO (i j : Nat) (da db : DF) : DS := fun DD ρ => da ρ (fun a ρ1 => db ρ1 (fun b ρ2 => (isPar ρ2 i = false ∧ isPar ρ2 j = false) ∧ DD.nx ((ρ2.set i (.own a)).set j (.own b))) DD.er) DD.er
section
variable {K : PySem.W.Frag} {pa : PaG} {W : WX} {ta : TA} {da : DA} {te tf : TE} {de : DE} {df dg : DF} {i j : Nat}
theorem isPar_set {ρ : Ro} {i j : Nat} {d : D} (h : isPar ρ j = false) : isPar (ρ.set i (.val d)) j = false := by
  unfold isPar at *
  by_cases hij : i = j
  · subst hij
    rw [List.getElem?_set, if_pos rfl]
    split <;> simp_all
  · rw [List.getElem?_set_ne hij]; exact h
theorem isPar_setO {ρ : Ro} {i j : Nat} {d : D} (h : isPar ρ j = false) : isPar (ρ.set i (.own d)) j = false := by
  unfold isPar at *
  by_cases hij : i = j
  · subst hij
    rw [List.getElem?_set, if_pos rfl]
    split <;> simp_all
  · rw [List.getElem?_set_ne hij]; exact h
theorem ss_par (ha : SA K pa W ta da) : SS K pa W (tPar i j ta) (dPar i j da) := fun F G σ H ρ D DD S h l =>
  ha F G σ H ρ _ _ _ S h (fun G1 H1 vs ts ρ1 e1 S1 r1 h1 => by
    match ts, h1, r1 with
    | [.val a, .val b], h1, .cons ra (.cons rb .nil) =>
      exact ⟨_, _, rfl, l.nx G1 _ H1 _ e1 ((S1.store h1.1.1 ra).store (isPar_set h1.1.2) rb) h1.2⟩
    | [], h1, _ => exact h1.elim
    | [t], h1, _ => cases t <;> exact h1.elim
    | [.bor _, _], h1, _ => exact h1.elim
    | [.val _, .bor _], h1, _ => exact h1.elim
    | t :: u :: v :: w, h1, _ => cases t <;> cases u <;> exact h1.elim) (l.xl σ)
theorem ss_par3 {k : Nat} (ha : SA K pa W ta da) : SS K pa W (tPar3 i j k ta) (dPar3 i j k da) := fun F G σ H ρ D DD S h l =>
  ha F G σ H ρ _ _ _ S h (fun G1 H1 vs ts ρ1 e1 S1 r1 h1 => by
    match ts, h1, r1 with
    | [.val a, .val b, .val c], h1, .cons ra (.cons rb (.cons rc .nil)) =>
      exact ⟨_, _, _, rfl, l.nx G1 _ H1 _ e1 (((S1.store h1.1.1 ra).store (isPar_set h1.1.2.1) rb).store (isPar_set (isPar_set h1.1.2.2)) rc) h1.2⟩
    | [], h1, _ => exact h1.elim
    | [t], h1, _ => cases t <;> exact h1.elim
    | [t, u], h1, _ => cases t <;> cases u <;> exact h1.elim
    | [.bor _, _, _], h1, _ => exact h1.elim
    | [.val _, .bor _, _], h1, _ => exact h1.elim
    | [.val _, .val _, .bor _], h1, _ => exact h1.elim
    | t :: u :: v :: w :: x, h1, _ => cases t <;> cases u <;> cases v <;> exact h1.elim) (l.xl σ)
theorem fr_set {F G H : Hp} {σ : RSt} {ρ : Ro} {v : V} {d : D} {p : Addr} (fr : ∀ (i : Nat) (s : Sl) (d : D), ρ[i]? = some s → s.ownD = some d → σ[i]? ≠ some (some (.ref p))) :
    ∀ (k : Nat) (s : Sl) (e : D), (ρ.set i (.val d))[k]? = some s → s.ownD = some e → (σ.set i (some v))[k]? ≠ some (some (.ref p)) := fun k s e h hd => by
  by_cases hk : i = k
  · subst hk
    rw [List.getElem?_set, if_pos rfl] at h
    split at h
    · cases h; cases hd
    · cases h
  · rw [List.getElem?_set_ne hk] at h ⊢
    exact fr k s e h hd
theorem ss_parVO (ha : SE K pa W te de) (hb : SF K pa W tf df) : SS K pa W (tPar i j (tCons te (tCons tf tNil))) (dParVO i j de df) := fun F G σ H ρ D DD S h l =>
  ha F G σ H ρ _ _ _ S h (fun G1 H1 v t ρ1 e1 S1 r1 h1 => by
    cases t with
    | bor k => exact h1.elim
    | val a =>
      refine hb F G1 σ H1 ρ1 _ _ _ S1 h1 (fun G2 H2 p b ρ2 e2 S2 gp ow fr h2 => ?_) ((l.xl σ).grow e1)
      have r1 : Rep K G1 v a := r1
      exact ⟨_, _, rfl, l.nx G2 _ H2 _ (e1.trans e2) ((S2.store h2.1.1 (r1.mono e2)).storeOwn (isPar_set h2.1.2) gp ow (fr_set (F := F) (G := G2) (H := H2) fr)) h2.2⟩) (l.xl σ)
/-- a new object is held aside while something else runs -/
theorem aside {F G H : Hp} {σ : RSt} {ρ : Ro} {p : Addr} {a : D} (S : Sim K pa F G σ H ρ) (gp : G p = none ∧ F p = none) (ow : OwnAt K G H p a) (fr : ∀ (i : Nat) (s : Sl) (d : D), ρ[i]? = some s → s.ownD = some d → σ[i]? ≠ some (some (.ref p))) :
    ∃ F', (Ex F F' ∧ F' p ≠ none) ∧ Sim K pa F' G σ H ρ ∧ ∀ G' H' ρ', Ex G G' → Sim K pa F' G' σ H' ρ' → Sim K pa F G' σ H' ρ' ∧ (G' p = none ∧ F p = none) ∧ OwnAt K G' H' p a ∧ (∀ (i : Nat) (s : Sl) (d : D), ρ'[i]? = some s → s.ownD = some d → σ[i]? ≠ some (some (.ref p))) := by
  obtain ⟨o, ho⟩ := ow.some
  refine ⟨upd F p o, ⟨Ex.new gp.2, by rw [upd_same]; simp⟩, S.frameIn gp.1 ho fr, fun G' H' ρ' e S' => ?_⟩
  refine ⟨S'.frame (Ex.new gp.2), ⟨S'.dj p o upd_same, gp.2⟩, ow.mono e (by rw [ho, S'.fx p o upd_same]), fun i s d h1 h2 h3 => ?_⟩
  have := S'.ofr i s d p h1 h2 h3
  rw [upd_same] at this
  cases this
theorem XL.frame {F F' G : Hp} {σ : RSt} {er : ER} (e : Ex F F') (x : XL K pa F G W σ er) : XL K pa F' G W σ er := fun G' H' ρ' C d vs fs e1 S' => x G' H' ρ' C d vs fs e1 (S'.frame e)
theorem ss_parOV (ha : SF K pa W tf df) (hb : SE K pa W te de) : SS K pa W (tPar i j (tCons tf (tCons te tNil))) (dParOV i j df de) := fun F G σ H ρ D DD S h l =>
  ha F G σ H ρ _ _ _ S h (fun G1 H1 p a ρ1 e1 S1 gp ow fr h1 => by
    obtain ⟨F', ⟨ef, np⟩, S1', back⟩ := aside S1 gp ow fr
    refine hb F' G1 σ H1 ρ1 _ _ _ S1' h1 (fun G2 H2 v t ρ2 e2 S2 r2 h2 => ?_) (((l.xl σ).grow e1).frame ef)
    cases t with
    | bor k => exact h2.elim
    | val b =>
      obtain ⟨S3, gp3, ow3, fr3⟩ := back G2 H2 ρ2 e2 S2
      exact ⟨_, _, rfl, l.nx G2 _ H2 _ (e1.trans e2) ((S3.storeOwn h2.1.1 gp3 ow3 fr3).store (isPar_setO h2.1.2) r2) h2.2⟩) (l.xl σ)
theorem ss_parOO (ha : SF K pa W tf df) (hb : SF K pa W te dg) (hij : i ≠ j) : SS K pa W (tPar i j (tCons tf (tCons te tNil))) (dParOO i j df dg) := fun F G σ H ρ D DD S h l =>
  ha F G σ H ρ _ _ _ S h (fun G1 H1 p a ρ1 e1 S1 gp ow fr h1 => by
    obtain ⟨F', ⟨ef, np⟩, S1', back⟩ := aside S1 gp ow fr
    refine hb F' G1 σ H1 ρ1 _ _ _ S1' h1 (fun G2 H2 b' b ρ2 e2 S2 gp2 ow2 fr2 h2 => ?_) (((l.xl σ).grow e1).frame ef)
    obtain ⟨S3, gp3, ow3, fr3⟩ := back G2 H2 ρ2 e2 S2
    have hF : F b' = none := fresh_back ef gp2.2
    refine ⟨_, _, rfl, l.nx G2 _ H2 _ (e1.trans e2) ((S3.storeOwn h2.1.1 gp3 ow3 fr3).storeOwn (isPar_setO h2.1.2) ⟨gp2.1, hF⟩ ow2 fun k s e hk hd hs => ?_) h2.2⟩
    by_cases hik : i = k
    · subst hik
      rw [List.getElem?_set, if_pos rfl] at hs
      split at hs
      · cases hs
        exact np gp2.2
      · cases hs
    · rw [List.getElem?_set_ne hik] at hk hs
      exact fr2 k s e hk hd hs) (l.xl σ)
end

/-! ### isinstance -/
def D.tyV : D → Option Value
  | .non => some (.type "NoneType")
  | .bl _ => some (.type "bool")
  | .int _ => some (.type "int")
  | .str _ => some (.type "str")
  | .byt _ => some (.type "bytes")
  | .lst _ => some (.type "list")
  | .tup _ => some (.type "tuple")
  | .dct _ => some (.type "dict")
  | .ins C _ => some (.ref C)
  | _ => none
def D.clV : D → Option Value
  | .ptr C => some (.ref C)
  | .ty n => some (.type n)
  | _ => none
def D.clVs : List D → Option (List Value)
  | [] => some []
  | d :: ds => d.clV.bind fun v => (D.clVs ds).map fun vs => v :: vs
def D.isi (K : PySem.W.Frag) : List D → Option D
  | [x, .tup cs] => x.tyV.bind fun t => (D.clVs cs).bind fun us => (PySem.W.kitAny K t us).map .bl
  | [x, c] => x.tyV.bind fun t => c.clV.bind fun u => (PySem.W.kitOne K t u).map .bl
  | _ => none
/-- what isinstance asks of an own class -/
structure IsiC (K : PySem.W.Frag) (C : Addr) : Prop where
  cl : Cls K C
  ha : PySem.W.findIn K (.ref C) "__class__" = some (some (.builtin "object.__class__"))
  hm : PySem.W.mroIn K C (.type "object") = some true
structure IsiK (K : PySem.W.Frag) : Prop where
  hn : PySem.W.specialIn K (.builtin "object.__class__") "__get__" = some (some (.builtin "getset_descriptor.__get__"))
  htk : PySem.W.takesIn K (.builtin "object.__class__") = some true
def rIsiX (K : PySem.W.Frag) : List V → Hp → VK → Prop := fun xs H Q => rIsi K xs H Q ∨ rIsiT K xs H Q
section
variable {K : PySem.W.Frag} {X : Cx}
theorem call_isiX : CallR X (.builtin "isinstance") (rIsiX X.K) := CallR.or call_isi call_isiT
theorem tyX_of {G H : Hp} {v : V} {d : D} {t : Value} (hK : IsiK K) (hC : ∀ C es, d = .ins C es → IsiC K C) (e : Ex G H) (r : RepT K G H v d) (h : d.tyV = some t) : TyX K H v t := by
  cases d with
  | non => cases h; rw [r.non]; exact .base .non
  | bl b => cases h; rw [r.bl]; exact .base (.bl _)
  | int b => cases h; rw [r.int]; exact .base (.int _)
  | str b => cases h; rw [r.str]; exact .base (.str _)
  | byt b => cases h; rw [r.byt]; exact .byt _
  | lst ds =>
    cases h
    obtain ⟨p, vs, rfl, hs, _⟩ := r.lstR e
    rcases hs with (hs | ⟨o, hs⟩) | ⟨o, its, n, h1, h2, _⟩
    · exact .base (.lst hs)
    · exact .base (.frz hs)
    · exact .kList h1 h2
  | tup ds =>
    cases h
    obtain ⟨p, vs, rfl, hs, _⟩ := r.tup e
    rcases hs with (hs | ⟨o, hs⟩) | ⟨o, its, n, h1, h2, _⟩
    · exact .base (.tup hs)
    · exact .fTuple hs
    · exact .kTuple h1 h2
  | dct ds =>
    cases h
    obtain ⟨p, vs, rfl, hs, _⟩ := r.dct e
    exact .base (.dK hs)
  | ins C ds =>
    cases h
    obtain ⟨p, dx, vs, rfl, hs, _⟩ := r.ins e
    have q := hC C ds rfl
    exact .base (.ins hs q.cl q.ha hK.hn hK.htk q.hm)
  | _ => cases h
theorem clV_of {G H : Hp} {v : V} {d : D} {u : Value} (r : RepT K G H v d) (h : d.clV = some u) : ClsV v u := by
  cases d with
  | ptr C => cases h; rw [r.ptr]; exact .own C
  | ty n => cases h; rw [r.ty]; exact .ty n
  | _ => cases h
theorem clVs_of {G : Hp} : ∀ {ds : List D} {vs : List V} {us : List Value}, Reps K G vs ds → D.clVs ds = some us → Paired ClsV vs us
  | [], _, _, .nil, h => by cases h; exact .nil
  | d :: ds, _, us, .cons r rr, h => by
    have h : d.clV.bind (fun v => (D.clVs ds).map fun vs => v :: vs) = some us := h
    cases q : d.clV with
    | none => rw [q] at h; cases h
    | some v =>
      cases q2 : D.clVs ds with
      | none => rw [q, q2] at h; cases h
      | some ws => rw [q, q2] at h; cases h; exact .cons (clV_of (H := G) (.inl r) q) (clVs_of rr q2)
end
end DL
set_option autoImplicit false
set_option Elab.async false
set_option linter.all false
set_option maxRecDepth 100000
/-! # own special methods; a new object handed over as data; isinstance -/
namespace PySem.W
open PySem PySem.Calls PyProof.Rows
section
variable {M : Model} {A : Around} {E : Value → Shared → Prop} {s : Shared} {K : Frag} {x C f : Addr} {ox : Obj} {od : Option Obj}
theorem dl_contains {y : Value} {Q : Bool → Shared → Prop} (X : K.In s.heap) (I : InstAt s.heap x ox C od) (hs : findIn K (.ref C) "__contains__" = some (some (.ref f))) (hf : isFn K (.ref f) = true)
    (h : wpAny M A (call (.ref f) [.ref x, y]) (fun r s1 => wpAny M A (truthy r) Q E s1) E s) : wpAny M A (contains (.ref x) y) Q E s := by
  unfold contains
  refine wpAny_holding ?_
  rw [show stdlibNamesSay? (.ref x) y = none from rfl]
  refine wpAny_bind (m := specialOf (.ref x) "__contains__") (wpAny_bind (I.type.here ((looks_findIn X hs).here ?_)))
  show wpAny M A (if (some (Value.ref f) == some Value.none) = true then _ else _) Q E s
  rw [if_neg (by simp)]
  refine wpAny_bind ?_
  unfold callSpecialUnlessNone?
  refine wpAny_bind (m := specialOf (.ref x) "__contains__") (wpAny_bind (I.type.here ((looks_findIn X hs).here ?_)))
  refine wpAny_holding (wpAny_bind ((bind_fn X _ (beq_iff_eq.mp hf)).here ?_))
  show wpAny M A (if (Value.ref f == Value.none) = true then _ else _) _ E s
  rw [if_neg (by simp)]
  exact wpAny_bind (wpAny_mono h (fun r s1 hr => wpAny_pure hr) fun _ _ z => z)
end
end PySem.W
namespace DL
open PySem L2 Evl

/-! ### a def runs where some builtin asks for it -/
section
variable {X : Cx} {CX : CXT} {k : Nat} {f C : Addr} {fd : FuncData} {ps : List Str} {sp : Sp} {E : XK}
theorem run_sub {A : Around} {pins : List (Addr × Obj)} {σ : RSt} {H : Hp} {s : Shared} {Q : VK} {us : List Value} {vs : List V} (F : FnOk X.prog X.w X.K X.mg X.base CX k f fd ps sp) (hr : Room k A) (hA : A.frames = X.A.frames) (hb : Binds X.K fd ps []) (hx : Passes CX X E)
    (I : Inv X pins σ H s) (r : Vals vs us) (h : sp vs H Q E) : wpAny (model X.prog X.w) A (call (.ref f) us) (EP X pins σ Q) X.xe s := by
  have hl : us.length = ps.length := by rw [← r.length]; exact F.len _ _ _ _ h
  have e0 : Env0 X.prog X.w X.K X.mg X.base A X.stack s H := by
    have e := I.env0
    exact ⟨by rw [hA]; exact e.frames, e.mod, e.bs, e.bsz, e.funs, e.frf, e.hok, e.bare⟩
  refine wpAny_call (codeAny_mono (F.run A X.stack s H ⟨us, []⟩ us vs Q E hr e0 (by have z := hb s us I.kIn (by simpa using hl); simpa using z) r h) fun r s' hq => ?_)
  cases r with
  | error e => exact hx pins σ H s e s' I hq
  | ok fl =>
    cases fl with
    | ret u => exact I.after hq
    | next => exact False.elim hq
    | brk => exact False.elim hq
    | cont => exact False.elim hq
/-- an own special method of the class at C, written as the def at f -/
structure Spec1 (K : PySem.W.Frag) (C : Addr) (m : Str) (f : Addr) : Prop where
  hs : PySem.W.findIn K (.ref C) m = some (some (.ref f))
  hf : PySem.W.isFn K (.ref f) = true
def rInO (g : Bool → Bool) (C : Addr) (sp : Sp) (E : XK) : R2 := fun x y H Q => ∃ a dx fs, y = .ref a ∧ H a = some (.ins C dx fs) ∧ sp [y, x] H (fun v H1 => ∃ b, v = .bl b ∧ Q (.bl (g b)) H1) E
theorem in_core {x y : V} {v u : Value} {pins : List (Addr × Obj)} {σ : RSt} {H : Hp} {s : Shared} {Q : VK} {g : Bool → Bool} (M : Spec1 X.K C "__contains__" f) (F : FnOk X.prog X.w X.K X.mg X.base CX k f fd ps sp) (hr : Room k X.A) (hb : Binds X.K fd ps []) (hx : Passes CX X E)
    (I : Inv X pins σ H s) (rx : RelV x v) (ry : RelV y u) (h : rInO g C sp E x y H Q) : wpAny (model X.prog X.w) X.A (contains u v) (fun b s1 => EP X pins σ Q (.bool (g b)) s1) X.xe s := by
  obtain ⟨a, dx, fs, rfl, ha, h⟩ := h
  have hu : u = Value.ref a := ry
  subst hu
  obtain ⟨mA, J, _⟩ := ins_get I.hok ha
  obtain ⟨od, J, _⟩ := J.look
  refine PySem.W.dl_contains I.kIn J M.hs M.hf (wpAny_mono (run_sub F hr rfl hb hx I (vs := [V.ref a, x]) (.cons (show RelV (V.ref a) (Value.ref a) from rfl) (.cons rx .nil)) h) (fun r s1 q => ?_) fun _ _ z => z)
  obtain ⟨w, H1, I1, rw1, b, ew, q⟩ := q
  subst ew
  have e1 : r = Value.bool b := rw1
  subst e1
  exact wpAny_truthy_bool ⟨V.bl (g b), H1, I1, rfl, q⟩
theorem op_inO (M : Spec1 X.K C "__contains__" f) (F : FnOk X.prog X.w X.K X.mg X.base CX k f fd ps sp) (hr : Room k X.A) (hb : Binds X.K fd ps []) (hx : Passes CX X E) : OpR X (compareOp .In) (rInO (fun b => b) C sp E) := by
  intro pins s σ H x y v u Q I rx ry h
  show wpAny (model X.prog X.w) X.A (do return Value.bool (← contains u v)) (EP X pins σ Q) X.xe s
  exact wpAny_bind (wpAny_mono (in_core M F hr hb hx I rx ry h) (fun b s1 q => wpAny_pure q) fun _ _ z => z)
theorem op_notInO (M : Spec1 X.K C "__contains__" f) (F : FnOk X.prog X.w X.K X.mg X.base CX k f fd ps sp) (hr : Room k X.A) (hb : Binds X.K fd ps []) (hx : Passes CX X E) : OpR X (compareOp .NotIn) (rInO (fun b => !b) C sp E) := by
  intro pins s σ H x y v u Q I rx ry h
  show wpAny (model X.prog X.w) X.A (do return Value.bool (!(← contains u v))) (EP X pins σ Q) X.xe s
  exact wpAny_bind (wpAny_mono (in_core M F hr hb hx I rx ry h) (fun b s1 q => wpAny_pure q) fun _ _ z => z)
/-- len of an instance -/
def rLenO (C : Addr) (sp : Sp) (E : XK) : List V → Hp → VK → Prop := fun xs H Q => ∃ a dx fs, xs = [.ref a] ∧ H a = some (.ins C dx fs) ∧ sp xs H (fun v H1 => ∃ n : Int, v = .int n ∧ 0 ≤ n ∧ n < 2 ^ 63 ∧ Q (.int n) H1) E
theorem call_lenO (M : Spec1 X.K C "__len__" f) (F : FnOk X.prog X.w X.K X.mg X.base CX k f fd ps sp) (hr : Room (k + 1) X.A) (hb : Binds X.K fd ps []) (hx : Passes CX X E) : CallR X (.builtin "len") (rLenO C sp E) := by
  intro pins s σ H xs us Q I r h
  obtain ⟨a, dx, fs, rfl, ha, h⟩ := h
  cases r with
  | cons r1 r2 =>
    cases r2
    rename_i u
    have hu : u = Value.ref a := r1
    subst hu
    obtain ⟨mA, J, _⟩ := ins_get I.hok ha
    obtain ⟨od, J, _⟩ := J.look
    obtain ⟨m, hF⟩ := I.fr
    refine PySem.W.len_K hF I.ok.mod.kin J M.hs M.hf (wpAny_mono (run_sub F hr.in1 rfl hb hx I (vs := [V.ref a]) (.cons (show RelV (V.ref a) (Value.ref a) from rfl) .nil) h) (fun r s1 q => ?_) fun _ _ z => z)
    obtain ⟨w, H1, I1, rw1, n, ew, h0, h1, q⟩ := q
    subst ew
    obtain ⟨t, rfl⟩ := (show ∃ t, r = Value.int n t from rw1)
    exact ⟨⟨h0, h1⟩, V.int n, H1, I1.tok _, ⟨s1.toks, rfl⟩, q⟩
end
end DL
set_option autoImplicit false
set_option Elab.async false
set_option linter.all false
set_option maxRecDepth 100000
namespace DL
open PySem L2 Evl

/-! ### isinstance -/
def clVT : List T → Option (List Value)
  | [] => some []
  | .val d :: ts => d.clV.bind fun u => (clVT ts).map fun us => u :: us
  | .bor _ :: _ => none
/-- the classes whose instances may be asked for -/
def D.kno (Cs : List Addr) : D → Bool
  | .ins C _ => Cs.contains C
  | _ => true
def dIsi (K : PySem.W.Frag) (Cs : List Addr) (de dc : DE) : DE := fun ρ q er => de ρ (fun t ρ1 => dc ρ1 (fun u ρ2 => Opt (rd ρ2 t) fun x => Opt (rd ρ2 u) fun c => x.kno Cs = true ∧ Opt x.tyV fun ty => Opt c.clV fun cv => Opt (PySem.W.kitOne K ty cv) fun b => q (.val (.bl b)) ρ2) er) er
def dIsiT (K : PySem.W.Frag) (Cs : List Addr) (de : DE) (dc : DA) : DE := fun ρ q er => de ρ (fun t ρ1 => dc ρ1 (fun us ρ2 => Opt (rd ρ2 t) fun x => us.length ≤ sizeLine ∧ x.kno Cs = true ∧ Opt x.tyV fun ty => Opt (clVT us) fun cs => Opt (PySem.W.kitAny K ty cs) fun b => q (.val (.bl b)) ρ2) er) er
section
variable {K : PySem.W.Frag} {pa : PaG} {W : WX} {te tc : TE} {ta : TA} {de dc : DE} {da : DA} {Cs : List Addr}
theorem clVT_of {G : Hp} {σ : RSt} : ∀ {ts : List T} {vs : List V} {us : List Value}, TkRs K G σ vs ts → clVT ts = some us → Paired ClsV vs us
  | _, _, _, .nil, h => by cases h; exact .nil
  | .val d :: ts, _, us, .cons r rr, h => by
    have h : d.clV.bind (fun v => (clVT ts).map fun vs => v :: vs) = some us := h
    cases q : d.clV with
    | none => rw [q] at h; cases h
    | some v =>
      cases q2 : clVT ts with
      | none => rw [q, q2] at h; cases h
      | some ws => rw [q, q2] at h; cases h; exact .cons (clV_of (H := G) (.inl r) q) (clVT_of rr q2)
  | .bor _ :: _, _, _, .cons _ _, h => by cases h
theorem kno_of (hC : ∀ C ∈ Cs, IsiC K C) {x : D} (h : x.kno Cs = true) : ∀ C es, x = .ins C es → IsiC K C := fun C es e => by
  subst e
  exact hC C (by simpa [D.kno] using h)
theorem se_isi (hK : IsiK K) (hC : ∀ C ∈ Cs, IsiC K C) (he : SE K pa W te de) (hc : SE K pa W tc dc) : SE K pa W (tCB (rIsiX K) (tCons te (tCons tc tNil))) (dIsi K Cs de dc) := fun F G σ H ρ Q q er S h k x =>
  he F G σ H ρ _ _ er S h (fun G1 H1 v t ρ1 e1 S1 r1 h1 => hc F G1 σ H1 ρ1 _ _ er S1 h1 (fun G2 H2 w u ρ2 e2 S2 r2 h2 => by
    obtain ⟨dx, ex, c, ec, hk, ty, ety, cv, ecv, b, eb, h3⟩ := h2
    exact .inl ⟨v, w, ty, cv, b, rfl, clV_of (S2.rdT r2 ec) ecv, tyX_of hK (kno_of hC hk) S2.ex (S2.rdT (r1.mono e2) ex) ety, eb, k G2 H2 _ (.val _) ρ2 (e1.trans e2) S2 (.bl b) h3⟩) (x.grow e1)) x
theorem se_isiT (hK : IsiK K) (hC : ∀ C ∈ Cs, IsiC K C) (he : SE K pa W te de) (hc : SA K pa W ta da) : SE K pa W (tCB (rIsiX K) (tCons te (tCons (tTup ta) tNil))) (dIsiT K Cs de da) := fun F G σ H ρ Q q er S h k x =>
  he F G σ H ρ _ _ er S h (fun G1 H1 v t ρ1 e1 S1 r1 h1 => hc F G1 σ H1 ρ1 _ _ er S1 h1 (fun G2 H2 ws us ρ2 e2 S2 r2 h2 => by
    obtain ⟨dx, ex, hl, hk, ty, ety, cs, ecs, b, eb, h3⟩ := h2
    have hlen : ws.length = us.length := r2.length
    refine ⟨by rw [hlen]; exact hl, fun p hp => ?_⟩
    have a := Al.one (G := G2) (p := p) (o := .tup ws) S2.ex hp
    have S3 := S2.al a
    exact .inr ⟨v, p, ws, ty, cs, b, rfl, upd_same, clVT_of r2 ecs, tyX_of hK (kno_of hC hk) S3.ex (S3.rdT ((r1.mono e2).mono a.g) ex) ety, eb, k _ _ _ (.val _) ρ2 ((e1.trans e2).trans a.g) S3 (.bl b) h3⟩) (x.grow e1)) x
end

/-! ### x in o, len(o), by own methods -/
/-- the operand o goes first to the def, then the other -/
def D.insOf (C : Addr) : D → Bool
  | .ins C2 _ => C2 == C
  | _ => false
def dInO (g : Bool → Bool) (C : Addr) (dsp : DSp) (dx dc : DE) : DE := fun ρ q er => dx ρ (fun t ρ1 => dc ρ1 (fun u ρ2 => Opt (rd ρ2 u) fun d => d.insOf C = true ∧ Opt (argsOf ρ2 [u, t]) fun av => (bors [u, t]).Nodup ∧
  dsp av (fun r os => match r with
    | .bl b => q (.val (.bl (g b))) (putOuts ρ2 (bors [u, t]) os)
      | _ => False) (fun _ _ _ => False)) er) er
def dLenO (C : Addr) (dsp : DSp) (dc : DE) : DE := fun ρ q er => dc ρ (fun u ρ2 => Opt (rd ρ2 u) fun d => d.insOf C = true ∧ Opt (argsOf ρ2 [u]) fun av => (bors [u]).Nodup ∧
  dsp av (fun r os => match r with
    | .int n => (0 ≤ n ∧ n < 2 ^ 63) ∧ q (.val (.int n)) (putOuts ρ2 (bors [u]) os)
    | _ => False) (fun _ _ _ => False)) er
section
variable {K : PySem.W.Frag} {pa : PaG} {W : WX} {te tc : TE} {dx dc : DE} {C : Addr} {dsp : DSp} {g : Bool → Bool}
theorem insOf_at {G H : Hp} {v : V} {d : D} (e : Ex G H) (r : RepT K G H v d) (h : d.insOf C = true) : ∃ a dx fs, v = .ref a ∧ H a = some (.ins C dx fs) := by
  cases d with
  | ins C2 es =>
    obtain ⟨p, dx, vs, rfl, hp, rr⟩ := r.ins e
    have ec : C2 = C := by simpa [D.insOf] using h
    subst ec
    exact ⟨p, dx, vs, rfl, hp⟩
  | _ => cases h
theorem se_inO (hx : SE K pa W te dx) (hc : SE K pa W tc dc) : SE K pa W (tOp (rInO g C (SpV K 2 dsp) L2.E0) te tc) (dInO g C dsp dx dc) := fun F G σ H ρ Q q er S h k x =>
  hx F G σ H ρ _ _ er S h (fun G1 H1 v t ρ1 e1 S1 r1 h1 => hc F G1 σ H1 ρ1 _ _ er S1 h1 (fun G2 H2 w u ρ2 e2 S2 r2 h2 => by
    obtain ⟨d, ed, hi, av, ea, nd, hd⟩ := h2
    obtain ⟨a, dx, fs, rfl, ha⟩ := insOf_at S2.ex (S2.rdT r2 ed) hi
    refine ⟨a, dx, fs, rfl, ha, ?_⟩
    exact call_core S2 (.cons r2 (.cons (r1.mono e2) .nil)) ea nd rfl hd (fun G3 H3 v3 d3 os e3 S3 rv hq => by
      cases d3 with
      | bl b => cases rv; exact ⟨b, rfl, k G3 H3 _ (.val _) _ ((e1.trans e2).trans e3) S3 (.bl _) hq⟩
      | _ => exact hq.elim) (fun _ _ _ _ _ _ _ _ _ _ _ hq => hq.elim)) (x.grow e1)) x
theorem se_lenO (hc : SE K pa W tc dc) : SE K pa W (tCB (rLenO C (SpV K 1 dsp) L2.E0) (tCons tc tNil)) (dLenO C dsp dc) := fun F G σ H ρ Q q er S h k x =>
  hc F G σ H ρ _ _ er S h (fun G2 H2 w u ρ2 e2 S2 r2 h2 => by
    obtain ⟨d, ed, hi, av, ea, nd, hd⟩ := h2
    obtain ⟨a, dx, fs, rfl, ha⟩ := insOf_at S2.ex (S2.rdT r2 ed) hi
    refine ⟨a, dx, fs, rfl, ha, ?_⟩
    exact call_core S2 (.cons r2 .nil) ea nd rfl hd (fun G3 H3 v3 d3 os e3 S3 rv hq => by
      cases d3 with
      | int n => cases rv; exact ⟨n, rfl, hq.1.1, hq.1.2, k G3 H3 _ (.val _) _ (e2.trans e3) S3 (.int _) hq.2⟩
      | _ => exact hq.elim) (fun _ _ _ _ _ _ _ _ _ _ _ hq => hq.elim)) x
end

/-! ### xs[::-1] -/
def dRevL (de : DE) : DF := fun ρ q er => de ρ (fun t ρ1 => Opt (rd ρ1 t) fun d => match d with
  | .lst ds => q (.lst ds.reverse) ρ1
  | _ => False) er
section
variable {K : PySem.W.Frag} {pa : PaG} {W : WX} {te ta tb : TE} {de da db : DE}
theorem Reps.rev {G : Hp} : ∀ {vs : List V} {ds : List D}, Reps K G vs ds → Reps K G vs.reverse ds.reverse
  | _, _, .nil => .nil
  | _, _, .cons r rr => by rw [List.reverse_cons, List.reverse_cons]; exact (Reps.rev rr).append (.cons r .nil)
theorem sf_revL (he : SE K pa W te de) : SF K pa W (tRevL K te) (dRevL de) := fun F G σ H ρ Q q er S h k x =>
  he F G σ H ρ _ _ er S h (fun G1 H1 v t ρ1 e1 S1 r1 h1 => by
    obtain ⟨d, ed, h1⟩ := h1
    cases d with
    | lst ds =>
      obtain ⟨p, vs, rfl, hs, rr⟩ := (S1.rdT r1 ed).lst S1.ex
      refine ⟨p, vs, rfl, hs, fun b hb => ?_⟩
      exact k G1 _ b (.lst ds.reverse) ρ1 e1 (S1.new hb) ⟨fresh_back S1.ex hb, fresh_back S1.fx hb⟩ ⟨_, upd_same, rr.rev⟩ (fresh_no S1 hb) h1
    | _ => exact h1.elim) x

/-! ### reversed(range(..)) -/
def revR (i j : Int) : List D := (List.range (j - i).toNat).map fun (k : Nat) => .int (j - 1 - (k : Int))
def diRevR1 (da : DE) : DI := fun ρ q er => da ρ (fun t ρ1 => Opt (rd ρ1 t) fun d => match d with
  | .int j => (-(2 ^ 62) ≤ j ∧ j < 2 ^ 62) ∧ q (revR 0 j) ρ1
  | _ => False) er
theorem itOk_rngC {G : Hp} (lo c : Int) (n : Nat) : ItOk K G (Itc lo c n) ((List.range n).map fun (k : Nat) => .int (lo + (k : Int) * c)) :=
  .mk0 (fun i H e hi => by show i < n; simpa using hi) (fun i H e hi => by show n ≤ i; simpa using hi)
    fun i H x H' e h d hd => by
      obtain ⟨e1, e2⟩ := h
      subst e2
      rw [List.getElem?_map] at hd
      by_cases hi : i < n
      · rw [List.getElem?_range hi] at hd
        cases hd
        exact ⟨e1, .int _⟩
      · rw [List.getElem?_eq_none (by simpa using hi)] at hd
        cases hd
theorem revR_eq (j : Int) : revR 0 j = (List.range (j - 0).toNat).map fun (k : Nat) => D.int ((0 + (((j - 0).toNat : Nat) : Int) - 1) + (k : Int) * (-1)) := by
  unfold revR
  refine List.map_congr_left fun k hk => ?_
  have : k < (j - 0).toNat := by simpa using hk
  congr 1
  omega
theorem si_revR1 (ha : SE K pa W ta da) : SI K pa W (iRevR (tRg1 ta)) (diRevR1 da) := fun F G σ H ρ R q er S h k x =>
  ha F G σ H ρ _ _ er S h (fun G1 H1 v s ρ1 e1 S1 r1 h1 => by
    obtain ⟨d, ed, h2⟩ := h1
    cases d with
    | int j =>
      rw [(S1.rdT r1 ed).int]
      refine ⟨j, rfl, by decide, by decide, h2.1.1, h2.1.2, ?_⟩
      have h3 := h2.2
      rw [revR_eq] at h3
      exact k G1 H1 _ _ ρ1 e1 S1 (itOk_rngC _ _ _) h3
    | _ => exact h2.elim) x
end

/-! ### {k: v for ..} -/
def dcL (g : DG) (t : DT) (dk de : DE) (vs : List Nat) (q : List (Key × D) → Ro → Prop) : List D → List (Key × D) → Ro → Prop
  | [], acc, ρ => q acc ρ
  | d :: ds, acc, ρ => g (.val d) (wipeD ρ vs) fun ρ1 => t ρ1 (fun b ρ2 => if b = true then dk ρ2 (fun u ρ3 => match u with
      | .val y => Opt y.key fun kk => de ρ3 (fun s ρ4 => match s with
        | .val z => acc.length < sizeLine ∧ dcL g t dk de vs q ds (putKD acc kk z) (wipeD ρ4 vs)
        | .bor _ => False) (fun _ _ _ => False)
      | .bor _ => False) (fun _ _ _ => False) else dcL g t dk de vs q ds acc (wipeD ρ2 vs)) (fun _ _ _ => False)
def dDc (di : DI) (g : DG) (t : DT) (dk de : DE) (vs : List Nat) : DF := fun ρ q er => di ρ (fun ds ρ1 => dcL g t dk de vs (fun acc ρ2 => q (.dct acc) ρ2) ds [] ρ1) er
section
variable {K : PySem.W.Frag} {pa : PaG} {W : WX}
theorem sf_dc {wi : TI} {di : DI} {g : TG} {dg : DG} {tt : TT} {dt : DT} {te tk : TE} {de dk : DE} {vs ns : List Nat} (hn : ∀ i ∈ ns, i ∈ vs) (hi : SI K pa W wi di) (hg : SG K pa ns g dg) (ht : ST K pa W tt dt) (hk : SE K pa W tk dk) (he : SE K pa W te de) : SF K pa W (tDc wi g tt tk te vs) (dDc di dg dt dk de vs) := fun F G σ H ρ Q q er S h k x =>
  hi F G σ H ρ _ _ _ S h (fun G1 H1 J ds ρ1 e1 S1 ok h1 => by
    intro D hD
    have fF : F D = none := fresh_back S1.fx hD
    have S1' : Sim K pa F G1 σ (upd H1 D (.dK [])) ρ1 := S1.new hD
    refine ⟨fun i m H' => m = ds.length - i ∧ i ≤ ds.length ∧ ∃ G2 ρ2 acc av, Ex G1 G2 ∧ Sim K pa F G2 σ H' ρ2 ∧ G2 D = none ∧ H' D = some (.dK av) ∧ RepK K G2 av acc ∧ (∀ (i : Nat) (s : Sl) (d : DL.D), ρ2[i]? = some s → s.ownD = some d → σ[i]? ≠ some (some (.ref D))) ∧ dcL dg dt dk de vs (fun acc ρ3 => q (.dct acc) ρ3) (ds.drop i) acc ρ2, ⟨_, rfl, Nat.zero_le _, G1, ρ1, [], [], Ex.refl G1, S1', fresh_back S1.ex hD, upd_same, .nil, fresh_no S1 hD, h1⟩, ?_⟩
    rintro i m H' ⟨rfl, hi, G2, ρ2, acc, av, e2, S2, gD, hHD, ra, fr, h2⟩
    by_cases hlt : i < ds.length
    · rw [List.drop_eq_getElem_cons hlt] at h2
      refine .inr ⟨ok.go i H' (e2.trans S2.ex) hlt, fun H' => ∃ G2 ρ2 acc av, Ex G1 G2 ∧ Sim K pa F G2 σ H' ρ2 ∧ G2 D = none ∧ H' D = some (.dK av) ∧ RepK K G2 av acc ∧ (∀ (i : Nat) (s : Sl) (d : DL.D), ρ2[i]? = some s → s.ownD = some d → σ[i]? ≠ some (some (.ref D))) ∧ dcL dg dt dk de vs (fun acc ρ3 => q (.dct acc) ρ3) (ds.drop (i + 1)) acc ρ2,
        fun H3 hN => ⟨ds.length - (i + 1), by omega, rfl, hlt, hN⟩, fun x H3 hy => ?_⟩
      obtain ⟨G3, a, r⟩ := ok.yld i H' x H3 hy G2 e2 S2.ex ds[i] (by simp [hlt])
      have hD3 : H3 D = some (.dK av) := a.h D _ hHD
      have S3 : Sim K pa (upd F D (.dK av)) G3 (wipe σ vs) H3 (wipeD ρ2 vs) := ((S2.al a).frameIn (a.n D gD (by rw [hHD]; simp)) hD3 fr).wipeTo wipe_wipe.symm
      refine hg _ G3 _ H3 _ x (.val ds[i]) _ _ S3 r h2 fun G4 σ4 H4 ρ4 e4 S4 w4 h4 => ?_
      have ws : wipe σ4 vs = wipe σ vs := by rw [w4 vs hn, wipe_wipe]
      refine ⟨ws, ht _ G4 σ4 H4 ρ4 _ _ _ S4 h4 (fun G5 H5 b ρ5 e5 S5 h5 => ?_) xl_none⟩
      have back : ∀ {G6 H6 : Hp} {ρ6 : Ro}, Sim K pa (upd F D (.dK av)) G6 σ4 H6 ρ6 → H6 D = some (.dK av) ∧ G6 D = none ∧ Sim K pa F G6 σ H6 (wipeD ρ6 vs) ∧ (∀ (i : Nat) (s : Sl) (d : DL.D), (wipeD ρ6 vs)[i]? = some s → s.ownD = some d → σ[i]? ≠ some (some (.ref D))) := fun {G6 H6 ρ6} S6 => by
        have S7 := S6.wipeTo (σ' := σ) ws
        refine ⟨S6.fx D _ upd_same, S6.dj D _ upd_same, S7.frame (Ex.new fF), fun i s d h1 h2 h3 => ?_⟩
        have := S7.ofr i s d D h1 h2 h3
        rw [upd_same] at this
        cases this
      cases b with
      | false =>
        obtain ⟨b1, b2, b3, b4⟩ := back S5
        exact ⟨G5, _, acc, av, ((e2.trans a.g).trans e4).trans e5, b3, b2, b1, ra.mono ((a.g.trans e4).trans e5), b4, h5⟩
      | true =>
        refine hk _ G5 σ4 H5 ρ5 _ _ _ S5 h5 (fun G6 H6 y s ρ6 e6 S6 r6 h6 => ?_) xl_none
        cases s with
        | bor _ => exact h6.elim
        | val dy =>
          obtain ⟨kk, ek, h6⟩ := h6
          have r6 : Rep K G6 y dy := r6
          have ey := key_of (H := G6) (.inl r6) ek
          refine he _ G6 σ4 H6 ρ6 _ _ _ S6 h6 (fun G7 H7 z s2 ρ7 e7 S7 r7 h7 => ?_) xl_none
          obtain ⟨b1, b2, b3, b4⟩ := back S7
          cases s2 with
          | bor _ => exact h7.elim
          | val dz =>
            have r7 : Rep K G7 z dz := r7
            have ra7 := ra.mono ((((a.g.trans e4).trans e5).trans e6).trans e7)
            refine ⟨av, kk, ey, b1, by rw [ra.length]; exact h7.1, G7, _, putKD acc kk dz, putK av kk z, ((((e2.trans a.g).trans e4).trans e5).trans e6).trans e7, ?_, b2, upd_same, RepK.put r7 ra7, b4, h7.2⟩
            refine b3.grow (Ex.refl G7) (fun b o q => ?_) (fun b o q => ?_) b3.dj fun i s d p h1 h2 h3 => ⟨?_, ?_⟩
            · rw [upd_ne (fun z => by rw [z, b2] at q; cases q)]; exact b3.ex b o q
            · rw [upd_ne (fun z => by rw [z, fF] at q; cases q)]; exact b3.fx b o q
            · obtain ⟨b', q1, q2, _⟩ := b3.own i s d h1 h2
              rw [h3] at q1
              cases q1
              exact q2
            · exact upd_ne fun z => b4 i s d h1 h2 (by rw [h3, z])
    · have e : i = ds.length := by omega
      subst e
      rw [List.drop_length] at h2
      exact .inl ⟨ok.stop _ H' (e2.trans S2.ex) (Nat.le_refl _), k G2 H' D (.dct acc) ρ2 (e1.trans e2) S2 ⟨gD, fF⟩ ⟨av, hHD, ra⟩ fr h2⟩) x
end
end DL
set_option autoImplicit false
set_option Elab.async false
set_option linter.all false
set_option maxRecDepth 100000
/-! # enumerate over a tuple -/
namespace PySem
open Sem (wp)
open AutoSeq1 (wpAny_loadPart')
theorem dl_enumNewT (l : Addr) (us : Array Value) (k : Nat) (dc : Option Addr) (sls : Array (Option Value)) :
    Meets (Builtin.«enumerate.__new__» ⟨[.type "enumerate", .ref l], []⟩) (fun _ R s => s.heap.get? l = some { cls := .type "tuple", dict := dc, data := .seq us k, slots := sls } ∧
      R (.ok (.ret (.ref (s.heap.push { cls := .type "tuple_iterator", data := .fields #[.ref l, .int 0 0] }).objs.size)))
        { s with heap := (s.heap.push { cls := .type "tuple_iterator", data := .fields #[.ref l, .int 0 0] }).push { cls := .type "enumerate", data := .fields #[.none, .bool false, .ref s.heap.objs.size, rawInt 0, .none, .none] } }) :=
  .of_wp fun prog w A R s h => by
    obtain ⟨hp, g, d, tk, os⟩ := s; obtain ⟨hl, h⟩ := h
    have hsub := sub_enumerate
    have hT : Heap.IsTuple (Shared.heap ⟨hp, g, d, tk, os⟩) l us := ⟨_, hl, rfl, k, rfl⟩
    wp_walk using wpAny_loadPart' hl
    refine wpAny_stack_any fun st => wpAny_pure ?_
    split
    · rename_i c _ _ _ _ _
      cases (c == Value.type "enumerate") <;>
        (wp_walk using wpAny_loadPart' hl, wpAny_pyIter_tuple hT; exact ⟨_, rfl, h⟩)
    · wp_walk using wpAny_loadPart' hl, wpAny_pyIter_tuple hT
      exact ⟨_, rfl, h⟩
section
variable {prog : Program} {w : World} {A : Around} {E : Value → Shared → Prop} {s : Shared}
theorem dl_call_enumT {l : Addr} {us : Array Value} {Q : Value → Shared → Prop} (hL : s.heap.IsTuple l us)
    (h : ∀ h', IsEnum h' (s.heap.objs.size + 1) s.heap.objs.size 0 .none → h'.IsTupleIter s.heap.objs.size l 0 → (∀ b o, s.heap.get? b = some o → h'.get? b = some o) → Q (.ref (s.heap.objs.size + 1)) { s with heap := h' }) :
    wpAny (model prog w) A (call (.type "enumerate") [.ref l]) Q E s := by
  obtain ⟨⟨c, dc, dt, sls⟩, hl, hc, k, hd⟩ := hL
  replace hc : c = .type "tuple" := hc
  replace hd : dt = .seq us k := hd
  subst hc hd
  refine callType_new F.called_enumerate (by decide) (F.typeCall_enumerate_1 _) (F.newCall_enumerate_1 _) (fun obj => F.args_object_init_2 obj _) F.entry_enumerate_new (dl_enumNewT l us k dc sls) ⟨hl, ?_⟩
  generalize ho1 : ({ cls := .type "tuple_iterator", data := .fields #[.ref l, .int 0 0] } : Obj) = o1
  have hz : (s.heap.push o1).objs.size = s.heap.objs.size + 1 := Heap.size_push ..
  show _ ∧ _
  rw [hz]
  have he : IsEnum ((s.heap.push o1).push { cls := .type "enumerate", data := .fields #[.none, .bool false, .ref s.heap.objs.size, rawInt 0, .none, .none] }) (s.heap.objs.size + 1) s.heap.objs.size 0 .none := by
    have q := Heap.get?_push_size (s.heap.push o1) (o := { cls := .type "enumerate", data := .fields #[.none, .bool false, .ref s.heap.objs.size, rawInt 0, .none, .none] }) rfl
    rw [hz] at q; exact q
  refine ⟨⟨_, he, rfl⟩, h _ he ⟨o1, Heap.get?_push_of_some _ (Heap.get?_push_size _ (by subst ho1; rfl)), by subst ho1; rfl, by subst ho1; rfl⟩ fun b o x => Heap.get?_push_of_some _ (Heap.get?_push_of_some _ x)⟩
theorem dl_nextT {it t : Addr} {i : Nat} {us : Array Value} {x : Value} {Q : Value → Shared → Prop} (hit : s.heap.IsTupleIter it t i) (ht : s.heap.IsTuple t us) (hx : us[i]? = some x)
    (hQ : ∀ h', h'.IsTupleIter it t (i + 1) → Heap.SameBut it s.heap h' → Q x { s with heap := h' }) : wpAny (model prog w) A (Builtin.SmallTypes.nextOf (.ref it)) Q E s := by
  obtain ⟨o, ho, hc, hd⟩ := id hit; obtain ⟨ol, hol, _, nl, hdl⟩ := ht
  unfold Builtin.SmallTypes.nextOf; refine wpAny_bind (wpAny_callSpecial?_slot (name := Str.ofString "__next__") hit.typeIs F.slot_tuple_iterator_next (wpAny_call_entry F.slot_tuple_iterator_next hit.typeIs F.entry_tuple_iterator_next ?_ (F.args_tuple_iterator_next_1 _)))
  show wpAny _ _ (field (.ref it) 0 >>= _) _ _ s; refine wpAny_bind (wpAny_field ho hd (x := .ref t) rfl ?_)
  show wpAny _ _ (if (Value.ref t == Value.none) = true then _ else _) _ _ s; rw [if_neg (by exact fun z => Bool.false_ne_true z)]
  show wpAny _ _ (field (.ref it) 1 >>= _) _ _ s; refine wpAny_bind (wpAny_field ho hd (x := .int i 0) rfl ?_)
  show wpAny _ _ (seqItems? (.ref t) >>= _) _ _ s; refine wpAny_bind (wpAny_seqItems hol hdl ?_)
  simp only [Int.toNat_natCast, hx]; refine wpAny_bind (wpAny_setField ho hd (by simp) (wpAny_pure ⟨x, rfl, wpAny_pure (hQ _ ?_ (Heap.SameBut.update ..))⟩))
  exact ⟨_, Heap.get?_update_self _ ho (Obj.isFreed_of_fields (Obj.data_mapFields hd _)), (Obj.cls_mapFields ..).trans hc, by rw [Obj.data_mapFields hd]; simp [rawInt]⟩
theorem dl_nextTend {it t : Addr} {i : Nat} {us : Array Value} {Q : Value → Shared → Prop} (hh : A.handled = none) (hit : s.heap.IsTupleIter it t i) (ht : s.heap.IsTuple t us) (hx : us[i]? = none)
    (hE : ∀ h' e, Heap.ExtBut it s.heap h' → (∃ o, h'.get? e = some o ∧ o.cls = .type "StopIteration") → E (.ref e) { s with heap := h' }) : wpAny (model prog w) A (Builtin.SmallTypes.nextOf (.ref it)) Q E s := by
  obtain ⟨o, ho, hc, hd⟩ := id hit; obtain ⟨ol, hol, _, nl, hdl⟩ := ht
  unfold Builtin.SmallTypes.nextOf; refine wpAny_bind (wpAny_callSpecial?_slot (name := Str.ofString "__next__") hit.typeIs F.slot_tuple_iterator_next (wpAny_call_entry F.slot_tuple_iterator_next hit.typeIs F.entry_tuple_iterator_next ?_ (F.args_tuple_iterator_next_1 _)))
  show wpAny _ _ (field (.ref it) 0 >>= _) _ _ s; refine wpAny_bind (wpAny_field ho hd (x := .ref t) rfl ?_)
  show wpAny _ _ (if (Value.ref t == Value.none) = true then _ else _) _ _ s; rw [if_neg (by exact fun z => Bool.false_ne_true z)]
  show wpAny _ _ (field (.ref it) 1 >>= _) _ _ s; refine wpAny_bind (wpAny_field ho hd (x := .int i 0) rfl ?_)
  show wpAny _ _ (seqItems? (.ref t) >>= _) _ _ s; refine wpAny_bind (wpAny_seqItems hol hdl ?_)
  simp only [Int.toNat_natCast, hx]; refine wpAny_bind (wpAny_rule (wpAny_bind (wpAny_setField ho hd (by simp) ?_)))
  show wpAny _ _ (newExc (.type "StopIteration") [] >>= _) _ _ _; refine wpAny_bind ?_
  simp only [newExc, newTuple]; refine wpAny_bind (wpAny_newObj_type ?_ (by size_fits))
  refine wpAny_bind (m := firstArgMember _ _) (wpAny_of_eq (a := Value.none) (by first | rfl | (simp only [firstArgMember]; rfl)) (wpAny_newObj_type ?_ (by size_fits)))
  simp only [raiseNew]; refine wpAny_bind (wpAny_handled ?_)
  first | rw [show A.in1.handled = none from hh] | rw [hh]
  exact wpAny_bind (wpAny_pure (wpAny_throw (hE _ _ (((Heap.SameBut.update ..).extBut.push _).push _) ⟨_, Heap.get?_push_size _ rfl, rfl⟩)))
theorem dl_draws (hh : A.handled = none) (it l : Addr) (hne : l ≠ it) (us : Array Value) : Draws prog w A it [it, l] us.size (fun i v => us[i]? = some v) (fun i h => h.IsTupleIter it l i ∧ h.IsTuple l us) where
  live := fun _ _ ⟨⟨o, ho, _⟩, _⟩ => ⟨o, ho⟩
  frame := fun _ _ _ ⟨⟨o, ho, r⟩, ⟨o2, ho2, r2⟩⟩ hk => ⟨⟨o, hk it (by simp) o ho, r⟩, ⟨o2, hk l (by simp) o2 ho2, r2⟩⟩
  item := fun i s Q E hi st hQ => dl_nextT st.1 st.2 (x := us[i]) (by simp [hi]) fun h' hit' hs' => hQ _ h' s.toks (by simp [hi]) ⟨hit', st.2.extBut hs'.extBut hne⟩ hs'
  done := fun s Q E st hE => dl_nextTend hh st.1 st.2 (by simp) hE
theorem dl_enumTend {e it t : Addr} {i : Nat} {j : Int} {us : Array Value} {old : Value} {Q : Option Value → Shared → Prop} (hh : A.handled = none) (he : IsEnum s.heap e it j old) (hit : s.heap.IsTupleIter it t i) (ht : s.heap.IsTuple t us) (hx : us[i]? = none)
    (hQ : ∀ h', Heap.ExtBut it s.heap h' → Q none { s with heap := h' }) : wpAny (model prog w) A (pyNext (.ref e)) Q E s := by
  have tE : s.TypeIs (.ref e) "enumerate" := ⟨_, he, rfl⟩
  unfold pyNext; refine wpAny_bind (wpAny_attempt (wpAny_callSpecial?_slot (name := Str.ofString "__next__") tE F.slot_enumerate_next (wpAny_call_entry F.slot_enumerate_next tE F.entry_enumerate_next ?_ (F.args_enumerate_next_1 _))))
  show wpAny _ _ (field (.ref e) 2 >>= _) _ _ _; refine wpAny_bind (wpAny_field he rfl (x := .ref it) rfl ?_)
  refine wpAny_bind (dl_nextTend hh hit ht hx fun h' x he' ⟨o, ho, hc⟩ => ?_)
  exact wpAny_bind (wpAny_isInstance (T := "StopIteration") (b := true) ⟨o, ho, hc⟩ isSubtype_stop (wpAny_pure (hQ _ he')))
end
end PySem
namespace DL
open PySem L2 Evl
def Itt (K : PySem.W.Frag) (a : Addr) : It :=
  ⟨fun i H => ∃ (xs : List V) (x : V), SqT K H a xs ∧ xs[i]? = some x, fun i H v H' => ∃ T x, v = .ref T ∧ H T = none ∧ H' = upd H T (.tup [.int (i : Nat), x]) ∧ ∀ xs, SqT K H a xs → xs[i]? = some x, fun i H => ∃ xs : List V, SqT K H a xs ∧ xs.length ≤ i⟩
theorem tupIter_ne {h : Heap} {a b : Addr} {us : Array Value} {i : Nat} (x : h.IsTuple a us) (y : h.IsTupleIter b a i) : a ≠ b := fun z => by
  subst z
  obtain ⟨o, h1, h2, _⟩ := x
  obtain ⟨u, k1, k2, _⟩ := y
  rw [h1] at k1
  cases k1
  rw [h2] at k2
  exact absurd k2 (by simp)
theorem turn_enumT {P : Program} {w : World} {K : PySem.W.Frag} {elts : List Expr} {kk : Nat} {tpos : Pos} (a e it : Addr) :
    Turn P w K (.Tuple elts kk tpos) (Itt K a) [e, it] e (fun i h => (∃ old, IsEnum h e it ((i : Nat) : Int) old) ∧ h.IsTupleIter it a i ∧ e ≠ it) where
  mem := by simp
  obj := fun i h st b hb => by
    obtain ⟨⟨old, he⟩, ⟨o, ho, hc, hd⟩, _⟩ := st
    rcases (show b = e ∨ b = it by simpa using hb) with z | z
    · rw [z]; exact ⟨_, he, fun v q => nomatch q⟩
    · rw [z]; exact ⟨o, ho, fun v q => by rw [hd] at q; cases q⟩
  keep := fun i h h' ⟨⟨old, he⟩, ⟨o, ho, r⟩, hne⟩ k => ⟨⟨old, k e (by simp) _ he⟩, ⟨o, k it (by simp) o ho, r⟩, hne⟩
  item := by
    intro X hP hw hK hc i pins s σ H E I hf st hg
    subst hP hw hK
    obtain ⟨⟨old, he⟩, hit, hne⟩ := st
    obtain ⟨xs, x, hq, hx⟩ := hg
    obtain ⟨its, rv, p, hz⟩ := I.tuple hq
    obtain ⟨u, hu, ru⟩ := rv.get hx
    have p : s.heap.IsTuple a its.toArray := p
    have hel : e < s.heap.objs.size := Heap.lt_size he
    have hil : it < s.heap.objs.size := by obtain ⟨_, q, _⟩ := hit; exact Heap.lt_size q
    have hai : a ≠ it := tupIter_ne p hit
    have hae : e ≠ a := fun z => by
      obtain ⟨o, h1, h2, _⟩ := p
      have he2 : s.heap.get? e = _ := he
      rw [z, h1] at he2
      cases he2
      exact absurd h2 (by simp)
    have hlt : i < its.toArray.size := by
      have := (List.getElem?_eq_some_iff.mp hu).1
      simpa using this
    refine wpAny_pyNext_enum_itemD (fp := [it, a]) (dl_draws (A := X.A.in1) (show X.A.in1.handled = none from I.ok.hd hc) it a hai its.toArray) he ⟨hit, p⟩ hlt hne (by simp; exact ⟨hne, hae⟩) fun x' h' tk px ho hit' hT hsz hk => ?_
    have ex : x' = u := by
      have q : its[i]? = some x' := by simpa using px
      rw [hu] at q
      exact (Option.some.inj q).symm
    subst ex
    refine ⟨_, rfl, wpAny_letOwnedTupleGo_enum (s := { s with heap := h', toks := tk + 1 }) ho fun h'' he' sb => ?_⟩
    have hT2 : h''.get? s.heap.objs.size = some { cls := .type "tuple", data := .seq #[.int i tk, x'] } := (sb.2 _ (Nat.ne_of_gt hel)).trans hT
    have new : ObjOk X.prog X.w (upd H s.heap.objs.size (.tup [.int (i : Nat), x])) h'' s.heap.objs.size (.tup [.int (i : Nat), x]) :=
      ⟨by show 2 ≤ sizeLine; decide, [.int i tk, x'], .cons ⟨_, rfl⟩ (.cons ru .nil), ⟨_, hT2, rfl, _, rfl⟩⟩
    have I1 : Inv X pins σ (upd H s.heap.objs.size (.tup [.int (i : Nat), x])) { s with heap := h'', toks := tk + 1 } :=
      I.turnedNew (ch := [e, it]) (fun b ob hb q => (sb.2 b (fun z => hb (by simp [z]))).trans (hk b ob (fun z => hb (by simp [z])) (fun z => hb (by simp [z])) q)) hf (Nat.le_refl _) new
    refine ⟨.ref s.heap.objs.size, _, I1, rfl, ⟨_, x, rfl, I.hok.fresh (Nat.le_refl _), rfl, fun ys hy => by rw [I.tuple_inj hy hq]; exact hx⟩, ⟨⟨x', ?_⟩, ?_, hne⟩, fun b hb => ?_⟩
    · rw [show ((i + 1 : Nat) : Int) = (i : Int) + 1 by omega]; exact he'
    · obtain ⟨o, q1, r⟩ := hit'.1
      exact ⟨o, (sb.2 it (Ne.symm hne)).trans q1, r⟩
    · have hb' : b < s.heap.objs.size := by
        rcases (show b = e ∨ b = it by simpa using hb) with z | z
        · rw [z]; exact hel
        · rw [z]; exact hil
      rw [upd_ne (Nat.ne_of_lt hb')]
      exact (hf b hb).1
  done := by
    intro X hP hw hK hc i pins s σ H E I hf st hg
    subst hP hw hK
    obtain ⟨⟨old, he⟩, hit, hne⟩ := st
    obtain ⟨xs, hq, hx⟩ := hg
    obtain ⟨its, rv, p, hz⟩ := I.tuple hq
    have p : s.heap.IsTuple a its.toArray := p
    obtain ⟨f0, f1, f2, f3, f4, f5⟩ := hf it (by simp)
    have hl := rv.length
    exact dl_enumTend (I.ok.hd hc) he hit p (by simp; omega) fun h' eb => ⟨rfl, I.turned (t' := s.toks) (fun b o hb q => eb b o hb q) f0 f1 f3 f4 f5⟩
  self := fun A i s Q E ⟨⟨_, he⟩, _⟩ h => wpAny_pyIter_enum he h
section
open PySem.Spec PyProof.Rows
/-- enumerate of a list or of a tuple -/
def iEnumX (K : PySem.W.Frag) (ta : TA) : TI := fun σ H R => ta σ H fun vs H1 => ∃ a xs, vs = [.ref a] ∧ ((SqL K H1 a xs ∧ R (Ite K a) H1) ∨ (SqT K H1 a xs ∧ R (Itt K a) H1))
theorem pi_enumX {X : Cx} {e : Expr} {ta : TA} {p pos tpos : Pos} {elts : List Expr} {kk : Nat} (hg : Gl X "enumerate") (hm : X.mg "enumerate" = none) (ha : PA X [e] ta) (hs : starEach [e] X.env = [(false, eval e X.env)] := by rfl) :
    PI X (.Tuple elts kk tpos) (.Call (.Name "enumerate" p) [e] [] pos) (iEnumX X.K ta) := by
  refine ⟨fun pins s σ H R I h => ?_⟩
  refine Call_ (ld_blt I hg hm boot_enumerate (PyProof.Rows.callWith_type1 (thn (ha.run pos pins s σ H _ I h) fun us s1 ⟨vs, H1, I1, r1, q1⟩ => ?_) hs rfl))
  obtain ⟨a, xs, ex, q1⟩ := q1; subst ex
  cases r1 with
  | cons r rr =>
    cases rr; cases r
    have fin : ∀ {h' : Heap}, (∀ b o, s1.heap.get? b = some o → h'.get? b = some o) → Inv X pins σ H1 { s1 with heap := h' } ∧ ∀ b ∈ [s1.heap.objs.size + 1, s1.heap.objs.size], FpOk X pins H1 b := fun {h'} hk => by
      refine ⟨I1.kept (t' := s1.toks) hk, fun b hb => ?_⟩
      have hle : s1.heap.objs.size ≤ b := by
        rcases (show b = s1.heap.objs.size + 1 ∨ b = s1.heap.objs.size by simpa using hb) with z | z <;> omega
      exact I1.fpOk hle (I1.hok.fresh hle)
    rcases q1 with ⟨hq, q⟩ | ⟨hq, q⟩
    · obtain ⟨its, rv, p', hz⟩ := I1.list hq
      refine call_enumerate_list p'.isList fun h' he hit hsz hk => wpAny_pyIter_enum he ?_
      obtain ⟨I2, hf⟩ := fin hk
      exact ⟨s1.heap.objs.size + 1, [s1.heap.objs.size + 1, s1.heap.objs.size], _, _, H1, rfl, I2, turn_enum a (s1.heap.objs.size + 1) s1.heap.objs.size, ⟨⟨.none, he⟩, hit, Nat.succ_ne_self _⟩, hf, q⟩
    · obtain ⟨its, rv, p', hz⟩ := I1.tuple hq
      refine dl_call_enumT p' fun h' he hit hk => wpAny_pyIter_enum he ?_
      obtain ⟨I2, hf⟩ := fin hk
      exact ⟨s1.heap.objs.size + 1, [s1.heap.objs.size + 1, s1.heap.objs.size], _, _, H1, rfl, I2, turn_enumT a (s1.heap.objs.size + 1) s1.heap.objs.size, ⟨⟨.none, he⟩, hit, Nat.succ_ne_self _⟩, hf, q⟩
end
def diEnumX (de : DE) : DI := fun ρ q er => de ρ (fun t ρ1 => match t with
  | .val (.lst ds) => q (enumD ds) ρ1
  | .val (.tup ds) => q (enumD ds) ρ1
  | _ => False) er
section
variable {K : PySem.W.Frag} {pa : PaG} {W : WX} {te : TE} {de : DE}
theorem itOk_enumT {G : Hp} {a : Addr} {vs : List V} {ds : List D} (h : SqT K G a vs) (r : Reps K G vs ds) : ItOk K G (Itt K a) (enumD ds) where
  go := fun i H e hi => ⟨vs, vs[i]'(by rw [r.length, ← enumD_length]; exact hi), ex_t e h, by simp⟩
  stop := fun i H e hi => ⟨vs, ex_t e h, by rw [r.length, ← enumD_length]; exact hi⟩
  yld := fun i H x H' y G1 e1 e2 d hd => by
    obtain ⟨T, z, rfl, hT, rfl, hz⟩ := y
    obtain ⟨e, he, rfl⟩ := enumD_get hd
    obtain ⟨v, hv, rv⟩ := r.get he
    have q := hz vs (ex_t (e1.trans e2) h)
    rw [hv] at q
    obtain rfl : v = z := Option.some.inj q
    have a := Al.one (G := G1) (p := T) (o := .tup [.int (i : Int), v]) e2 hT
    exact ⟨_, a, .tup (SqT.of upd_same) (.cons (.int _) (.cons ((rv.mono e1).mono a.g) .nil))⟩
theorem si_enumX (he : SE K pa W te de) : SI K pa W (iEnumX K (tCons te tNil)) (diEnumX de) := fun F G σ H ρ R q er S h k x =>
  he F G σ H ρ _ _ er S h (fun G1 H1 v t ρ1 e1 S1 r1 h1 => by
    cases t with
    | bor i => exact h1.elim
    | val d =>
      have r1 : Rep K G1 v d := r1
      cases r1 with
      | lst hr rr => exact ⟨_, _, rfl, .inl ⟨ex_l S1.ex hr, k G1 H1 _ _ ρ1 e1 S1 (itOk_enum hr rr) h1⟩⟩
      | tup hr rr => exact ⟨_, _, rfl, .inr ⟨ex_t S1.ex hr, k G1 H1 _ _ ρ1 e1 S1 (itOk_enumT hr rr) h1⟩⟩
      | _ => exact h1.elim) x
end
end DL
set_option autoImplicit false
set_option Elab.async false
set_option linter.all false
set_option maxRecDepth 100000
namespace DL
open PySem L2 Evl ClX

/-! ### C.f, a constant of a class -/
section
variable {K : PySem.W.Frag} {pa : PaG} {W : WX} {C : Addr} {f : Str} {d : D}
structure CCon (K : PySem.W.Frag) (C : Addr) (f : Str) (d : D) : Prop where
  ex : ∃ mc v u, CRead K C mc ∧ CVal K C mc f v u ∧ ∀ G, Rep K G v d
theorem se_cval (h : CCon K C f d) : SE K pa W (tCVal K (tC (.ref C)) f) (dC d) := fun F G σ H ρ Q q er S h0 k x => by
  obtain ⟨mc, v, u, h1, h2, h3⟩ := h.ex
  exact ⟨C, mc, v, u, rfl, h1, h2, k G H v (.val d) ρ (Ex.refl G) S (h3 G) h0⟩
end

/-! ### all, any, sum, max of a list; abs -/
def D.bls : List D → Option (List Bool)
  | [] => some []
  | .bl b :: ds => (D.bls ds).map fun bs => b :: bs
  | _ :: _ => none
def D.ints : List D → Option (List Int)
  | [] => some []
  | .int b :: ds => (D.ints ds).map fun bs => b :: bs
  | _ :: _ => none
def D.all : List D → Option D
  | [.lst ds] => (D.bls ds).map fun bs => .bl (bs.all id)
  | _ => none
def D.any : List D → Option D
  | [.lst ds] => (D.bls ds).map fun bs => .bl (bs.any id)
  | _ => none
def D.sum : List D → Option D
  | [.lst ds] => (D.ints ds).map fun bs => .int bs.sum
  | _ => none
def maxI : Int → List Int → Int
  | m, [] => m
  | m, n :: ns => maxI (if n > m then n else m) ns
def D.max : List D → Option D
  | [.lst ds] => (D.ints ds).bind fun
    | [] => none
    | n :: ns => some (.int (maxI n ns))
  | _ => none
def D.abs : List D → Option D
  | [.int i] => some (.int (if i < 0 then -i else i))
  | _ => none
theorem maxI_ge : ∀ (ns : List Int) (m : Int), m ≤ maxI m ns ∧ ∀ y ∈ ns, y ≤ maxI m ns
  | [], m => ⟨Int.le_refl m, fun y h => by cases h⟩
  | n :: ns, m => by
    obtain ⟨h1, h2⟩ := maxI_ge ns (if n > m then n else m)
    refine ⟨?_, fun y hy => ?_⟩
    · show m ≤ maxI (if n > m then n else m) ns
      split at h1 <;> rename_i h <;> simp only [h, if_true, if_false] <;> omega
    · show y ≤ maxI (if n > m then n else m) ns
      rcases List.mem_cons.mp hy with e | hy
      · subst e; split at h1 <;> rename_i h <;> simp only [h, if_true, if_false] <;> omega
      · exact h2 y hy
theorem maxI_mem : ∀ (ns : List Int) (m : Int), maxI m ns ∈ m :: ns
  | [], m => List.mem_cons_self
  | n :: ns, m => by
    have h := maxI_mem ns (if n > m then n else m)
    show maxI (if n > m then n else m) ns ∈ m :: n :: ns
    rcases List.mem_cons.mp h with e | h
    · rw [e]; split <;> simp
    · exact List.mem_cons_of_mem _ (List.mem_cons_of_mem _ h)
section
variable {K : PySem.W.Frag} {G : Hp}
theorem reps_bls : ∀ {ds : List D} {vs : List V} {bs : List Bool}, Reps K G vs ds → D.bls ds = some bs → vs = bs.map V.bl
  | _, _, _, .nil, h => by cases h; rfl
  | .bl b :: ds, _, bs, .cons r rr, h => by
    have h : (D.bls ds).map (fun bs => b :: bs) = some bs := h
    cases q : D.bls ds with
    | none => rw [q] at h; cases h
    | some cs => rw [q] at h; cases h; cases r; rw [reps_bls rr q]; rfl
theorem reps_ints : ∀ {ds : List D} {vs : List V} {bs : List Int}, Reps K G vs ds → D.ints ds = some bs → vs = bs.map V.int
  | _, _, _, .nil, h => by cases h; rfl
  | .int b :: ds, _, bs, .cons r rr, h => by
    have h : (D.ints ds).map (fun bs => b :: bs) = some bs := h
    cases q : D.ints ds with
    | none => rw [q] at h; cases h
    | some cs => rw [q] at h; cases h; cases r; rw [reps_ints rr q]; rfl
theorem lst_one {H : Hp} {xs : List V} {ds : List D} (e : Ex G H) (rx : RepTs K G H xs [.lst ds]) : ∃ p vs, xs = [.ref p] ∧ SqL K H p vs ∧ Reps K G vs ds := by
  obtain ⟨x, rfl, r⟩ := rx.one
  obtain ⟨p, vs, rfl, hs, rr⟩ := r.lst e
  exact ⟨p, vs, rfl, hs, rr⟩
theorem sc_all : SC K (rAll K) D.all := fun G H xs ds z Q e rx q k => by
  match ds, q, rx with
  | [.lst ds], q, rx =>
    have q : (D.bls ds).map (fun bs => D.bl (bs.all id)) = some z := q
    obtain ⟨p, vs, rfl, hs, rr⟩ := lst_one e rx
    cases q2 : D.bls ds with
    | none => rw [q2] at q; cases q
    | some bs => rw [q2] at q; cases q; exact ⟨p, bs, rfl, reps_bls rr q2 ▸ hs, k G H _ (Al.refl e) (.bl _)⟩
theorem sc_any : SC K (rAny K) D.any := fun G H xs ds z Q e rx q k => by
  match ds, q, rx with
  | [.lst ds], q, rx =>
    have q : (D.bls ds).map (fun bs => D.bl (bs.any id)) = some z := q
    obtain ⟨p, vs, rfl, hs, rr⟩ := lst_one e rx
    cases q2 : D.bls ds with
    | none => rw [q2] at q; cases q
    | some bs => rw [q2] at q; cases q; exact ⟨p, bs, rfl, reps_bls rr q2 ▸ hs, k G H _ (Al.refl e) (.bl _)⟩
theorem sc_sum : SC K (rSum K) D.sum := fun G H xs ds z Q e rx q k => by
  match ds, q, rx with
  | [.lst ds], q, rx =>
    have q : (D.ints ds).map (fun bs => D.int bs.sum) = some z := q
    obtain ⟨p, vs, rfl, hs, rr⟩ := lst_one e rx
    cases q2 : D.ints ds with
    | none => rw [q2] at q; cases q
    | some bs => rw [q2] at q; cases q; exact ⟨p, bs, rfl, reps_ints rr q2 ▸ hs, k G H _ (Al.refl e) (.int _)⟩
theorem sc_max : SC K (rMax K) D.max := fun G H xs ds z Q e rx q k => by
  match ds, q, rx with
  | [.lst ds], q, rx =>
    obtain ⟨p, vs, rfl, hs, rr⟩ := lst_one e rx
    have q : ((D.ints ds).bind fun
      | [] => none
      | n :: ns => some (D.int (maxI n ns))) = some z := q
    cases q2 : D.ints ds with
    | none => rw [q2] at q; cases q
    | some bs =>
      rw [q2] at q
      cases bs with
      | nil => cases q
      | cons n ns =>
        cases q
        refine ⟨p, n :: ns, rfl, reps_ints rr q2 ▸ hs, by simp, fun m hm hy => ?_⟩
        have h1 := maxI_ge ns n
        have h2 := hy _ (maxI_mem ns n)
        have e1 : m = maxI n ns := by
          have : m ≤ maxI n ns := by rcases List.mem_cons.mp hm with e | h; rw [e]; exact h1.1; exact h1.2 m h
          omega
        rw [e1]
        exact k G H _ (Al.refl e) (.int _)
def rAbsX : List V → Hp → VK → Prop := fun xs H Q => ∃ i, xs = [.int i] ∧ Q (.int (if i < 0 then -i else i)) H
theorem call_absX {X : Cx} : CallR X (.builtin "abs") rAbsX := call_abs
theorem sc_abs : SC K rAbsX D.abs := fun G H xs ds z Q e rx q k => by
  match ds, q, rx with
  | [.int i], q, rx =>
    cases q
    obtain ⟨x, rfl, r⟩ := rx.one
    rw [r.int]
    exact ⟨i, rfl, k G H _ (Al.refl e) (.int _)⟩
end

/-! ### calls with keywords -/
def kwPerm {α : Type} (is : List Nat) (us ws : List α) : List α := us ++ is.filterMap fun i => ws[i]?
section
variable {K : PySem.W.Frag} {G : Hp} {σ : RSt}
theorem paired_get {vs : List V} {us : List Value} (r : Vals vs us) (i : Nat) : (vs[i]? = none ∧ us[i]? = none) ∨ ∃ v u, vs[i]? = some v ∧ us[i]? = some u ∧ RelV v u := by
  cases h : vs[i]? with
  | none =>
    refine .inl ⟨rfl, ?_⟩
    rw [List.getElem?_eq_none_iff] at h ⊢
    rw [← r.length]; exact h
  | some v =>
    obtain ⟨u, h1, h2⟩ := r.get h
    exact .inr ⟨v, u, rfl, h1, h2⟩
theorem kwPerm_vals {vs zs : List V} {us ws : List Value} (r : Vals vs us) (rz : Vals zs ws) : ∀ is : List Nat, Vals (kwPerm is vs zs) (kwPerm is us ws) := fun is => by
  refine r.append ?_
  induction is with
  | nil => exact .nil
  | cons i is ih =>
    rw [List.filterMap_cons, List.filterMap_cons]
    rcases paired_get rz i with ⟨h1, h2⟩ | ⟨v, u, h1, h2, h3⟩
    · rw [h1, h2]; exact ih
    · rw [h1, h2]; exact .cons h3 ih
theorem TkRs.get : ∀ {vs : List V} {ts : List T} (i : Nat), TkRs K G σ vs ts → (vs[i]? = none ∧ ts[i]? = none) ∨ ∃ v t, vs[i]? = some v ∧ ts[i]? = some t ∧ TkR K G σ v t
  | _, _, _, .nil => .inl ⟨by simp, by simp⟩
  | _, _, 0, .cons h _ => .inr ⟨_, _, rfl, rfl, h⟩
  | _, _, i + 1, .cons _ r => by
    rcases TkRs.get i r with ⟨h1, h2⟩ | ⟨v, t, h1, h2, h3⟩
    · exact .inl ⟨by simpa using h1, by simpa using h2⟩
    · exact .inr ⟨v, t, by simpa using h1, by simpa using h2, h3⟩
theorem TkRs.append : ∀ {vs ws : List V} {ts us : List T}, TkRs K G σ vs ts → TkRs K G σ ws us → TkRs K G σ (vs ++ ws) (ts ++ us)
  | _, _, _, _, .nil, r => r
  | _, _, _, _, .cons h t, r => .cons h (TkRs.append t r)
theorem kwPerm_tk {vs zs : List V} {us ws : List T} (r : TkRs K G σ vs us) (rz : TkRs K G σ zs ws) : ∀ is : List Nat, TkRs K G σ (kwPerm is vs zs) (kwPerm is us ws) := fun is => by
  refine r.append ?_
  induction is with
  | nil => exact .nil
  | cons i is ih =>
    rw [List.filterMap_cons, List.filterMap_cons]
    rcases TkRs.get i rz with ⟨h1, h2⟩ | ⟨v, u, h1, h2, h3⟩
    · rw [h1, h2]; exact ih
    · rw [h1, h2]; exact .cons h3 ih
end
def KwOk (K : PySem.W.Frag) (fd : FuncData) (ps : List Str) (n : Nat) (ks : List Str) (is : List Nat) : Prop := ∀ (s : Shared) (us ws : List Value), K.In s.heap → us.length = n → ws.length = ks.length → BindsTo s fd ⟨us, ks.zip ws⟩ (ps.zip (kwPerm is us ws))
theorem KwOk.kbn {K : PySem.W.Frag} {fd : FuncData} {ps : List Str} {n : Nat} {ks : List Str} {is : List Nat} (h : KwOk K fd ps n ks is) : KBn K fd ps n ks (kwPerm is) (kwPerm is) := ⟨h, fun r rz => kwPerm_vals r rz is⟩
def tKw (n m : Nat) (is : List Nat) (t tk : TA) : TA := fun σ H Q => t σ H fun vs H1 => tk σ H1 fun zs H2 => (vs.length = n ∧ zs.length = m) ∧ Q (kwPerm is vs zs) H2
def dKw (n m : Nat) (is : List Nat) (da dk : DA) : DA := fun ρ q er => da ρ (fun ts ρ1 => dk ρ1 (fun us ρ2 => (ts.length = n ∧ us.length = m) ∧ q (kwPerm is ts us) ρ2) er) er
section
variable {K : PySem.W.Frag} {pa : PaG} {W : WX} {ta tk : TA} {da dk : DA} {n m k : Nat} {is : List Nat} {te : TE} {de : DE} {C : Addr} {dsp : DSp} {f : Str}
theorem sa_kw (ha : SA K pa W ta da) (hk : SA K pa W tk dk) : SA K pa W (tKw n m is ta tk) (dKw n m is da dk) := fun F G σ H ρ Q q er S h k x =>
  ha F G σ H ρ _ _ er S h (fun G1 H1 vs ts ρ1 e1 S1 r1 h1 => hk F G1 σ H1 ρ1 _ _ er S1 h1 (fun G2 H2 zs us ρ2 e2 S2 r2 h2 =>
    ⟨⟨by rw [r1.length]; exact h2.1.1, by rw [r2.length]; exact h2.1.2⟩, k G2 H2 _ _ ρ2 (e1.trans e2) S2 (kwPerm_tk (r1.mono e2) r2 is) h2.2⟩) (x.grow e1)) x
/-- C(.., k = v) -/
theorem sf_makeK (ha : SA K pa W ta da) (hk : SA K pa W tk dk) : SF K pa W (tMakeK C n m (SpV K (k + 1) dsp) (kwPerm is) L2.E0 ta tk) (dMake C (noEr dsp) (dN k (dKw n m is da dk))) := fun F G σ H ρ Q q er S h kk x =>
  ha F G σ H ρ _ _ er S h (fun G1 H1 vs ts ρ1 e1 S1 r1 h1 => hk F G1 σ H1 ρ1 _ _ er S1 h1 (fun G2 H2 zs us ρ2 e2 S2 r2 h2 => by
    obtain ⟨⟨l1, l2⟩, hl, av, ea, nd, hd⟩ := h2
    refine ⟨by rw [r1.length]; exact l1, by rw [r2.length]; exact l2, ?_⟩
    intro x' dx hx hdx hne
    have r3 := kwPerm_tk (r1.mono e2) r2 is
    refine make_core S2 r3 ea nd (show (kwPerm is vs zs).length + 1 = k + 1 by rw [r3.length, hl]) hx hdx hne hd (fun G' H' o os e S' gp ow fr hq => ⟨rfl, kk G' H' x' o _ ((e1.trans e2).trans e) S' gp ow fr hq⟩) (fun d os hq => ?_) (fun G' H' C' y fv fs o os e S' h1 h2 hq => hq.elim) (fun C' fs os hq => hq.elim)
    cases os with
    | nil => cases d <;> exact hq.elim
    | cons o os => cases d <;> first | exact ⟨rfl, by simp⟩ | exact hq.elim) (x.grow e1)) x
end
section
variable {X : Cx} {CX : CXT} {k n : Nat} {f C : Addr} {fd : FuncData} {ps ks : List Str} {is : List Nat} {sp : Sp} {E : XK} {x m : Str} {p pos apos : Pos} {e o : Expr} {es : List Expr} {kws : List Keyword} {ta : TE} {t tk : TA}
theorem run_kw {pins : List (Addr × Obj)} {σ : RSt} {H : Hp} {s : Shared} {Q : VK} {us ws : List Value} {vs zs : List V} (F : FnOk X.prog X.w X.K X.mg X.base CX k f fd ps sp) (hr : Room k X.A) (hb : KwOk X.K fd ps n ks is) (hx : Passes CX X E) (I : Inv X pins σ H s) (r : Vals vs us) (rz : Vals zs ws)
    (l1 : vs.length = n) (l2 : zs.length = ks.length) (h : sp (kwPerm is vs zs) H Q E) : wpAny (model X.prog X.w) X.A (call (.ref f) us (ks.zip ws)) (EP X pins σ Q) X.xe s := by
  refine wpAny_call (codeAny_mono (F.run X.A X.stack s H ⟨us, ks.zip ws⟩ (kwPerm is us ws) (kwPerm is vs zs) Q E hr I.env0 (hb s us ws I.kIn (by rw [← r.length]; exact l1) (by rw [← rz.length]; exact l2)) (kwPerm_vals r rz is) h) fun r' s' hq => ?_)
  cases r' with
  | error e => exact hx pins σ H s e s' I hq
  | ok fl =>
    cases fl with
    | ret u => exact I.after hq
    | next => exact False.elim hq
    | brk => exact False.elim hq
    | cont => exact False.elim hq
/-- o.m(k = v, ..) -/
theorem pe_methK0 {pl : Sem Bool} (he : PE X o ta) (c : Cls X.K C) (hm : Meth X.K C m f) (F : FnOk X.prog X.w X.K X.mg X.base CX k f fd ps sp) (hr : Room k X.A) (hb : KwOk X.K fd ps 1 ks is) (hx : Passes CX X E) (hkw : PK X kws tk)
    (hall : (backToKw pos (keywordEach kws X.env)).all (·.1.isSome) = true := by rfl) (hks : (backToKw pos (keywordEach kws X.env)).filterMap (·.1) = ks := by rfl)
    (hpl : ((backTo pos (starEach [] X.env)).any (·.1) || (backToKw pos (keywordEach kws X.env)).any (·.1.isNone)) = false := by rfl)
    (ht : eval (.Call (.Attribute o m apos) [] kws pos) X.env = (do
      let ov ← eval o X.env
      standAt apos.atName
      let (f, first) ← holding [ov] (getMethod ov m pl)
      callWith pos f first (backTo pos (starEach [] X.env)) (backToKw pos (keywordEach kws X.env))) := by rfl) :
    PE X (.Call (.Attribute o m apos) [] kws pos) (tMeth C m sp [] E ta (tKw 0 ks.length is tNil tk)) := by
  refine ⟨fun pins s σ H Q I h => ?_⟩
  refine PySem.W.methodCall_KW (pl := pl) (thn (he.run pins s σ H _ I h) fun u s1 ⟨x, H1, I1, rx, a, dx, fs, ex, ea, l, q⟩ => ?_) ht
  subst ex
  obtain rfl : u = Value.ref a := rx
  refine getmeth_ok I1 ea c hm l (PySem.W.callWith_KW0 (first := [.ref a]) (h₀ := X.base) I1.ok.mod.kin hm.kp hall ?_ hpl)
  refine thn (hkw.run pos pins s1 σ H1 _ I1 q) fun ws s2 ⟨zs, H2, I2, rz, ⟨_, l2⟩, q2⟩ => ⟨I2.kIn, ?_⟩
  rw [hks]
  have q2 : sp (.ref a :: (kwPerm is [] zs ++ [])) H2 Q E := q2
  rw [List.append_nil] at q2
  exact run_kw (us := [.ref a]) (vs := [.ref a]) F hr hb hx I2 (.cons rfl .nil) rz rfl l2 q2
end
end DL
set_option autoImplicit false
set_option Elab.async false
set_option linter.all false
set_option maxRecDepth 100000
namespace DL
open PySem L2 Evl

/-- o.m(..) that hands over a new object -/
def dMethF (C : Addr) (m : Str) (dsp : DSp) (de : DE) (da : DA) : DF := fun ρ q er => de ρ (fun t ρ1 => Opt (rd ρ1 t) fun d => d.noF m C = true ∧ da ρ1 (fun ts ρ2 => Opt (argsOf ρ2 (t :: ts)) fun av => (bors (t :: ts)).Nodup ∧ dsp av (fun d os => q d (putOuts ρ2 (bors (t :: ts)) os)) (fun C' fs os => er C' fs (putOuts ρ2 (bors (t :: ts)) os))) er) er
section
variable {K : PySem.W.Frag} {pa : PaG} {W : WX} {ta : TA} {te : TE} {de : DE} {da : DA} {n : Nat} {dsp : DSp} {C : Addr} {m : Str}
theorem sf_meth (he : SE K pa W te de) (ha : SA K pa W ta da) : SF K pa W (tMeth C m (SpF K (n + 1) dsp) [] L2.E0 te ta) (dMethF C m (noEr dsp) de (dN n da)) := fun F G σ H ρ Q q er S h k x =>
  he F G σ H ρ _ _ er S h (fun G0 H0 v t ρ0 e0 S0 r0 h0 => by
    obtain ⟨d, ed, hf, h0⟩ := h0
    obtain ⟨a, dx, fs, rfl, ha1, hl1⟩ := noF_of S0.ex (S0.rdT r0 ed) hf
    refine ⟨a, dx, fs, rfl, ha1, hl1, ?_⟩
    exact ha F G0 σ H0 ρ0 _ _ er S0 h0 (fun G1 H1 vs ts ρ1 e1 S1 r1 h1 => by
      obtain ⟨hl, av, ea, nd, hd⟩ := h1
      rw [List.append_nil]
      exact call_coreF S1 (.cons (r0.mono e1) r1) ea nd (by rw [List.length_cons, r1.length, hl]) hd (fun G' H' p d os e S' gp ow fr hq => k G' H' p d _ ((e0.trans e1).trans e) S' gp ow fr hq) (fun G' H' C y fv fs os e S' h1 h2 hq => hq.elim)) (x.grow e0)) x
end
end DL
namespace DL
open PySem L2 Evl
/-- a law's promise: True at every script -/
def spTrue (K : PySem.W.Frag) : Sp := fun vs H Q _ => ∃ (a : Addr) (ns : List Int), vs = [.ref a] ∧ SqL K H a (ns.map V.int) ∧ ns.length ≤ 63 ∧ ∀ H', Q (.bl true) H'
theorem spTrue_of {K : PySem.W.Frag} {dsp : DSp} (h : ∀ ns : List Int, ns.length ≤ 63 → dsp [.val (.lst (ns.map D.int))] (fun d _ => d = .bl true) (fun _ _ _ => False)) : ∀ (vs : List V) (H : Hp) (Q : VK) (E : XK), spTrue K vs H Q E → SpV K 1 dsp vs H Q E := by
  rintro vs H Q E ⟨a, ns, rfl, hs, hl, k⟩
  refine ⟨fun _ => none, H, [.val (.lst (ns.map D.int))], rfl, Ex.refl H, (fun b o q => by cases q), (fun b o q => by cases q), .val (.lst hs (Reps.ints ns)) .nil, List.nodup_nil, _, _, h ns hl, fun G' H' v d os _ _ _ _ _ r e => ?_, fun _ _ _ _ _ _ _ _ _ _ _ _ _ _ q => q.elim⟩
  subst e
  cases r
  exact k H'
end DL
set_option autoImplicit false
set_option Elab.async false
set_option linter.all false
set_option maxRecDepth 100000
/-! # max(xs, default=d) of a list of whole numbers -/
namespace DL
open PySem L2 Evl PyProof.Rows
theorem mxd_args (a v : Value) : argsOk "max" ⟨[a], [(Str.ofString "default", v)]⟩ := by unfold argsOk; kernel_rfl
section
variable {prog : Program} {w : World} {A : Around} {R : Result → Shared → Prop} {I S : Addr} {fp wr : List Addr} {n : Nat} {P : Nat → Value → Prop} {St : Nat → Heap → Prop}
theorem mxd_loop (Wk : Walks prog w A.in1 I fp wr n P St) (bt : Nat → Nat → Bool) (hc : CmpOf prog w A.in1 .Gt P bt) (hS : S ∉ fp) (dv : Value) :
    ∀ (k i : Nat) (s : Shared) (c : Nat) (ar : Array Value), n - i = k → i ≤ n → St i s.heap → ((i = 0 ∧ ar = #[]) ∨ ∃ j vb, i = j + 1 ∧ ar = #[vb, vb] ∧ P (argBest bt j) vb) →
    s.heap.get? S = some { cls := .type "list", dict := none, data := .seq ar c, slots := #[] } →
    (∀ v h' tk, (n = 0 → v = dv) → (0 < n → P (argBest bt (n - 1)) v) → (∀ b o, b ∉ wr → b ≠ S → s.heap.get? b = some o → h'.get? b = some o) → R (.ok (.ret v)) { s with heap := h', toks := tk }) →
    codeAny (model prog w) A (.builtin "max.loop" ⟨[.ref I, .none, .ref S], [(Str.ofString "default", dv)]⟩) R s := by
  have nm : (toString "max" ++ toString ".loop" : String) = "max.loop" := by decide
  have hSw : S ∉ wr := fun z => hS (Wk.sub _ z)
  intro k
  induction k with
  | zero =>
    intro i s c ar hk hi hst har hSo hR
    obtain rfl : i = n := by omega
    refine codeAny_builtin F.entry_max_loop ?_
    rw [Around.under_plainId F.plain_max_loop _]
    show wpAny _ A.in1 (seqItems? (.ref S) >>= _) _ _ s
    refine wpAny_bind (wpAny_seqItems hSo rfl ?_)
    show wpAny _ A.in1 (tryCatch (pyNext (.ref I)) _ >>= _) _ _ s
    refine wpAny_bind (wpAny_tryCatch (Wk.done s _ _ hst fun h1 t1 k1 => ?_))
    have hS1 := k1 S _ hSw hSo
    rcases har with ⟨rfl, rfl⟩ | ⟨j, vb, rfl, rfl, hP⟩
    · show wpAny _ A.in1 (rule _ >>= _) _ _ _
      exact wpAny_bind (wpAny_rule (wpAny_pure (hR dv _ t1 (fun _ => rfl) (fun z => absurd z (by omega)) fun b o x1 x2 e => k1 b o x1 e)))
    · show wpAny _ A.in1 (updateSeq S (fun _ => #[]) >>= _) _ _ _
      refine wpAny_bind (wpAny_updateSeq hS1 rfl (wpAny_bind (wpAny_letGo (wpAny_pure ?_))))
      exact hR vb _ t1 (fun z => absurd z (by omega)) (fun _ => hP) fun b o x1 x2 e => (Heap.get?_update_other _ _ (Ne.symm x2)).trans (k1 b o x1 e)
  | succ k ih =>
    intro i s c ar hk hi hst har hSo hR
    have hlt : i < n := by omega
    refine codeAny_builtin F.entry_max_loop ?_
    rw [Around.under_plainId F.plain_max_loop _]
    show wpAny _ A.in1 (seqItems? (.ref S) >>= _) _ _ s
    refine wpAny_bind (wpAny_seqItems hSo rfl ?_)
    show wpAny _ A.in1 (tryCatch (pyNext (.ref I)) _ >>= _) _ _ s
    refine wpAny_bind (wpAny_tryCatch (Wk.item i s _ _ hlt hst fun v h1 t1 hPv st1 k1 => ?_))
    have hS1 := k1 S _ hSw hSo
    have up : ∀ f : Array Value → Array Value, St (i + 1) (h1.update S (Obj.mapSeq f)) := fun f => Wk.frame _ _ _ st1 fun b hb o e => (Heap.get?_update_other _ _ (fun z : S = b => hS (by rw [z]; exact hb))).trans e
    have fin : ∀ (f : Array Value → Array Value) (v' : Value) (h2 : Heap) (t2 : Nat), (n = 0 → v' = dv) → (0 < n → P (argBest bt (n - 1)) v') →
        (∀ b o, b ∉ wr → b ≠ S → (h1.update S (Obj.mapSeq f)).get? b = some o → h2.get? b = some o) → R (.ok (.ret v')) { s with heap := h2, toks := t2 } := fun f v' h2 t2 q1 q2 k2 =>
      hR v' h2 t2 q1 q2 fun b o x1 x2 e => k2 b o x1 x2 ((Heap.get?_update_other _ _ (Ne.symm x2)).trans (k1 b o x1 e))
    rcases har with ⟨rfl, rfl⟩ | ⟨j, vb, rfl, rfl, hP⟩
    · show wpAny _ A.in1 (updateSeq S (fun _ => #[v, v]) >>= _) _ _ _
      refine wpAny_bind (wpAny_updateSeq hS1 rfl ?_)
      rw [nm]
      exact wpAny_pure ⟨plainId_quiet F.plain_max_loop _, ih 1 _ _ #[v, v] (by omega) (by omega) (up _) (.inr ⟨0, v, rfl, rfl, hPv⟩) (Heap.get?_update_self _ hS1 rfl) (fin _)⟩
    · show wpAny _ A.in1 (tryCatch (holding [v, v] (richCompare .Gt v vb >>= _)) _ >>= _) _ _ _
      refine wpAny_bind (wpAny_tryCatch (wpAny_holding (wpAny_bind (hc (j + 1) (argBest bt j) v vb _ _ _ hPv hP ?_))))
      refine wpAny_bind (wpAny_holding (wpAny_truthy_bool ?_))
      refine wpAny_bind (wpAny_letGo (wpAny_pure ?_))
      have eb : argBest bt (j + 1) = if bt (j + 1) (argBest bt j) = true then j + 1 else argBest bt j := rfl
      cases hb : bt (j + 1) (argBest bt j) with
      | true =>
        rw [hb, if_pos rfl] at eb
        rw [if_pos rfl]
        refine wpAny_bind (wpAny_updateSeq hS1 rfl (wpAny_bind (wpAny_letGo ?_)))
        rw [nm]
        exact wpAny_pure ⟨plainId_quiet F.plain_max_loop _, ih (j + 2) _ _ #[v, v] (by omega) (by omega) (up _) (.inr ⟨j + 1, v, rfl, rfl, by rw [eb]; exact hPv⟩) (Heap.get?_update_self _ hS1 rfl) (fin _)⟩
      | false =>
        rw [hb, if_neg (by decide)] at eb
        rw [if_neg (by decide)]
        refine wpAny_bind (wpAny_letGo ?_)
        rw [nm]
        exact wpAny_pure ⟨plainId_quiet F.plain_max_loop _, ih (j + 2) _ _ #[vb, vb] (by omega) (by omega) st1 (.inr ⟨j + 1, vb, rfl, rfl, by rw [eb]; exact hP⟩) hS1 fun v' h2 t2 q1 q2 k2 => hR v' h2 t2 q1 q2 fun b o x1 x2 e => k2 b o x1 x2 (k1 b o x1 e)⟩
end
section
variable {prog : Program} {w : World} {A : Around} {E : Value → Shared → Prop} {s : Shared}
theorem mxd_list {l : Addr} {xs : Array (Int × Tok)} {dv : Value} {Q : Value → Shared → Prop} (hh : A.handled = none) (hl : s.heap.IsList l (intItems xs))
    (h : ∀ v h' tk, (xs.size = 0 → v = dv) → (0 < xs.size → (intItems xs)[argBest (fun i j => decide (numAt xs i > numAt xs j)) (xs.size - 1)]? = some v) → (∀ b o, s.heap.get? b = some o → h'.get? b = some o) → Q v { s with heap := h', toks := tk }) :
    wpAny (model prog w) A (call (.builtin "max") [.ref l] [(Str.ofString "default", dv)]) Q E s := by
  have nm : (toString "max" ++ toString ".loop" : String) = "max.loop" := by decide
  refine kmk_tree F.kind_max F.plain_max F.entry_max (mxd_args _ _) ?_
  show wpAny _ A.in1 (Builtin.Builtins.bindParams "max" ["key", "default"] 0 ⟨[], [(Str.ofString "default", dv)]⟩ >>= _) _ _ s
  refine wpAny_bind (wpAny_of_eq (show Builtin.Builtins.bindParams "max" ["key", "default"] 0 ⟨[], [(Str.ofString "default", dv)]⟩ = pure [none, some dv] from rfl) ?_)
  refine wpAny_bind (wpAny_pure (wpAny_bind (iter_intList hl fun s₂ e st hfp hlI => ?_)))
  subst e
  refine wpAny_bind (wpAny_newObj_type ?_)
  rw [nm]
  have Wk := Walks.list (prog := prog) (w := w) (A := A.in1) hh s.heap.objs.size l hlI (intItems xs)
  have hsz : (intItems xs).size = xs.size := by simp [intItems]
  refine wpAny_pure ⟨plainId_quiet F.plain_max_loop _, mxd_loop Wk _ (CmpOf.ints_gt (numAt xs) fun _ _ => intItems_at) (S := _) (fun hm => Nat.lt_irrefl _ (hfp _ hm)) dv _ 0 _ _ #[] rfl (Nat.zero_le _) (Wk.frame _ _ _ st fun b _ o e => Heap.get?_push_of_some _ e) (.inl ⟨rfl, rfl⟩) (Heap.get?_push_size _ rfl) fun v h' tk q1 q2 hk => ?_⟩
  rw [hsz] at q1 q2
  refine h v h' tk q1 q2 fun b o e => ?_
  have hb := Heap.lt_size e
  refine hk b o (fun hm => ?_) (Nat.ne_of_lt (by show b < (s.heap.push _).objs.size; rw [Heap.size_push]; exact Nat.lt_succ_of_lt hb)) (Heap.get?_push_of_some _ (Heap.get?_push_of_some _ e))
  rw [List.mem_singleton] at hm
  exact absurd (hm ▸ hb) (Nat.lt_irrefl _)
end
section
variable {X : Cx} {K : PySem.W.Frag}
def rMaxDf (K : PySem.W.Frag) : List V → List V → Hp → VK → Prop := fun vs zs H Q => ∃ (a : Addr) (ns : List Int) (d : Int), vs = [V.ref a] ∧ zs = [V.int d] ∧ SqL K H a (ns.map V.int) ∧ ∀ m, (ns = [] → m = d) → (ns ≠ [] → m ∈ ns ∧ ∀ y ∈ ns, y ≤ m) → Q (.int m) H
theorem cr_maxDf (hc : X.calm = true) : CallRK X (.builtin "max") [Str.ofString "default"] (rMaxDf X.K) := by
  intro pins s σ H vs zs us ws Q I r r2 h
  obtain ⟨a, ns, d, rfl, rfl, hs, q⟩ := h
  obtain ⟨its, rv, hl, _⟩ := I.list hs
  rw [Vals.ref1 r]
  obtain ⟨u, rfl, t, rfl⟩ := vals1 r2
  have hi := rv.ints
  obtain ⟨xs, e⟩ := hi.allInts.items
  have hn : numsOf (intItems xs).toList = ns := by rw [← e]; exact hi.numsOf
  rw [nums_intItems] at hn
  subst hn
  have hl : s.heap.IsList a its.toArray := hl.isList
  rw [e] at hl
  refine mxd_list (I.ok.hd hc) hl fun v h' tk q1 q2 hk => ?_
  have hlen : (xs.toList.map (·.1)).length = xs.size := by simp
  by_cases hz : xs.size = 0
  · rw [q1 hz]
    have en : xs.toList.map (·.1) = [] := List.eq_nil_of_length_eq_zero (by rw [hlen]; exact hz)
    exact ⟨.int d, H, I.kept hk, ⟨_, rfl⟩, q d (fun _ => rfl) fun z => absurd en z⟩
  · have hp : 0 < xs.size := by omega
    have hv := q2 hp
    obtain ⟨t', rfl⟩ := intItems_at hv
    obtain ⟨h1, h2⟩ := argBest_gt (numAt xs) (xs.size - 1)
    refine ⟨.int _, H, I.kept hk, ⟨_, rfl⟩, q _ (fun z => ?_) fun _ => ⟨?_, fun y hy => ?_⟩⟩
    · rw [z] at hlen
      have : (0 : Nat) = xs.size := hlen
      omega
    · rw [numAt_eq]; exact PySem.getD_mem (by rw [hlen]; omega)
    · obtain ⟨j, hj, rfl⟩ := mem_getD hy
      rw [hlen] at hj
      rw [← numAt_eq]
      exact h2 j (by omega)
/-- as data -/
def D.maxDf : List D → List D → Option D
  | [.lst ds], [.int d] => (D.ints ds).map fun
    | [] => .int d
    | n :: ns => .int (maxI n ns)
  | _, _ => none
def dCKw (f : List D → List D → Option D) (da dk : DA) : DE := fun ρ q er => da ρ (fun ts ρ1 => dk ρ1 (fun us ρ2 => Opt (rds ρ2 ts) fun ds => Opt (rds ρ2 us) fun es => Opt (f ds es) fun z => q (.val z) ρ2) er) er
theorem TkRs.grow {K : PySem.W.Frag} {G G' : Hp} {σ : RSt} (e : Ex G G') {vs : List V} {ts : List T} (h : TkRs K G σ vs ts) : TkRs K G' σ vs ts := h.mono e
theorem se_maxDf {pa : PaG} {W : WX} {ta tk : TA} {da dk : DA} (ha : SA K pa W ta da) (hk : SA K pa W tk dk) : SE K pa W (tCKw (rMaxDf K) ta tk) (dCKw D.maxDf da dk) := fun F G σ H ρ Q q er S h k x =>
  ha F G σ H ρ _ _ er S h (fun G1 H1 vs ts ρ1 e1 S1 r1 h1 => hk F G1 σ H1 ρ1 _ _ er S1 h1 (fun G2 H2 ws us ρ2 e2 S2 r2 h2 => by
    obtain ⟨ds, ed, es, ee, z, ez, h3⟩ := h2
    have R1 := rds_reps S2 (r1.grow e2) ed
    have R2 := rds_reps S2 r2 ee
    match ds, es, ez, R1, R2 with
    | [.lst ds], [.int d], ez, R1, R2 =>
      obtain ⟨p, vs', rfl, hs, rr⟩ := lst_one S2.ex R1
      obtain ⟨y, rfl, ry⟩ := R2.one
      rw [ry.int]
      have ez : ((D.ints ds).map fun
        | [] => D.int d
        | n :: ns => .int (maxI n ns)) = some z := ez
      cases q2 : D.ints ds with
      | none => rw [q2] at ez; cases ez
      | some bs =>
        rw [q2] at ez
        refine ⟨p, bs, d, rfl, rfl, reps_ints rr q2 ▸ hs, fun m m1 m2 => ?_⟩
        cases bs with
        | nil =>
          cases ez
          rw [m1 rfl]
          exact k G2 H2 _ (.val (.int d)) ρ2 (e1.trans e2) S2 (.int d) h3
        | cons n ns =>
          cases ez
          obtain ⟨hm, hy⟩ := m2 (by simp)
          have g1 := maxI_ge ns n
          have g2 := hy _ (maxI_mem ns n)
          have e3 : m = maxI n ns := by
            have : m ≤ maxI n ns := by rcases List.mem_cons.mp hm with e | h; rw [e]; exact g1.1; exact g1.2 m h
            omega
          rw [e3]
          exact k G2 H2 _ (.val (.int (maxI n ns))) ρ2 (e1.trans e2) S2 (.int _) h3) (x.grow e1)) x
end
end DL
set_option autoImplicit false
set_option Elab.async false
set_option linter.all false
set_option maxRecDepth 100000
/-! # list(range(n)), xs.index(x) -/
namespace DL
open PySem L2 Evl PyProof.Rows
section
variable {K : PySem.W.Frag} {pa : PaG} {W : WX} {te tf : TE} {de df : DE} {tk : TA} {dk : DA}
def dListRg1 (da : DE) : DF := fun ρ q er => da ρ (fun t ρ1 => Opt (rd ρ1 t) fun d => match d with
  | .int j => RgOk 0 j ∧ q (.lst ((List.range j.toNat).map fun (k : Nat) => .int (k : Int))) ρ1
  | _ => False) er
theorem reps_nats {G : Hp} : ∀ (l : List Nat), Reps K G (l.map fun i => V.int (0 + (i : Nat))) (l.map fun (i : Nat) => D.int (i : Int))
  | [] => .nil
  | n :: l => by
    rw [List.map_cons, List.map_cons, show (0 : Int) + (n : Nat) = (n : Int) from Int.zero_add _]
    exact .cons (.int _) (reps_nats l)
theorem sf_listRg1 (he : SE K pa W te de) : SF K pa W (tLstRg (tRg1 te)) (dListRg1 de) := fun F G σ H ρ Q q er S h k x =>
  he F G σ H ρ _ _ er S h (fun G1 H1 v t ρ1 e1 S1 r1 h1 => by
    obtain ⟨d, ed, h1⟩ := h1
    cases d with
    | int j =>
      rw [(S1.rdT r1 ed).int]
      refine ⟨j, rfl, h1.1, fun b hb => ?_⟩
      refine k G1 _ b (.lst ((List.range j.toNat).map fun (k : Nat) => .int (k : Int))) ρ1 e1 (S1.new hb) ⟨fresh_back S1.ex hb, fresh_back S1.fx hb⟩ ⟨_, upd_same, ?_⟩ (fresh_no S1 hb) h1.2
      have e2 : rgV 0 j = (List.range j.toNat).map fun i => V.int (0 + (i : Nat)) := by unfold rgV; rw [Int.sub_zero]
      rw [e2]
      exact reps_nats (List.range j.toNat)
    | _ => exact h1.elim) x
/-! xs.index(x), x one of them -/
def D.index (a b : D) : Option D := match a.toP, b.toP with
  | some (.list ps), some p => if SeqAt.shaped (.list ps) = true ∧ SeqAt.shaped p = true then (ps.findIdx? fun z => PyData.eqv z p).map fun j => .int (j : Int) else none
  | _, _ => none
def dIndex (de df : DE) : DE := fun ρ q er => de ρ (fun s ρ1 => Opt (rd ρ1 s) fun a0 => a0.isLst = true ∧ df ρ1 (fun t ρ2 => Opt (rd ρ2 s) fun a => Opt (rd ρ2 t) fun b => Opt (D.index a b) fun z => q (.val z) ρ2) er) er
theorem index_some {a b z : D} (h : D.index a b = some z) : ∃ (ps : List PyData) (p y : PyData) (j : Nat), a.toP = some (.list ps) ∧ b.toP = some p ∧ SeqAt.shaped (.list ps) = true ∧ SeqAt.shaped p = true ∧ ps[j]? = some y ∧ PyData.eqv y p = true ∧
    (∀ (m : Nat) (y' : PyData), m < j → ps[m]? = some y' → PyData.eqv y' p = false) ∧ z = .int (j : Int) := by
  unfold D.index at h
  split at h
  · rename_i ps p h1 h2
    split at h
    · rename_i hs
      cases e : ps.findIdx? fun z => PyData.eqv z p with
      | none => rw [e] at h; cases h
      | some j =>
        rw [e] at h
        cases h
        obtain ⟨hj, g1, g2⟩ := List.findIdx?_eq_some_iff_getElem.mp e
        refine ⟨ps, p, ps[j], j, h1, h2, hs.1, hs.2, by simp [hj], g1, fun m y' hm hy => ?_, rfl⟩
        obtain ⟨hm2, rfl⟩ := List.getElem?_eq_some_iff.mp hy
        have := g2 m hm
        simpa using this
    · cases h
  · cases h
theorem toP_list {a : D} {ps : List PyData} (h : a.toP = some (.list ps)) : ∃ xs, a = .lst xs := by
  cases a with
  | lst xs => exact ⟨xs, rfl⟩
  | tup xs =>
    rw [D.toP] at h
    cases e : D.toPs xs with
    | none => rw [e] at h; cases h
    | some q => rw [e] at h; cases h
  | non => rw [D.toP] at h; cases h
  | bl _ => rw [D.toP] at h; cases h
  | int _ => rw [D.toP] at h; cases h
  | str _ => rw [D.toP] at h; cases h
  | byt _ => rw [D.toP] at h; cases h
  | dct _ => rw [D.toP] at h; cases h
  | ins _ _ => rw [D.toP] at h; cases h
  | ptr _ => rw [D.toP] at h; cases h
  | ty _ => rw [D.toP] at h; cases h
  | exc _ _ => rw [D.toP] at h; cases h
theorem se_index (he : SE K pa W te de) (hf : SE K pa W tf df) : SE K pa W (tBM K "list" (rIndexD K) te (tCons tf tNil)) (dIndex de df) := fun F G σ H ρ Q q er S h k x =>
  he F G σ H ρ _ _ er S h (fun G1 H1 v s ρ1 e1 S1 r1 h1 => by
    obtain ⟨a0, ea0, hl, h1⟩ := h1
    cases a0 with
    | lst xs =>
      obtain ⟨p, vs, rfl, hs, rr⟩ := (S1.rdT r1 ea0).lst S1.ex
      refine ⟨.inl ⟨rfl, vs, hs⟩, ?_⟩
      refine hf F G1 σ H1 ρ1 _ _ er S1 h1 (fun G2 H2 w t ρ2 e2 S2 r2 h2 => ?_) (x.grow e1)
      obtain ⟨a, ea, b, eb, z, ez, h3⟩ := h2
      obtain ⟨ps, pp, y, j, t1, t2, s1, s2, g1, g2, g3, rfl⟩ := index_some ez
      exact ⟨p, w, pp, ps, j, y, rfl, rfl, repT_dp S2.ex (S2.rdT (r1.mono e2) ea) t1, repT_dp S2.ex (S2.rdT r2 eb) t2, s1, s2, g1, g2, g3, k G2 H2 _ (.val (.int (j : Int))) ρ2 (e1.trans e2) S2 (.int _) h3⟩
    | _ => cases hl) x
end
end DL
set_option autoImplicit false
set_option Elab.async false
set_option linter.all false
set_option maxRecDepth 100000
/-! # what the operations on data give -/
namespace DL
open PySem L2 Evl
theorem D_add (i j : Int) : D.add (.int i) (.int j) = some (.int (i + j)) := rfl
theorem D_sub (i j : Int) : D.sub (.int i) (.int j) = some (.int (i - j)) := rfl
theorem D_mod {i j : Int} (h : 0 < j) : D.mod (.int i) (.int j) = some (.int (i % j)) := by unfold D.mod; simp [h]
theorem D_div {i j : Int} (h : CDivW i j) : D.fdiv (.int i) (.int j) = some (.int (i / j)) := by unfold D.fdiv; simp [h]
theorem D_pow {i j : Int} (h : CPow i j) : D.pow (.int i) (.int j) = some (.int (i ^ j.toNat)) := by unfold D.pow; simp [h]
theorem D_mul {i j : Int} (h : CMul i j) : D.mul (.int i) (.int j) = some (.int (i * j)) := by unfold D.mul; simp [h]
theorem D_addS {x y : Str} (h : x.length + y.length ≤ sizeLine) : D.add (.str x) (.str y) = some (.str (x ++ y)) := by unfold D.add; simp [h]
theorem D_addL {x y : List D} (h : x.length + y.length ≤ sizeLine) : D.add (.lst x) (.lst y) = some (.lst (x ++ y)) := by unfold D.add; simp [h]
theorem ixn {xs : List D} {n : Nat} {i : Int} (e : i = (n : Int)) (h : n < xs.length) : D.ix (.lst xs) (.int i) = xs[n]? := by
  subst e
  show (ixN xs.length (n : Int)).bind (fun j => xs[j]?) = _
  unfold ixN
  rw [if_pos (by omega), if_pos (by omega)]
  rfl
theorem ixt {xs : List D} {n : Nat} {i : Int} (e : i = (n : Int)) (h : n < xs.length) : D.ix (.tup xs) (.int i) = xs[n]? := ixn (xs := xs) e h
theorem ix_last {xs : List D} {x : D} : D.ix (.lst (xs ++ [x])) (.int (-1)) = some x := by
  show (ixN (xs ++ [x]).length (-1)).bind (fun j => (xs ++ [x])[j]?) = _
  have e : ixN (xs ++ [x]).length (-1) = some xs.length := by
    unfold ixN
    rw [if_neg (by omega), if_pos (by simp; omega)]
    simp
    omega
  rw [e]
  simp
theorem ix0 (x : D) (xs : List D) : D.ix (.lst (x :: xs)) (.int 0) = some x := ixn (n := 0) rfl (by simp)
theorem ix1 (x y : D) (xs : List D) : D.ix (.lst (x :: y :: xs)) (.int 1) = some y := ixn (n := 1) rfl (by simp)
theorem ix2 (x y z : D) (xs : List D) : D.ix (.lst (x :: y :: z :: xs)) (.int 2) = some z := ixn (n := 2) rfl (by simp)
theorem ix3 (x y z u : D) (xs : List D) : D.ix (.lst (x :: y :: z :: u :: xs)) (.int 3) = some u := ixn (n := 3) rfl (by simp)
theorem ix4 (x y z u v : D) (xs : List D) : D.ix (.lst (x :: y :: z :: u :: v :: xs)) (.int 4) = some v := ixn (n := 4) rfl (by simp)
theorem tx0 (x : D) (xs : List D) : D.ix (.tup (x :: xs)) (.int 0) = some x := ixn (n := 0) rfl (by simp)
theorem tx1 (x y : D) (xs : List D) : D.ix (.tup (x :: y :: xs)) (.int 1) = some y := ixn (n := 1) rfl (by simp)
theorem tx2 (x y z : D) (xs : List D) : D.ix (.tup (x :: y :: z :: xs)) (.int 2) = some z := ixn (n := 2) rfl (by simp)
theorem sx0 : ixN 3 0 = some 0 := rfl
theorem sx1 : ixN 3 1 = some 1 := rfl
theorem sx2 : ixN 3 2 = some 2 := rfl

/-! ### plain data -/
mutual
def D.nice : Nat → D → Bool
  | _, .non => true
  | _, .bl _ => true
  | _, .int _ => true
  | _, .str x => PyData.strOk x
  | 0, .lst _ => false
  | 0, .tup _ => false
  | n + 1, .lst xs => D.nices n xs
  | n + 1, .tup xs => D.nices n xs
  | _, _ => false
def D.nices : Nat → List D → Bool
  | _, [] => true
  | n, x :: xs => D.nice n x && D.nices n xs
end
mutual
theorem nice_p : ∀ {d : D} {n : Nat}, d.nice n = true → ∃ p, d.toP = some p ∧ p.canLay0 = true ∧ p.depth ≤ n
  | .non, n, _ => ⟨.none, rfl, rfl, Nat.zero_le _⟩
  | .bl b, n, _ => ⟨.bool b, rfl, rfl, Nat.zero_le _⟩
  | .int b, n, _ => ⟨.int b, rfl, rfl, Nat.zero_le _⟩
  | .str x, n, h => ⟨.str x, rfl, by cases n <;> exact h, Nat.zero_le _⟩
  | .lst xs, 0, h => by cases h
  | .lst xs, n + 1, h => by
    obtain ⟨ps, h1, h2, h3⟩ := nices_p (d := xs) (n := n) h
    exact ⟨.list ps, by rw [D.toP, h1]; rfl, h2, by rw [PyData.depth]; omega⟩
  | .tup xs, 0, h => by cases h
  | .tup xs, n + 1, h => by
    obtain ⟨ps, h1, h2, h3⟩ := nices_p (d := xs) (n := n) h
    exact ⟨.tuple ps, by rw [D.toP, h1]; rfl, h2, by rw [PyData.depth]; omega⟩
  | .byt _, n, h => by cases n <;> cases h
  | .dct _, n, h => by cases n <;> cases h
  | .ins _ _, n, h => by cases n <;> cases h
  | .ptr _, n, h => by cases n <;> cases h
  | .ty _, n, h => by cases n <;> cases h
theorem nices_p : ∀ {d : List D} {n : Nat}, D.nices n d = true → ∃ ps, D.toPs d = some ps ∧ PyData.canLayAll0 ps = true ∧ PyData.depthAll ps ≤ n
  | [], n, _ => ⟨[], rfl, rfl, Nat.zero_le _⟩
  | x :: xs, n, h => by
    have h : (D.nice n x && D.nices n xs) = true := by cases n <;> exact h
    rw [Bool.and_eq_true] at h
    obtain ⟨p, a1, a2, a3⟩ := nice_p h.1
    obtain ⟨ps, b1, b2, b3⟩ := nices_p h.2
    exact ⟨p :: ps, by rw [D.toPs, a1, b1]; rfl, by rw [PyData.canLayAll0, a2, b2]; rfl, by rw [PyData.depthAll]; omega⟩
end
theorem nice_sh {d : D} {n : Nat} (h : d.nice n = true) (hn : n ≤ 64) : ∃ p, d.toP = some p ∧ SeqAt.shaped p = true := by
  obtain ⟨p, h1, h2, h3⟩ := nice_p h
  exact ⟨p, h1, by unfold SeqAt.shaped; rw [h2]; simpa using Nat.le_trans h3 hn⟩
mutual
theorem eqv_refl : ∀ p : PyData, p.canLay0 = true → PyData.eqv p p = true
  | .none, _ => rfl
  | .bool b, _ => by simp [PyData.eqv]
  | .int b, _ => by simp [PyData.eqv]
  | .str b, _ => by simp [PyData.eqv]
  | .list xs, h => eqvAll_refl xs h
  | .tuple xs, h => eqvAll_refl xs h
  | .dict _, h => by cases h
theorem eqvAll_refl : ∀ p : List PyData, PyData.canLayAll0 p = true → PyData.eqvAll p p = true
  | [], _ => rfl
  | x :: xs, h => by
    rw [PyData.canLayAll0, Bool.and_eq_true] at h
    rw [PyData.eqvAll, eqv_refl x h.1, eqvAll_refl xs h.2]; rfl
end
theorem eqB_nice {a b : D} {n m : Nat} (ha : a.nice n = true) (hb : b.nice m = true) (hn : n ≤ 64) (hm : m ≤ 64) : ∃ p q, a.toP = some p ∧ b.toP = some q ∧ D.eqB a b = some (PyData.eqv p q) := by
  obtain ⟨p, h1, h2⟩ := nice_sh ha hn
  obtain ⟨q, k1, k2⟩ := nice_sh hb hm
  exact ⟨p, q, h1, k1, by unfold D.eqB; rw [h1, k1]; simp [h2, k2]⟩
theorem eq_self {a : D} {n : Nat} (ha : a.nice n = true) (hn : n ≤ 64) : D.eq a a = some (.bl true) ∧ D.ne a a = some (.bl false) := by
  obtain ⟨p, q, h1, h2, h3⟩ := eqB_nice ha ha hn hn
  rw [h1] at h2
  cases h2
  obtain ⟨p', k1, k2, _⟩ := nice_p ha
  rw [h1] at k1
  cases k1
  unfold D.eq D.ne
  rw [h3, eqv_refl p k2]
  exact ⟨rfl, rfl⟩
theorem eq_int (i j : Int) : D.eq (.int i) (.int j) = some (.bl (i == j)) := rfl
theorem ne_int (i j : Int) : D.ne (.int i) (.int j) = some (.bl (!(i == j))) := rfl
theorem eq_str {x y : Str} (hx : PyData.strOk x = true) (hy : PyData.strOk y = true) : D.eq (.str x) (.str y) = some (.bl (x == y)) ∧ D.ne (.str x) (.str y) = some (.bl (!(x == y))) := by
  have h : D.eqB (.str x) (.str y) = some (x == y) := by
    show (if SeqAt.shaped (.str x) = true ∧ SeqAt.shaped (.str y) = true then some (PyData.eqv (.str x) (.str y)) else none) = _
    have e : ∀ z : Str, PyData.strOk z = true → SeqAt.shaped (.str z) = true := fun z hz => by
      unfold SeqAt.shaped PyData.canLay0
      rw [hz]
      rfl
    rw [if_pos ⟨e x hx, e y hy⟩]
    rfl
  exact ⟨by unfold D.eq; rw [h]; rfl, by unfold D.ne; rw [h]; rfl⟩
theorem ne_nil {xs : List D} {n : Nat} (h : D.nices n xs = true) (hn : n ≤ 63) : D.ne (.lst xs) (.lst []) = some (.bl (!xs.isEmpty)) ∧ D.eq (.lst xs) (.lst []) = some (.bl xs.isEmpty) := by
  obtain ⟨p, q, h1, h2, h3⟩ := eqB_nice (a := .lst xs) (b := .lst []) (n := n + 1) (m := 1) h rfl (by omega) (by decide)
  cases h2
  cases xs with
  | nil => cases h1; unfold D.ne D.eq; rw [h3]; exact ⟨rfl, rfl⟩
  | cons x xs =>
    have h1 : (D.toPs (x :: xs)).map PyData.list = some p := by rw [← h1, D.toP]
    cases e : D.toPs (x :: xs) with
    | none => rw [e] at h1; cases h1
    | some ps =>
      rw [e] at h1
      cases h1
      have : ∃ y ys, ps = y :: ys := by
        rw [D.toPs] at e
        cases e1 : D.toP x with
        | none => rw [e1] at e; cases e
        | some y =>
          cases e2 : D.toPs xs with
          | none => rw [e1, e2] at e; cases e
          | some ys => rw [e1, e2] at e; cases e; exact ⟨_, _, rfl⟩
      obtain ⟨y, ys, rfl⟩ := this
      unfold D.ne D.eq
      rw [h3]
      exact ⟨rfl, rfl⟩
theorem nices_map {α : Type} {f : α → D} {n : Nat} (h : ∀ a, (f a).nice n = true) : ∀ xs : List α, D.nices n (xs.map f) = true
  | [] => by cases n <;> rfl
  | x :: xs => by
    have : D.nices n (f x :: xs.map f) = (D.nice n (f x) && D.nices n (xs.map f)) := by cases n <;> rfl
    rw [List.map_cons, this, h x, nices_map h xs]; rfl
theorem nices_all {n : Nat} : ∀ {xs : List D}, (∀ x ∈ xs, x.nice n = true) → D.nices n xs = true
  | [], _ => by cases n <;> rfl
  | x :: xs, h => by
    have e : D.nices n (x :: xs) = (D.nice n x && D.nices n xs) := by cases n <;> rfl
    rw [e, h x (List.mem_cons_self ..), nices_all fun y hy => h y (List.mem_cons_of_mem _ hy)]; rfl
/-- x in a list of plain things -/
theorem inLst_nice {x : D} {xs : List D} {n m : Nat} (hx : x.nice n = true) (hs : D.nices m xs = true) (hn : n ≤ 64) (hm : m ≤ 63) : ∃ p ps, x.toP = some p ∧ D.toPs xs = some ps ∧ D.inLst x (.lst xs) = some (ps.any fun z => PyData.eqv z p) := by
  obtain ⟨p, h1, h2⟩ := nice_sh hx hn
  obtain ⟨q, k1, k2⟩ := nice_sh (d := .lst xs) (n := m + 1) hs (by omega)
  rw [D.toP] at k1
  cases e : D.toPs xs with
  | none => rw [e] at k1; cases k1
  | some ps =>
    rw [e] at k1
    cases k1
    refine ⟨p, ps, h1, rfl, ?_⟩
    show ((x.toP).bind fun p => (D.toPs xs).bind fun ps => if SeqAt.shaped p = true ∧ SeqAt.shaped (.list ps) = true then some (ps.any fun z => PyData.eqv z p) else none) = _
    rw [h1, e]
    simp [h2, k2]
theorem toPs_map {α : Type} {f : α → D} {g : α → PyData} (h : ∀ a, (f a).toP = some (g a)) : ∀ xs : List α, D.toPs (xs.map f) = some (xs.map g)
  | [] => rfl
  | x :: xs => by rw [List.map_cons, D.toPs, h x, toPs_map h xs]; rfl
theorem in_strs {x : Str} {xs : List Str} (hx : PyData.strOk x = true) (hs : ∀ y ∈ xs, PyData.strOk y = true) : D.isIn (.str x) (.lst (xs.map .str)) = some (.bl (decide (x ∈ xs))) ∧ D.notIn (.str x) (.lst (xs.map .str)) = some (.bl (!decide (x ∈ xs))) := by
  obtain ⟨p, ps, h1, h2, h3⟩ := inLst_nice (x := .str x) (xs := xs.map .str) (n := 0) (m := 0) hx (nices_all fun d hd => by obtain ⟨y, hy, rfl⟩ := List.mem_map.mp hd; exact hs y hy) (by decide) (by decide)
  cases h1
  rw [toPs_map (g := PyData.str) (fun _ => rfl)] at h2
  cases h2
  have e : ((xs.map PyData.str).any fun z => PyData.eqv z (.str x)) = decide (x ∈ xs) := by
    rw [List.any_map, Bool.eq_iff_iff, List.any_eq_true, decide_eq_true_iff]
    constructor
    · rintro ⟨y, hy, e⟩
      have e : (y == x) = true := e
      rw [← beq_iff_eq.mp e]; exact hy
    · intro h; exact ⟨x, h, by show (x == x) = true; simp⟩
  unfold D.isIn D.notIn
  rw [show D.inStr (.str x) (.lst (xs.map .str)) = none from rfl, h3, e]
  exact ⟨rfl, rfl⟩
theorem in_ints (x : Int) (xs : List Int) : D.isIn (.int x) (.lst (xs.map .int)) = some (.bl (decide (x ∈ xs))) ∧ D.notIn (.int x) (.lst (xs.map .int)) = some (.bl (!decide (x ∈ xs))) := by
  obtain ⟨p, ps, h1, h2, h3⟩ := inLst_nice (x := .int x) (xs := xs.map .int) (n := 0) (m := 0) rfl (nices_map (fun _ => rfl) xs) (by decide) (by decide)
  cases h1
  rw [toPs_map (g := PyData.int) (fun _ => rfl)] at h2
  cases h2
  have e : ((xs.map PyData.int).any fun z => PyData.eqv z (.int x)) = decide (x ∈ xs) := by
    rw [List.any_map, Bool.eq_iff_iff, List.any_eq_true, decide_eq_true_iff]
    constructor
    · rintro ⟨y, hy, e⟩
      have e : (y == x) = true := e
      rw [← beq_iff_eq.mp e]; exact hy
    · intro h; exact ⟨x, h, by show (x == x) = true; simp⟩
  unfold D.isIn D.notIn
  rw [show D.inStr (.int x) (.lst (xs.map .int)) = none from rfl, h3, e]
  exact ⟨rfl, rfl⟩
end DL
set_option autoImplicit false
set_option Elab.async false
set_option linter.all false
set_option maxRecDepth 100000
namespace DL
open PySem L2 Evl
/-! ### where simp goes: into what is asked, not into what comes behind.
The last argument's type names what comes behind: so simp takes that for fixed. -/
def idd {α : Sort _} (a : α) : α := a
theorem idd_eq {α : Sort _} (a : α) : idd a = a := rfl
def Ph {α : Sort _} (_ : α) : Type := Unit
def OptF {α : Type} (o : Option α) (k : α → Prop) (_ : Ph k := ()) : Prop := Opt o k
theorem opt_f {α : Type} (o : Option α) (k : α → Prop) : Opt o k = OptF o k := rfl
theorem optF_some {α : Type} (a : α) (k : α → Prop) : OptF (some a) k = k a := propext Opt_some
def CdF (c : Bool) (a b : Prop) (_ : Ph a := ()) (_ : Ph b := ()) : Prop := if c = true then a else b
theorem ite_cd (c : Bool) (a b : Prop) : (if c = true then a else b) = CdF c a b := rfl
theorem cd_true (a b : Prop) : CdF true a b = a := rfl
theorem cd_false (a b : Prop) : CdF false a b = b := rfl
def forLF (g : DG) (db : DS) (DD : Do) (ds : List D) (ρ : Ro) (_ : Ph g := ()) (_ : Ph db := ()) (_ : Ph DD := ()) : Prop := forL g db DD ds ρ
theorem forL_f (g : DG) (db : DS) (DD : Do) (ds : List D) (ρ : Ro) : forL g db DD ds ρ = forLF g db DD ds ρ := rfl
def lcLF (g : DG) (t : DT) (de : DE) (vs : List Nat) (q : List D → Ro → Prop) (ds acc : List D) (ρ : Ro) (_ : Ph g := ()) (_ : Ph t := ()) (_ : Ph de := ()) (_ : Ph q := ()) : Prop := lcL g t de vs q ds acc ρ
theorem lcL_f (g : DG) (t : DT) (de : DE) (vs : List Nat) (q : List D → Ro → Prop) (ds acc : List D) (ρ : Ro) : lcL g t de vs q ds acc ρ = lcLF g t de vs q ds acc ρ := rfl
def dcLF (g : DG) (t : DT) (dk de : DE) (vs : List Nat) (q : List (Key × D) → Ro → Prop) (ds : List D) (acc : List (Key × D)) (ρ : Ro) (_ : Ph g := ()) (_ : Ph t := ()) (_ : Ph dk := ()) (_ : Ph de := ()) (_ : Ph q := ()) : Prop := dcL g t dk de vs q ds acc ρ
theorem dcL_f (g : DG) (t : DT) (dk de : DE) (vs : List Nat) (q : List (Key × D) → Ro → Prop) (ds : List D) (acc : List (Key × D)) (ρ : Ro) : dcL g t dk de vs q ds acc ρ = dcLF g t dk de vs q ds acc ρ := rfl
def Run (dsp : DSp) (av : List Sl) (q : D → List D → Prop) (er : Addr → List (Str × D) → List D → Prop) (_ : Ph dsp := ()) (_ : Ph q := ()) (_ : Ph er := ()) : Prop := dsp av q er
theorem noEr_run (dsp : DSp) (av : List Sl) (q : D → List D → Prop) (er : Addr → List (Str × D) → List D → Prop) : noEr dsp av q er = Run dsp av q (fun _ _ _ => False) := rfl
def getS (o : Option Sl) (f : D → Prop) (b : Prop) (_ : Ph f := ()) (_ : Ph b := ()) : Prop := match o with
  | some (.val d) => f d
  | some (.own _) => b
  | some (.par _) => b
  | _ => False
theorem getS_val (d : D) (f : D → Prop) (b : Prop) : getS (some (.val d)) f b = f d := rfl
theorem getS_own (d : D) (f : D → Prop) (b : Prop) : getS (some (.own d)) f b = b := rfl
theorem getS_par (d : D) (f : D → Prop) (b : Prop) : getS (some (.par d)) f b = b := rfl
theorem w_var {i : Nat} {ρ : Ro} {q : T → Ro → Prop} {er : ER} : dVar i ρ q er = getS ρ[i]? (fun d => q (.val d) ρ) (q (.bor i) ρ) := by
  unfold dVar getS
  cases ρ[i]? with
  | none => rfl
  | some s => cases s <;> rfl
/-! ### what is asked, by rows of their own -/
section
variable {ρ : Ro} {d : D} {i : Nat} {is : List Nat} {t : T} {ts : List T} {n m : Int} {b : Bool} {xs : List D}
theorem rd_val : rd ρ (.val d) = some d := rfl
theorem rd_bor : rd ρ (.bor i) = (ρ[i]?).bind Sl.ownD := rfl
theorem ownD_own : (Sl.own d).ownD = some d := rfl
theorem ownD_par : (Sl.par d).ownD = some d := rfl
theorem rds_nil : rds ρ [] = some [] := rfl
theorem rds_cons : rds ρ (t :: ts) = (rd ρ t).bind fun d => (rds ρ ts).map fun ds => d :: ds := rfl
theorem vals_nil : vals [] = some [] := rfl
theorem vals_val : vals (.val d :: ts) = (vals ts).map fun ds => d :: ds := rfl
theorem argsOf_nil : argsOf ρ [] = some [] := rfl
theorem argsOf_val : argsOf ρ (.val d :: ts) = (argsOf ρ ts).map fun a => .val d :: a := rfl
theorem argsOf_bor : argsOf ρ (.bor i :: ts) = (rd ρ (.bor i)).bind fun d => (argsOf ρ ts).map fun a => .par d :: a := rfl
theorem ownAt_def : ownAt ρ i = (ρ[i]?).bind Sl.ownD := rfl
def Sl.parD : Sl → Option D
  | .par d => some d
  | _ => none
theorem parD_par : (Sl.par d).parD = some d := rfl
theorem outs_nil : outs ρ [] = some [] := rfl
theorem outs_cons : outs ρ (i :: is) = ((ρ[i]?).bind Sl.parD).bind fun d => (outs ρ is).map fun ds => d :: ds := by
  rw [outs]
  cases ρ[i]? with
  | none => rfl
  | some s => cases s <;> rfl
theorem bool_bl : (D.bl b).bool = some b := rfl
theorem toInt_int : D.toInt [.int n] = some (.int n) := rfl
theorem toInt_bl : D.toInt [.bl b] = some (.int (if b = true then 1 else 0)) := rfl
theorem truth_bl : (D.bl b).truth = some b := rfl
theorem truth_int : (D.int n).truth = some (n != 0) := rfl
theorem truth_non : D.non.truth = some false := rfl
theorem cmp_int {p : Int → Int → Bool} : D.cmp p (.int n) (.int m) = some (.bl (p n m)) := rfl
theorem neg_int : D.neg (.int n) = some (.int (-n)) := rfl
theorem len_lst : D.len [.lst xs] = some (.int xs.length) := rfl
theorem len_tup : D.len [.tup xs] = some (.int xs.length) := rfl
theorem items_lst : (D.lst xs).items = some xs := rfl
theorem items_tup : (D.tup xs).items = some xs := rfl
end
/-! ### loops by an invariant -/
theorem forL_inv {g : DG} {db : DS} {nx0 : Ro → Prop} {rt : T → Ro → Prop} {rf : D → Ro → Prop} {bk ct : Ro → Prop} {er : ER} {ds : List D} {ρ : Ro} (I : Nat → Ro → Prop) (h0 : I 0 ρ)
    (step : ∀ (i : Nat) (d : D) (ρ : Ro) (nx : Ro → Prop), ds[i]? = some d → I i ρ → (∀ ρ', I (i + 1) ρ' → nx ρ') → g (.val d) ρ fun ρ1 => db ⟨nx, rt, rf, nx0, nx, er⟩ ρ1)
    (fin : ∀ ρ, I ds.length ρ → nx0 ρ) : forL g db ⟨nx0, rt, rf, bk, ct, er⟩ ds ρ := by
  have go : ∀ (n i : Nat) (ρ : Ro), ds.length - i = n → i ≤ ds.length → I i ρ → forL g db ⟨nx0, rt, rf, bk, ct, er⟩ (ds.drop i) ρ := by
    intro n
    induction n with
    | zero =>
      intro i ρ e hi h
      have ei : i = ds.length := by omega
      subst ei
      rw [List.drop_length]
      exact fin ρ h
    | succ n ih =>
      intro i ρ e hi h
      have hlt : i < ds.length := by omega
      rw [List.drop_eq_getElem_cons hlt]
      exact step i ds[i] ρ _ (by simp [hlt]) h fun ρ' h' => ih (i + 1) ρ' (by omega) hlt h'
  exact go _ 0 ρ rfl (Nat.zero_le _) h0
theorem lcL_inv {g : DG} {t : DT} {de : DE} {vs : List Nat} {q : List D → Ro → Prop} {ds : List D} {ρ : Ro} (I : Nat → List D → Ro → Prop) (h0 : I 0 [] ρ)
    (step : ∀ (i : Nat) (d : D) (acc : List D) (ρ : Ro) (nx : List D → Ro → Prop), ds[i]? = some d → I i acc ρ → (∀ acc' ρ', I (i + 1) acc' ρ' → nx acc' ρ') →
      g (.val d) (wipeD ρ vs) fun ρ1 => t ρ1 (fun b ρ2 => if b = true then de ρ2 (fun s ρ3 => match s with
        | .val y => acc.length < sizeLine ∧ nx (acc ++ [y]) (wipeD ρ3 vs)
        | .bor _ => False) (fun _ _ _ => False) else nx acc (wipeD ρ2 vs)) (fun _ _ _ => False))
    (fin : ∀ acc ρ, I ds.length acc ρ → q acc ρ) : lcL g t de vs q ds [] ρ := by
  have go : ∀ (n i : Nat) (acc : List D) (ρ : Ro), ds.length - i = n → i ≤ ds.length → I i acc ρ → lcL g t de vs q (ds.drop i) acc ρ := by
    intro n
    induction n with
    | zero =>
      intro i acc ρ e hi h
      have ei : i = ds.length := by omega
      subst ei
      rw [List.drop_length]
      exact fin acc ρ h
    | succ n ih =>
      intro i acc ρ e hi h
      have hlt : i < ds.length := by omega
      rw [List.drop_eq_getElem_cons hlt]
      exact step i ds[i] acc ρ (fun acc' ρ' => lcL g t de vs q (ds.drop (i + 1)) acc' ρ') (by simp [hlt]) h fun acc' ρ' h' => ih (i + 1) acc' ρ' (by omega) hlt h'
  exact go _ 0 [] ρ rfl (Nat.zero_le _) h0
theorem dcL_inv {g : DG} {t : DT} {dk de : DE} {vs : List Nat} {q : List (Key × D) → Ro → Prop} {ds : List D} {ρ : Ro} (I : Nat → List (Key × D) → Ro → Prop) (h0 : I 0 [] ρ)
    (step : ∀ (i : Nat) (d : D) (acc : List (Key × D)) (ρ : Ro) (nx : List (Key × D) → Ro → Prop), ds[i]? = some d → I i acc ρ → (∀ acc' ρ', I (i + 1) acc' ρ' → nx acc' ρ') →
      g (.val d) (wipeD ρ vs) fun ρ1 => t ρ1 (fun b ρ2 => if b = true then dk ρ2 (fun u ρ3 => match u with
        | .val y => Opt y.key fun kk => de ρ3 (fun s ρ4 => match s with
          | .val z => acc.length < sizeLine ∧ nx (putKD acc kk z) (wipeD ρ4 vs)
          | .bor _ => False) (fun _ _ _ => False)
        | .bor _ => False) (fun _ _ _ => False) else nx acc (wipeD ρ2 vs)) (fun _ _ _ => False))
    (fin : ∀ acc ρ, I ds.length acc ρ → q acc ρ) : dcL g t dk de vs q ds [] ρ := by
  have go : ∀ (n i : Nat) (acc : List (Key × D)) (ρ : Ro), ds.length - i = n → i ≤ ds.length → I i acc ρ → dcL g t dk de vs q (ds.drop i) acc ρ := by
    intro n
    induction n with
    | zero =>
      intro i acc ρ e hi h
      have ei : i = ds.length := by omega
      subst ei
      rw [List.drop_length]
      exact fin acc ρ h
    | succ n ih =>
      intro i acc ρ e hi h
      have hlt : i < ds.length := by omega
      rw [List.drop_eq_getElem_cons hlt]
      exact step i ds[i] acc ρ (fun acc' ρ' => dcL g t dk de vs q (ds.drop (i + 1)) acc' ρ') (by simp [hlt]) h fun acc' ρ' h' => ih (i + 1) acc' ρ' (by omega) hlt h'
  exact go _ 0 [] ρ rfl (Nat.zero_le _) h0
def Sl.isP : Sl → Bool
  | .par _ => true
  | _ => false
theorem isPar0 (a : Sl) (l : Ro) : isPar (a :: l) 0 = a.isP := by cases a <;> rfl
theorem isParS (a : Sl) (l : Ro) (n : Nat) : isPar (a :: l) (n + 1) = isPar l n := rfl
theorem isPN (l : Ro) : isPar [] 0 = false := rfl

/-! ### statements, what comes behind held as an atom -/
section
variable {nx : Ro → Prop} {rt : T → Ro → Prop} {rf : D → Ro → Prop} {bk ct : Ro → Prop} {er : ER} {a b : DS} {ρ : Ro} {t : DT} {de dk : DE} {df dh : DF} {da : DA} {di : DI} {g : DG} {i j l : Nat} {f : Str} {Cs : List Addr} {N : Nat} {av : List Sl} {q : D → List D → Prop} {er0 : Addr → List (Str × D) → List D → Prop}
theorem w_seq : dSeq a b ⟨nx, rt, rf, bk, ct, er⟩ ρ = a ⟨b ⟨nx, rt, rf, bk, ct, er⟩, rt, rf, bk, ct, er⟩ ρ := rfl
theorem w_next : dNext ⟨nx, rt, rf, bk, ct, er⟩ ρ = nx ρ := rfl
theorem w_brk : dBrk ⟨nx, rt, rf, bk, ct, er⟩ ρ = bk ρ := rfl
theorem w_cnt : dCnt ⟨nx, rt, rf, bk, ct, er⟩ ρ = ct ρ := rfl
theorem w_drop : dDrop de ⟨nx, rt, rf, bk, ct, er⟩ ρ = de ρ (fun _ ρ1 => nx ρ1) er := rfl
theorem w_ret : dRet de ⟨nx, rt, rf, bk, ct, er⟩ ρ = de ρ rt er := rfl
theorem w_retF : dRetF df ⟨nx, rt, rf, bk, ct, er⟩ ρ = df ρ rf er := rfl
theorem w_retN : dRetN ⟨nx, rt, rf, bk, ct, er⟩ ρ = rt (.val .non) ρ := rfl
theorem w_if : dIfS t a b ⟨nx, rt, rf, bk, ct, er⟩ ρ = t ρ (fun c ρ1 => if c = true then a ⟨nx, rt, rf, bk, ct, er⟩ ρ1 else b ⟨nx, rt, rf, bk, ct, er⟩ ρ1) er := rfl
theorem w_asg : dAsg de g ⟨nx, rt, rf, bk, ct, er⟩ ρ = de ρ (fun t ρ1 => g t ρ1 nx) er := rfl
theorem w_own : dOwn df i ⟨nx, rt, rf, bk, ct, er⟩ ρ = df ρ (fun d ρ1 => (isPar ρ1 i = false ∧ i < ρ1.length) ∧ nx (ρ1.set i (.own d))) er := rfl
theorem w_for : dFor di g b ⟨nx, rt, rf, bk, ct, er⟩ ρ = di ρ (fun ds ρ1 => forL g b ⟨nx, rt, rf, bk, ct, er⟩ ds ρ1) er := rfl
theorem w_setIx : dSetIx i dk de ⟨nx, rt, rf, bk, ct, er⟩ ρ = de ρ (fun t ρ1 => match t with
  | .val e => (ownAt ρ1 i).isSome = true ∧ dk ρ1 (fun u ρ2 => Opt (rd ρ2 u) fun k => Opt (ownAt ρ2 i) fun d => match d, k with
    | .lst ds, .int z => Opt (ixN ds.length z) fun j => nx (setD ρ2 i (.lst (ds.set j e)))
    | _, _ => False) er
  | .bor _ => False) er := rfl
theorem w_setF : dSetF Cs i f de ⟨nx, rt, rf, bk, ct, er⟩ ρ = de ρ (fun t ρ1 => match t with
  | .val e => Opt (ownAt ρ1 i) fun d => (match d with
    | .ins C es => C ∈ Cs ∧ es.length < 1000 ∧ nx (setD ρ1 i (.ins C (putFD f e es)))
    | _ => False)
  | .bor _ => False) er := rfl
theorem w_dput : dDPut i dk de ⟨nx, rt, rf, bk, ct, er⟩ ρ = de ρ (fun t ρ1 => match t with
  | .val e => (ownAt ρ1 i).isSome = true ∧ dk ρ1 (fun u ρ2 => Opt (rd ρ2 u) fun kd => Opt kd.key fun k => Opt (ownAt ρ2 i) fun d => (match d with
    | .dct kvs => kvs.length < sizeLine ∧ nx (setD ρ2 i (.dct (putKD kvs k e)))
    | _ => False)) er
  | .bor _ => False) er := rfl
theorem w_par : dPar i j da ⟨nx, rt, rf, bk, ct, er⟩ ρ = da ρ (fun ts ρ1 => match ts with
  | [.val a, .val b] => (isPar ρ1 i = false ∧ isPar ρ1 j = false) ∧ nx ((ρ1.set i (.val a)).set j (.val b))
  | _ => False) er := rfl
theorem w_par3 : dPar3 i j l da ⟨nx, rt, rf, bk, ct, er⟩ ρ = da ρ (fun ts ρ1 => match ts with
  | [.val a, .val b, .val c] => (isPar ρ1 i = false ∧ isPar ρ1 j = false ∧ isPar ρ1 l = false) ∧ nx (((ρ1.set i (.val a)).set j (.val b)).set l (.val c))
  | _ => False) er := rfl
theorem w_parVO : dParVO i j de df ⟨nx, rt, rf, bk, ct, er⟩ ρ = de ρ (fun t ρ1 => match t with
  | .val a => df ρ1 (fun b ρ2 => (isPar ρ2 i = false ∧ isPar ρ2 j = false) ∧ nx ((ρ2.set i (.val a)).set j (.own b))) er
  | .bor _ => False) er := rfl
theorem w_parOV : dParOV i j df de ⟨nx, rt, rf, bk, ct, er⟩ ρ = df ρ (fun a ρ1 => de ρ1 (fun t ρ2 => match t with
  | .val b => (isPar ρ2 i = false ∧ isPar ρ2 j = false) ∧ nx ((ρ2.set i (.own a)).set j (.val b))
  | .bor _ => False) er) er := rfl
theorem w_parOO : dParOO i j df dh ⟨nx, rt, rf, bk, ct, er⟩ ρ = df ρ (fun a ρ1 => dh ρ1 (fun b ρ2 => (isPar ρ2 i = false ∧ isPar ρ2 j = false) ∧ nx ((ρ2.set i (.own a)).set j (.own b))) er) er := rfl
theorem w_body : dBody N a av q er0 = a ⟨fun ρ => Opt (outs ρ (parIx av 0)) fun os => q .non os, fun t ρ => match t with
    | .val d => Opt (outs ρ (parIx av 0)) fun os => q d os
    | .bor _ => False, fun _ _ => False, fun _ => False, fun _ => False, fun C fs ρ => Opt (outs ρ (parIx av 0)) fun os => er0 C fs os⟩ (av ++ List.replicate (N - av.length) .no) := rfl
end
theorem isP_val (d : D) : (Sl.val d).isP = false := rfl
theorem isP_own (d : D) : (Sl.own d).isP = false := rfl
theorem isP_no : Sl.no.isP = false := rfl
theorem isP_par (d : D) : (Sl.par d).isP = true := rfl
/-! ### texts -/
/-- the text of these signs -/
def mk (l : List Nat) : Str := ⟨l.toArray⟩
theorem mk_len (l : List Nat) : (mk l).length = l.length := by simp [mk, Str.length]
theorem mk_of (x : Str) : x = mk x.cps.toList := by simp [mk]
theorem mk_app (a b : List Nat) : mk a ++ mk b = mk (a ++ b) := by
  show (⟨a.toArray ++ b.toArray⟩ : Str) = _
  simp [mk]
theorem mk_inj {a b : List Nat} (h : mk a = mk b) : a = b := by
  have := congrArg (fun s : Str => s.cps.toList) h
  simpa [mk] using this
theorem ixs {l : List Nat} {n : Nat} {i : Int} (e : i = (n : Int)) (h : n < l.length) (hl : l.length ≤ sizeLine) : D.ix (.str (mk l)) (.int i) = some (.str (mk [l[n]])) := by
  subst e
  show (if (mk l).length ≤ sizeLine then (atI (mk l).cps.toList (n : Int)).map fun c => D.str ⟨#[c]⟩ else none) = _
  rw [if_pos (by rw [mk_len]; exact hl)]
  have e2 : (mk l).cps.toList = l := by simp [mk]
  have e3 : atI l (n : Int) = some l[n] := by
    show (ixN l.length (n : Int)).bind (fun j => l[j]?) = _
    unfold ixN
    rw [if_pos (by omega), if_pos (by omega)]
    simp [h]
  rw [e2, e3]
  rfl
theorem len_mk {l : List Nat} (h : l.length ≤ sizeLine) : D.len [.str (mk l)] = some (.int (l.length : Int)) := by
  show (if (mk l).length ≤ sizeLine then some (D.int (mk l).length) else none) = _
  rw [mk_len, if_pos h]
theorem strOk_mk {l : List Nat} (h : ∀ c ∈ l, c < 0x110000) : PyData.strOk (mk l) = true := by
  unfold PyData.strOk mk
  simp
  exact h
theorem cutS_eq (l : List Nat) (lo hi : Option Int) : cutS (mk l) lo hi = mk ((l.drop (HT.sIx l.length 0 lo)).take (HT.sIx l.length l.length hi - HT.sIx l.length 0 lo)) := by
  unfold cutS
  rw [mk_len]
  rfl
theorem cut_lo {l : List Nat} {n : Nat} (h : n ≤ l.length) (hl : l.length ≤ sizeLine) : D.cut (.str (mk l)) none (some (n : Int)) = some (.str (mk (l.take n))) := by
  show (if (mk l).length ≤ sizeLine then some (D.str (cutS (mk l) none (some (n : Int)))) else none) = _
  rw [mk_len, if_pos hl, cutS_eq, HT.sIx_nat, HT.sIx_none, Nat.min_eq_left h]
  simp
theorem cut_hi {l : List Nat} {n : Nat} (h : n ≤ l.length) (hl : l.length ≤ sizeLine) : D.cut (.str (mk l)) (some (n : Int)) none = some (.str (mk (l.drop n))) := by
  show (if (mk l).length ≤ sizeLine then some (D.str (cutS (mk l) (some (n : Int)) none)) else none) = _
  rw [mk_len, if_pos hl, cutS_eq, HT.sIx_nat, HT.sIx_none, Nat.min_eq_left h]
  rw [List.take_of_length_le (by simp)]
theorem cutL {l : List D} (lo hi : Option Int) : D.cut (.lst l) lo hi = some (.lst ((l.drop (HT.sIx l.length 0 lo)).take (HT.sIx l.length l.length hi - HT.sIx l.length 0 lo))) := rfl
theorem cutL_lo {l : List D} {n : Nat} : D.cut (.lst l) none (some (n : Int)) = some (.lst (l.take n)) := by
  rw [cutL, HT.sIx_nat, HT.sIx_none, List.drop_zero, Nat.sub_zero]
  congr 2
  rcases Nat.le_total n l.length with h | h
  · rw [Nat.min_eq_left h]
  · rw [Nat.min_eq_right h, List.take_of_length_le (Nat.le_refl _), List.take_of_length_le h]
theorem cutL_hi {l : List D} {n : Nat} (h : n ≤ l.length) : D.cut (.lst l) (some (n : Int)) none = some (.lst (l.drop n)) := by
  rw [cutL, HT.sIx_nat, HT.sIx_none, Nat.min_eq_left h, List.take_of_length_le (by simp)]
end DL
namespace DL
open PySem L2 Evl
/-! ### names -/
def isAz (c : Nat) : Prop := 97 ≤ c ∧ c ≤ 122
def isDg (c : Nat) : Prop := 48 ≤ c ∧ c ≤ 57
def isAn (c : Nat) : Prop := isAz c ∨ isDg c
instance (c : Nat) : Decidable (isAz c) := by unfold isAz; infer_instance
instance (c : Nat) : Decidable (isDg c) := by unfold isDg; infer_instance
instance (c : Nat) : Decidable (isAn c) := by unfold isAn; infer_instance
/-- a name's signs -/
def IsNm (l : List Nat) : Prop := ∃ c cs, l = c :: cs ∧ isAz c ∧ (∀ d ∈ cs, isAn d) ∧ cs.length ≤ 7
theorem IsNm.ok {l : List Nat} (h : IsNm l) : PyData.strOk (mk l) = true ∧ 0 < l.length ∧ l.length ≤ 8 := by
  obtain ⟨c, cs, rfl, h1, h2, h3⟩ := h
  refine ⟨strOk_mk fun d hd => ?_, by simp, by simp; omega⟩
  rcases List.mem_cons.mp hd with e | hd
  · subst e; obtain ⟨a, b⟩ := h1; omega
  · rcases h2 d hd with ⟨a, b⟩ | ⟨a, b⟩ <;> omega
def L25 : List Nat := [97, 98, 99, 100, 101, 102, 103, 104, 105, 106, 107, 108, 109, 110, 111, 112, 114, 115, 116, 117, 118, 119, 120, 121, 122]
def L11 : List Nat := [113, 48, 49, 50, 51, 52, 53, 54, 55, 56, 57]
theorem str25 : PySem.Str.ofString "abcdefghijklmnoprstuvwxyz" = mk L25 := by decide +kernel
theorem str11 : PySem.Str.ofString "q0123456789" = mk L11 := by decide +kernel
theorem strq : PySem.Str.ofString "q" = mk [113] := by decide +kernel
theorem in25 : ∀ c ∈ L25, isAz c ∧ c ≠ 113 ∧ ¬ isDg c := by decide
theorem in36 : ∀ c ∈ L25 ++ L11, isAn c := by decide
/-- the signs of q with a number behind -/
def qn (j : Nat) : List Nat := if j < 10 then [113, 48 + j] else [113, 48 + j / 10, 48 + j % 10]
theorem qn_str : ∀ j : Fin 60, (toString ((j.val : Nat) : Int) : Str) = mk (qn j.val).tail := by decide +kernel
theorem qn_ok : ∀ j : Fin 60, (qn j.val).head? = some 113 ∧ (∀ d ∈ (qn j.val).tail, isDg d) ∧ (qn j.val).length ≤ 3 ∧ 113 :: (qn j.val).tail = qn j.val := by decide +kernel
theorem qn_inj : ∀ i j : Fin 60, qn i.val = qn j.val → i = j := by decide +kernel
theorem toStr_small : ∀ j : Fin 60, D.toStr [.int ((j.val : Nat) : Int)] = some (.str (mk (qn j.val).tail)) := fun j => by
  rw [← qn_str j]
  show (if _ then _ else _) = _
  rw [if_pos]
  have := j.isLt
  rw [Int.natAbs_natCast]
  rcases Nat.eq_zero_or_pos j.val with e | e
  · rw [e]; decide
  · have := (Nat.log2_lt (n := j.val) (k := 64) (by omega)).mpr (by omega)
    omega
/-- a name that is no q with a number -/
def NotQ (l : List Nat) : Prop := l.head? ≠ some 113 ∨ ∃ d ∈ l.tail, ¬ isDg d
theorem notq_ne {l : List Nat} (h : NotQ l) (j : Fin 60) : l ≠ qn j.val := fun e => by
  obtain ⟨a, b, _⟩ := qn_ok j
  rcases h with h | ⟨d, hd, h⟩
  · exact h (by rw [e]; exact a)
  · rw [e] at hd; exact h (b d hd)
/-- the names so far -/
structure Nms (k : Nat) (fs : List (List Nat)) : Prop where
  nd : fs.Nodup
  nm : ∀ l ∈ fs, IsNm l
  kd : ∀ l ∈ fs, NotQ l ∨ ∃ j : Fin 60, j.val < k ∧ l = qn j.val
theorem Nms.nil : Nms 0 [] := ⟨List.nodup_nil, (fun l h => by cases h), (fun l h => by cases h)⟩
theorem Nms.snoc {k : Nat} {fs : List (List Nat)} (N : Nms k fs) {l : List Nat} (h1 : IsNm l) (h2 : l ∉ fs) (h3 : NotQ l ∨ ∃ j : Fin 60, j.val = k ∧ l = qn j.val) : Nms (k + 1) (fs ++ [l]) where
  nd := by
    rw [List.nodup_append]
    exact ⟨N.nd, by simp, fun a ha b hb e => by rw [List.mem_singleton] at hb; subst hb; subst e; exact h2 ha⟩
  nm := fun a ha => by
    rcases List.mem_append.mp ha with h | h
    · exact N.nm a h
    · rw [List.mem_singleton] at h; subst h; exact h1
  kd := fun a ha => by
    rcases List.mem_append.mp ha with h | h
    · rcases N.kd a h with h | ⟨j, h, e⟩
      · exact .inl h
      · exact .inr ⟨j, by omega, e⟩
    · rw [List.mem_singleton] at h
      subst h
      rcases h3 with h | ⟨j, h, e⟩
      · exact .inl h
      · exact .inr ⟨j, by omega, e⟩
theorem Nms.q {k : Fin 60} {fs : List (List Nat)} (N : Nms k.val fs) : IsNm (qn k.val) ∧ qn k.val ∉ fs := by
  obtain ⟨a, b, c, d⟩ := qn_ok k
  refine ⟨⟨113, (qn k.val).tail, d.symm, by decide, fun x hx => .inr (b x hx), by rw [List.length_tail]; omega⟩, fun h => ?_⟩
  rcases N.kd _ h with h | ⟨j, h, e⟩
  · exact notq_ne h k rfl
  · have := qn_inj _ _ e
    rw [← this] at h
    omega
end DL
set_option autoImplicit false
set_option Elab.async false
set_option linter.all false
set_option maxRecDepth 100000
namespace DL
open PySem L2 Evl
/-! ### isinstance of plain things -/
section
variable {K : PySem.W.Frag} {Cs : List Addr} {n : Int} {x : Str} {xs : List D} {b : Bool} {s : String} {d : D} {ts : List T}
theorem kno_int : (D.int n).kno Cs = true := rfl
theorem kno_str : (D.str x).kno Cs = true := rfl
theorem kno_lst : (D.lst xs).kno Cs = true := rfl
theorem kno_tup : (D.tup xs).kno Cs = true := rfl
theorem kno_bl : (D.bl b).kno Cs = true := rfl
theorem kno_non : D.non.kno Cs = true := rfl
theorem tyV_int : (D.int n).tyV = some (.type "int") := rfl
theorem tyV_bl : (D.bl b).tyV = some (.type "bool") := rfl
theorem tyV_str : (D.str x).tyV = some (.type "str") := rfl
theorem tyV_lst : (D.lst xs).tyV = some (.type "list") := rfl
theorem tyV_tup : (D.tup xs).tyV = some (.type "tuple") := rfl
theorem tyV_non : D.non.tyV = some (.type "NoneType") := rfl
theorem clV_ty : (D.ty s).clV = some (.type s) := rfl
theorem clVT_nil : clVT [] = some [] := rfl
theorem clVT_val : clVT (.val d :: ts) = d.clV.bind fun u => (clVT ts).map fun us => u :: us := rfl
theorem kit_same (s : String) : PySem.W.kitOne K (.type s) (.type s) = some true := by unfold PySem.W.kitOne; rw [if_pos (by simp)]
theorem kit_int_bool : PySem.W.kitOne K (.type "int") (.type "bool") = some false := by rfl
theorem kit_bool_int : PySem.W.kitOne K (.type "bool") (.type "int") = some true := by rfl
theorem kit_list_tuple : PySem.W.kitOne K (.type "list") (.type "tuple") = some false := by rfl
theorem kit_tuple_list : PySem.W.kitOne K (.type "tuple") (.type "list") = some false := by rfl
theorem kits_list : PySem.W.kitAny K (.type "list") [.type "list", .type "tuple"] = some true := by unfold PySem.W.kitAny; rw [kit_same]
theorem kits_tuple : PySem.W.kitAny K (.type "tuple") [.type "list", .type "tuple"] = some true := by
  unfold PySem.W.kitAny
  rw [kit_tuple_list]
  show PySem.W.kitAny K (.type "tuple") [.type "tuple"] = some true
  unfold PySem.W.kitAny
  rw [kit_same]
end
/-! ### signs -/
def L26 : List Nat := [97, 98, 99, 100, 101, 102, 103, 104, 105, 106, 107, 108, 109, 110, 111, 112, 113, 114, 115, 116, 117, 118, 119, 120, 121, 122]
def L10 : List Nat := [48, 49, 50, 51, 52, 53, 54, 55, 56, 57]
theorem str26 : PySem.Str.ofString "abcdefghijklmnopqrstuvwxyz" = mk L26 := by decide +kernel
theorem str10 : PySem.Str.ofString "0123456789" = mk L10 := by decide +kernel
theorem az26 {c : Nat} (h : isAz c) : c ∈ L26 := by
  obtain ⟨a, b⟩ := h
  have : c = 97 ∨ c = 98 ∨ c = 99 ∨ c = 100 ∨ c = 101 ∨ c = 102 ∨ c = 103 ∨ c = 104 ∨ c = 105 ∨ c = 106 ∨ c = 107 ∨ c = 108 ∨ c = 109 ∨ c = 110 ∨ c = 111 ∨ c = 112 ∨ c = 113 ∨ c = 114 ∨ c = 115 ∨ c = 116 ∨ c = 117 ∨ c = 118 ∨ c = 119 ∨ c = 120 ∨ c = 121 ∨ c = 122 := by omega
  simp [L26, this]
theorem an36 {c : Nat} (h : isAn c) : c ∈ L26 ++ L10 := by
  rcases h with h | ⟨a, b⟩
  · exact List.mem_append.mpr (.inl (az26 h))
  · have : c = 48 ∨ c = 49 ∨ c = 50 ∨ c = 51 ∨ c = 52 ∨ c = 53 ∨ c = 54 ∨ c = 55 ∨ c = 56 ∨ c = 57 := by omega
    exact List.mem_append.mpr (.inr (by simp [L10, this]))
theorem occ26 : ∀ c ∈ L26, (!(Builtin.Str.occurrences (mk L26) (mk [c]) 0 (mk L26).length 1).isEmpty) = true := by decide +kernel
theorem occ36 : ∀ c ∈ L26 ++ L10, (!(Builtin.Str.occurrences (mk (L26 ++ L10)) (mk [c]) 0 (mk (L26 ++ L10)).length 1).isEmpty) = true := by decide +kernel
theorem in26 {c : Nat} (h : isAz c) : D.isIn (.str (mk [c])) (.str (mk L26)) = some (.bl true) := by
  unfold D.isIn D.inStr
  simp only [Option.or_some, Option.map_some]
  rw [occ26 c (az26 h)]; rfl
theorem in36s {c : Nat} (h : isAn c) : D.isIn (.str (mk [c])) (.str (mk (L26 ++ L10))) = some (.bl true) := by
  unfold D.isIn D.inStr
  simp only [Option.or_some, Option.map_some]
  rw [occ36 c (an36 h)]; rfl
theorem add36 : D.add (.str (mk L26)) (.str (mk L10)) = some (.str (mk (L26 ++ L10))) := by
  rw [D_addS (by rw [mk_len, mk_len]; decide), mk_app]
theorem items_str (l : List Nat) : (D.str (mk l)).items = some (l.map fun c => .str (mk [c])) := by
  show some ((mk l).cps.toList.map fun c => D.str ⟨#[c]⟩) = _
  simp [mk]
theorem all_true (n : Nat) : D.all [.lst (List.replicate n (.bl true))] = some (.bl true) := by
  have h : ∀ n : Nat, D.bls (List.replicate n (.bl true)) = some (List.replicate n true) := by
    intro n
    induction n with
    | zero => rfl
    | succ n ih => rw [List.replicate_succ, List.replicate_succ, D.bls, ih]; rfl
  show (D.bls (List.replicate n (.bl true))).map (fun bs => D.bl (bs.all id)) = _
  rw [h]
  simp
end DL
namespace DL
open PySem L2 Evl
/-! ### dicts -/
theorem valD_nil (k : Key) : valD [] k = none := rfl
theorem valD_app {es fs : List (Key × D)} {k : Key} (h : valD es k = none) : valD (es ++ fs) k = valD fs k := by
  unfold valD at *
  rw [List.find?_append]
  cases e : es.find? fun kv => decide (kv.1 = k) with
  | none => rfl
  | some x => rw [e] at h; cases h
theorem putKD_new {es : List (Key × D)} {k : Key} {v : D} (h : valD es k = none) : putKD es k v = es ++ [(k, v)] := by
  unfold putKD
  have : (es.find? fun kv => decide (kv.1 = k)).isSome = false := by
    unfold valD at h
    cases e : es.find? fun kv => decide (kv.1 = k) with
    | none => rfl
    | some x => rw [e] at h; cases h
  rw [this]
  simp
/-- names with something behind each -/
def kvs {α : Type} (f : α → List Nat) (g : α → D) (xs : List α) : List (Key × D) := xs.map fun a => (.inr (mk (f a)), g a)
theorem kvs_none {α : Type} {f : α → List Nat} {g : α → D} {xs : List α} {l : List Nat} (h : l ∉ xs.map f) : valD (kvs f g xs) (.inr (mk l)) = none := by
  unfold valD kvs
  rw [Option.map_eq_none_iff, List.find?_eq_none]
  intro kv hkv
  obtain ⟨a, ha, rfl⟩ := List.mem_map.mp hkv
  simp only [decide_eq_true_iff]
  intro e
  injection e with e
  exact h (List.mem_map.mpr ⟨a, ha, mk_inj e⟩)
theorem kvs_some {α : Type} {f : α → List Nat} {g : α → D} : ∀ {xs : List α} {i : Nat} {a : α}, (xs.map f).Nodup → xs[i]? = some a → valD (kvs f g xs) (.inr (mk (f a))) = some (g a)
  | [], i, a, _, h => by simp at h
  | x :: xs, 0, a, _, h => by
    simp at h; subst h
    unfold valD kvs
    simp
  | x :: xs, i + 1, a, nd, h => by
    have h : xs[i]? = some a := by simpa using h
    have nd2 := List.nodup_cons.mp nd
    have ih := kvs_some (f := f) (g := g) nd2.2 h
    have hne : ¬ f x = f a := fun e => nd2.1 (by rw [e]; exact List.mem_map_of_mem (List.mem_of_getElem? h))
    unfold valD kvs at *
    rw [List.map_cons, List.find?_cons]
    have : decide ((Sum.inr (mk (f x)) : Key) = .inr (mk (f a))) = false := decide_eq_false fun e => by injection e with e; exact hne (mk_inj e)
    rw [this]
    exact ih
theorem isN_non : D.isN .non .non = some (.bl true) := rfl
theorem isNN_non : D.isNotN .non .non = some (.bl false) := rfl
theorem key_str (x : Str) : (D.str x).key = some (.inr x) := rfl
theorem key_int (x : Int) : (D.int x).key = some (.inl x) := rfl
end DL
namespace DL
open PySem L2 Evl
theorem lk_self (k : Str) (a : D) (r : List (Str × D)) : List.lookup k ((k, a) :: r) = some a := by simp
theorem lk_ne {k k' : Str} (h : (k == k') = false) (a : D) (r : List (Str × D)) : List.lookup k ((k', a) :: r) = List.lookup k r := by rw [List.lookup_cons, h]
theorem pf_nil (f : Str) (e : D) : putFD f e [] = [(f, e)] := rfl
theorem pf_ne {f g : Str} (h : ¬ g = f) (e x : D) (r : List (Str × D)) : putFD f e ((g, x) :: r) = (g, x) :: putFD f e r := by rw [putFD, if_neg h]
theorem toTup_lst (xs : List D) : D.toTuple [.lst xs] = some (.tup xs) := rfl
theorem toTup_tup (xs : List D) : D.toTuple [.tup xs] = some (.tup xs) := rfl
theorem insOf_ins (C : Addr) (fs : List (Str × D)) : (D.ins C fs).insOf C = true := by unfold D.insOf; simp
theorem noF_ins {C : Addr} {fs : List (Str × D)} {m : Str} (h : fs.lookup m = none) : (D.ins C fs).noF m C = true := by unfold D.noF; simp [h]
end DL
set_option autoImplicit false
set_option Elab.async false
set_option linter.all false
/-! # lines and subtrees of levels in preorder -/
namespace DL
def lv (ls : List Int) (i : Nat) : Int := ls.getD i 0
theorem lv_get {ls : List Int} {i : Nat} (h : i < ls.length) : lv ls i = ls[i] := by unfold lv; simp [h]
/-- the last place before k whose level is less than v -/
def lastB (ls : List Int) (v : Int) : Nat → Option Nat
  | 0 => none
  | k + 1 => if lv ls k < v then some k else lastB ls v k
theorem lastB_some {ls : List Int} {v : Int} : ∀ {k p : Nat}, lastB ls v k = some p → p < k ∧ lv ls p < v ∧ ∀ j, p < j → j < k → v ≤ lv ls j
  | 0, p, h => by cases h
  | k + 1, p, h => by
    unfold lastB at h
    split at h
    · rename_i hk
      cases h
      exact ⟨Nat.lt_succ_self _, hk, fun j h1 h2 => by omega⟩
    · rename_i hk
      obtain ⟨a, b, c⟩ := lastB_some h
      refine ⟨Nat.lt_succ_of_lt a, b, fun j h1 h2 => ?_⟩
      by_cases e : j = k
      · subst e; omega
      · exact c j h1 (by omega)
theorem lastB_none {ls : List Int} {v : Int} : ∀ {k : Nat}, lastB ls v k = none → ∀ j, j < k → v ≤ lv ls j
  | 0, _, j, h => by cases h
  | k + 1, h, j, hj => by
    unfold lastB at h
    split at h
    · cases h
    · by_cases e : j = k
      · subst e; omega
      · exact lastB_none h j (by omega)
/-- from a place up to its root -/
def linF (ls : List Int) : Nat → Nat → List Nat
  | 0, _ => []
  | f + 1, i => i :: (match lastB ls (lv ls i) i with
    | none => []
    | some p => linF ls f p)
theorem linF_eq {ls : List Int} : ∀ {f g i : Nat}, i < f → i < g → linF ls f i = linF ls g i
  | 0, _, _, h, _ => by cases h
  | _ + 1, 0, _, _, h => by cases h
  | f + 1, g + 1, i, h1, h2 => by
    unfold linF
    cases e : lastB ls (lv ls i) i with
    | none => rfl
    | some p =>
      have := (lastB_some e).1
      simp only
      rw [linF_eq (f := f) (g := g) (i := p) (by omega) (by omega)]
def lin (ls : List Int) (i : Nat) : List Nat := linF ls (i + 1) i
theorem lin_eq (ls : List Int) (i : Nat) : lin ls i = i :: (match lastB ls (lv ls i) i with
    | none => []
    | some p => lin ls p) := by
  unfold lin
  rw [linF]
  cases e : lastB ls (lv ls i) i with
  | none => rfl
  | some p =>
    have := (lastB_some e).1
    simp only
    rw [linF_eq (f := i) (g := p + 1) (i := p) (by omega) (by omega)]
theorem lin_lt {ls : List Int} : ∀ {i j : Nat}, j ∈ lin ls i → j ≤ i := by
  intro i
  induction i using Nat.strongRecOn with
  | ind i ih =>
    intro j hj
    rw [lin_eq] at hj
    cases e : lastB ls (lv ls i) i with
    | none => rw [e] at hj; simp at hj; omega
    | some p =>
      rw [e] at hj
      have hp := (lastB_some e).1
      rcases List.mem_cons.mp hj with h | h
      · omega
      · have := ih p hp h; omega
/-- who is above whom -/
theorem above_iff {ls : List Int} : ∀ (l u : Nat), u ∈ (lin ls l).tail ↔ u < l ∧ ∀ j, u < j → j ≤ l → lv ls u < lv ls j := by
  intro l
  induction l using Nat.strongRecOn with
  | ind l ih =>
    intro u
    rw [lin_eq, List.tail_cons]
    cases e : lastB ls (lv ls l) l with
    | none =>
      simp only [List.not_mem_nil, false_iff, not_and]
      intro h1 h2
      have a := lastB_none e u h1
      have b := h2 l h1 (Nat.le_refl _)
      omega
    | some p =>
      obtain ⟨a, b, c⟩ := lastB_some e
      simp only
      have hm : u ∈ lin ls p ↔ u = p ∨ u ∈ (lin ls p).tail := by
        rw [lin_eq ls p]; simp
      rw [hm, ih p a u]
      constructor
      · rintro (rfl | ⟨h1, h2⟩)
        · refine ⟨a, fun j g1 g2 => ?_⟩
          by_cases ej : j = l
          · subst ej; exact b
          · have := c j g1 (by omega); omega
        · refine ⟨by omega, fun j g1 g2 => ?_⟩
          by_cases g3 : j ≤ p
          · exact h2 j g1 g3
          · have hp := h2 p h1 (Nat.le_refl _)
            by_cases ej : j = l
            · subst ej; omega
            · have := c j (by omega) (by omega); omega
      · rintro ⟨h1, h2⟩
        by_cases g : u = p
        · exact .inl g
        · have hup : u < p := by
            rcases Nat.lt_trichotomy u p with h | h | h
            · exact h
            · exact absurd h g
            · have x := c u h h1
              have y := h2 l h1 (Nat.le_refl _)
              omega
          exact .inr ⟨hup, fun j g1 g2 => h2 j g1 (by omega)⟩
/-- levels step up by one at most -/
structure PreO (ls : List Int) : Prop where
  nn : ∀ i, i < ls.length → 0 ≤ lv ls i
  zero : 0 < ls.length → lv ls 0 = 0
  step : ∀ i, i + 1 < ls.length → lv ls (i + 1) ≤ lv ls i + 1
/-- the nearest lower level is just one less -/
theorem PreO.par {ls : List Int} (P : PreO ls) {i p : Nat} (hi : i < ls.length) (e : lastB ls (lv ls i) i = some p) : lv ls p = lv ls i - 1 := by
  obtain ⟨a, b, c⟩ := lastB_some e
  have h1 := P.step p (by omega)
  by_cases ep : p + 1 = i
  · subst ep; omega
  · have := c (p + 1) (by omega) (by omega); omega
theorem PreO.root {ls : List Int} (P : PreO ls) {i : Nat} (hi : i < ls.length) (e : lastB ls (lv ls i) i = none) : lv ls i = 0 := by
  have h0 := P.nn i hi
  rcases Nat.eq_zero_or_pos i with z | z
  · subst z; exact P.zero (by omega)
  · have := lastB_none e 0 z
    rw [P.zero (by omega)] at this
    omega
theorem lin_len {ls : List Int} : ∀ i : Nat, (lin ls i).length ≤ i + 1 := by
  intro i
  induction i using Nat.strongRecOn with
  | ind i ih =>
    rw [lin_eq]
    cases e : lastB ls (lv ls i) i with
    | none => simp
    | some p =>
      have hp := (lastB_some e).1
      have := ih p hp
      simp only [List.length_cons]
      omega
theorem lin_self {ls : List Int} (i : Nat) : i ∈ lin ls i := by rw [lin_eq]; exact List.mem_cons_self
theorem filt_some {P : Nat → Bool} {p : Nat} (h1 : P p = true) : ∀ {k : Nat}, p < k → (∀ j, p < j → j < k → P j = false) → (List.range k).filter P = (List.range p).filter P ++ [p]
  | 0, h, _ => by cases h
  | k + 1, h, h2 => by
    rw [List.range_succ, List.filter_append]
    by_cases e : p = k
    · subst e; simp [h1]
    · rw [filt_some h1 (k := k) (by omega) fun j a b => h2 j a (by omega)]
      simp [h2 k (by omega) (by omega)]
theorem filt_none {P : Nat → Bool} {k : Nat} (h : ∀ j, j < k → P j = false) : (List.range k).filter P = [] := by
  rw [List.filter_eq_nil_iff]
  intro a ha
  rw [h a (by simpa using ha)]
  simp
/-- the places before i that are one level above it -/
theorem PreO.filt {ls : List Int} (P : PreO ls) {i : Nat} (hi : i < ls.length) : (lastB ls (lv ls i) i = none ∧ (List.range i).filter (fun a => decide (lv ls a = lv ls i - 1)) = []) ∨
    ∃ p pre, lastB ls (lv ls i) i = some p ∧ (List.range i).filter (fun a => decide (lv ls a = lv ls i - 1)) = pre ++ [p] := by
  cases e : lastB ls (lv ls i) i with
  | none =>
    refine .inl ⟨rfl, filt_none fun j hj => decide_eq_false ?_⟩
    have := lastB_none e j hj
    omega
  | some p =>
    obtain ⟨a, b, c⟩ := lastB_some e
    refine .inr ⟨p, _, rfl, filt_some (decide_eq_true (P.par hi e)) a fun j h1 h2 => decide_eq_false ?_⟩
    have := c j h1 h2
    omega
theorem lin_sorted {ls : List Int} : ∀ i : Nat, (lin ls i).Pairwise (fun a b => b < a) := by
  intro i
  induction i using Nat.strongRecOn with
  | ind i ih =>
    rw [lin_eq]
    cases e : lastB ls (lv ls i) i with
    | none => simp
    | some p =>
      have hp := (lastB_some e).1
      simp only
      rw [List.pairwise_cons]
      exact ⟨fun a ha => by have := lin_lt ha; omega, ih p hp⟩
theorem sorted_eq : ∀ {xs ys : List Nat}, xs.Pairwise (fun a b => b < a) → ys.Pairwise (fun a b => b < a) → (∀ x, x ∈ xs ↔ x ∈ ys) → xs = ys
  | [], [], _, _, _ => rfl
  | [], y :: ys, _, _, h => by have := (h y).mpr List.mem_cons_self; cases this
  | x :: xs, [], _, _, h => by have := (h x).mp List.mem_cons_self; cases this
  | x :: xs, y :: ys, h1, h2, h => by
    rw [List.pairwise_cons] at h1 h2
    have e : x = y := by
      rcases List.mem_cons.mp ((h x).mp List.mem_cons_self) with e | e
      · exact e
      · rcases List.mem_cons.mp ((h y).mpr List.mem_cons_self) with e2 | e2
        · exact e2.symm
        · have a := h2.1 x e
          have b := h1.1 y e2
          omega
    subst e
    congr 1
    refine sorted_eq h1.2 h2.2 fun z => ?_
    constructor
    · intro hz
      rcases List.mem_cons.mp ((h z).mp (List.mem_cons_of_mem _ hz)) with e | e
      · have := h1.1 z hz; omega
      · exact e
    · intro hz
      rcases List.mem_cons.mp ((h z).mpr (List.mem_cons_of_mem _ hz)) with e | e
      · have := h2.1 z hz; omega
      · exact e
end DL
set_option autoImplicit false
set_option Elab.async false
set_option linter.all false
set_option maxRecDepth 100000
/-! # comprehensions, whole; slices by places -/
namespace DL
open PySem L2 Evl
theorem lcL_fm {g : DG} {t : DT} {de : DE} {vs : List Nat} {q : List D → Ro → Prop} {ds : List D} {ρ : Ro} (f : D → Option D) (P : Ro → Prop) (h0 : P ρ) (hz : ds.length ≤ sizeLine)
    (step : ∀ (i : Nat) (d : D) (ρ : Ro) (nx : D → Ro → Prop) (el : Ro → Prop) (small : Nat → Prop), ds[i]? = some d → P ρ → (∀ y, f d = some y → ∀ ρ', P ρ' → nx y ρ') → (f d = none → ∀ ρ', P ρ' → el ρ') →
      g (.val d) (wipeD ρ vs) fun ρ1 => t ρ1 (fun b ρ2 => if b = true then de ρ2 (fun s ρ3 => match s with
        | .val y => nx y (wipeD ρ3 vs)
        | .bor _ => False) (fun _ _ _ => False) else el (wipeD ρ2 vs)) (fun _ _ _ => False))
    (fin : ∀ ρ, P ρ → q (ds.filterMap f) ρ) : lcL g t de vs q ds [] ρ := by
  refine lcL_inv (fun i acc ρ => acc = (ds.take i).filterMap f ∧ P ρ) ⟨rfl, h0⟩ ?_ ?_
  · rintro i d acc ρ nx hd ⟨rfl, hP⟩ hnx
    obtain ⟨hi, hr⟩ := List.getElem?_eq_some_iff.mp hd
    have hlen : ((ds.take i).filterMap f).length < sizeLine := by
      refine Nat.lt_of_le_of_lt (List.length_filterMap_le _ _) ?_
      rw [List.length_take]; omega
    have e : (ds.take (i + 1)).filterMap f = (ds.take i).filterMap f ++ (f d).toList := by
      rw [List.take_succ_eq_append_getElem hi, hr, List.filterMap_append]
      cases h : f d with
      | none => simp [h]
      | some y => simp [h]
    refine step i d ρ (fun y ρ' => ((ds.take i).filterMap f).length < sizeLine ∧ nx ((ds.take i).filterMap f ++ [y]) ρ') (fun ρ' => nx ((ds.take i).filterMap f) ρ') (fun _ => True) hd hP (fun y hy ρ' hP' => ⟨hlen, ?_⟩) (fun hn ρ' hP' => ?_)
    · exact hnx _ _ ⟨by rw [e, hy]; rfl, hP'⟩
    · exact hnx _ _ ⟨by rw [e, hn]; simp, hP'⟩
  · rintro acc ρ ⟨rfl, hP⟩
    rw [List.take_length]
    exact fin ρ hP
theorem lcL_ix {g : DG} {t : DT} {de : DE} {vs : List Nat} {q : List D → Ro → Prop} {ds : List D} {ρ : Ro} (f : Nat → Option D) (P : Nat → Ro → Prop) (h0 : P 0 ρ) (hz : ds.length ≤ sizeLine)
    (step : ∀ (i : Nat) (d : D) (ρ : Ro) (nx : D → Ro → Prop) (el : Ro → Prop), ds[i]? = some d → P i ρ → (∀ y, f i = some y → ∀ ρ', P (i + 1) ρ' → nx y ρ') → (f i = none → ∀ ρ', P (i + 1) ρ' → el ρ') →
      g (.val d) (wipeD ρ vs) fun ρ1 => t ρ1 (fun b ρ2 => if b = true then de ρ2 (fun s ρ3 => match s with
        | .val y => nx y (wipeD ρ3 vs)
        | .bor _ => False) (fun _ _ _ => False) else el (wipeD ρ2 vs)) (fun _ _ _ => False))
    (fin : ∀ ρ, P ds.length ρ → q ((List.range ds.length).filterMap f) ρ) : lcL g t de vs q ds [] ρ := by
  refine lcL_inv (fun i acc ρ => acc = (List.range i).filterMap f ∧ P i ρ) ⟨rfl, h0⟩ ?_ ?_
  · rintro i d acc ρ nx hd ⟨rfl, hP⟩ hnx
    obtain ⟨hi, hr⟩ := List.getElem?_eq_some_iff.mp hd
    have hlen : ((List.range i).filterMap f).length < sizeLine := by
      refine Nat.lt_of_le_of_lt (List.length_filterMap_le _ _) ?_
      rw [List.length_range]; omega
    have e : (List.range (i + 1)).filterMap f = (List.range i).filterMap f ++ (f i).toList := by
      rw [List.range_succ, List.filterMap_append]
      cases h : f i with
      | none => simp [h]
      | some y => simp [h]
    refine step i d ρ (fun y ρ' => ((List.range i).filterMap f).length < sizeLine ∧ nx ((List.range i).filterMap f ++ [y]) ρ') (fun ρ' => nx ((List.range i).filterMap f) ρ') hd hP (fun y hy ρ' hP' => ⟨hlen, ?_⟩) (fun hn ρ' hP' => ?_)
    · exact hnx _ _ ⟨by rw [e, hy]; rfl, hP'⟩
    · exact hnx _ _ ⟨by rw [e, hn]; simp, hP'⟩
  · rintro acc ρ ⟨rfl, hP⟩
    exact fin ρ hP
theorem filterMap_all {α β : Type} {f : α → Option β} {g : α → β} : ∀ {l : List α}, (∀ x ∈ l, f x = some (g x)) → l.filterMap f = l.map g
  | [], _ => rfl
  | x :: xs, h => by
    rw [List.filterMap_cons, h x List.mem_cons_self, List.map_cons, filterMap_all fun y hy => h y (List.mem_cons_of_mem _ hy)]
/-- .. of rows given by a map -/
theorem fm_map {α : Type} {r : α → D} {f : D → Option D} {g : α → D} {xs : List α} (h : ∀ x ∈ xs, f (r x) = some (g x)) : (xs.map r).filterMap f = xs.map g := by
  rw [List.filterMap_map]
  exact filterMap_all h
theorem cutL_ab {l : List D} {a b : Nat} (hb : b ≤ l.length) (hab : a ≤ b) : D.cut (.lst l) (some (a : Int)) (some (b : Int)) = some (.lst ((l.drop a).take (b - a))) := by
  rw [cutL, HT.sIx_nat, HT.sIx_nat, Nat.min_eq_left hb, Nat.min_eq_left (by omega)]
theorem cutT {l : List D} (lo hi : Option Int) : D.cut (.tup l) lo hi = some (.tup ((l.drop (HT.sIx l.length 0 lo)).take (HT.sIx l.length l.length hi - HT.sIx l.length 0 lo))) := rfl
theorem cutT_ab {l : List D} {a b : Nat} (hb : b ≤ l.length) (hab : a ≤ b) : D.cut (.tup l) (some (a : Int)) (some (b : Int)) = some (.tup ((l.drop a).take (b - a))) := by
  rw [cutT, HT.sIx_nat, HT.sIx_nat, Nat.min_eq_left hb, Nat.min_eq_left (by omega)]
theorem ints_map {α : Type} {f : α → Int} : ∀ xs : List α, D.ints (xs.map fun x => D.int (f x)) = some (xs.map f)
  | [] => rfl
  | x :: xs => by
    have e : D.ints (D.int (f x) :: xs.map fun x => D.int (f x)) = (D.ints (xs.map fun x => D.int (f x))).map fun bs => f x :: bs := rfl
    rw [List.map_cons, e, ints_map xs]; rfl
theorem sum_map {α : Type} {f : α → Int} (xs : List α) : D.sum [.lst (xs.map fun x => D.int (f x))] = some (.int (xs.map f).sum) := by
  show (D.ints (xs.map fun x => D.int (f x))).map (fun bs => D.int bs.sum) = _
  rw [ints_map]; rfl
/-! ### where a subtree ends, by levels -/
structure IsEnd (ls : List Int) (n i e : Nat) : Prop where
  lt : i < e
  le : e ≤ n
  ab : ∀ j, i < j → j < e → lv ls i < lv ls j
  at' : e = n ∨ lv ls e ≤ lv ls i
theorem IsEnd.uniq {ls : List Int} {n i e e' : Nat} (h : IsEnd ls n i e) (h' : IsEnd ls n i e') : e = e' := by
  rcases Nat.lt_trichotomy e e' with hl | hl | hl
  · rcases h.at' with z | z
    · have := h'.le; omega
    · have := h'.ab e h.lt hl; omega
  · exact hl
  · rcases h'.at' with z | z
    · have := h.le; omega
    · have := h.ab e' h'.lt hl; omega
theorem isEnd_ex (ls : List Int) (n i : Nat) (hi : i < n) : ∃ e, IsEnd ls n i e := by
  have go : ∀ k j, n - j = k → i < j → j ≤ n → (∀ x, i < x → x < j → lv ls i < lv ls x) → ∃ e, IsEnd ls n i e := by
    intro k
    induction k with
    | zero => intro j hk h1 h2 h3; exact ⟨j, h1, h2, h3, .inl (by omega)⟩
    | succ k ih =>
      intro j hk h1 h2 h3
      by_cases h : lv ls j ≤ lv ls i
      · exact ⟨j, h1, h2, h3, .inr h⟩
      · exact ih (j + 1) (by omega) (by omega) (by omega) fun x a b => by
          by_cases e : x = j
          · subst e; omega
          · exact h3 x a (by omega)
  exact go _ (i + 1) rfl (by omega) (by omega) fun x a b => by omega
noncomputable def en (ls : List Int) (n i : Nat) : Nat := if h : i < n then (isEnd_ex ls n i h).choose else 0
theorem en_is {ls : List Int} {n i : Nat} (h : i < n) : IsEnd ls n i (en ls n i) := by
  unfold en
  rw [dif_pos h]
  exact (isEnd_ex ls n i h).choose_spec
theorem en_eq {ls : List Int} {n i e : Nat} (h : i < n) (h' : IsEnd ls n i e) : e = en ls n i := h'.uniq (en_is h)
/-! ### words left out before -/
def getW (o : Option Sl) (f : D → Prop) (_ : Ph f := ()) : Prop := match o with
  | some (.own d) => f d
  | _ => False
theorem getW_own (d : D) (f : D → Prop) : getW (some (.own d)) f = f d := rfl
theorem w_frz {i : Nat} {s : DS} {DD : Do} {ρ : Ro} : dFrz i s DD ρ = getW ρ[i]? fun d => s DD (ρ.set i (.val d)) := by
  unfold dFrz getW
  cases ρ[i]? with
  | none => rfl
  | some z => cases z <;> rfl
theorem kwP1 (x : T) : kwPerm [0] [] [x] = [x] := rfl
theorem kwP10 (x y : T) : kwPerm [1, 0] [] [x, y] = [y, x] := rfl
theorem seq_lst {xs : List D} : (D.lst xs).seq = some xs := rfl
theorem seq_tup {xs : List D} : (D.tup xs).seq = some xs := rfl
def hgt0 : Int → List Int → Int
  | d, [] => d
  | _, n :: ns => maxI n ns
def colV : D → Option D
  | .tup [_, v, _] => some v
  | _ => none
def colL1 : D → Option D
  | .tup [_, _, .int l] => some (.int (l + 1))
  | _ => none
theorem maxDf_map {α : Type} {f : α → Int} (d : Int) (xs : List α) : D.maxDf [.lst (xs.map fun x => D.int (f x))] [.int d] = some (.int (hgt0 d (xs.map f))) := by
  show (D.ints (xs.map fun x => D.int (f x))).map (fun
    | [] => D.int d
    | n :: ns => .int (maxI n ns)) = _
  rw [ints_map]
  cases xs.map f <;> rfl
theorem max_map {α : Type} {f : α → Int} (n : Int) (xs : List α) : D.max [.lst (.int n :: xs.map fun x => D.int (f x))] = some (.int (maxI n (xs.map f))) := by
  have e : D.ints (.int n :: xs.map fun x => D.int (f x)) = some (n :: xs.map f) := by
    show (D.ints (xs.map fun x => D.int (f x))).map (fun bs => n :: bs) = _
    rw [ints_map]; rfl
  show (D.ints (.int n :: xs.map fun x => D.int (f x))).bind (fun
    | [] => none
    | n :: ns => some (D.int (maxI n ns))) = _
  rw [e]; rfl
end DL
set_option autoImplicit false
set_option Elab.async false
set_option linter.all false
set_option maxRecDepth 100000
/-! # == and != by an own __eq__; own two-place operators -/
namespace DLN
open PySem PySem.Calls PyProof.Rows Builtin PySem.W
section
variable {prog : Program} {w : World} {A : Around} {E : Value → Shared → Prop} {s : Shared} {K : Frag} {x C f : Addr} {ox : Obj} {od : Option Obj} {b tb : Value}
theorem ne_entry {Q : PySem.Fin → Shared → Prop} (hu : A.units < cLine) (X : K.In s.heap) (I : InstAt s.heap x ox C od) (hs : findIn K (.ref C) "__eq__" = some (some (.ref f))) (hf : isFn K (.ref f) = true)
    (h : wpAny (model prog w) A (call (.ref f) [.ref x, b]) (fun v s' => ∃ c, v = .bool c ∧ Q (.done (.ret (.bool (!c)))) s') E s) : wpAny (model prog w) A (Builtin.«object.__ne__» ⟨[.ref x, b], []⟩) Q E s := by
  unfold Builtin.«object.__ne__»
  repeat (first
    | with_reducible refine wpAny_cRoomFor hu ?_
    | (refine wpAny_bind (m := callSpecialIfBound? (.ref x) (Str.ofString "__eq__") [b]) (ifBound_K X I hs hf (wpAny_mono h (fun r s' hr => by
        obtain ⟨c, rfl, q⟩ := hr
        repeat (first | exact q | exact wpAny_pure q | exact wpAny_truthy_bool q | (refine wpAny_bind (m := truthy (.bool _)) (wpAny_truthy_bool ?_)) | wp_step)) fun _ _ e => e)))
    | wp_step)
theorem ne_call {Q : Value → Shared → Prop} (hu : A.units + 1 < cLine) (X : K.In s.heap) (I : InstAt s.heap x ox C od) (hm : mroIn K C (.type "object") = some true) (hs : findIn K (.ref C) "__eq__" = some (some (.ref f))) (hf : isFn K (.ref f) = true)
    (h : wpAny (model prog w) A.in1 (call (.ref f) [.ref x, b]) (fun v s' => ∃ c, v = .bool c ∧ Q (.bool (!c)) s') E s) : wpAny (model prog w) A (call (.builtin "object.__ne__") [.ref x, b]) Q E s := by
  refine wpAny_call (codeAny_call_builtin F.cmp_object.ne.plain F.cmpEntry_ne ?_)
  exact check_slot F.cmpKind_ne F.cmpSplit_ne (I.type.andThen (looks_mroIn X hm)) (F.cmpArgs_ne _ _) (ne_entry (A := A.in1) hu X I hs hf (wpAny_mono h (fun v s' z => z) fun _ _ e => e))
theorem ne_bound {args : List Value} {Q : Option Value → Shared → Prop} (X : K.In s.heap) (I : InstAt s.heap x ox C od) (hne : findIn K (.ref C) "__ne__" = some (some (.builtin "object.__ne__")))
    (h : wpAny (model prog w) A (call (.builtin "object.__ne__") (.ref x :: args)) (fun v => Q (some v)) E s) : wpAny (model prog w) A (callSpecialIfBound? (.ref x) "__ne__" args) Q E s := by
  unfold callSpecialIfBound? bindSpecialIfBound?
  have fin : wpAny (model prog w) A (do let v ← call (.builtin "object.__ne__") ([.ref x] ++ args); pure (some v)) Q E s := wpAny_bind (wpAny_mono h (fun v s' z => wpAny_pure z) fun _ _ e => e)
  refine wpAny_holding (wpAny_bind (wpAny_bind (wpAny_bind (I.type.here ((looks_findIn X hne).here (wpAny_bind (wpAny_askSetting (wpAny_ite ?_))))))))
  split
  · exact wpAny_bind (wpAny_of_eq (F.cmp_object.ne.bind _) (wpAny_pure (by exact fin)))
  · exact wpAny_tryCatch (wpAny_bind (wpAny_of_eq (F.cmp_object.ne.bind _) (wpAny_pure (by exact fin))))
theorem ne_K {Q : Value → Shared → Prop} (hu : A.units + 1 < cLine) (X : K.In s.heap) (I : InstAt s.heap x ox C od) (hb : Looks (model prog w) s.heap (typeOf b) tb) (hn : notFirst K C tb = true) (hm : mroIn K C (.type "object") = some true)
    (hne : findIn K (.ref C) "__ne__" = some (some (.builtin "object.__ne__"))) (hs : findIn K (.ref C) "__eq__" = some (some (.ref f))) (hf : isFn K (.ref f) = true)
    (h : wpAny (model prog w) A.in1 (call (.ref f) [.ref x, b]) (fun v s' => ∃ c, v = .bool c ∧ Q (.bool (!c)) s') E s) : wpAny (model prog w) A (richCompare .NotEq (.ref x) b) Q E s := by
  have one : wpAny (model prog w) A (tryCompare (.ref x) (cmpInfo .NotEq).2.1 b) (fun r s' => ∃ c, r = some (.bool (!c)) ∧ Q (.bool (!c)) s') E s := by
    unfold tryCompare
    refine wpAny_bind (ne_bound X I hne (ne_call hu X I hm hs hf (wpAny_mono h (fun v s' z => ?_) fun _ _ e => e)))
    obtain ⟨c, rfl, q⟩ := z
    exact ⟨c, rfl, wpAny_pure ⟨c, rfl, q⟩⟩
  have last : wpAny (model prog w) A (tryCompare (.ref x) (cmpInfo .NotEq).2.1 b) (fun r s' => match r with
    | some v => Q v s'
    | none => False) E s := wpAny_mono one (fun r s' z => by obtain ⟨c, rfl, q⟩ := z; exact q) fun _ _ e => e
  unfold richCompare
  simp only [oneThing_ref]
  refine wpAny_holding (wpAny_bind (wpAny_cRoomFor (Nat.lt_of_succ_lt hu) (I.type.here (wpAny_bind (hb.here ?_)) |> wpAny_bind)))
  split
  · rename_i q
    have e : subIn K tb (.ref C) = some false := by
      rcases Bool.or_eq_true_iff.mp hn with z | z
      · exact absurd q (by rw [beq_iff_eq.mp z]; simp)
      · exact beq_iff_eq.mp z
    refine wpAny_bind ((looks_subIn X e).here ?_)
    simp only [Bool.false_eq_true, if_false]
    refine wpAny_bind (wpAny_mono one (fun r s' z => ?_) fun _ _ y => y)
    obtain ⟨c, rfl, q2⟩ := z
    exact wpAny_pure q2
  · refine wpAny_bind (wpAny_pure ?_)
    simp only [Bool.false_eq_true, if_false]
    refine wpAny_bind (wpAny_mono one (fun r s' z => ?_) fun _ _ y => y)
    obtain ⟨c, rfl, q2⟩ := z
    exact wpAny_pure q2
end
end DLN
set_option autoImplicit false
set_option Elab.async false
set_option linter.all false
set_option maxRecDepth 100000
namespace DL
open PySem L2 Evl
/-- a class with an __eq__ of its own, at f, and no __ne__ -/
structure CmpC (K : PySem.W.Frag) (C f : Addr) : Prop where
  hs : PySem.W.findIn K (.ref C) "__eq__" = some (some (.ref f))
  hf : PySem.W.isFn K (.ref f) = true
  hne : PySem.W.findIn K (.ref C) "__ne__" = some (some (.builtin "object.__ne__"))
  hm : PySem.W.mroIn K C (.type "object") = some true
def rEqO (K : PySem.W.Frag) (g : Bool → Bool) (C : Addr) (sp : Sp) (E : XK) : R2 := fun x y H Q => ∃ a dx fs tb, x = .ref a ∧ H a = some (.ins C dx fs) ∧ TyX K H y tb ∧ PySem.W.notFirst K C tb = true ∧ sp [x, y] H (fun v H1 => ∃ b, v = .bl b ∧ Q (.bl (g b)) H1) E
def rBinO (C : Addr) (sp : Sp) (E : XK) : R2 := fun x y H Q => ∃ a dx fs c dy gs, x = .ref a ∧ H a = some (.ins C dx fs) ∧ y = .ref c ∧ H c = some (.ins C dy gs) ∧ sp [x, y] H Q E
section
variable {X : Cx} {CX : CXT} {k : Nat} {f C : Addr} {fd : FuncData} {ps : List Str} {sp : Sp} {E : XK}
theorem op_eqO (M : CmpC X.K C f) (F : FnOk X.prog X.w X.K X.mg X.base CX k f fd ps sp) (hr : Room k X.A) (hb : Binds X.K fd ps []) (hx : Passes CX X E) : OpR X (compareOp .Eq) (rEqO X.K (fun b => b) C sp E) := by
  intro pins s σ H x y v u Q I rx ry h
  obtain ⟨a, dx, fs, tb, rfl, ha, ty, hn, h⟩ := h
  have hv : v = Value.ref a := rx
  subst hv
  obtain ⟨P, kx, hP, _⟩ := kit_of I ry ty
  obtain ⟨mA, J, _⟩ := ins_get I.hok ha
  obtain ⟨od, J, _⟩ := J.look
  obtain ⟨m, hF⟩ := I.fr
  show wpAny (model X.prog X.w) X.A (richCompare .Eq (.ref a) u) (EP X pins σ Q) X.xe s
  refine PySem.W.cmp_K (op := .Eq) (tb := tb) hr.units0 hF I.ok.mod.kin J (kx.ty _ _ I.kIn hP) hn M.hs M.hf ?_
  refine wpAny_mono (run_sub F hr rfl hb hx I (vs := [V.ref a, y]) (.cons (show RelV (V.ref a) (Value.ref a) from rfl) (.cons ry .nil)) h) (fun r s1 q => ?_) fun _ _ z => z
  obtain ⟨w, H1, I1, rw1, b, ew, q⟩ := q
  subst ew
  have e1 : r = Value.bool b := rw1
  subst e1
  exact ⟨V.bl b, H1, I1, rfl, q⟩
theorem op_neO (M : CmpC X.K C f) (F : FnOk X.prog X.w X.K X.mg X.base CX k f fd ps sp) (hr : Room (k + 1) X.A) (hb : Binds X.K fd ps []) (hx : Passes CX X E) : OpR X (compareOp .NotEq) (rEqO X.K (fun b => !b) C sp E) := by
  intro pins s σ H x y v u Q I rx ry h
  obtain ⟨a, dx, fs, tb, rfl, ha, ty, hn, h⟩ := h
  have hv : v = Value.ref a := rx
  subst hv
  obtain ⟨P, kx, hP, _⟩ := kit_of I ry ty
  obtain ⟨mA, J, _⟩ := ins_get I.hok ha
  obtain ⟨od, J, _⟩ := J.look
  have hu : X.A.units + 1 < cLine := by have := hr.un; omega
  show wpAny (model X.prog X.w) X.A (richCompare .NotEq (.ref a) u) (EP X pins σ Q) X.xe s
  refine DLN.ne_K hu I.kIn J (kx.ty _ _ I.kIn hP) hn M.hm M.hne M.hs M.hf ?_
  refine wpAny_mono (run_sub F hr.in1 rfl hb hx I (vs := [V.ref a, y]) (.cons (show RelV (V.ref a) (Value.ref a) from rfl) (.cons ry .nil)) h) (fun r s1 q => ?_) fun _ _ z => z
  obtain ⟨w, H1, I1, rw1, b, ew, q⟩ := q
  subst ew
  exact ⟨b, rw1, V.bl (!b), H1, I1, rfl, q⟩
theorem op_binO {op : Operator} {nm : Str} (hop : PySem.dunder op.info.2 = nm) (M : Spec1 X.K C nm f) (hc : PySem.W.selfFirst X.K C = true) (F : FnOk X.prog X.w X.K X.mg X.base CX k f fd ps sp) (hr : Room k X.A) (hb : Binds X.K fd ps []) (hx : Passes CX X E) : OpR X (binaryOp op) (rBinO C sp E) := by
  intro pins s σ H x y v u Q I rx ry h
  obtain ⟨a, dx, fs, c, dy, gs, rfl, ha, rfl, hc2, h⟩ := h
  have hv : v = Value.ref a := rx
  subst hv
  have hu : u = Value.ref c := ry
  subst hu
  obtain ⟨mA, J, _⟩ := ins_get I.hok ha
  obtain ⟨od, J, _⟩ := J.look
  obtain ⟨mB, J2, _⟩ := ins_get I.hok hc2
  obtain ⟨od2, J2, _⟩ := J2.look
  obtain ⟨m, hF⟩ := I.fr
  refine PySem.W.binop_K (op := op) hF I.ok.mod.kin J J2.type hc (by rw [hop]; exact M.hs) M.hf ?_
  refine wpAny_mono (run_sub F hr rfl hb hx I (vs := [V.ref a, V.ref c]) (.cons (show RelV (V.ref a) (Value.ref a) from rfl) (.cons (show RelV (V.ref c) (Value.ref c) from rfl) .nil)) h) (fun r s1 q => ?_) fun _ _ z => z
  obtain ⟨w, H1, I1, rw1, q⟩ := q
  exact SlX.cmpback rw1 ⟨w, H1, I1, rw1, q⟩
end
/-! ### as data -/
def dEqO (K : PySem.W.Frag) (g : Bool → Bool) (Cs : List Addr) (C : Addr) (dsp : DSp) (da db : DE) : DE := fun ρ q er => da ρ (fun t ρ1 => db ρ1 (fun u ρ2 => Opt (rd ρ2 t) fun d => d.insOf C = true ∧ Opt (rd ρ2 u) fun y => y.kno Cs = true ∧ Opt y.tyV fun ty => PySem.W.notFirst K C ty = true ∧ Opt (argsOf ρ2 [t, u]) fun av => (bors [t, u]).Nodup ∧
  noEr dsp av (fun r os => Opt r.bool fun b => q (.val (.bl (g b))) (putOuts ρ2 (bors [t, u]) os)) (fun _ _ _ => False)) er) er
def dBinO (C : Addr) (dsp : DSp) (da db : DE) : DE := fun ρ q er => da ρ (fun t ρ1 => db ρ1 (fun u ρ2 => Opt (rd ρ2 t) fun d => d.insOf C = true ∧ Opt (rd ρ2 u) fun y => y.insOf C = true ∧ Opt (argsOf ρ2 [t, u]) fun av => (bors [t, u]).Nodup ∧
  noEr dsp av (fun r os => q (.val r) (putOuts ρ2 (bors [t, u]) os)) (fun _ _ _ => False)) er) er
section
variable {K : PySem.W.Frag} {pa : PaG} {W : WX} {te tc : TE} {dx dc : DE} {C : Addr} {dsp : DSp} {g : Bool → Bool} {Cs : List Addr}
theorem se_eqO (hK : IsiK K) (hC : ∀ C ∈ Cs, IsiC K C) (hx : SE K pa W te dx) (hc : SE K pa W tc dc) : SE K pa W (tOp (rEqO K g C (SpV K 2 dsp) L2.E0) te tc) (dEqO K g Cs C dsp dx dc) := fun F G σ H ρ Q q er S h k x =>
  hx F G σ H ρ _ _ er S h (fun G1 H1 v t ρ1 e1 S1 r1 h1 => hc F G1 σ H1 ρ1 _ _ er S1 h1 (fun G2 H2 w u ρ2 e2 S2 r2 h2 => by
    obtain ⟨d, ed, hi, y, ey, hk, ty, ety, hn, av, ea, nd, hd⟩ := h2
    obtain ⟨a, dx, fs, rfl, ha⟩ := insOf_at S2.ex (S2.rdT (r1.mono e2) ed) hi
    refine ⟨a, dx, fs, ty, rfl, ha, tyX_of hK (kno_of hC hk) S2.ex (S2.rdT r2 ey) ety, hn, ?_⟩
    exact call_core S2 (.cons (r1.mono e2) (.cons r2 .nil)) ea nd rfl hd (fun G3 H3 v3 d3 os e3 S3 rv hq => by
      obtain ⟨b, eb, hq⟩ := hq
      cases bool_of eb
      cases rv
      exact ⟨b, rfl, k G3 H3 _ (.val _) _ ((e1.trans e2).trans e3) S3 (.bl _) hq⟩) (fun _ _ _ _ _ _ _ _ _ _ _ hq => hq.elim)) (x.grow e1)) x
theorem se_binO (hx : SE K pa W te dx) (hc : SE K pa W tc dc) : SE K pa W (tOp (rBinO C (SpV K 2 dsp) L2.E0) te tc) (dBinO C dsp dx dc) := fun F G σ H ρ Q q er S h k x =>
  hx F G σ H ρ _ _ er S h (fun G1 H1 v t ρ1 e1 S1 r1 h1 => hc F G1 σ H1 ρ1 _ _ er S1 h1 (fun G2 H2 w u ρ2 e2 S2 r2 h2 => by
    obtain ⟨d, ed, hi, y, ey, hi2, av, ea, nd, hd⟩ := h2
    obtain ⟨a, dx, fs, rfl, ha⟩ := insOf_at S2.ex (S2.rdT (r1.mono e2) ed) hi
    obtain ⟨c, dy, gs, rfl, hc⟩ := insOf_at S2.ex (S2.rdT r2 ey) hi2
    refine ⟨a, dx, fs, c, dy, gs, rfl, ha, rfl, hc, ?_⟩
    exact call_core S2 (.cons (r1.mono e2) (.cons r2 .nil)) ea nd rfl hd (fun G3 H3 v3 d3 os e3 S3 rv hq => k G3 H3 v3 (.val d3) _ ((e1.trans e2).trans e3) S3 rv hq) (fun _ _ _ _ _ _ _ _ _ _ _ hq => hq.elim)) (x.grow e1)) x
end
end DL
namespace DL
open PySem L2 Evl
/-! ### what is never asked -/
theorem pe_nev {X : Cx} {e : Expr} : PE X e (fun _ _ _ => False) := ⟨fun _ _ _ _ _ _ h => h.elim⟩
def dNev : DE := fun _ _ _ => False
theorem se_nev {K : PySem.W.Frag} {pa : PaG} {W : WX} : SE K pa W (fun _ _ _ => False) dNev := fun _ _ _ _ _ _ _ _ _ h _ _ => h.elim
/-! ### of no class below an own one -/
theorem nf_same (K : PySem.W.Frag) (C : Addr) : PySem.W.notFirst K C (.ref C) = true := by unfold PySem.W.notFirst; simp
theorem nf_ty {K : PySem.W.Frag} {C : Addr} {n : String} {l : List String} (h : fastBuiltinMro n = some (l.map Value.type)) : PySem.W.notFirst K C (.type n) = true := by
  have e : PySem.W.subIn K (.type n) (.ref C) = some false := by
    show (fastBuiltinMro n).map (·.contains (.ref C)) = some false
    rw [h]
    have : (l.map Value.type).contains (Value.ref C) = false := by
      rw [Bool.eq_false_iff]
      intro z
      rw [List.contains_iff_mem] at z
      obtain ⟨x, -, hx⟩ := List.mem_map.mp z
      cases hx
    simp [this]
  unfold PySem.W.notFirst
  rw [e]
  simp
theorem nf_none (K : PySem.W.Frag) (C : Addr) : PySem.W.notFirst K C (.type "NoneType") = true := nf_ty (l := ["NoneType", "object"]) (by decide +kernel)
theorem nf_int (K : PySem.W.Frag) (C : Addr) : PySem.W.notFirst K C (.type "int") = true := nf_ty (l := ["int", "object"]) (by decide +kernel)
theorem nf_bool (K : PySem.W.Frag) (C : Addr) : PySem.W.notFirst K C (.type "bool") = true := nf_ty (l := ["bool", "int", "object"]) (by decide +kernel)
theorem nf_str (K : PySem.W.Frag) (C : Addr) : PySem.W.notFirst K C (.type "str") = true := nf_ty (l := ["str", "object"]) (by decide +kernel)
theorem nf_byt (K : PySem.W.Frag) (C : Addr) : PySem.W.notFirst K C (.type "bytes") = true := nf_ty (l := ["bytes", "object"]) (by decide +kernel)
theorem nf_lst (K : PySem.W.Frag) (C : Addr) : PySem.W.notFirst K C (.type "list") = true := nf_ty (l := ["list", "object"]) (by decide +kernel)
theorem nf_tup (K : PySem.W.Frag) (C : Addr) : PySem.W.notFirst K C (.type "tuple") = true := nf_ty (l := ["tuple", "object"]) (by decide +kernel)
theorem nf_dct (K : PySem.W.Frag) (C : Addr) : PySem.W.notFirst K C (.type "dict") = true := nf_ty (l := ["dict", "object"]) (by decide +kernel)
theorem ne_bl (a b : Bool) : D.ne (.bl a) (.bl b) = some (.bl (!(a == b))) := by cases a <;> cases b <;> rfl
theorem eq_bl (a b : Bool) : D.eq (.bl a) (.bl b) = some (.bl (a == b)) := by cases a <;> cases b <;> rfl
theorem tyV_dct {x : List (Key × D)} : (D.dct x).tyV = some (.type "dict") := rfl
theorem tyV_ins {C : Addr} {x : List (Str × D)} : (D.ins C x).tyV = some (.ref C) := rfl
theorem kno_dct {Cs : List Addr} {x : List (Key × D)} : (D.dct x).kno Cs = true := rfl
theorem kit_sameR (K : PySem.W.Frag) (C : Addr) : PySem.W.kitOne K (.ref C) (.ref C) = some true := by unfold PySem.W.kitOne; rw [if_pos (by simp)]
theorem clV_ptr {C : Addr} : (D.ptr C).clV = some (.ref C) := rfl
/-- nothing built-in is of the class at C -/
structure KitB (K : PySem.W.Frag) (C : Addr) : Prop where
  non : PySem.W.kitOne K (.type "NoneType") (.ref C) = some false
  bl : PySem.W.kitOne K (.type "bool") (.ref C) = some false
  int : PySem.W.kitOne K (.type "int") (.ref C) = some false
  str : PySem.W.kitOne K (.type "str") (.ref C) = some false
  byt : PySem.W.kitOne K (.type "bytes") (.ref C) = some false
  lst : PySem.W.kitOne K (.type "list") (.ref C) = some false
  tup : PySem.W.kitOne K (.type "tuple") (.ref C) = some false
  dct : PySem.W.kitOne K (.type "dict") (.ref C) = some false
theorem sub_ty {K : PySem.W.Frag} {C : Addr} {n : String} {l : List String} (h : fastBuiltinMro n = some (l.map Value.type)) : PySem.W.subIn K (.type n) (.ref C) = some false := by
  show (fastBuiltinMro n).map (·.contains (.ref C)) = some false
  rw [h]
  have : (l.map Value.type).contains (Value.ref C) = false := by
    rw [Bool.eq_false_iff]
    intro z
    rw [List.contains_iff_mem] at z
    obtain ⟨x, -, hx⟩ := List.mem_map.mp z
    cases hx
  simp [this]
theorem kit_sub {K : PySem.W.Frag} {C : Addr} {t : Value} (h1 : PySem.W.isClsIn K C = true) (h2 : PySem.W.typeIn K (.ref C) = some (.type "type")) (hn : t ≠ .ref C) (hs : PySem.W.subIn K t (.ref C) = some false) : PySem.W.kitOne K t (.ref C) = some false := by
  have hc : (PySem.W.clsIn K C).isSome = true := h1
  unfold PySem.W.kitOne
  rw [if_neg (by simpa using hn)]
  show (if ((PySem.W.clsIn K C).isSome && PySem.W.typeIn K (.ref C) == some (.type "type")) = true then PySem.W.subIn K t (.ref C) else none) = some false
  rw [hc, h2, hs]
  simp
theorem kitB_of {K : PySem.W.Frag} {C : Addr} (h1 : PySem.W.isClsIn K C = true) (h2 : PySem.W.typeIn K (.ref C) = some (.type "type")) : KitB K C where
  non := kit_sub h1 h2 (by simp) (sub_ty (l := ["NoneType", "object"]) (by decide +kernel))
  bl := kit_sub h1 h2 (by simp) (sub_ty (l := ["bool", "int", "object"]) (by decide +kernel))
  int := kit_sub h1 h2 (by simp) (sub_ty (l := ["int", "object"]) (by decide +kernel))
  str := kit_sub h1 h2 (by simp) (sub_ty (l := ["str", "object"]) (by decide +kernel))
  byt := kit_sub h1 h2 (by simp) (sub_ty (l := ["bytes", "object"]) (by decide +kernel))
  lst := kit_sub h1 h2 (by simp) (sub_ty (l := ["list", "object"]) (by decide +kernel))
  tup := kit_sub h1 h2 (by simp) (sub_ty (l := ["tuple", "object"]) (by decide +kernel))
  dct := kit_sub h1 h2 (by simp) (sub_ty (l := ["dict", "object"]) (by decide +kernel))
theorem kit_pair {K : PySem.W.Frag} {C D : Addr} (h1 : PySem.W.isClsIn K D = true) (h2 : PySem.W.typeIn K (.ref D) = some (.type "type")) (hs : PySem.W.subIn K (.ref C) (.ref D) = some false) (hn : C ≠ D) : PySem.W.kitOne K (.ref C) (.ref D) = some false :=
  kit_sub h1 h2 (fun z => hn (by cases z; rfl)) hs
end DL
set_option autoImplicit false
set_option Elab.async false
set_option linter.all false
set_option maxRecDepth 100000
namespace DL
open PySem L2 Evl
/-! ### an exception is made and let go -/
/-- what its __init__ does: one field, or two -/
def spX1 (K : PySem.W.Frag) (f : Str) : Sp := fun vs H Q _ => ∃ a C y, vs = [.ref a, y] ∧ OexC K C ∧ PySem.W.findIn K (.ref C) f = some none ∧ H a = some (exo a C none) ∧
  ∀ dx, H dx = none → dx ≠ a → Q .non (upd (upd H dx (exd dx [(f, y)])) a (exo a C (some dx)))
def spX2 (K : PySem.W.Frag) (f g : Str) : Sp := fun vs H Q _ => ∃ a C y z, vs = [.ref a, y, z] ∧ OexC K C ∧ PySem.W.findIn K (.ref C) f = some none ∧ PySem.W.findIn K (.ref C) g = some none ∧ H a = some (exo a C none) ∧
  ∀ dx, H dx = none → dx ≠ a → Q .non (upd (upd (upd H dx (exd dx [(f, y)])) a (exo a C (some dx))) dx (exd dx [(g, z), (f, y)]))
theorem spX1_len {K : PySem.W.Frag} {f : Str} : ∀ vs H Q E, spX1 K f vs H Q E → vs.length = 2 := fun vs H Q E h => by
  obtain ⟨a, C, y, rfl, _⟩ := h; rfl
theorem spX2_len {K : PySem.W.Frag} {f g : Str} : ∀ vs H Q E, spX2 K f g vs H Q E → vs.length = 3 := fun vs H Q E h => by
  obtain ⟨a, C, y, z, rfl, _⟩ := h; rfl
theorem bodyX1 {K : PySem.W.Frag} {f n1 n2 : Str} {vs : List V} {H : Hp} {Q : VK} {E : XK} (h : spX1 K f vs H Q E) : tSeq (tOst K f (tVar 0) (tVar 1)) tNext { nx := fun _ H' => Q .non H', rt := Q } (L2.start [n1, n2] vs) H := by
  obtain ⟨a, C, y, rfl, T, hf, ha, k⟩ := h
  exact ⟨y, rfl, _, rfl, a, C, rfl, T, hf, .inl ⟨ha, fun dx hn hd => k dx hn hd⟩⟩
theorem bodyX2 {K : PySem.W.Frag} {f g n1 n2 n3 : Str} {vs : List V} {H : Hp} {Q : VK} {E : XK} (h : spX2 K f g vs H Q E) :
    tSeq (tOst K f (tVar 0) (tVar 1)) (tSeq (tOst K g (tVar 0) (tVar 2)) tNext) { nx := fun _ H' => Q .non H', rt := Q } (L2.start [n1, n2, n3] vs) H := by
  obtain ⟨a, C, y, z, rfl, T, hf, hg, ha, k⟩ := h
  refine ⟨y, rfl, _, rfl, a, C, rfl, T, hf, .inl ⟨ha, fun dx hn hd => ?_⟩⟩
  exact ⟨z, rfl, _, rfl, a, C, rfl, T, hg, .inr ⟨dx, [(f, y)], upd_same, by rw [upd_ne hd, upd_same], by simp, k dx hn hd⟩⟩
def x1 (f : Str) : List D → Option (List (Str × D))
  | [y] => some [(f, y)]
  | _ => none
def x2 (f g : Str) : List D → Option (List (Str × D))
  | [y, z] => some [(g, z), (f, y)]
  | _ => none
/-- raise C(..) -/
def dRz (C : Addr) (mk : List D → Option (List (Str × D))) (da : DA) : DS := fun DD ρ => da ρ (fun ts ρ1 => Opt (vals ts) fun ds => Opt (mk ds) fun fs => DD.er C fs ρ1) DD.er
/-- the heap behind it: the exception itself is gone, its dict stands -/
theorem exc_heap {H : Hp} {a d C : Addr} {o1 o2 : HO} {f : HO} (ha : H a = none) (hn : d ≠ a) : upd (del (upd (upd (upd H a o1) d o2) a (exo a C (some d))) a) d f = upd H d f := by
  funext b
  by_cases hb : b = d
  · rw [hb, upd_same, upd_same]
  · rw [upd_ne hb, upd_ne hb]
    by_cases hc : b = a
    · rw [hc, del_same, ha]
    · rw [del_ne hc, upd_ne hc, upd_ne hb, upd_ne hc]
theorem exc_heap2 {H : Hp} {a d C : Addr} {o1 o2 o3 : HO} {f : HO} (ha : H a = none) (hn : d ≠ a) : upd (del (upd (upd (upd (upd H a o1) d o2) a (exo a C (some d))) d o3) a) d f = upd H d f := by
  funext b
  by_cases hb : b = d
  · rw [hb, upd_same, upd_same]
  · rw [upd_ne hb, upd_ne hb]
    by_cases hc : b = a
    · rw [hc, del_same, ha]
    · rw [del_ne hc, upd_ne hb, upd_ne hc, upd_ne hb, upd_ne hc]
section
variable {K : PySem.W.Frag} {pa : PaG} {W : WX} {ta : TA} {da : DA} {C : Addr} {f g : Str}
theorem ss_raise1 (T : OexC K C) (hf : PySem.W.findIn K (.ref C) f = some none) (ha : SA K pa W ta da) : SS K pa W (fun _ σ H => tMkO C (spX1 K f) [] ta σ H fun cls d H' => W cls d σ H') (dRz C (x1 f) da) := fun F G σ H ρ D DD S h l =>
  ha F G σ H ρ _ _ DD.er S h (fun G1 H1 vs ts ρ1 e1 S1 r1 h1 => by
    obtain ⟨ds, ed, fs, ef, h2⟩ := h1
    have R := vals_reps r1 ed
    cases R with
    | nil => cases ef
    | @cons vy dy _ _ ry R =>
      cases R with
      | cons _ _ => cases ef
      | nil =>
        cases ef
        refine ⟨by simp, fun a hn => ⟨a, C, _, rfl, T, hf, upd_same, fun dx hd hne => ⟨rfl, dx, _, upd_same, by rw [upd_ne hne, upd_same], by rw [upd_ne hne] at hd; exact hd, ?_⟩⟩⟩
        rw [upd_ne hne] at hd
        rw [exc_heap hn hne]
        have al := Al.one (o := .xd [(f, vy)]) S1.ex hd
        exact l.er _ σ _ ρ1 C dx _ _ (e1.trans al.g) (S1.al al) h2 upd_same (.cons (ry.mono al.g) .nil)) (l.xl σ)
theorem ss_raise2 (T : OexC K C) (hf : PySem.W.findIn K (.ref C) f = some none) (hg : PySem.W.findIn K (.ref C) g = some none) (ha : SA K pa W ta da) : SS K pa W (fun _ σ H => tMkO C (spX2 K f g) [] ta σ H fun cls d H' => W cls d σ H') (dRz C (x2 f g) da) := fun F G σ H ρ D DD S h l =>
  ha F G σ H ρ _ _ DD.er S h (fun G1 H1 vs ts ρ1 e1 S1 r1 h1 => by
    obtain ⟨ds, ed, fs, ef, h2⟩ := h1
    have R := vals_reps r1 ed
    cases R with
    | nil => cases ef
    | @cons vy dy _ _ ry R =>
      cases R with
      | nil => cases ef
      | @cons vz dz _ _ rz R =>
        cases R with
        | cons _ _ => cases ef
        | nil =>
          cases ef
          refine ⟨by simp, fun a hn => ⟨a, C, _, _, rfl, T, hf, hg, upd_same, fun dx hd hne => ⟨rfl, dx, _, by rw [upd_ne (Ne.symm hne), upd_same], upd_same, by rw [upd_ne hne] at hd; exact hd, ?_⟩⟩⟩
          rw [upd_ne hne] at hd
          rw [exc_heap2 hn hne]
          have al := Al.one (o := .xd [(g, vz), (f, vy)]) S1.ex hd
          exact l.er _ σ _ ρ1 C dx _ _ (e1.trans al.g) (S1.al al) h2 upd_same (.cons (rz.mono al.g) (.cons (ry.mono al.g) .nil))) (l.xl σ)
end
end DL
set_option autoImplicit false
set_option Elab.async false
set_option linter.all false
set_option maxRecDepth 100000
namespace DL
open PySem L2 Evl PySem.Spec PyProof.Rows
/-! ### try: .. except A as e: .. except B as e: .. -/
/-- behind a clause its name is gone -/
def shut (i : Nat) (D : Ends) : Ends := ⟨fun σ H => D.nx (σ.set i none) H, D.rt, fun σ H => D.bk (σ.set i none) H, fun σ H => D.ct (σ.set i none) H⟩
def wJ (X : Cx) (Wo : WX) (D : Ends) : List ExceptHandler → WX
  | [] => Wo
  | h :: r => fun cls d σ H => ∃ (x n : Str) (c : Value) (i : Nat) (st : Stmt) (su : List Stmt) (p1 p2 : Pos) (b : Bool), h = .ExceptHandler (some (.Name x p1)) (some n) (st :: su) p2 ∧ X.N[i]? = some n ∧ X.env.kindOf n = some .local ∧ Names X x c ∧ PySem.W.exmOne X.K cls c = some b ∧
    (b = true → ∀ (a : Addr) (oe : Obj) (pn : List (Addr × Obj)), H a = none → Zc cls d oe → (∃ vs, oe.data = .fields vs) → ∃ t, PSs (X.suite a ((a, oe) :: pn)) (st :: su) t ∧ t (shut i D) (σ.set i (some (.ref a))) H) ∧ (b = false → wJ X Wo D r cls d σ H)
/-- try, its body read once what is wanted of its exceptions is known -/
def tTryJ (X : Cx) (Wo : WX) (body : List Stmt) (hds : List ExceptHandler) : TS := fun D σ H => ∀ (pn : List (Addr × Obj)) (xe : Value → Shared → Prop), Takes (X.tr pn xe) (wJ X Wo D hds) → PassesOwn (model X.prog X.w) X.A X.env xe → ∃ t, PSs (X.tr pn xe) body t ∧ t D σ H
section
variable {X : Cx} {Wo : WX} {D : Ends} {pins : List (Addr × Obj)} {τ : RSt} {H : Hp} {a : Addr} {B g : Heap} {cls : Value} {d : Option Addr} {t u : Shared}
/-- the caught exception is no frame -/
theorem caught_out {o : Obj} {vs : Array Value} (hf : X.env.frame = some X.env.locals) (ff : g.FunFrames B (X.env :: X.outer)) (ha : g.get? a = some o) (hd : o.data = .fields vs) : a ≠ X.env.locals ∧ a ∉ X.fs := by
  have key : a ∉ frs (X.env :: X.outer) := fun m => by
    obtain ⟨_, o2, e2, no⟩ := ff.mem m
    rw [ha] at e2
    cases e2
    exact no _ hd
  constructor
  · intro z; subst z
    exact key (List.mem_filterMap.mpr ⟨X.env, List.mem_cons_self, hf⟩)
  · intro m
    obtain ⟨e, m1, m2⟩ := List.mem_filterMap.mp m
    exact key (List.mem_filterMap.mpr ⟨e, List.mem_cons_of_mem _ m1, m2⟩)
theorem names_go (hs : X.stack = X.env :: X.outer) (hf : X.env.frame = some X.env.locals) (hN : X.N.Nodup) (tk : Takes X Wo) (J : Inv X pins τ H t) (nb : ∀ b o, t.heap.get? b = some o → b ∉ frs X.stack → B.get? b = some o) (up : t.heap.UpToSlots g)
    (fl : HandSPX.FlyingZ B (X.env :: X.outer) a (Zc cls d) g) (na : H a = none) (os : u.os = t.os) (ag : AllBare u.gens) :
    ∀ {hds : List ExceptHandler}, wJ X Wo D hds cls d τ H → wpAny (model X.prog X.w) X.A (handleBy (.ref a) X.env hds) (SP X pins D) X.xe { u with heap := g } := by
  have J1 : Inv X pins τ H { u with heap := g } := J.landed nb fl.1 up os ag
  obtain ⟨o1, v1, x1, y1, z1⟩ := fl.there
  obtain ⟨nl, nf⟩ := caught_out hf fl.2.2.1 x1 z1
  intro hds
  induction hds with
  | nil =>
    intro w
    obtain ⟨-, -, -, oe, vs, T, oT, us, q1, q2, q3, q4, -⟩ := id fl
    have out : wpAny (model X.prog X.w) X.A (setFlight (.ref a) X.env.frame) (fun _ s4 => wpAny (model X.prog X.w) X.A (throw (.ref a) : Sem Flow) (SP X pins D) X.xe s4) X.xe { u with heap := g } :=
      hf ▸ HandSPX.setFlight_upZ fl fun h4 hh4 up4 => wpAny_throw (tk _ _ ⟨a, B, t, pins, τ, H, cls, d, rfl, J, nb, up.trans up4, .inr (.inr (hs ▸ hh4)), na, os, ag, w⟩)
    refine wpAny_handleBy_nil ?_
    unfold PySem.passOn
    refine wpAny_bind (wpAny_field q1 q3 q4 (by
      rw [if_neg (by simp)]
      first | exact wpAny_bind (wpAny_pure (wpAny_bind out)) | exact wpAny_bind out))
  | cons hd hds ih =>
    intro w
    obtain ⟨x, n, c, i, st, su, p1, p2, b, rfl, hi, hk, hc, eb, hy, hn⟩ := w
    have S1 := J1.suite x1 z1 na nl nf
    have ty : PySem.W.Looks (model X.prog X.w) g (typeOf (.ref a)) cls := fun A Q E s k q => wpAny_typeOf_ref (k _ _ x1) (by rw [y1.1]; exact q)
    have look : ∀ {Q : Value → Shared → Prop} {E : Value → Shared → Prop}, Q c { u with heap := g } → wpAny (model X.prog X.w) (X.A.mark (some (.ref a))) (eval (.Name x p1) X.env) Q E { u with heap := g } := fun {Q E} q => by
      obtain ⟨c1, c2, c3⟩ := hc
      rcases c3 with c3 | ⟨c3, c4, c5⟩
      · exact ld_glob (X := X.suite a ((a, o1) :: (X.pn ++ pins))) S1 c1 c3 q c2
      · exact ld_blt (X := X.suite a ((a, o1) :: (X.pn ++ pins))) S1 c1 c3 c4 q c5 c2
    refine wpAny_handleBy_cons (codeAny_handlers_test (look ((PySem.W.exm_one (M := model X.prog X.w) J1.kIn ty eb).here ?_))) fun q => by cases q
    cases b with
    | false => exact ih (hn rfl)
    | true =>
      refine codeAny_handlers_suite_as (HandSPX.lands_againZ fl fun g2 fl2 up2 => ?_)
      have J2 : Inv X pins τ H { u with heap := g2 } := J.landed nb fl2.1 (up.trans up2) os ag
      obtain ⟨o2, v2, x2, y2, z2⟩ := fl2.there
      refine store_ok (X := X.suite a ((a, o2) :: (X.pn ++ pins))) (v := .ref a) (J2.suite x2 z2 na nl nf) hN hi (.inl hk) rfl (fun s5 S5 => ?_) (.inr hk)
      obtain ⟨ts, hsu, hts⟩ := hy rfl a o2 (X.pn ++ pins) na y2 ⟨_, z2⟩
      refine wpAny_mono (hsu.run [] s5 _ H _ S5 hts) (fun f s6 r6 => ?_) (fun _ _ z => z.elim)
      have fin : ∀ {τ6 : RSt} {H6 : Hp} {Q : Shared → Prop}, Inv (X.suite a ((a, o2) :: (X.pn ++ pins))) [] τ6 H6 s6 → (∀ s7, Inv X pins (τ6.set i none) H6 s7 → Q s7) →
          wpAny (model X.prog X.w) X.A (do bindName X.env n .none; unbindBehindTheSuite X.env n p2) (fun _ s7 => Q s7) X.xe s6 := fun {τ6 H6 Q} I6 q => gone_ok (I6.unsuite J.ok) hN hi hk q
      cases f with
      | ret v =>
        obtain ⟨v6, τ6, H6, I6, q6, k6⟩ := r6
        exact fin I6 fun s7 J7 => ⟨_, _, _, J7, q6, k6⟩
      | next => obtain ⟨τ6, H6, I6, k6⟩ := r6; exact fin I6 fun s7 J7 => ⟨_, _, J7, k6⟩
      | brk => obtain ⟨τ6, H6, I6, k6⟩ := r6; exact fin I6 fun s7 J7 => ⟨_, _, J7, k6⟩
      | cont => obtain ⟨τ6, H6, I6, k6⟩ := r6; exact fin I6 fun s7 J7 => ⟨_, _, J7, k6⟩
theorem ps_tryJ {body : List Stmt} {h0 : ExceptHandler} {hds : List ExceptHandler} {pos : Pos} (hs : X.stack = X.env :: X.outer) (hf : X.env.frame = some X.env.locals) (hN : X.N.Nodup) (tk : Takes X Wo) : PS X (.Try body (h0 :: hds) [] [] pos) (tTryJ X Wo body (h0 :: hds)) := by
  refine ⟨fun pins s σ H D I h => wpAny_Try_except ?_⟩
  obtain ⟨t, ht, h⟩ := h (X.pn ++ pins) (fun e s₁ => wpAny (model X.prog X.w) X.A (noteFrame e X.env) (fun _ s₂ => wpAny (model X.prog X.w) X.A (setFlight e none) (fun _ s₃ => wpAny (model X.prog X.w) X.A (handleBy e X.env (h0 :: hds)) (SP X pins D) X.xe s₃) X.xe s₂) X.xe s₁)
    (fun v s' xx => by
      obtain ⟨a, B, t, pins', τ, H', cls, d, rfl, J', nb, up, sky, na, os, ag, w⟩ := xx
      have J : Inv X pins τ H' t := J'.ofTry I.ok
      exact Sky.land Zc.steady (by rw [I.ok.frames, hs]) hf (hs ▸ sky) fun h3 fl3 up3 => names_go hs hf hN tk J nb (up.trans up3) fl3 na os ag w) PassesOwn.looking
  refine wpAny_mono (ht.run [] s σ H D (I.toTry _) h) (fun f s1 q => ?_) fun e s1 z => z
  cases f with
  | ret v => obtain ⟨w, τ, H', J', r, k⟩ := q; exact ⟨w, τ, H', J'.ofTry I.ok, r, k⟩
  | next => obtain ⟨τ, H', J', k⟩ := q; exact wpAny_execs_nil ⟨τ, H', J'.ofTry I.ok, k⟩
  | brk => obtain ⟨τ, H', J', k⟩ := q; exact ⟨τ, H', J'.ofTry I.ok, k⟩
  | cont => obtain ⟨τ, H', J', k⟩ := q; exact ⟨τ, H', J'.ofTry I.ok, k⟩
end
end DL
set_option autoImplicit false
set_option Elab.async false
set_option linter.all false
set_option maxRecDepth 100000
namespace DL
open PySem L2 Evl
/-! ### try as data -/
abbrev DSui := Addr → Addr → List (Str × D) → DS
def shutD (i : Nat) (DD : Do) : Do := ⟨fun ρ => DD.nx (ρ.set i .no), DD.rt, DD.rf, fun ρ => DD.bk (ρ.set i .no), fun ρ => DD.ct (ρ.set i .no), fun _ _ _ => False⟩
def erH (K : PySem.W.Frag) (DD : Do) : List (Value × Nat × DSui) → ER
  | [] => DD.er
  | h :: r => fun C fs ρ => Opt (PySem.W.exmOne K (.ref C) h.1) fun b => if b = true then isPar ρ h.2.1 = false ∧ ∀ a, h.2.2 a C fs (shutD h.2.1 DD) (ρ.set h.2.1 (.val (.ptr a))) else erH K DD r C fs ρ
def dTry (K : PySem.W.Frag) (b : DS) (hs : List (Value × Nat × DSui)) : DS := fun DD ρ => b { DD with er := erH K DD hs } ρ
/-- .. from which nothing is let out -/
def dTry0 (K : PySem.W.Frag) (b : DS) (hs : List (Value × Nat × DSui)) : DS := fun DD ρ => b { DD with er := erH K { DD with er := fun _ _ _ => False } hs } ρ
inductive HdJ (X : Cx) (K : PySem.W.Frag) : List ExceptHandler → List (Value × Nat × DSui) → Prop
  | nil : HdJ X K [] []
  | cons {x n : Str} {c : Value} {i : Nat} {st : Stmt} {su : List Stmt} {p1 p2 : Pos} {s : DSui} {hds : List ExceptHandler} {l : List (Value × Nat × DSui)} (hi : X.N[i]? = some n) (hk : X.env.kindOf n = some .local) (hc : Names X x c)
      (h : ∀ (a : Addr) (oe : Obj) (C dd : Addr) (pn : List (Addr × Obj)) (fs : List (Str × D)) (vs : List (Str × V)) (G : Hp), Zc (.ref C) (some dd) oe → (∃ vs, oe.data = .fields vs) → G dd = some (.xd vs) → RepF K G vs fs →
        ∃ t, PSs (X.suite a ((a, oe) :: pn)) (st :: su) t ∧ ∀ f, SS K ⟨f, G⟩ (fun _ _ _ _ => False) t (s a C fs)) (r : HdJ X K hds l) : HdJ X K (.ExceptHandler (some (.Name x p1)) (some n) (st :: su) p2 :: hds) ((c, i, s) :: l)
section
variable {K : PySem.W.Frag} {pa : PaG} {W : WX} {F G G' H H' : Hp} {σ : RSt} {ρ : Ro} {D : Ends} {DD : Do}
theorem Sim.know (S : Sim K pa F G σ H ρ) {g : Hp} (e : Ex g G) : Sim K ⟨pa.f, g⟩ F G σ H ρ := ⟨S.len, S.ex, S.fx, S.dj, S.val, S.own, S.ofr, S.par, e, S.dis⟩
theorem Sim.unknow {g : Hp} (S : Sim K ⟨pa.f, g⟩ F G σ H ρ) (e : Ex pa.g g) : Sim K pa F G σ H ρ := ⟨S.len, S.ex, S.fx, S.dj, S.val, S.own, S.ofr, S.par, e.trans S.gx, S.dis⟩
theorem Sim.clear (S : Sim K pa F G σ H ρ) (i : Nat) : Sim K pa F G (σ.set i none) H (ρ.set i .no) := S.wipeTo (vs := [i]) (wipe_set List.mem_cons_self).symm
theorem er_hs {X : Cx} {l : List ExceptHandler} {hs : List (Value × Nat × DSui)} {C d : Addr} {vs : List (Str × V)} {fs : List (Str × DL.D)} (hK : X.K = K) (hh : HdJ X K l hs) (k : Lk K pa F W G D DD) (e : Ex G G') (S : Sim K pa F G' σ H' ρ) (h1 : G' d = some (.xd vs)) (h2 : RepF K G' vs fs) :
    erH K DD hs C fs ρ → wJ X W D l (.ref C) (some d) σ H' := by
  induction hh with
  | nil => exact fun q => k.er G' σ H' ρ C d vs fs e S q h1 h2
  | @cons x n c i st su p1 p2 s hds l hi hk hc h r ih =>
    intro q
    obtain ⟨b, eb, q⟩ := q
    refine ⟨x, n, c, i, st, su, p1, p2, b, rfl, hi, hk, hc, hK ▸ eb, fun hb a oe pn na hz hf => ?_, fun hb => ?_⟩
    · rw [if_pos hb] at q
      obtain ⟨t, ht, hs⟩ := h a oe C d pn fs vs G' hz hf h1 h2
      refine ⟨t, ht, hs pa.f F G' _ H' _ (shut i D) (shutD i DD) ((S.store q.1 (.ptr a)).know (Ex.refl G')) (q.2 a) ?_⟩
      have un : ∀ {G2 H2 : Hp} {σ2 : RSt} {ρ2 : Ro}, Sim K ⟨pa.f, G'⟩ F G2 σ2 H2 ρ2 → Sim K pa F G2 σ2 H2 ρ2 := fun S2 => S2.unknow S.gx
      exact ⟨fun G2 σ2 H2 ρ2 e2 S2 z => k.nx G2 _ H2 _ (e.trans e2) ((un S2).clear i) z, fun G2 σ2 H2 ρ2 e2 S2 z => k.bk G2 _ H2 _ (e.trans e2) ((un S2).clear i) z, fun G2 σ2 H2 ρ2 e2 S2 z => k.ct G2 _ H2 _ (e.trans e2) ((un S2).clear i) z,
        fun G2 σ2 H2 ρ2 v t e2 S2 z1 z => k.rt G2 σ2 H2 ρ2 v t (e.trans e2) (un S2) z1 z, fun G2 σ2 H2 ρ2 p d e2 S2 z1 z2 z3 z => k.rf G2 σ2 H2 ρ2 p d (e.trans e2) (un S2) z1 z2 z3 z, fun _ _ _ _ _ _ _ _ _ _ z => z.elim⟩
    · rw [if_neg (by rw [hb]; decide)] at q
      exact ih q
theorem ss_tryJ {X : Cx} {body : List Stmt} {l : List ExceptHandler} {hs : List (Value × Nat × DSui)} {db : DS} (hK : X.K = K)
    (hb : ∀ (W : WX) (pn : List (Addr × Obj)) (xe : Value → Shared → Prop), Takes (X.tr pn xe) W → PassesOwn (model X.prog X.w) X.A X.env xe → ∃ t, PSs (X.tr pn xe) body t ∧ ∀ pa, SS K pa W t db) (hh : HdJ X K l hs) : SS K pa W (tTryJ X W body l) (dTry K db hs) := fun F G σ H ρ D DD S h k pn xe tk po => by
  obtain ⟨t, ht, q⟩ := hb _ pn xe tk po
  exact ⟨t, ht, q pa F G σ H ρ D _ S h ⟨k.nx, k.bk, k.ct, k.rt, k.rf, fun G' σ' H' ρ' C d vs fs e S' q h1 h2 => er_hs hK hh k e S' h1 h2 q⟩⟩
theorem ss_tryJ0 {X : Cx} {body : List Stmt} {l : List ExceptHandler} {hs : List (Value × Nat × DSui)} {db : DS} (hK : X.K = K)
    (hb : ∀ (W : WX) (pn : List (Addr × Obj)) (xe : Value → Shared → Prop), Takes (X.tr pn xe) W → PassesOwn (model X.prog X.w) X.A X.env xe → ∃ t, PSs (X.tr pn xe) body t ∧ ∀ pa, SS K pa W t db) (hh : HdJ X K l hs) : SS K pa W (tTryJ X (fun _ _ _ _ => False) body l) (dTry0 K db hs) := fun F G σ H ρ D DD S h k pn xe tk po => by
  obtain ⟨t, ht, q⟩ := hb _ pn xe tk po
  have k0 : Lk K pa F (fun _ _ _ _ => False) G D { DD with er := fun _ _ _ => False } := ⟨k.nx, k.bk, k.ct, k.rt, k.rf, fun _ _ _ _ _ _ _ _ _ _ z => z.elim⟩
  exact ⟨t, ht, q pa F G σ H ρ D _ S h ⟨k.nx, k.bk, k.ct, k.rt, k.rf, fun G' σ' H' ρ' C d vs fs e S' q h1 h2 => er_hs hK hh k0 e S' h1 h2 q⟩⟩
end
/-! ### in a suite: e.f, isinstance(e, C) -/
theorem RepF.lookup_at {K : PySem.W.Frag} {G : Hp} {f : Str} {d : D} : ∀ {vs : List (Str × V)} {ds : List (Str × D)}, RepF K G vs ds → ds.lookup f = some d → ∃ v, vs.lookup f = some v ∧ Rep K G v d
  | _, _, .nil, h => by cases h
  | _, _, .cons (k := k) (v := v) (d := e) (vs := vs) (ds := ds) r rr, h => by
    rw [List.lookup_cons] at h ⊢
    cases hk : (f == k) with
    | true => rw [hk] at h; cases h; exact ⟨v, rfl, r⟩
    | false => rw [hk] at h; exact RepF.lookup_at rr h
def dXf (C0 a C : Addr) (fs : List (Str × D)) (f : Str) (de : DE) : DE := fun ρ q er => de ρ (fun t ρ1 => Opt (rd ρ1 t) fun x => x = .ptr a ∧ C = C0 ∧ Opt (fs.lookup f) fun z => q (.val z) ρ1) er
/-- what isinstance asks of an exception's class -/
structure XcC (K : PySem.W.Frag) (C : Addr) : Prop where
  xf : XfC K C
  ha : PySem.W.findIn K (.ref C) "__class__" = some (some (.builtin "object.__class__"))
  hm : PySem.W.mroIn K C (.type "object") = some true
def rIsX (K : PySem.W.Frag) (a : Addr) (cls : Value) (d : Option Addr) : List V → Hp → VK → Prop := fun xs H Q => ∃ (C dd : Addr) (fs : List (Str × V)) (c : V) (cv : Value) (b : Bool),
  cls = .ref C ∧ d = some dd ∧ XcC K C ∧ IsiK K ∧ xs = [.ref a, c] ∧ ClsV c cv ∧ H dd = some (.xd fs) ∧ PySem.W.kitOne K (.ref C) cv = some b ∧ Q (.bl b) H
theorem call_isX {X : Cx} {a : Addr} {oe : Obj} {pn : List (Addr × Obj)} {cls : Value} {d : Option Addr} (hz : Zc cls d oe) (hf : ∃ vs, oe.data = .fields vs) : CallR (X.suite a ((a, oe) :: pn)) (.builtin "isinstance") (rIsX X.K a cls d) := by
  intro pins s σ H xs us Q I r h
  obtain ⟨C, dd, fs, c, cv, b, rfl, rfl, T, T0, rfl, hcv, hd, e, q⟩ := h
  cases r with
  | cons rx rr =>
    cases rr with
    | cons rt rr =>
      cases rr
      cases rx
      obtain ⟨hget, _⟩ := I.pin (a, oe) (List.mem_append.mpr (.inl List.mem_cons_self))
      obtain ⟨vs, hv⟩ := hf
      have hx : ObjOk X.prog X.w H s.heap dd (.xd fs) := I.hok dd _ hd
      obtain ⟨mA, hns, _⟩ := hx
      obtain ⟨od, ho, _⟩ := lookIn_ns hns
      have J : PySem.W.InstAt s.heap a oe C (some od) := ⟨hget, hz.1, by unfold PySem.W.notCls; rw [hv] <;> rfl, by rw [hz.2]; exact ho⟩
      obtain ⟨cd, hc, _⟩ := PySem.W.any_some T.xf.hdC
      obtain rfl := hcv.eq rt
      exact PySem.W.kia_one (PySem.W.kitx_exc (by rw [hc]; rfl) T.xf.ga T.xf.gg T.xf.exC T.ha T0.hn T0.htk T.hm) I.kIn J e (fun z => nomatch z) fun tk => ⟨.bl b, H, I.kept (t' := tk) fun _ _ z => z, rfl, q⟩
def dIsX (K : PySem.W.Frag) (Cs : List Addr) (a C : Addr) (de dc : DE) : DE := fun ρ q er => de ρ (fun t ρ1 => dc ρ1 (fun u ρ2 => Opt (rd ρ2 t) fun x => Opt (rd ρ2 u) fun c => x = .ptr a ∧ C ∈ Cs ∧ Opt c.clV fun cv => Opt (PySem.W.kitOne K (.ref C) cv) fun b => q (.val (.bl b)) ρ2) er) er
section
variable {K : PySem.W.Frag} {pa : PaG} {W : WX} {te tc : TE} {de dc : DE} {a C dd : Addr} {fs : List (Str × D)} {vs : List (Str × V)} {Cs : List Addr} {f : Str} {C0 : Addr}
theorem se_xf (h1 : pa.g dd = some (.xd vs)) (h2 : RepF K pa.g vs fs) (he : SE K pa W te de) : SE K pa W (tXf a (.ref C) (some dd) C0 f te) (dXf C0 a C fs f de) := fun F G σ H ρ Q q er S h k x =>
  he F G σ H ρ _ _ er S h (fun G1 H1 v t ρ1 e1 S1 r1 h3 => by
    obtain ⟨z, ez, rfl, rfl, y, ey, h3⟩ := h3
    obtain ⟨w, l, rw1⟩ := h2.lookup_at ey
    exact ⟨(S1.rdT r1 ez).ptr, rfl, dd, vs, w, rfl, S1.ex _ _ (S1.gx _ _ h1), l, k G1 H1 w (.val y) ρ1 e1 S1 (rw1.mono S1.gx) h3⟩) x
theorem se_isX (h1 : pa.g dd = some (.xd vs)) (hK : IsiK K) (hC : ∀ C ∈ Cs, XcC K C) (he : SE K pa W te de) (hc : SE K pa W tc dc) : SE K pa W (tCB (rIsX K a (.ref C) (some dd)) (tCons te (tCons tc tNil))) (dIsX K Cs a C de dc) := fun F G σ H ρ Q q er S h k x =>
  he F G σ H ρ _ _ er S h (fun G1 H1 v t ρ1 e1 S1 r1 h1' => hc F G1 σ H1 ρ1 _ _ er S1 h1' (fun G2 H2 w u ρ2 e2 S2 r2 h2 => by
    obtain ⟨z, ez, c, ec, rfl, hm, cv, ecv, b, eb, h3⟩ := h2
    have ev := (S2.rdT (r1.mono e2) ez).ptr
    subst ev
    exact ⟨C, dd, vs, w, cv, b, rfl, rfl, hC C hm, hK, rfl, clV_of (S2.rdT r2 ec) ecv, S2.ex _ _ (S2.gx _ _ h1), eb, k G2 H2 _ (.val _) ρ2 (e1.trans e2) S2 (.bl b) h3⟩) (x.grow e1)) x
end
/-! ### calls that may let something out -/
def hot (dsp : DSp) : DSp := dsp
section
variable {X : Cx} {CX : CXT} {k : Nat} {f C : Addr} {fd : FuncData} {ps : List Str} {sp : Sp} {E : RSt → XK} {te tc : TE} {a b : Expr} {pos : Pos}
theorem run_subS {A : Around} {pins : List (Addr × Obj)} {σ : RSt} {H : Hp} {s : Shared} {Q : VK} {us : List Value} {vs : List V} {E : XK} (F : FnOk X.prog X.w X.K X.mg X.base CX k f fd ps sp) (hr : Room k A) (hA : A.frames = X.A.frames) (hb : Binds X.K fd ps []) (hx : PassesAt CX X σ E)
    (I : Inv X pins σ H s) (r : Vals vs us) (h : sp vs H Q E) : wpAny (model X.prog X.w) A (call (.ref f) us) (EP X pins σ Q) X.xe s := by
  have hl : us.length = ps.length := by rw [← r.length]; exact F.len _ _ _ _ h
  have e0 : Env0 X.prog X.w X.K X.mg X.base A X.stack s H := ⟨by rw [hA]; exact I.env0.frames, I.env0.mod, I.env0.bs, I.env0.bsz, I.env0.funs, I.env0.frf, I.env0.hok, I.env0.bare⟩
  refine wpAny_call (codeAny_mono (F.run A X.stack s H ⟨us, []⟩ us vs Q E hr e0 (by have z := hb s us I.kIn (by simpa using hl); simpa using z) r h) fun r s' hq => ?_)
  cases r with
  | error e => exact hx pins H s e s' I hq
  | ok fl =>
    cases fl with
    | ret u => exact I.after hq
    | next => exact False.elim hq
    | brk => exact False.elim hq
    | cont => exact False.elim hq
def tBinS (C : Addr) (sp : Sp) (E : RSt → XK) (ta tb : TE) : TE := fun σ H Q => ta σ H fun x H1 => tb σ H1 fun y H2 => rBinO C sp (E σ) x y H2 Q
theorem pe_binS {op : Operator} {nm : Str} (hop : PySem.dunder op.info.2 = nm) (M : Spec1 X.K C nm f) (hc : PySem.W.selfFirst X.K C = true) (F : FnOk X.prog X.w X.K X.mg X.base CX k f fd ps sp) (hr : Room k X.A) (hb : Binds X.K fd ps []) (hx : ∀ σ, PassesAt CX X σ (E σ))
    (h1 : PE X a te) (h2 : PE X b tc) : PE X (.BinOp a op b pos) (tBinS C sp E te tc) := by
  refine ⟨fun pins s σ H Q I h => wpAny_BinOp (binT h1 h2 I h fun v u s2 x y H2 I2 rx ry q => ?_)⟩
  obtain ⟨a, dx, fs, c, dy, gs, rfl, ha, rfl, hc2, h⟩ := q
  have hv : v = Value.ref a := rx
  subst hv
  have hu : u = Value.ref c := ry
  subst hu
  obtain ⟨mA, J, _⟩ := ins_get I2.hok ha
  obtain ⟨od, J, _⟩ := J.look
  obtain ⟨mB, J2, _⟩ := ins_get I2.hok hc2
  obtain ⟨od2, J2, _⟩ := J2.look
  obtain ⟨m, hF⟩ := I2.fr
  refine PySem.W.binop_K (op := op) hF I2.ok.mod.kin J J2.type hc (by rw [hop]; exact M.hs) M.hf ?_
  refine wpAny_mono (run_subS F hr rfl hb (hx σ) I2 (vs := [V.ref a, V.ref c]) (.cons (show RelV (V.ref a) (Value.ref a) from rfl) (.cons (show RelV (V.ref c) (Value.ref c) from rfl) .nil)) h) (fun r s1 q => ?_) fun _ _ z => z
  obtain ⟨w, H1, I1, rw1, q⟩ := q
  exact SlX.cmpback rw1 ⟨w, H1, I1, rw1, q⟩
theorem passE {E : XK} (tk : Takes X (fun cls d _ H => E cls d H)) : Passes (L2.CX X.prog X.w) X E := passes_call tk fun _ _ _ _ h => h
end
def dBinS (C : Addr) (dsp : DSp) (da db : DE) : DE := fun ρ q er => da ρ (fun t ρ1 => db ρ1 (fun u ρ2 => Opt (rd ρ2 t) fun d => d.insOf C = true ∧ Opt (rd ρ2 u) fun y => y.insOf C = true ∧ Opt (argsOf ρ2 [t, u]) fun av => (bors [t, u]).Nodup ∧
  hot dsp av (fun r os => q (.val r) (putOuts ρ2 (bors [t, u]) os)) (fun C' fs os => er C' fs (putOuts ρ2 (bors [t, u]) os))) er) er
section
variable {K : PySem.W.Frag} {pa : PaG} {W : WX} {te tc : TE} {dx dc : DE} {ta : TA} {da : DA} {C : Addr} {dsp : DSp} {n : Nat}
theorem se_binS (hx : SE K pa W te dx) (hc : SE K pa W tc dc) : SE K pa W (tBinS C (SpV K 2 dsp) (WE W) te tc) (dBinS C dsp dx dc) := fun F G σ H ρ Q q er S h k x =>
  hx F G σ H ρ _ _ er S h (fun G1 H1 v t ρ1 e1 S1 r1 h1 => hc F G1 σ H1 ρ1 _ _ er S1 h1 (fun G2 H2 w u ρ2 e2 S2 r2 h2 => by
    obtain ⟨d, ed, hi, y, ey, hi2, av, ea, nd, hd⟩ := h2
    obtain ⟨a, dx, fs, rfl, ha⟩ := insOf_at S2.ex (S2.rdT (r1.mono e2) ed) hi
    obtain ⟨c, dy, gs, rfl, hc⟩ := insOf_at S2.ex (S2.rdT r2 ey) hi2
    refine ⟨a, dx, fs, c, dy, gs, rfl, ha, rfl, hc, ?_⟩
    exact call_core S2 (.cons (r1.mono e2) (.cons r2 .nil)) ea nd rfl hd (fun G3 H3 v3 d3 os e3 S3 rv hq => k G3 H3 v3 (.val d3) _ ((e1.trans e2).trans e3) S3 rv hq)
      (fun G3 H3 C3 y3 fv fs3 os e3 S3 z1 z2 hq => x G3 H3 _ C3 y3 fv fs3 ((e1.trans e2).trans e3) S3 hq z1 z2)) (x.grow e1)) x
theorem se_callH (ha : SA K pa W ta da) : SE K pa W (tCallS (SpV K n dsp) (WE W) ta) (dCall (hot dsp) (dN n da)) := se_callS ha
theorem sf_callH (ha : SA K pa W ta da) : SF K pa W (tCallS (SpF K n dsp) (WE W) ta) (dCallF (hot dsp) (dN n da)) := sf_callS ha
theorem sf_makeH {E : XK} (ha : SA K pa (fun cls d _ H => E cls d H) ta da) : SF K pa (fun cls d _ H => E cls d H) (tMake C (SpV K (n + 1) dsp) [] E ta) (dMake C (hot dsp) (dN n da)) := by
  have e : tMake C (SpV K (n + 1) dsp) [] E ta = tMakeS C (SpV K (n + 1) dsp) (WE fun cls d _ H => E cls d H) ta := by
    funext σ H Q
    unfold tMake tMakeS
    simp only [List.append_nil]
  rw [e]
  exact sf_makeS ha
end
/-! ### rows -/
section
variable {K : PySem.W.Frag} {b : DS} {hs : List (Value × Nat × DSui)} {nx bk ct : Ro → Prop} {rt : T → Ro → Prop} {rf : D → Ro → Prop} {er : ER} {ρ : Ro} {c : Value} {i : Nat} {s : DSui} {C : Addr} {fs : List (Str × D)}
theorem w_try : dTry K b hs ⟨nx, rt, rf, bk, ct, er⟩ ρ = b ⟨nx, rt, rf, bk, ct, erH K ⟨nx, rt, rf, bk, ct, er⟩ hs⟩ ρ := rfl
theorem w_try0 : dTry0 K b hs ⟨nx, rt, rf, bk, ct, er⟩ ρ = b ⟨nx, rt, rf, bk, ct, erH K ⟨nx, rt, rf, bk, ct, fun _ _ _ => False⟩ hs⟩ ρ := rfl
theorem erH_nil : erH K ⟨nx, rt, rf, bk, ct, er⟩ [] C fs ρ = er C fs ρ := rfl
theorem erH_cons : erH K ⟨nx, rt, rf, bk, ct, er⟩ ((c, i, s) :: hs) C fs ρ = Opt (PySem.W.exmOne K (.ref C) c) fun b => if b = true then isPar ρ i = false ∧ ∀ a, s a C fs (shutD i ⟨nx, rt, rf, bk, ct, er⟩) (ρ.set i (.val (.ptr a))) else erH K ⟨nx, rt, rf, bk, ct, er⟩ hs C fs ρ := rfl
theorem shutD_mk : shutD i ⟨nx, rt, rf, bk, ct, er⟩ = ⟨fun ρ => nx (ρ.set i .no), rt, rf, fun ρ => bk (ρ.set i .no), fun ρ => ct (ρ.set i .no), fun _ _ _ => False⟩ := rfl
theorem hot_run (dsp : DSp) (av : List Sl) (q : D → List D → Prop) (er : Addr → List (Str × D) → List D → Prop) : hot dsp av q er = Run dsp av q er := rfl
theorem x1_mk {f : Str} {y : D} : x1 f [y] = some [(f, y)] := rfl
theorem x2_mk {f g : Str} {y z : D} : x2 f g [y, z] = some [(g, z), (f, y)] := rfl
theorem w_rz {mk : List D → Option (List (Str × D))} {da : DA} : dRz C mk da ⟨nx, rt, rf, bk, ct, er⟩ ρ = da ρ (fun ts ρ1 => Opt (vals ts) fun ds => Opt (mk ds) fun fs => er C fs ρ1) er := rfl
end
/-! ### facts of classes -/
theorem kit_subT {K : PySem.W.Frag} {C : Addr} {t : Value} {b : Bool} (h1 : PySem.W.isClsIn K C = true) (h2 : PySem.W.typeIn K (.ref C) = some (.type "type")) (hn : t ≠ .ref C) (hs : PySem.W.subIn K t (.ref C) = some b) : PySem.W.kitOne K t (.ref C) = some b := by
  have hc : (PySem.W.clsIn K C).isSome = true := h1
  unfold PySem.W.kitOne
  rw [if_neg (by simpa using hn)]
  show (if ((PySem.W.clsIn K C).isSome && PySem.W.typeIn K (.ref C) == some (.type "type")) = true then PySem.W.subIn K t (.ref C) else none) = some b
  rw [hc, h2, hs]
  simp
end DL
set_option autoImplicit false
set_option Elab.async false
set_option linter.all false
set_option maxRecDepth 100000
set_option maxHeartbeats 2000000
namespace DL
open PySem L2 Evl PySem.Spec PyProof.Rows
/-! ### exceptions as values -/
/-- at a: an exception of the class at C with these fields -/
def ExAt (H : Hp) (a C : Addr) (vs : List (Str × V)) : Prop := (∃ d, H a = some (exo a C (some d)) ∧ H d = some (exd d vs)) ∨ (H a = some (ExO (.ref C) a) ∧ vs = [])
section
variable {X : Cx} {pins : List (Addr × Obj)} {σ : RSt} {H : Hp} {s : Shared} {a C : Addr} {vs : List (Str × V)}
theorem ex_inst (I : Inv X pins σ H s) (h : ExAt H a C vs) : ∃ ox od, PySem.W.InstAt s.heap a ox C od ∧ (∀ (f : Str) (v : V), vs.lookup f = some v → ∃ o u, od = some o ∧ PySem.W.lookIn f o = some (some u) ∧ RelV v u) ∧ ∀ f : Str, vs.lookup f = none → PySem.W.shadowIn od f = some false := by
  rcases h with ⟨d, h1, h2⟩ | ⟨h1, rfl⟩
  · obtain ⟨t1, g1⟩ := exo_at I.hok h1
    obtain ⟨mA, g2, rel⟩ := exd_at I.hok h2
    obtain ⟨o, g3, g4⟩ := lookIn_ns g2
    refine ⟨_, some o, ⟨g1, rfl, rfl, g3⟩, fun f v hv => ?_, fun f hf => ?_⟩
    · have r := rel f
      rw [hv] at r
      obtain ⟨u, hu, ru⟩ := RelO.some_of (v := v) (o := mA f) r
      exact ⟨o, u, rfl, by rw [g4, hu], ru⟩
    · have r := rel f
      rw [hf] at r
      show (PySem.W.lookIn f o).map (·.isSome) = some false
      rw [g4, RelO.none_of r]
      rfl
  · obtain ⟨⟨oe, ws, g1, g2, g3, -⟩, _, _⟩ := I.hok a _ h1
    refine ⟨oe, none, ⟨g1, g2.1, by unfold PySem.W.notCls; rw [g3] <;> rfl, by rw [g2.2]; trivial⟩, fun f v hv => (by cases hv), fun f _ => rfl⟩
end
/-! making -/
def tMkV (C : Addr) (sp : Sp) (ta : TA) : TE := fun σ H Q => ta σ H fun vs H1 => vs.length ≤ 1000 ∧ ∀ a, H1 a = none → sp (.ref a :: vs) (upd H1 a (exo a C none)) (fun v H2 => v = .non ∧ Q (.ref a) H2) (fun _ _ _ => False)
def tMk0 (C : Addr) : TE := fun _ H Q => ∀ a, H a = none → Q (.ref a) (upd H a (ExO (.ref C) a))
section
variable {X : Cx} {e : Expr} {es : List Expr} {ta : TA} {p pos : Pos}
theorem pe_mkV {CX : CXT} {x : Str} {C fI : Addr} {k : Nat} {fd : FuncData} {ps : List Str} {sp : Sp} (T : OexC X.K C) (iC : PySem.W.findIn X.K (.ref C) "__init__" = some (some (.ref fI))) (tI : PySem.W.typeIn X.K (.ref fI) = some (.type "function")) (Fn : FnOk X.prog X.w X.K X.mg X.base CX k fI fd ps sp) (hr : Room (k + 1) X.A)
    (hb : Binds X.K fd ps []) (hx : Passes CX X (fun _ _ _ => False)) (hg : Gl X x) (hm : X.mg x = some (.ref C)) (ha : PA X (e :: es) ta) (hdb : (x == ("__debug__" : Str)) = false := by decide)
    (he : starEach (e :: es) X.env = (false, eval e X.env) :: starEach es X.env := by rfl) (hpl : (backTo pos (starEach es X.env)).any (·.1) = false := by rfl) : PE X (.Call (.Name x p) (e :: es) [] pos) (tMkV C sp ta) := by
  refine ⟨fun pins s σ H Q I h => wpAny_Call_Name_kw (ld_glob I hg hm (PySem.W.callWith_K (h₀ := X.base) I.ok.mod.kin T.kC (thn (ha.run pos pins s σ H _ I h) fun us s1 ⟨vs, H1, I1, r1, hz, q1⟩ => ⟨I1.kIn, ?_⟩) he hpl) hdb)⟩
  show wpAny (model X.prog X.w) X.A (call (.ref C) us) (EP X pins σ Q) X.xe s1
  obtain ⟨nm, q, N, bs, bm, sn, sub, ab, col, dd, k0, k1, k2, k3, k5, hC, hbm⟩ := T.cls
  obtain ⟨g, gn, dr, tk, os⟩ := s1
  have le : g.objs.size ≤ g.objs.size + 1 := by omega
  have no : H1 (g.objs.size + 1) = none := I1.hok.fresh le
  have go := q1 (g.objs.size + 1) no
  have J : Inv X pins σ (upd H1 (g.objs.size + 1) (exo (g.objs.size + 1) C none)) ⟨(g.push (PySem.W.kdv_tup us)).push (PySem.HandSPX.excO C g.objs.size), gn, dr, tk, os⟩ :=
    I1.laid (t' := tk) (fun b o z => Heap.get?_push_of_some _ (Heap.get?_push_of_some _ z)) le (exo_ok (show ((g.push (PySem.W.kdv_tup us)).push (PySem.HandSPX.excO C g.objs.size)).get? (g.objs.size + 1) = some (PySem.HandSPX.excO C g.objs.size) by heap_get))
  have rv : Vals (V.ref (g.objs.size + 1) :: vs) (Value.ref (g.objs.size + 1) :: us) := .cons rfl r1
  have el : (Value.ref (g.objs.size + 1) :: us).length = ps.length := by rw [← rv.length]; exact Fn.len _ _ _ _ go
  have bd := hb _ (Value.ref (g.objs.size + 1) :: us) J.kIn (by rw [List.append_nil]; exact el)
  rw [List.append_nil] at bd
  refine wpAny_call (PySem.HandSPX.call_own F.excBase_ValueError (fun Y => PySem.HandSPX.refsVE_contains Y bm hbm) (I1.kIn _ _ hC) (PySem.W.looks_findIn I1.kIn iC) (fun self => PySem.W.bind_fn I1.kIn self tI) (show us.length ≤ sizeLine by rw [← Paired.length r1, sizeLine_eq]; omega) (codeAny_mono
    (Fn.run _ X.stack _ _ ⟨Value.ref (g.objs.size + 1) :: us, []⟩ (Value.ref (g.objs.size + 1) :: us) _ _ (fun _ _ _ => False) (hr.make C us []) (J.env0.make C us []) bd rv go) fun r s' z => ?_))
  cases r with
  | error y => exact hx pins σ _ _ y s' J z
  | ok fl =>
    cases fl with
    | ret u =>
      obtain ⟨v, H2, J2, rv2, ev, q2⟩ := J.after z
      subst ev
      exact ⟨rv2, ⟨V.ref (g.objs.size + 1), H2, J2, rfl, q2⟩⟩
    | _ => exact z.elim
theorem pe_mk0 {x : Str} {C : Addr} {bmB : List Value} {B newId initId : String} (Fb : ExcBaseFacts B newId initId bmB) (q : PySem.W.excIn X.K C bmB newId = true) (gC : X.mg x = some (.ref C)) (kC : PySem.W.keepIn X.K (.ref C) = true) (hg : Gl X x) (hdb : (x == ("__debug__" : Str)) = false := by decide) :
    PE X (.Call (.Name x p) [] [] pos) (tMk0 C) := by
  refine ⟨fun pins s σ H Q I h => wpAny_Call_Name_kw (ld_glob I hg gC (PySem.W.callWith_K0 I.kIn kC ?_) hdb)⟩
  show wpAny (model X.prog X.w) X.A (call (.ref C) []) (EP X pins σ Q) X.xe s
  obtain ⟨bm, N, nm, qn, bs, hdct, sn, sub, ab, col, dd, k0, k1, k2, k3, k5, mN, hC, hN, hni, T⟩ := exc_obj I.kIn q
  refine wpAny_call_exc_subT Fb T hC hN hni (fun h' a hm => ?_) (Nat.zero_le _)
  have no : H a = none := I.hok.gone hm.new
  obtain ⟨t, ht, -, -⟩ := hm.there
  exact ⟨.ref a, _, I.laidN hm.keeps hm.new no (exO_ok ht ⟨rfl, rfl⟩ rfl rfl rfl (show 4 < 6 by decide)), rfl, h a no⟩
end
/-! fields, isinstance, methods -/
def tFldX (C : Addr) (f : Str) (te : TE) : TE := fun σ H Q => te σ H fun x H1 => ∃ a vs v, x = .ref a ∧ ExAt H1 a C vs ∧ vs.lookup f = some v ∧ Q v H1
theorem pe_fldX {X : Cx} {C : Addr} {e : Expr} {te : TE} {pos : Pos} {n : Str} (T : XfC X.K C) (hno : PySem.W.findIn X.K (.ref C) n = some none) (he : PE X e te) (hb : attributeBase e n X.env (eval e X.env) = eval e X.env := by rfl) : PE X (.Attribute e n pos) (tFldX C n te) := by
  refine ⟨fun pins s σ H Q I h => attr_of hb (thn (he.run pins s σ H _ I h) fun u s1 hh => ?_)⟩
  obtain ⟨x, H1, I1, rx, a, vs, v, rfl, hx, l, q⟩ := hh
  have hu : u = Value.ref a := rx
  subst hu
  obtain ⟨ox, od, J, g1, -⟩ := ex_inst I1 hx
  obtain ⟨o, z, rfl, g2, ru⟩ := g1 n v l
  exact HandSPX.exc_get I1.kIn J T.ga T.gg T.exC (PySem.W.findObj_own T.hdC hno rfl g2) (handed_of ru) ⟨v, H1, I1.tok _, ru, q⟩
def rIsV (K : PySem.W.Frag) : List V → Hp → VK → Prop := fun xs H Q => ∃ (a C : Addr) (vs : List (Str × V)) (c : V) (cv : Value) (b : Bool), XcC K C ∧ IsiK K ∧ xs = [.ref a, c] ∧ ClsV c cv ∧ ExAt H a C vs ∧ PySem.W.kitOne K (.ref C) cv = some b ∧ Q (.bl b) H
theorem call_isV {X : Cx} : CallR X (.builtin "isinstance") (rIsV X.K) := by
  intro pins s σ H xs us Q I r h
  obtain ⟨a, C, vs, c, cv, b, T, T0, rfl, hcv, hx, e, q⟩ := h
  cases r with
  | cons rx rr =>
    cases rr with
    | cons rt rr =>
      cases rr
      cases rx
      obtain rfl := hcv.eq rt
      obtain ⟨ox, od, J, -, -⟩ := ex_inst I hx
      obtain ⟨cd, hc, -⟩ := PySem.W.any_some T.xf.hdC
      exact PySem.W.kia_one (PySem.W.kitx_exc (by rw [hc]; rfl) T.xf.ga T.xf.gg T.xf.exC T.ha T0.hn T0.htk T.hm) I.kIn J e (fun z => nomatch z) fun tk => ⟨.bl b, H, I.kept (t' := tk) fun _ _ z => z, rfl, q⟩
def tMethX (l : List (Addr × Sp)) (m : Str) (te : TE) : TE := fun σ H Q => te σ H fun x H1 => ∃ a C vs sp, x = .ref a ∧ (C, sp) ∈ l ∧ ExAt H1 a C vs ∧ vs.lookup m = none ∧ sp [x] H1 Q L2.E0
/-- what a method of an exception's class must have -/
structure MethX (P : Program) (w : World) (K : PySem.W.Frag) (mg : Str → Option Value) (base : Heap) (k : Nat) (m : Str) (C : Addr) (sp : Sp) : Prop where
  xf : XfC K C
  fn : ∃ f fd ps, PySem.W.findIn K (.ref C) m = some (some (.ref f)) ∧ PySem.W.isFn K (.ref f) = true ∧ PySem.W.keepIn K (.ref f) = true ∧ FnOk P w K mg base CX0 k f fd ps sp ∧ Binds K fd ps []
theorem pe_methX {X : Cx} {l : List (Addr × Sp)} {m : Str} {k : Nat} {o : Expr} {te : TE} {apos pos : Pos} {pl : Sem Bool} (hl : ∀ q ∈ l, MethX X.prog X.w X.K X.mg X.base k m q.1 q.2) (hr : Room k X.A) (he : PE X o te)
    (ht : eval (.Call (.Attribute o m apos) [] [] pos) X.env = (do
      let ov ← eval o X.env
      standAt apos.atName
      let (f, first) ← holding [ov] (getMethod ov m pl)
      callWith pos f first (backTo pos (starEach [] X.env)) (backToKw pos (keywordEach [] X.env))) := by rfl) : PE X (.Call (.Attribute o m apos) [] [] pos) (tMethX l m te) := by
  refine ⟨fun pins s σ H Q I h => PySem.W.methodCall_KW (pl := pl) (thn (he.run pins s σ H _ I h) fun u s1 hh => ?_) ht⟩
  obtain ⟨x, H1, I1, rx, a, C, vs, sp, rfl, hm, hx, hk, q⟩ := hh
  have hu : u = Value.ref a := rx
  subst hu
  obtain ⟨T, f, fd, ps, g1, g2, g3, g4, g5⟩ := hl _ hm
  obtain ⟨ox, od, J, -, sh⟩ := ex_inst I1 hx
  obtain ⟨m', fr⟩ := I1.fr
  exact PySem.W.method_exc fr I1.ok.mod.kin J T.ga T.gg g1 g2 (sh m hk) (PySem.W.callWith_K0 (first := [.ref a]) I1.kIn g3 (run_fn (us := [.ref a]) (vs := [.ref a]) g4 hr g5 .nil pass0 I1 (.cons rfl .nil) q))
/-! ### as data -/
theorem exAt_of {K : PySem.W.Frag} {G H : Hp} {v : V} {C : Addr} {fs : List (Str × D)} (e : Ex G H) (r : RepT K G H v (.exc C fs)) : ∃ a vs, v = .ref a ∧ ExAt H a C vs ∧ RepF K G vs fs := by
  rcases r with r | ⟨p, _, _, r⟩
  · cases r with
    | exc h1 h2 rr => exact ⟨_, _, rfl, .inl ⟨_, e _ _ h1, e _ _ h2⟩, rr⟩
    | exc0 h1 => exact ⟨_, [], rfl, .inr ⟨e _ _ h1, rfl⟩, .nil⟩
  · exact r.elim
def dMkV (C : Addr) (mk : List D → Option (List (Str × D))) (da : DA) : DE := fun ρ q er => da ρ (fun ts ρ1 => Opt (vals ts) fun ds => Opt (mk ds) fun fs => q (.val (.exc C fs)) ρ1) er
def dMk0 (C : Addr) : DE := fun ρ q _ => q (.val (.exc C [])) ρ
def D.excOf (C : Addr) : D → Option (List (Str × D))
  | .exc C' fs => if C' = C then some fs else none
  | _ => none
def dFldX (C : Addr) (f : Str) (de : DE) : DE := fun ρ q er => de ρ (fun t ρ1 => Opt (rd ρ1 t) fun x => Opt (x.excOf C) fun fs => Opt (fs.lookup f) fun z => q (.val z) ρ1) er
def D.excC : D → Option Addr
  | .exc C _ => some C
  | _ => none
def dIsV (K : PySem.W.Frag) (Cs : List Addr) (de dc : DE) : DE := fun ρ q er => de ρ (fun t ρ1 => dc ρ1 (fun u ρ2 => Opt (rd ρ2 t) fun x => Opt (rd ρ2 u) fun c => Opt x.excC fun C => C ∈ Cs ∧ Opt c.clV fun cv => Opt (PySem.W.kitOne K (.ref C) cv) fun b => q (.val (.bl b)) ρ2) er) er
def dMethX (l : List (Addr × DSp)) (m : Str) (de : DE) : DE := fun ρ q er => de ρ (fun t ρ1 => match t with
  | .val (.exc C fs) => fs.lookup m = none ∧ ∃ dsp, (C, dsp) ∈ l ∧ noEr dsp [.val (.exc C fs)] (fun d os => q (.val d) (putOuts ρ1 [] os)) (fun _ _ _ => False)
  | _ => False) er
section
variable {K : PySem.W.Frag} {pa : PaG} {W : WX} {te tc : TE} {de dc : DE} {ta : TA} {da : DA} {C : Addr} {f g : Str} {Cs : List Addr}
theorem ex_heap {H : Hp} {a d C : Addr} {o1 : HO} {o2 : HO} (hn : d ≠ a) : upd (upd (upd H a o1) d o2) a (exo a C (some d)) = upd (upd H d o2) a (exo a C (some d)) := by
  funext b
  by_cases hb : b = a
  · rw [hb, upd_same, upd_same]
  · rw [upd_ne hb, upd_ne hb]
    by_cases hc : b = d
    · rw [hc, upd_same, upd_same]
    · rw [upd_ne hc, upd_ne hc, upd_ne hb]
theorem ex_heap2 {H : Hp} {a d C : Addr} {o1 o2 o3 : HO} (hn : d ≠ a) : upd (upd (upd (upd H a o1) d o2) a (exo a C (some d))) d o3 = upd (upd H d o3) a (exo a C (some d)) := by
  funext b
  by_cases hb : b = a
  · rw [hb, upd_same, upd_ne (Ne.symm hn), upd_same]
  · rw [upd_ne hb]
    by_cases hc : b = d
    · rw [hc, upd_same, upd_same]
    · rw [upd_ne hc, upd_ne hc, upd_ne hb, upd_ne hc, upd_ne hb]
theorem ex_al {G H : Hp} {a d C : Addr} {vs : List (Str × V)} {fs : List (Str × D)} (e : Ex G H) (ha : H a = none) (hd : H d = none) (hn : d ≠ a) (r : RepF K G vs fs) : ∃ G', Al G H G' (upd (upd H d (exd d vs)) a (exo a C (some d))) ∧ Rep K G' (.ref a) (.exc C fs) := by
  have a1 := Al.one (o := exd d vs) e hd
  have a2 := Al.one (p := a) (o := exo a C (some d)) a1.gh (by rw [upd_ne (Ne.symm hn)]; exact ha)
  exact ⟨_, a1.trans a2, .exc upd_same (by rw [upd_ne hn, upd_same]) (r.mono (a1.g.trans a2.g))⟩
theorem se_mk1 (T : OexC K C) (hf : PySem.W.findIn K (.ref C) f = some none) (ha : SA K pa W ta da) : SE K pa W (tMkV C (spX1 K f) ta) (dMkV C (x1 f) da) := fun F G σ H ρ Q q er S h k x =>
  ha F G σ H ρ _ _ er S h (fun G1 H1 vs ts ρ1 e1 S1 r1 h1 => by
    obtain ⟨ds, ed, fs, ef, h2⟩ := h1
    have R := vals_reps r1 ed
    cases R with
    | nil => cases ef
    | @cons vy dy _ _ ry R =>
      cases R with
      | cons _ _ => cases ef
      | nil =>
        cases ef
        refine ⟨by simp, fun a hn => ⟨a, C, _, rfl, T, hf, upd_same, fun dx hd hne => ⟨rfl, ?_⟩⟩⟩
        rw [upd_ne hne] at hd
        rw [ex_heap hne]
        obtain ⟨G2, al, rp⟩ := ex_al (C := C) (vs := [(f, vy)]) (fs := [(f, dy)]) S1.ex hn hd hne (.cons ry .nil)
        exact k G2 _ _ (.val _) ρ1 (e1.trans al.g) (S1.al al) rp h2) x
theorem se_mk2 (T : OexC K C) (hf : PySem.W.findIn K (.ref C) f = some none) (hg : PySem.W.findIn K (.ref C) g = some none) (ha : SA K pa W ta da) : SE K pa W (tMkV C (spX2 K f g) ta) (dMkV C (x2 f g) da) := fun F G σ H ρ Q q er S h k x =>
  ha F G σ H ρ _ _ er S h (fun G1 H1 vs ts ρ1 e1 S1 r1 h1 => by
    obtain ⟨ds, ed, fs, ef, h2⟩ := h1
    have R := vals_reps r1 ed
    cases R with
    | nil => cases ef
    | @cons vy dy _ _ ry R =>
      cases R with
      | nil => cases ef
      | @cons vz dz _ _ rz R =>
        cases R with
        | cons _ _ => cases ef
        | nil =>
          cases ef
          refine ⟨by simp, fun a hn => ⟨a, C, _, _, rfl, T, hf, hg, upd_same, fun dx hd hne => ⟨rfl, ?_⟩⟩⟩
          rw [upd_ne hne] at hd
          rw [ex_heap2 hne]
          obtain ⟨G2, al, rp⟩ := ex_al (C := C) (vs := [(g, vz), (f, vy)]) (fs := [(g, dz), (f, dy)]) S1.ex hn hd hne (.cons rz (.cons ry .nil))
          exact k G2 _ _ (.val _) ρ1 (e1.trans al.g) (S1.al al) rp h2) x
theorem se_mk0 : SE K pa W (tMk0 C) (dMk0 C) := fun F G σ H ρ Q q er S h k x a hn => by
  have al := Al.one (p := a) (o := ExO (.ref C) a) S.ex hn
  exact k _ _ _ (.val _) ρ al.g (S.al al) (.exc0 upd_same) h
theorem se_fldX (he : SE K pa W te de) : SE K pa W (tFldX C f te) (dFldX C f de) := fun F G σ H ρ Q q er S h k x =>
  he F G σ H ρ _ _ er S h (fun G1 H1 v t ρ1 e1 S1 r1 h1 => by
    obtain ⟨d, ed, fs, ef, z, ez, h2⟩ := h1
    cases d with
    | exc C' fs' =>
      have ef : (if C' = C then some fs' else none) = some fs := ef
      by_cases hC : C' = C
      · subst hC
        rw [if_pos rfl] at ef
        have ef := Option.some.inj ef
        subst ef
        obtain ⟨a, vs, rfl, hx, rf⟩ := exAt_of S1.ex (S1.rdT r1 ed)
        obtain ⟨w, l, rw1⟩ := rf.lookup ez
        exact ⟨a, vs, w, rfl, hx, l, k G1 H1 w (.val z) ρ1 e1 S1 rw1 h2⟩
      · rw [if_neg hC] at ef
        exact nomatch ef
    | _ => cases ef) x
theorem se_isV (hK : IsiK K) (hC : ∀ C ∈ Cs, XcC K C) (he : SE K pa W te de) (hc : SE K pa W tc dc) : SE K pa W (tCB (rIsV K) (tCons te (tCons tc tNil))) (dIsV K Cs de dc) := fun F G σ H ρ Q q er S h k x =>
  he F G σ H ρ _ _ er S h (fun G1 H1 v t ρ1 e1 S1 r1 h1 => hc F G1 σ H1 ρ1 _ _ er S1 h1 (fun G2 H2 w u ρ2 e2 S2 r2 h2 => by
    obtain ⟨d, ed, c, ec, C, eC, hm, cv, ecv, b, eb, h3⟩ := h2
    cases d with
    | exc C' fs =>
      cases eC
      obtain ⟨a, vs, rfl, hx, _⟩ := exAt_of S2.ex (S2.rdT (r1.mono e2) ed)
      exact ⟨a, C, vs, w, cv, b, hC C hm, hK, rfl, clV_of (S2.rdT r2 ec) ecv, hx, eb, k G2 H2 _ (.val _) ρ2 (e1.trans e2) S2 (.bl b) h3⟩
    | _ => cases eC) (x.grow e1)) x
theorem se_methX {l : List (Addr × DSp)} {m : Str} (he : SE K pa W te de) : SE K pa W (tMethX (l.map fun q => (q.1, SpV K 1 q.2)) m te) (dMethX l m de) := fun F G σ H ρ Q q er S h k x =>
  he F G σ H ρ _ _ er S h (fun G1 H1 v t ρ1 e1 S1 r1 h1 => by
    cases t with
    | bor i => exact h1.elim
    | val d =>
      cases d with
      | exc C fs =>
        obtain ⟨hl, dsp, hm, hd⟩ := h1
        obtain ⟨a, vs, rfl, hx, rf⟩ := exAt_of S1.ex (S1.rdT r1 rfl)
        refine ⟨a, C, vs, SpV K 1 dsp, rfl, List.mem_map.mpr ⟨_, hm, rfl⟩, hx, rf.lookup_none hl, ?_⟩
        exact call_core (ts := [.val (.exc C fs)]) S1 (.cons r1 .nil) rfl (by simp [bors]) rfl hd (fun G' H' v d os e S' rv hq => k G' H' v (.val d) _ (e1.trans e) S' rv hq) (fun _ _ _ _ _ _ _ _ _ _ _ hq => hq.elim)
      | _ => exact h1.elim) x
end
theorem kit_any {K : PySem.W.Frag} {C X : Addr} {b : Bool} (h1 : PySem.W.isClsIn K X = true) (h2 : PySem.W.typeIn K (.ref X) = some (.type "type")) (hs : PySem.W.subIn K (.ref C) (.ref X) = some b) (hx : PySem.W.subIn K (.ref X) (.ref X) = some true) : PySem.W.kitOne K (.ref C) (.ref X) = some b := by
  by_cases e : C = X
  · subst e
    rw [hx] at hs
    cases hs
    exact kit_sameR K C
  · exact kit_subT h1 h2 (fun z => e (by cases z; rfl)) hs
theorem kit_tyT {K : PySem.W.Frag} {C : Addr} {n : String} {b : Bool} (hm : PySem.W.kitMeta n = true) (hs : PySem.W.subIn K (.ref C) (.type n) = some b) : PySem.W.kitOne K (.ref C) (.type n) = some b := by
  unfold PySem.W.kitOne
  rw [if_neg (by simp)]
  show (if PySem.W.kitMeta n = true then PySem.W.subIn K (.ref C) (.type n) else none) = some b
  rw [if_pos hm]
  exact hs
end DL
set_option autoImplicit false
set_option Elab.async false
set_option linter.all false
set_option maxRecDepth 100000
set_option maxHeartbeats 2000000
namespace PySem.SeqAt
open PySem PySem.Calls PyProof.Rows

section
variable {prog : Program} {w : World} {A : Around} {s : Shared} {E : Value → Shared → Prop}
/-- dict.__eq__ declines what is no dict -/
theorem dict_declines {a : Addr} {v : Value} {T : String} (da : s.TypeIs (.ref a) "dict") (tv : s.TypeIs v T) (sub : isSubtype (.type T) (.type "dict") = pure false) (Q : Value → Shared → Prop) (q : Q .notImplemented s) :
    wpAny (model prog w) A (call (.builtin "dict.__eq__") [.ref a, v]) Q E s := by
  refine wpAny_call_entry PySem.F.slot_dict_eq da PySem.F.entry_dict_eq ?_ (PySem.F.args_dict_eq_2 _ _)
  show wpAny _ _ (Builtin.Dict.dictSlotArgs "__eq__" ⟨[.ref a, v], []⟩ >>= _) _ _ s
  refine wpAny_bind ?_
  unfold Builtin.Dict.dictSlotArgs
  refine wpAny_bind (wpAny_notOrdered_dict da ?_)
  show wpAny _ _ (pure (Value.ref a, v)) _ _ s
  refine wpAny_pure (wpAny_bind (wpAny_isInstance (T := T) tv sub ?_))
  simp only [Bool.not_false, if_true]
  exact wpAny_bind (wpAny_rule (wpAny_pure ⟨_, rfl, q⟩))
end
section
variable {A : Around} {s : Shared} {es : Array DictEntry} {ep : Nat}
theorem int_declines_dict (b : Int) (u : Tok) (l : Addr) (c : Value) (es : Array DictEntry) (ep : Nat) (dd : Option Addr) (sl : Array (Option Value)) :
    Meets (Builtin.«int.__eq__» ⟨[.int b u, .ref l], []⟩) (fun _ R s => s.heap.get? l = some { cls := c, dict := dd, data := .dict es ep, slots := sl } ∧ R (.ok (.ret .notImplemented)) s) :=
  .of_wp fun prog w A R s h => by obtain ⟨hp, g, d, tk, os⟩ := s; obtain ⟨hl, h⟩ := h; wp_walk using AutoSeq1.wpAny_loadPart' hl, wpAny_load hl; exact ⟨_, rfl, h⟩
theorem bool_declines_dict (b : Bool) (l : Addr) (c : Value) (es : Array DictEntry) (ep : Nat) (dd : Option Addr) (sl : Array (Option Value)) :
    Meets (Builtin.«int.__eq__» ⟨[.bool b, .ref l], []⟩) (fun _ R s => s.heap.get? l = some { cls := c, dict := dd, data := .dict es ep, slots := sl } ∧ R (.ok (.ret .notImplemented)) s) :=
  .of_wp fun prog w A R s h => by obtain ⟨hp, g, d, tk, os⟩ := s; obtain ⟨hl, h⟩ := h; wp_walk using AutoSeq1.wpAny_loadPart' hl, wpAny_load hl; exact ⟨_, rfl, h⟩
theorem str_declines_dict (b : Str) (u : Tok) (l : Addr) (c : Value) (es : Array DictEntry) (ep : Nat) (dd : Option Addr) (sl : Array (Option Value)) :
    Meets (Builtin.«str.__eq__» ⟨[.str b u, .ref l], []⟩) (fun _ R s => s.heap.get? l = some { cls := c, dict := dd, data := .dict es ep, slots := sl } ∧ R (.ok (.ret .notImplemented)) s) :=
  .of_wp fun prog w A R s h => by obtain ⟨hp, g, d, tk, os⟩ := s; obtain ⟨hl, h⟩ := h; wp_walk using AutoSeq1.wpAny_loadPart' hl, wpAny_load hl; exact ⟨_, rfl, h⟩
theorem list_declines_dict (l b : Addr) (items : Array Value) (n : Nat) (dd dd2 : Option Addr) (sl sl2 : Array (Option Value)) (es : Array DictEntry) (ep : Nat) :
    Meets (Builtin.«list.__eq__» ⟨[.ref l, .ref b], []⟩) (fun _ R s => s.heap.get? l = some { cls := .type "list", dict := dd, data := .seq items n, slots := sl } ∧ s.heap.get? b = some { cls := .type "dict", dict := dd2, data := .dict es ep, slots := sl2 } ∧ R (.ok (.ret .notImplemented)) s) :=
  .of_wp fun prog w A R s h => by obtain ⟨hp, g, d, tk, os⟩ := s; obtain ⟨hl, hb, h⟩ := h; have f1 := PySem.F.sub_dict_list; wp_walk using AutoSeq1.wpAny_loadPart' hl, AutoSeq1.wpAny_loadPart' hb; exact ⟨_, rfl, h⟩
theorem tuple_declines_dict (l b : Addr) (items : Array Value) (n : Nat) (dd dd2 : Option Addr) (sl sl2 : Array (Option Value)) (es : Array DictEntry) (ep : Nat) :
    Meets (Builtin.«tuple.__eq__» ⟨[.ref l, .ref b], []⟩) (fun _ R s => s.heap.get? l = some { cls := .type "tuple", dict := dd, data := .seq items n, slots := sl } ∧ s.heap.get? b = some { cls := .type "dict", dict := dd2, data := .dict es ep, slots := sl2 } ∧ R (.ok (.ret .notImplemented)) s) :=
  .of_wp fun prog w A R s h => by obtain ⟨hp, g, d, tk, os⟩ := s; obtain ⟨hl, hb, h⟩ := h; have f1 := PySem.F.sub_dict_tuple; wp_walk using AutoSeq1.wpAny_loadPart' hl, AutoSeq1.wpAny_loadPart' hb; exact ⟨_, rfl, h⟩
end
section
variable {A : Around} {s : Shared}
theorem isSame_dict {M : Model} {E : Value → Shared → Prop} {x y : Addr} {ox oy : Obj} {R : Bool → Shared → Prop} (hxy : x ≠ y) (hx : s.heap.get? x = some ox) (hy : s.heap.get? y = some oy) (h : R false s) (hnt : ox.cls ≠ .type "tuple" := by simp) :
    wpAny M A (isSame (.ref x) (.ref y)) R E s := wpAny_isSame_ref_other hxy hx hy hnt h
def IsDct (s : Shared) (a : Addr) : Prop := ∃ (dd : Option Addr) (es : Array DictEntry) (ep : Nat) (sl : Array (Option Value)), s.heap.get? a = some { cls := .type "dict", dict := dd, data := .dict es ep, slots := sl }
theorem RcAt.dict_none {a : Addr} (h0 : IsDct s a) (hu : A.units < cLine) : RcAt A s (.ref a) (.none) false := fun prog w E Q h => by
  obtain ⟨dd, es, ep, sl, ho⟩ := h0
  exact rc_eq_decline_or (k := false) ⟨_, ho, rfl⟩ (typeIs_none s) (by decide) PySem.F.sub_NoneType_dict PySem.F.slot_dict_eq PySem.F.slot_NoneType_eq_refl (fun _ hq => dict_declines ⟨_, ho, rfl⟩ (typeIs_none s) PySem.F.sub_NoneType_dict _ hq) (fun _ hq => call_gives PySem.F.slot_NoneType_eq_refl rfl PySem.F.entry_NoneType_eq (PySem.F.args_NoneType_eq_2 _ _) (NoneType___eq___none_ref_0 a) hq)
    (fun _ hq => wpAny_of_eq (rfl : isSame (.ref a) (.none) = pure false) hq) (.inr hu) h
theorem RcAt.none_dict {a : Addr} (h0 : IsDct s a) (hu : A.units < cLine) : RcAt A s (.none) (.ref a) false := fun prog w E Q h => by
  obtain ⟨dd, es, ep, sl, ho⟩ := h0
  exact rc_eq_decline_or (k := false) (typeIs_none s) ⟨_, ho, rfl⟩ (by decide) PySem.F.sub_dict_NoneType PySem.F.slot_NoneType_eq PySem.F.slot_dict_eq_refl (fun _ hq => call_gives PySem.F.slot_NoneType_eq rfl PySem.F.entry_NoneType_eq (PySem.F.args_NoneType_eq_2 _ _) (NoneType___eq___none_ref_0 a) hq) (fun _ hq => dict_declines ⟨_, ho, rfl⟩ (typeIs_none s) PySem.F.sub_NoneType_dict _ hq)
    (fun _ hq => wpAny_of_eq (rfl : isSame (.none) (.ref a) = pure false) hq) (.inr hu) h
theorem EqAt.dict_none {a : Addr} (h0 : IsDct s a) (hu : A.units < cLine) : EqAt A s (.ref a) (.none) false := fun prog w E Q h => by
  unfold eqBool
  exact wpAny_holding (wpAny_ite_split (fun hab => absurd (eq_of_beq hab) nofun) fun _ => wpAny_bind (RcAt.dict_none h0 hu prog w E _ (wpAny_truthy_bool h)))
theorem EqAt.none_dict {a : Addr} (h0 : IsDct s a) (hu : A.units < cLine) : EqAt A s (.none) (.ref a) false := fun prog w E Q h => by
  unfold eqBool
  exact wpAny_holding (wpAny_ite_split (fun hab => absurd (eq_of_beq hab) nofun) fun _ => wpAny_bind (RcAt.none_dict h0 hu prog w E _ (wpAny_truthy_bool h)))
theorem RcAt.dict_bool {a : Addr} (b : Bool) (h0 : IsDct s a) (hu : A.units < cLine) : RcAt A s (.ref a) (.bool b) false := fun prog w E Q h => by
  obtain ⟨dd, es, ep, sl, ho⟩ := h0
  exact rc_eq_decline_or (k := false) ⟨_, ho, rfl⟩ (typeIs_bool s b) (by decide) PySem.F.sub_bool_dict PySem.F.slot_dict_eq PySem.F.slot_bool_eq_refl (fun _ hq => dict_declines ⟨_, ho, rfl⟩ (typeIs_bool s b) PySem.F.sub_bool_dict _ hq) (fun _ hq => call_meets PySem.F.slot_bool_eq_refl (typeIs_bool s b) PySem.F.entry_int_eq (PySem.F.args_int_eq_2 _ _) (bool_declines_dict b a _ es ep dd sl) ⟨ho, hq⟩)
    (fun _ hq => wpAny_of_eq (rfl : isSame (.ref a) (.bool b) = pure false) hq) (.inr hu) h
theorem RcAt.bool_dict {a : Addr} (b : Bool) (h0 : IsDct s a) (hu : A.units < cLine) : RcAt A s (.bool b) (.ref a) false := fun prog w E Q h => by
  obtain ⟨dd, es, ep, sl, ho⟩ := h0
  exact rc_eq_decline_or (k := false) (typeIs_bool s b) ⟨_, ho, rfl⟩ (by decide) PySem.F.sub_dict_bool PySem.F.slot_bool_eq PySem.F.slot_dict_eq_refl (fun _ hq => call_meets PySem.F.slot_bool_eq (typeIs_bool s b) PySem.F.entry_int_eq (PySem.F.args_int_eq_2 _ _) (bool_declines_dict b a _ es ep dd sl) ⟨ho, hq⟩) (fun _ hq => dict_declines ⟨_, ho, rfl⟩ (typeIs_bool s b) PySem.F.sub_bool_dict _ hq)
    (fun _ hq => wpAny_of_eq (rfl : isSame (.bool b) (.ref a) = pure false) hq) (.inr hu) h
theorem EqAt.dict_bool {a : Addr} (b : Bool) (h0 : IsDct s a) (hu : A.units < cLine) : EqAt A s (.ref a) (.bool b) false := fun prog w E Q h => by
  unfold eqBool
  exact wpAny_holding (wpAny_ite_split (fun hab => absurd (eq_of_beq hab) nofun) fun _ => wpAny_bind (RcAt.dict_bool b h0 hu prog w E _ (wpAny_truthy_bool h)))
theorem EqAt.bool_dict {a : Addr} (b : Bool) (h0 : IsDct s a) (hu : A.units < cLine) : EqAt A s (.bool b) (.ref a) false := fun prog w E Q h => by
  unfold eqBool
  exact wpAny_holding (wpAny_ite_split (fun hab => absurd (eq_of_beq hab) nofun) fun _ => wpAny_bind (RcAt.bool_dict b h0 hu prog w E _ (wpAny_truthy_bool h)))
theorem RcAt.dict_int {a : Addr} (b : Int) (u : Tok) (h0 : IsDct s a) (hu : A.units < cLine) : RcAt A s (.ref a) (.int b u) false := fun prog w E Q h => by
  obtain ⟨dd, es, ep, sl, ho⟩ := h0
  exact rc_eq_decline_or (k := false) ⟨_, ho, rfl⟩ (typeIs_int s b u) (by decide) PySem.F.sub_int_dict PySem.F.slot_dict_eq PySem.F.slot_int_eq_refl (fun _ hq => dict_declines ⟨_, ho, rfl⟩ (typeIs_int s b u) PySem.F.sub_int_dict _ hq) (fun _ hq => call_meets PySem.F.slot_int_eq_refl (typeIs_int s b u) PySem.F.entry_int_eq (PySem.F.args_int_eq_2 _ _) (int_declines_dict b u a _ es ep dd sl) ⟨ho, hq⟩)
    (fun _ hq => wpAny_of_eq (rfl : isSame (.ref a) (.int b u) = pure false) hq) (.inr hu) h
theorem RcAt.int_dict {a : Addr} (b : Int) (u : Tok) (h0 : IsDct s a) (hu : A.units < cLine) : RcAt A s (.int b u) (.ref a) false := fun prog w E Q h => by
  obtain ⟨dd, es, ep, sl, ho⟩ := h0
  exact rc_eq_decline_or (k := false) (typeIs_int s b u) ⟨_, ho, rfl⟩ (by decide) PySem.F.sub_dict_int PySem.F.slot_int_eq PySem.F.slot_dict_eq_refl (fun _ hq => call_meets PySem.F.slot_int_eq (typeIs_int s b u) PySem.F.entry_int_eq (PySem.F.args_int_eq_2 _ _) (int_declines_dict b u a _ es ep dd sl) ⟨ho, hq⟩) (fun _ hq => dict_declines ⟨_, ho, rfl⟩ (typeIs_int s b u) PySem.F.sub_int_dict _ hq)
    (fun _ hq => wpAny_of_eq (rfl : isSame (.int b u) (.ref a) = pure false) hq) (.inr hu) h
theorem EqAt.dict_int {a : Addr} (b : Int) (u : Tok) (h0 : IsDct s a) (hu : A.units < cLine) : EqAt A s (.ref a) (.int b u) false := fun prog w E Q h => by
  unfold eqBool
  exact wpAny_holding (wpAny_ite_split (fun hab => absurd (eq_of_beq hab) nofun) fun _ => wpAny_bind (RcAt.dict_int b u h0 hu prog w E _ (wpAny_truthy_bool h)))
theorem EqAt.int_dict {a : Addr} (b : Int) (u : Tok) (h0 : IsDct s a) (hu : A.units < cLine) : EqAt A s (.int b u) (.ref a) false := fun prog w E Q h => by
  unfold eqBool
  exact wpAny_holding (wpAny_ite_split (fun hab => absurd (eq_of_beq hab) nofun) fun _ => wpAny_bind (RcAt.int_dict b u h0 hu prog w E _ (wpAny_truthy_bool h)))
theorem RcAt.dict_str {a : Addr} (b : Str) (u : Tok) (h0 : IsDct s a) (hu : A.units < cLine) : RcAt A s (.ref a) (.str b u) false := fun prog w E Q h => by
  obtain ⟨dd, es, ep, sl, ho⟩ := h0
  exact rc_eq_decline_or (k := false) ⟨_, ho, rfl⟩ (typeIs_str s b u) (by decide) PySem.F.sub_str_dict PySem.F.slot_dict_eq PySem.F.slot_str_eq_refl (fun _ hq => dict_declines ⟨_, ho, rfl⟩ (typeIs_str s b u) PySem.F.sub_str_dict _ hq) (fun _ hq => call_meets PySem.F.slot_str_eq_refl (typeIs_str s b u) PySem.F.entry_str_eq (PySem.F.args_str_eq_2 _ _) (str_declines_dict b u a _ es ep dd sl) ⟨ho, hq⟩)
    (fun _ hq => wpAny_of_eq (rfl : isSame (.ref a) (.str b u) = pure false) hq) (.inr hu) h
theorem RcAt.str_dict {a : Addr} (b : Str) (u : Tok) (h0 : IsDct s a) (hu : A.units < cLine) : RcAt A s (.str b u) (.ref a) false := fun prog w E Q h => by
  obtain ⟨dd, es, ep, sl, ho⟩ := h0
  exact rc_eq_decline_or (k := false) (typeIs_str s b u) ⟨_, ho, rfl⟩ (by decide) PySem.F.sub_dict_str PySem.F.slot_str_eq PySem.F.slot_dict_eq_refl (fun _ hq => call_meets PySem.F.slot_str_eq (typeIs_str s b u) PySem.F.entry_str_eq (PySem.F.args_str_eq_2 _ _) (str_declines_dict b u a _ es ep dd sl) ⟨ho, hq⟩) (fun _ hq => dict_declines ⟨_, ho, rfl⟩ (typeIs_str s b u) PySem.F.sub_str_dict _ hq)
    (fun _ hq => wpAny_of_eq (rfl : isSame (.str b u) (.ref a) = pure false) hq) (.inr hu) h
theorem EqAt.dict_str {a : Addr} (b : Str) (u : Tok) (h0 : IsDct s a) (hu : A.units < cLine) : EqAt A s (.ref a) (.str b u) false := fun prog w E Q h => by
  unfold eqBool
  exact wpAny_holding (wpAny_ite_split (fun hab => absurd (eq_of_beq hab) nofun) fun _ => wpAny_bind (RcAt.dict_str b u h0 hu prog w E _ (wpAny_truthy_bool h)))
theorem EqAt.str_dict {a : Addr} (b : Str) (u : Tok) (h0 : IsDct s a) (hu : A.units < cLine) : EqAt A s (.str b u) (.ref a) false := fun prog w E Q h => by
  unfold eqBool
  exact wpAny_holding (wpAny_ite_split (fun hab => absurd (eq_of_beq hab) nofun) fun _ => wpAny_bind (RcAt.str_dict b u h0 hu prog w E _ (wpAny_truthy_bool h)))
theorem ne_dict_list {a l : Addr} {items : Array Value} (h0 : IsDct s a) (hl : s.heap.IsList l items) : a ≠ l := fun z => by
  obtain ⟨dd, es, ep, sl, ho⟩ := h0
  obtain ⟨o2, ho2, hc2, n2, hd2⟩ := hl
  subst z
  rw [ho] at ho2
  cases ho2
  exact absurd (show Value.type "dict" = Value.type "list" from hc2) (by decide)
theorem RcAt.dict_list {a l : Addr} {items : Array Value} (h0 : IsDct s a) (hl : s.heap.IsList l items) (hu : A.units < cLine) : RcAt A s (.ref a) (.ref l) false := fun prog w E Q h => by
  have hne := ne_dict_list h0 hl
  obtain ⟨dd, es, ep, sl, ho⟩ := h0
  obtain ⟨⟨cls2, dd2, data2, sl2⟩, ho2, hc2, n2, hd2⟩ := id hl
  simp only at hc2 hd2
  subst hc2 hd2
  exact rc_eq_decline_or (k := false) ⟨_, ho, rfl⟩ ⟨_, ho2, rfl⟩ (by decide) PySem.F.sub_list_dict PySem.F.slot_dict_eq PySem.F.slot_list_eq_refl (fun _ hq => dict_declines (v := .ref l) (T := "list") ⟨_, ho, rfl⟩ ⟨_, ho2, rfl⟩ PySem.F.sub_list_dict _ hq)
    (fun _ hq => call_meets PySem.F.slot_list_eq_refl ⟨_, ho2, rfl⟩ PySem.F.entry_list_eq (PySem.F.args_list_eq_2 _ _) (list_declines_dict l a items n2 dd2 dd sl2 sl es ep) ⟨ho2, ho, hq⟩) (fun _ hq => isSame_dict hne ho ho2 hq) (.inr hu) h
theorem RcAt.list_dict {a l : Addr} {items : Array Value} (h0 : IsDct s a) (hl : s.heap.IsList l items) (hu : A.units < cLine) : RcAt A s (.ref l) (.ref a) false := fun prog w E Q h => by
  have hne := ne_dict_list h0 hl
  obtain ⟨dd, es, ep, sl, ho⟩ := h0
  obtain ⟨⟨cls2, dd2, data2, sl2⟩, ho2, hc2, n2, hd2⟩ := id hl
  simp only at hc2 hd2
  subst hc2 hd2
  exact rc_eq_decline_or (k := false) ⟨_, ho2, rfl⟩ ⟨_, ho, rfl⟩ (by decide) PySem.F.sub_dict_list PySem.F.slot_list_eq PySem.F.slot_dict_eq_refl
    (fun _ hq => call_meets PySem.F.slot_list_eq ⟨_, ho2, rfl⟩ PySem.F.entry_list_eq (PySem.F.args_list_eq_2 _ _) (list_declines_dict l a items n2 dd2 dd sl2 sl es ep) ⟨ho2, ho, hq⟩) (fun _ hq => dict_declines (v := .ref l) (T := "list") ⟨_, ho, rfl⟩ ⟨_, ho2, rfl⟩ PySem.F.sub_list_dict _ hq) (fun _ hq => wpAny_isSame_ref_other' (Ne.symm hne) ho2 ho (by simp) hq) (.inr hu) h
theorem EqAt.dict_list {a l : Addr} {items : Array Value} (h0 : IsDct s a) (hl : s.heap.IsList l items) (hu : A.units < cLine) : EqAt A s (.ref a) (.ref l) false := .of_refs (ne_dict_list h0 hl) (.dict_list h0 hl hu)
theorem EqAt.list_dict {a l : Addr} {items : Array Value} (h0 : IsDct s a) (hl : s.heap.IsList l items) (hu : A.units < cLine) : EqAt A s (.ref l) (.ref a) false := .of_refs (ne_dict_list h0 hl).symm (.list_dict h0 hl hu)
theorem ne_dict_tuple {a l : Addr} {items : Array Value} (h0 : IsDct s a) (hl : s.heap.IsTuple l items) : a ≠ l := fun z => by
  obtain ⟨dd, es, ep, sl, ho⟩ := h0
  obtain ⟨o2, ho2, hc2, n2, hd2⟩ := hl
  subst z
  rw [ho] at ho2
  cases ho2
  exact absurd (show Value.type "dict" = Value.type "tuple" from hc2) (by decide)
theorem RcAt.dict_tuple {a l : Addr} {items : Array Value} (h0 : IsDct s a) (hl : s.heap.IsTuple l items) (hu : A.units < cLine) : RcAt A s (.ref a) (.ref l) false := fun prog w E Q h => by
  have hne := ne_dict_tuple h0 hl
  obtain ⟨dd, es, ep, sl, ho⟩ := h0
  obtain ⟨⟨cls2, dd2, data2, sl2⟩, ho2, hc2, n2, hd2⟩ := id hl
  simp only at hc2 hd2
  subst hc2 hd2
  exact rc_eq_decline_or (k := false) ⟨_, ho, rfl⟩ ⟨_, ho2, rfl⟩ (by decide) PySem.F.sub_tuple_dict PySem.F.slot_dict_eq PySem.F.slot_tuple_eq_refl (fun _ hq => dict_declines (v := .ref l) (T := "tuple") ⟨_, ho, rfl⟩ ⟨_, ho2, rfl⟩ PySem.F.sub_tuple_dict _ hq)
    (fun _ hq => call_meets PySem.F.slot_tuple_eq_refl ⟨_, ho2, rfl⟩ PySem.F.entry_tuple_eq (PySem.F.args_tuple_eq_2 _ _) (tuple_declines_dict l a items n2 dd2 dd sl2 sl es ep) ⟨ho2, ho, hq⟩) (fun _ hq => isSame_dict hne ho ho2 hq) (.inr hu) h
theorem RcAt.tuple_dict {a l : Addr} {items : Array Value} (h0 : IsDct s a) (hl : s.heap.IsTuple l items) (hu : A.units < cLine) : RcAt A s (.ref l) (.ref a) false := fun prog w E Q h => by
  have hne := ne_dict_tuple h0 hl
  obtain ⟨dd, es, ep, sl, ho⟩ := h0
  obtain ⟨⟨cls2, dd2, data2, sl2⟩, ho2, hc2, n2, hd2⟩ := id hl
  simp only at hc2 hd2
  subst hc2 hd2
  exact rc_eq_decline_or (k := false) ⟨_, ho2, rfl⟩ ⟨_, ho, rfl⟩ (by decide) PySem.F.sub_dict_tuple PySem.F.slot_tuple_eq PySem.F.slot_dict_eq_refl
    (fun _ hq => call_meets PySem.F.slot_tuple_eq ⟨_, ho2, rfl⟩ PySem.F.entry_tuple_eq (PySem.F.args_tuple_eq_2 _ _) (tuple_declines_dict l a items n2 dd2 dd sl2 sl es ep) ⟨ho2, ho, hq⟩) (fun _ hq => dict_declines (v := .ref l) (T := "tuple") ⟨_, ho, rfl⟩ ⟨_, ho2, rfl⟩ PySem.F.sub_tuple_dict _ hq) (fun _ hq => wpAny_isSame_ref_other' (Ne.symm hne) ho2 ho (by simp) hq) (.inr hu) h
theorem EqAt.dict_tuple {a l : Addr} {items : Array Value} (h0 : IsDct s a) (hl : s.heap.IsTuple l items) (hu : A.units < cLine) : EqAt A s (.ref a) (.ref l) false := .of_refs (ne_dict_tuple h0 hl) (.dict_tuple h0 hl hu)
theorem EqAt.tuple_dict {a l : Addr} {items : Array Value} (h0 : IsDct s a) (hl : s.heap.IsTuple l items) (hu : A.units < cLine) : EqAt A s (.ref l) (.ref a) false := .of_refs (ne_dict_tuple h0 hl).symm (.tuple_dict h0 hl hu)
end
end PySem.SeqAt
set_option autoImplicit false
set_option Elab.async false
set_option linter.all false
set_option maxRecDepth 100000
set_option maxHeartbeats 2000000
namespace DL
open PySem L2 Evl PySem.Spec PyProof.Rows
/-! ### == of nested data, dicts among it -/
def flEq : V → V → Option Bool
  | .non, .non => some true
  | .non, .bl _ => some false
  | .non, .int _ => some false
  | .non, .str _ => some false
  | .bl _, .non => some false
  | .bl a, .bl b => some (a == b)
  | .bl a, .int j => some ((if a then 1 else 0) == j)
  | .bl _, .str _ => some false
  | .int _, .non => some false
  | .int i, .bl b => some (i == (if b then 1 else 0))
  | .int i, .int j => some (i == j)
  | .int _, .str _ => some false
  | .str _, .non => some false
  | .str _, .bl _ => some false
  | .str _, .int _ => some false
  | .str x, .str y => some (x == y)
  | _, _ => none
def flV : V → Bool
  | .non => true
  | .bl _ => true
  | .int _ => true
  | .str _ => true
  | _ => false
inductive CK where
  | l | t | d
def Cont (K : PySem.W.Frag) (H : Hp) (a : Addr) : CK → Prop
  | .l => ∃ xs, SqL K H a xs
  | .t => ∃ xs, SqT K H a xs
  | .d => ∃ kvs, H a = some (.dK kvs)
def lkV (kb : List (Key × V)) (k : Key) : Option V := (kb.find? fun p => decide (p.1 = k)).map (·.2)
inductive VEq (K : PySem.W.Frag) (H : Hp) : Nat → V → V → Bool → Prop
  | flat {n : Nat} {x y : V} {b : Bool} : flEq x y = some b → VEq K H n x y b
  | fc {n : Nat} {x : V} {a : Addr} (k : CK) : flV x = true → Cont K H a k → VEq K H n x (.ref a) false
  | cf {n : Nat} {x : V} {a : Addr} (k : CK) : flV x = true → Cont K H a k → VEq K H n (.ref a) x false
  | cc {n : Nat} {a b : Addr} (k k' : CK) : k ≠ k' → Cont K H a k → Cont K H b k' → VEq K H n (.ref a) (.ref b) false
  | ll {n : Nat} {a b : Addr} {xs ys : List V} (e : Nat → Bool) : SqL K H a xs → SqL K H b ys → xs.length = ys.length → (∀ (j : Nat) (x y : V), xs[j]? = some x → ys[j]? = some y → VEq K H n x y (e j)) → VEq K H (n + 1) (.ref a) (.ref b) ((List.range xs.length).all e)
  | lx {n : Nat} {a b : Addr} {xs ys : List V} : SqL K H a xs → SqL K H b ys → xs.length ≠ ys.length → VEq K H (n + 1) (.ref a) (.ref b) false
  | tt {n : Nat} {a b : Addr} {xs ys : List V} (e : Nat → Bool) : SqT K H a xs → SqT K H b ys → xs.length = ys.length → (∀ (j : Nat) (x y : V), xs[j]? = some x → ys[j]? = some y → VEq K H n x y (e j)) → VEq K H (n + 1) (.ref a) (.ref b) ((List.range xs.length).all e)
  | dd {n : Nat} {a b : Addr} {ka kb : List (Key × V)} (e : Key → Bool) : H a = some (.dK ka) → H b = some (.dK kb) → (ka.map (·.1)).Nodup → (∀ (k : Key) (x y : V), (k, x) ∈ ka → lkV kb k = some y → VEq K H n x y (e k)) →
      VEq K H (n + 1) (.ref a) (.ref b) (ka.length == kb.length && ka.all fun p => (lkV kb p.1).isSome && e p.1)
section
variable {X : Cx} {pins : List (Addr × Obj)} {σ : RSt} {H : Hp} {s : Shared}
theorem flEq_same {x : V} {b : Bool} (h : flEq x x = some b) : b = true := by
  cases x with
  | non => cases h; rfl
  | bl a => cases h; simp
  | int a => cases h; simp
  | str a => cases h; simp
  | _ => cases h
theorem lkV_mem {kb : List (Key × V)} (nd : (kb.map (·.1)).Nodup) {k : Key} {v : V} (h : (k, v) ∈ kb) : lkV kb k = some v := by
  induction kb with
  | nil => cases h
  | cons p kb ih =>
    unfold lkV
    rw [List.find?_cons]
    have nd' := List.nodup_cons.mp nd
    rcases List.mem_cons.mp h with e | h
    · subst e; simp
    · have hne : p.1 ≠ k := fun z => nd'.1 (by show p.1 ∈ _; rw [z]; exact List.mem_map.mpr ⟨(k, v), h, rfl⟩)
      rw [show decide (p.1 = k) = false from decide_eq_false hne]
      exact ih nd'.2 h
theorem cont_one (I : Inv X pins σ H s) {a : Addr} {k k' : CK} (h : Cont X.K H a k) (h' : Cont X.K H a k') : k = k' := by
  have lt : ∀ {xs ys : List V}, SqL X.K H a xs → SqT X.K H a ys → False := fun {xs ys} h1 h2 => by
    obtain ⟨i1, _, p1, _⟩ := I.list h1
    obtain ⟨i2, _, p2, _⟩ := I.tuple h2
    exact SeqAt.ne_of_list_tuple p1.isList p2 rfl
  have dct : ∀ {kvs : List (Key × V)}, H a = some (.dK kvs) → SeqAt.IsDct s a := fun {kvs} h => by
    obtain ⟨_, _, va, _, da⟩ := (show ObjOk X.prog X.w H s.heap a (.dK kvs) from I.hok a _ h)
    obtain ⟨⟨c, d, dt, sl⟩, es, ep, ho, hc, hd, _⟩ := da
    have hc : c = .type "dict" := hc.1
    dsimp only at hd
    subst hc hd
    exact ⟨d, es, ep, sl, ho⟩
  have ld : ∀ {xs : List V} {kvs : List (Key × V)}, SqL X.K H a xs → H a = some (.dK kvs) → False := fun {xs kvs} h1 h2 => by
    obtain ⟨i1, _, p1, _⟩ := I.list h1
    exact SeqAt.ne_dict_list (dct h2) p1.isList rfl
  have td : ∀ {xs : List V} {kvs : List (Key × V)}, SqT X.K H a xs → H a = some (.dK kvs) → False := fun {xs kvs} h1 h2 => by
    obtain ⟨i1, _, p1, _⟩ := I.tuple h1
    exact SeqAt.ne_dict_tuple (dct h2) p1 rfl
  cases k <;> cases k' <;> first
    | rfl
    | exact (by obtain ⟨_, h⟩ := h; obtain ⟨_, h'⟩ := h'; exact (lt h h').elim)
    | exact (by obtain ⟨_, h⟩ := h; obtain ⟨_, h'⟩ := h'; exact (lt h' h).elim)
    | exact (by obtain ⟨_, h⟩ := h; obtain ⟨_, h'⟩ := h'; exact (ld h h').elim)
    | exact (by obtain ⟨_, h⟩ := h; obtain ⟨_, h'⟩ := h'; exact (ld h' h).elim)
    | exact (by obtain ⟨_, h⟩ := h; obtain ⟨_, h'⟩ := h'; exact (td h h').elim)
    | exact (by obtain ⟨_, h⟩ := h; obtain ⟨_, h'⟩ := h'; exact (td h' h).elim)
theorem veq_same (I : Inv X pins σ H s) {n : Nat} {x y : V} {b : Bool} (h : VEq X.K H n x y b) : x = y → b = true := by
  induction h with
  | flat h => intro e; subst e; exact flEq_same h
  | fc k hf hc => intro e; subst e; cases hf
  | cf k hf hc => intro e; subst e; cases hf
  | cc k k' hn h1 h2 => intro e; cases e; exact absurd (cont_one I h1 h2) hn
  | @ll n a b xs ys e h1 h2 hl _ ih =>
    intro q; cases q
    have := I.list_inj h1 h2
    subst this
    rw [List.all_eq_true]
    intro j hj
    have hj : j < xs.length := List.mem_range.mp hj
    exact ih j xs[j] xs[j] (List.getElem?_eq_getElem hj) (List.getElem?_eq_getElem hj) rfl
  | @lx n a b xs ys h1 h2 hl => intro q; cases q; exact absurd (congrArg List.length (I.list_inj h1 h2)) hl
  | @tt n a b xs ys e h1 h2 hl _ ih =>
    intro q; cases q
    have := I.tuple_inj h1 h2
    subst this
    rw [List.all_eq_true]
    intro j hj
    have hj : j < xs.length := List.mem_range.mp hj
    exact ih j xs[j] xs[j] (List.getElem?_eq_getElem hj) (List.getElem?_eq_getElem hj) rfl
  | @dd n a b ka kb e h1 h2 nd _ ih =>
    intro q; cases q
    rw [h1] at h2
    cases h2
    rw [beq_self_eq_true, Bool.true_and, List.all_eq_true]
    intro p hp
    have hk := lkV_mem nd (k := p.1) (v := p.2) hp
    rw [hk]
    exact (by simpa using ih p.1 p.2 p.2 hp hk rfl)
theorem kv_at : ∀ {kb : List (Key × V)} {vb : List (Key × Value)} {k : Key}, KV kb vb → (lkV kb k = none ∧ PySem.valueAt vb k = none) ∨ ∃ y u, lkV kb k = some y ∧ PySem.valueAt vb k = some u ∧ RelV y u
  | _, _, _, .nil => .inl ⟨rfl, rfl⟩
  | _, _, k, .cons (a := p) (b := q) (l₁ := kb) (l₂ := vb) h r => by
    by_cases e : p.1 = k
    · refine .inr ⟨p.2, q.2, ?_, ?_, h.2⟩
      · unfold lkV; rw [List.find?_cons, decide_eq_true e]; rfl
      · unfold PySem.valueAt; rw [List.find?_cons, decide_eq_true (h.1 ▸ e)]; rfl
    · have e' : q.1 ≠ k := fun z => e (h.1.trans z)
      have ih := kv_at (k := k) r
      have h1 : lkV (p :: kb) k = lkV kb k := by unfold lkV; rw [List.find?_cons, decide_eq_false e]
      have h2 : PySem.valueAt (q :: vb) k = PySem.valueAt vb k := by unfold PySem.valueAt; rw [List.find?_cons, decide_eq_false e']
      rw [h1, h2]
      exact ih
theorem flat_at {A : Around} : ∀ (x y : V) (v u : Value) (b : Bool), flEq x y = some b → RelV x v → RelV y u → SeqAt.EqAt A s v u b
  | .non, .non, _, _, _, h, rx, ry => by
    obtain rfl := rx
    obtain rfl := ry
    have h := Option.some.inj h
    subst h
    exact SeqAt.EqAt.same _
  | .non, .bl b, _, _, _, h, rx, ry => by
    obtain rfl := rx
    obtain rfl := ry
    have h := Option.some.inj h
    subst h
    exact SeqAt.EqAt.none_bool b
  | .non, .int b, _, _, _, h, rx, ry => by
    obtain rfl := rx
    obtain ⟨t2, rfl⟩ := ry
    have h := Option.some.inj h
    subst h
    exact SeqAt.EqAt.none_int b t2
  | .non, .str b, _, _, _, h, rx, ry => by
    obtain rfl := rx
    obtain ⟨t2, rfl⟩ := ry
    have h := Option.some.inj h
    subst h
    exact SeqAt.EqAt.none_str b t2
  | .bl a, .non, _, _, _, h, rx, ry => by
    obtain rfl := rx
    obtain rfl := ry
    have h := Option.some.inj h
    subst h
    exact SeqAt.EqAt.bool_none a
  | .bl a, .bl b, _, _, _, h, rx, ry => by
    obtain rfl := rx
    obtain rfl := ry
    have h := Option.some.inj h
    subst h
    exact SeqAt.EqAt.bool_bool a b
  | .bl a, .int b, _, _, _, h, rx, ry => by
    obtain rfl := rx
    obtain ⟨t2, rfl⟩ := ry
    have h := Option.some.inj h
    subst h
    exact SeqAt.EqAt.bool_int a b t2
  | .bl a, .str b, _, _, _, h, rx, ry => by
    obtain rfl := rx
    obtain ⟨t2, rfl⟩ := ry
    have h := Option.some.inj h
    subst h
    exact SeqAt.EqAt.bool_str a b t2
  | .int a, .non, _, _, _, h, rx, ry => by
    obtain ⟨t, rfl⟩ := rx
    obtain rfl := ry
    have h := Option.some.inj h
    subst h
    exact SeqAt.EqAt.int_none a t
  | .int a, .bl b, _, _, _, h, rx, ry => by
    obtain ⟨t, rfl⟩ := rx
    obtain rfl := ry
    have h := Option.some.inj h
    subst h
    exact SeqAt.EqAt.int_bool a t b
  | .int a, .int b, _, _, _, h, rx, ry => by
    obtain ⟨t, rfl⟩ := rx
    obtain ⟨t2, rfl⟩ := ry
    have h := Option.some.inj h
    subst h
    exact SeqAt.EqAt.int_int a t b t2
  | .int a, .str b, _, _, _, h, rx, ry => by
    obtain ⟨t, rfl⟩ := rx
    obtain ⟨t2, rfl⟩ := ry
    have h := Option.some.inj h
    subst h
    exact SeqAt.EqAt.int_str a t b t2
  | .str a, .non, _, _, _, h, rx, ry => by
    obtain ⟨t, rfl⟩ := rx
    obtain rfl := ry
    have h := Option.some.inj h
    subst h
    exact SeqAt.EqAt.str_none a t
  | .str a, .bl b, _, _, _, h, rx, ry => by
    obtain ⟨t, rfl⟩ := rx
    obtain rfl := ry
    have h := Option.some.inj h
    subst h
    exact SeqAt.EqAt.str_bool a t b
  | .str a, .int b, _, _, _, h, rx, ry => by
    obtain ⟨t, rfl⟩ := rx
    obtain ⟨t2, rfl⟩ := ry
    have h := Option.some.inj h
    subst h
    exact SeqAt.EqAt.str_int a t b t2
  | .str a, .str b, _, _, _, h, rx, ry => by
    obtain ⟨t, rfl⟩ := rx
    obtain ⟨t2, rfl⟩ := ry
    have h := Option.some.inj h
    subst h
    exact SeqAt.EqAt.str_str a t b t2
  | .flt _, _, _, _, _, h, _, _ => by cases h
  | .byt _, _, _, _, _, h, _, _ => by cases h
  | .ref _, _, _, _, _, h, _, _ => by cases h
  | .ty _, _, _, _, _, h, _, _ => by cases h
  | .non, .flt _, _, _, _, h, _, _ => by cases h
  | .non, .byt _, _, _, _, h, _, _ => by cases h
  | .non, .ref _, _, _, _, h, _, _ => by cases h
  | .non, .ty _, _, _, _, h, _, _ => by cases h
  | .bl _, .flt _, _, _, _, h, _, _ => by cases h
  | .bl _, .byt _, _, _, _, h, _, _ => by cases h
  | .bl _, .ref _, _, _, _, h, _, _ => by cases h
  | .bl _, .ty _, _, _, _, h, _, _ => by cases h
  | .int _, .flt _, _, _, _, h, _, _ => by cases h
  | .int _, .byt _, _, _, _, h, _, _ => by cases h
  | .int _, .ref _, _, _, _, h, _, _ => by cases h
  | .int _, .ty _, _, _, _, h, _, _ => by cases h
  | .str _, .flt _, _, _, _, h, _, _ => by cases h
  | .str _, .byt _, _, _, _, h, _, _ => by cases h
  | .str _, .ref _, _, _, _, h, _, _ => by cases h
  | .str _, .ty _, _, _, _, h, _, _ => by cases h
theorem flat_tree {n : Nat} {x y : V} {v u : Value} {b : Bool} (h : flEq x y = some b) (rx : RelV x v) (ry : RelV y u) : PySem.W.EqTree X.prog X.w s n v u b := .leaf fun A _ => flat_at x y v u b h rx ry
end
end DL
set_option autoImplicit false
set_option Elab.async false
set_option linter.all false
set_option maxRecDepth 100000
set_option maxHeartbeats 400000
namespace DL
open PySem L2 Evl PySem.Spec PyProof.Rows
section
variable {X : Cx} {pins : List (Addr × Obj)} {σ : RSt} {H : Hp} {s : Shared} {A : Around}
theorem dct_at (I : Inv X pins σ H s) {a : Addr} {kvs : List (Key × V)} (h : H a = some (.dK kvs)) : SeqAt.IsDct s a := by
  obtain ⟨_, _, va, _, da⟩ := (show ObjOk X.prog X.w H s.heap a (.dK kvs) from I.hok a _ h)
  obtain ⟨⟨c, d, dt, sl⟩, es, ep, ho, hc, hd, _⟩ := da
  have hc : c = .type "dict" := hc.1
  dsimp only at hd
  subst hc hd
  exact ⟨d, es, ep, sl, ho⟩
theorem fc_at (I : Inv X pins σ H s) (hu : A.units < cLine) {a : Addr} : ∀ (k : CK) (x : V) (v : Value), flV x = true → Cont X.K H a k → RelV x v → SeqAt.EqAt A s v (.ref a) false ∧ SeqAt.EqAt A s (.ref a) v false
  | .l, x, v, hf, hc, rx => by
    obtain ⟨xs, hc⟩ := hc
    obtain ⟨its, _, p, _⟩ := I.list hc
    cases x with
    | non => cases rx; exact ⟨.none_list p.isList hu, .list_none p.isList hu⟩
    | bl b => cases rx; exact ⟨.bool_list _ p.isList hu, .list_bool _ p.isList hu⟩
    | int i => obtain ⟨t, rfl⟩ := rx; exact ⟨.int_list _ _ p.isList hu, .list_int _ _ p.isList hu⟩
    | str i => obtain ⟨t, rfl⟩ := rx; exact ⟨.str_list _ _ p.isList hu, .list_str _ _ p.isList hu⟩
    | _ => cases hf
  | .t, x, v, hf, hc, rx => by
    obtain ⟨xs, hc⟩ := hc
    obtain ⟨its, _, p, _⟩ := I.tuple hc
    cases x with
    | non => cases rx; exact ⟨.none_tuple p hu, .tuple_none p hu⟩
    | bl b => cases rx; exact ⟨.bool_tuple _ p hu, .tuple_bool _ p hu⟩
    | int i => obtain ⟨t, rfl⟩ := rx; exact ⟨.int_tuple _ _ p hu, .tuple_int _ _ p hu⟩
    | str i => obtain ⟨t, rfl⟩ := rx; exact ⟨.str_tuple _ _ p hu, .tuple_str _ _ p hu⟩
    | _ => cases hf
  | .d, x, v, hf, hc, rx => by
    obtain ⟨xs, hc⟩ := hc
    have p := dct_at I hc
    cases x with
    | non => cases rx; exact ⟨.none_dict p hu, .dict_none p hu⟩
    | bl b => cases rx; exact ⟨.bool_dict _ p hu, .dict_bool _ p hu⟩
    | int i => obtain ⟨t, rfl⟩ := rx; exact ⟨.int_dict _ _ p hu, .dict_int _ _ p hu⟩
    | str i => obtain ⟨t, rfl⟩ := rx; exact ⟨.str_dict _ _ p hu, .dict_str _ _ p hu⟩
    | _ => cases hf
theorem cc_at (I : Inv X pins σ H s) (hu : A.units < cLine) {a b : Addr} : ∀ (k k' : CK), k ≠ k' → Cont X.K H a k → Cont X.K H b k' → SeqAt.EqAt A s (.ref a) (.ref b) false
  | .l, .t, _, ⟨_, h1⟩, ⟨_, h2⟩ => by obtain ⟨_, _, p, _⟩ := I.list h1; obtain ⟨_, _, q, _⟩ := I.tuple h2; exact .list_tuple p.isList q hu
  | .t, .l, _, ⟨_, h1⟩, ⟨_, h2⟩ => by obtain ⟨_, _, p, _⟩ := I.tuple h1; obtain ⟨_, _, q, _⟩ := I.list h2; exact .tuple_list p q.isList hu
  | .l, .d, _, ⟨_, h1⟩, ⟨_, h2⟩ => by obtain ⟨_, _, p, _⟩ := I.list h1; exact .list_dict (dct_at I h2) p.isList hu
  | .d, .l, _, ⟨_, h1⟩, ⟨_, h2⟩ => by obtain ⟨_, _, p, _⟩ := I.list h2; exact .dict_list (dct_at I h1) p.isList hu
  | .t, .d, _, ⟨_, h1⟩, ⟨_, h2⟩ => by obtain ⟨_, _, p, _⟩ := I.tuple h1; exact .tuple_dict (dct_at I h2) p hu
  | .d, .t, _, ⟨_, h1⟩, ⟨_, h2⟩ => by obtain ⟨_, _, p, _⟩ := I.tuple h2; exact .dict_tuple (dct_at I h1) p hu
  | .l, .l, h, _, _ => absurd rfl h
  | .t, .t, h, _, _ => absurd rfl h
  | .d, .d, h, _, _ => absurd rfl h
theorem vals_item {xs : List V} {us : List Value} (r : Vals xs us) {j : Nat} (h : j < us.toArray.size) : ∃ x, xs[j]? = some x ∧ RelV x us.toArray[j] := by
  have hj : j < xs.length := by rw [r.length]; simpa using h
  obtain ⟨u, hu, ru⟩ := r.get (List.getElem?_eq_getElem hj)
  refine ⟨xs[j], List.getElem?_eq_getElem hj, ?_⟩
  obtain ⟨h', e⟩ := List.getElem?_eq_some_iff.mp hu
  simp only [List.getElem_toArray]
  rw [e]
  exact ru
theorem kv_mem : ∀ {ka : List (Key × V)} {va : List (Key × Value)} {k : Key} {v : Value}, KV ka va → (k, v) ∈ va → ∃ p ∈ ka, p.1 = k ∧ RelV p.2 v
  | _, _, _, _, .nil, h => by cases h
  | _, _, k, v, .cons (a := p) h r, hm => by
    rcases List.mem_cons.mp hm with z | z
    · subst z; exact ⟨p, List.mem_cons_self, h.1, h.2⟩
    · obtain ⟨p', m1, m2⟩ := kv_mem r z
      exact ⟨p', List.mem_cons_of_mem _ m1, m2⟩
theorem kv_all {kb : List (Key × V)} {vb : List (Key × Value)} (rb : KV kb vb) (e : Key → Bool) : ∀ {ka : List (Key × V)} {va : List (Key × Value)}, KV ka va → (va.all fun p => (PySem.valueAt vb p.1).isSome && e p.1) = ka.all fun p => (lkV kb p.1).isSome && e p.1
  | _, _, .nil => rfl
  | _, _, .cons (a := p) (b := q) h r => by
    rw [List.all_cons, List.all_cons, kv_all rb e r, ← h.1]
    congr 2
    rcases kv_at (k := p.1) rb with ⟨z1, z2⟩ | ⟨_, _, z1, z2, _⟩ <;> rw [z1, z2] <;> rfl
theorem veq_tree (I : Inv X pins σ H s) {n : Nat} {x y : V} {b : Bool} (h : VEq X.K H n x y b) : ∀ v u, RelV x v → RelV y u → PySem.W.EqTree X.prog X.w s n v u b := by
  induction h with
  | flat h => exact fun v u rx ry => flat_tree h rx ry
  | fc k hf hc =>
    intro v u rx ry
    cases ry
    exact .leaf fun A hu => (fc_at I (by omega) k _ v hf hc rx).1
  | cf k hf hc =>
    intro v u rx ry
    cases rx
    exact .leaf fun A hu => (fc_at I (by omega) k _ u hf hc ry).2
  | cc k k' hn h1 h2 =>
    intro v u rx ry
    cases rx
    cases ry
    exact .leaf fun A hu => cc_at I (by omega) k k' hn h1 h2
  | @ll n a b xs ys e h1 h2 hl hh ih =>
    intro v u rx ry
    cases rx
    cases ry
    by_cases hab : a = b
    · rw [veq_same I (VEq.ll e h1 h2 hl hh) (by rw [hab]), hab]
      exact .same
    · obtain ⟨us, r1, p1, _⟩ := I.list h1
      obtain ⟨ws, r2, p2, _⟩ := I.list h2
      have e1 : us.toArray.size = xs.length := by rw [List.size_toArray, r1.length]
      rw [← e1]
      refine .lists hab p1.isList p2.isList (by rw [List.size_toArray, List.size_toArray, ← r1.length, ← r2.length]; exact hl) fun j g1 g2 => ?_
      obtain ⟨x, hx, rx⟩ := vals_item r1 g1
      obtain ⟨y, hy, ry⟩ := vals_item r2 g2
      exact ih j x y hx hy _ _ rx ry
  | @lx n a b xs ys h1 h2 hl =>
    intro v u rx ry
    cases rx
    cases ry
    obtain ⟨us, r1, p1, _⟩ := I.list h1
    obtain ⟨ws, r2, p2, _⟩ := I.list h2
    exact .listsLen (fun z => by subst z; exact hl (congrArg List.length (I.list_inj h1 h2))) p1.isList p2.isList (by rw [List.size_toArray, List.size_toArray, ← r1.length, ← r2.length]; simpa using hl)
  | @tt n a b xs ys e h1 h2 hl hh ih =>
    intro v u rx ry
    cases rx
    cases ry
    by_cases hab : a = b
    · rw [veq_same I (VEq.tt e h1 h2 hl hh) (by rw [hab]), hab]
      exact .same
    · obtain ⟨us, r1, p1, _⟩ := I.tuple h1
      obtain ⟨ws, r2, p2, _⟩ := I.tuple h2
      have e1 : us.toArray.size = xs.length := by rw [List.size_toArray, r1.length]
      have e2 : us.toArray.size = ws.toArray.size := by rw [List.size_toArray, List.size_toArray, ← r1.length, ← r2.length]; exact hl
      have t := PySem.W.EqTree.tuples (prog := X.prog) (w := X.w) (n := n) (e := e) hab p1 p2 fun j g1 g2 => by
        obtain ⟨x, hx, rx⟩ := vals_item r1 g1
        obtain ⟨y, hy, ry⟩ := vals_item r2 g2
        exact ih j x y hx hy _ _ rx ry
      rw [← e2, Nat.min_self, e1, beq_self_eq_true, Bool.and_true] at t
      exact t
  | @dd n a b ka kb e h1 h2 nd hh ih =>
    intro v u rx ry
    cases rx
    cases ry
    by_cases hab : a = b
    · rw [veq_same I (VEq.dd e h1 h2 nd hh) (by rw [hab]), hab]
      exact .same
    · obtain ⟨_, ya, va, ra, da⟩ := (show ObjOk X.prog X.w H s.heap a (.dK ka) from I.hok a _ h1)
      obtain ⟨_, yb, vb, rb, db⟩ := (show ObjOk X.prog X.w H s.heap b (.dK kb) from I.hok b _ h2)
      have t := PySem.W.EqTree.dicts (prog := X.prog) (w := X.w) (n := n) (e := e) hab ya yb da db fun k v y hm hv => by
        obtain ⟨p, hp, ep⟩ := kv_mem ra hm
        rcases kv_at (k := k) rb with ⟨_, z⟩ | ⟨y', u', z1, z2, z3⟩
        · rw [z] at hv; cases hv
        · rw [z2] at hv
          cases hv
          obtain ⟨rfl, rp⟩ := ep
          exact ih p.1 p.2 y' hp z1 _ _ rp z3
      have e1 : (va.length == vb.length && va.all fun p => (PySem.valueAt vb p.1).isSome && e p.1) = (ka.length == kb.length && ka.all fun p => (lkV kb p.1).isSome && e p.1) := by
        have l1 : ka.length = va.length := Paired.length ra
        have l2 : kb.length = vb.length := Paired.length rb
        rw [← l1, ← l2, kv_all rb e ra]
      rw [e1] at t
      exact t
end
end DL
set_option autoImplicit false
set_option Elab.async false
set_option linter.all false
set_option maxRecDepth 100000
set_option maxHeartbeats 1000000
namespace PySem.SeqAt
open MeetsSeq MeetsSeq2 MeetsSeq3 SeqRoads2
section
variable {prog : Program} {w : World}
abbrev LObj (vs : Array Value) (m : Nat) (q : Option Addr) (z : Array (Option Value)) : Obj := { cls := .type "list", dict := q, data := .seq vs m, slots := z }
/-- the rest of != of two lists, from i on -/
theorem neIn_from (a b : Addr) (u v : Array Value) (m1 m2 : Nat) (q1 q2 : Option Addr) (z1 z2 : Array (Option Value)) (same : u.size = v.size) (f : Nat → Bool) : ∀ (k i : Nat), u.size - i = k →
    MeetsIn prog w (Builtin.«list.__eq__.loop» ⟨[.ref a, .ref b, rawInt i, rawInt 3], []⟩) (fun A R s => s.heap.get? a = some (LObj u m1 q1 z1) ∧ s.heap.get? b = some (LObj v m2 q2 z2) ∧
      (∀ j (g1 : j < u.size) (g2 : j < v.size), EqIn prog w A.in1 s u[j] v[j] (f j)) ∧ R (.ok (.ret (.bool (!((List.range u.size).drop i).all f)))) s) := by
  intro k
  induction k with
  | zero =>
    rintro i hk A R ⟨hp, g, d, tk, os⟩ ⟨ga, gb, gi, r⟩
    have o1 : u[(((i : Nat) : Int)).toNat]? = none := by simp; omega
    have o2 : v[(((i : Nat) : Int)).toNat]? = none := by simp; omega
    rw [show (List.range u.size).drop i = [] from by simp; omega] at r
    wp_walk using AutoSeq1.wpAny_loadPart' ga, AutoSeq1.wpAny_loadPart' gb
    rw [o1, o2]
    wp_walk using AutoSeq1.wpAny_loadPart' ga, AutoSeq1.wpAny_loadPart' gb
    show R (.ok (.ret (.bool (u.size != v.size)))) _
    rw [same]
    simpa using r
  | succ k ih =>
    rintro i hk A R ⟨hp, g, d, tk, os⟩ ⟨ga, gb, gi, r⟩
    have l1 : i < u.size := by omega
    have l2 : i < v.size := by omega
    have o1 : u[(((i : Nat) : Int)).toNat]? = some u[i] := by simp [l1]
    have o2 : v[(((i : Nat) : Int)).toNat]? = some v[i] := by simp [l2]
    have nx : ((i : Int) + 1) = ((i + 1 : Nat) : Int) := by omega
    rw [show (List.range u.size).drop i = i :: (List.range u.size).drop (i + 1) from by simp [List.drop_eq_getElem_cons, l1], List.all_cons] at r
    wp_walk using AutoSeq1.wpAny_loadPart' ga, AutoSeq1.wpAny_loadPart' gb
    rw [o1, o2]
    refine wpAny_bind (gi i l1 l2 _ _ ?_)
    cases hf : f i with
    | true =>
      rw [hf] at r
      wp_walk
      rw [nx]
      refine ⟨plainId_quiet plain_eq_loop _, codeAny_builtin entry_eq_loop (Around.under_plainId plain_eq_loop _ ▸ ?_)⟩
      exact ih (i + 1) (by omega) A R _ ⟨ga, gb, gi, by simpa using r⟩
    | false =>
      rw [hf] at r
      wp_walk using AutoSeq1.wpAny_loadPart' ga, AutoSeq1.wpAny_loadPart' gb
      rw [o1, o2]
      wp_walk
      simpa using r
theorem neIn_list (a b : Addr) (u v : Array Value) (m1 m2 : Nat) (q1 q2 : Option Addr) (z1 z2 : Array (Option Value)) (same : u.size = v.size) (f : Nat → Bool) :
    MeetsIn prog w (Builtin.«list.__ne__» ⟨[.ref a, .ref b], []⟩) (fun A R s => s.heap.get? a = some (LObj u m1 q1 z1) ∧ s.heap.get? b = some (LObj v m2 q2 z2) ∧
      (∀ j (g1 : j < u.size) (g2 : j < v.size), EqIn prog w A.in1 s u[j] v[j] (f j)) ∧ R (.ok (.ret (.bool (!(List.range u.size).all f)))) s) := by
  rintro A R ⟨hp, g, d, tk, os⟩ ⟨ga, gb, gi, r⟩
  have sb := AutoSeq1.sub_list_list
  have hq : ¬ (u.size != v.size) = true := by simp [same]
  wp_walk using AutoSeq1.wpAny_loadPart' ga, AutoSeq1.wpAny_loadPart' gb
  refine ⟨plainId_quiet plain_eq_loop _, codeAny_builtin entry_eq_loop (Around.under_plainId plain_eq_loop _ ▸ ?_)⟩
  exact neIn_from a b u v m1 m2 q1 q2 z1 z2 same f _ 0 rfl A R _ ⟨ga, gb, gi, by simpa using r⟩
theorem rcNeIn {A : Around} {s : Shared} {E Q : Value → Shared → Prop} {a b : Addr} {u v : Array Value} {f : Nat → Bool} (ha : s.heap.IsList a u) (hb : s.heap.IsList b v) (same : u.size = v.size) (hu : A.units < cLine)
    (gi : ∀ j (g1 : j < u.size) (g2 : j < v.size), EqIn prog w A.in1 s u[j] v[j] (f j)) (r : Q (.bool (!(List.range u.size).all f)) s) : wpAny (model prog w) A (richCompare .NotEq (.ref a) (.ref b)) Q E s := by
  obtain ⟨⟨c1, q1, t1, z1⟩, o1, k1, m1, d1⟩ := id ha
  obtain ⟨⟨c2, q2, t2, z2⟩, o2, k2, m2, d2⟩ := id hb
  dsimp only at k1 d1 k2 d2
  subst k1 d1 k2 d2
  exact wpAny_richCompare_same_room (T := "list") (op := .NotEq) ⟨_, o1, rfl⟩ ⟨_, o2, rfl⟩ PySem.F.slot_list_ne (call_meetsIn PySem.F.slot_list_ne ⟨_, o1, rfl⟩ PySem.F.entry_list_ne (PySem.F.args_list_ne_2 _ _) (neIn_list a b u v m1 m2 q1 q2 z1 z2 same f)
    ⟨o1, o2, gi, (fun x => nomatch x), r⟩) hu
end
end PySem.SeqAt
set_option autoImplicit false
set_option Elab.async false
set_option linter.all false
set_option maxRecDepth 100000
set_option maxHeartbeats 400000
namespace DL
open PySem L2 Evl PySem.Spec PyProof.Rows
section
variable {X : Cx} {pins : List (Addr × Obj)} {σ : RSt} {H : Hp} {s : Shared} {A : Around}
theorem flat_rc {A : Around} : ∀ (x y : V) (v u : Value) (b : Bool), flEq x y = some b → RelV x v → RelV y u → SeqAt.RcAt A s v u b
  | .non, .non, _, _, _, h, rx, ry => by
    obtain rfl := rx
    obtain rfl := ry
    have h := Option.some.inj h
    subst h
    exact SeqAt.RcAt.none_none
  | .non, .bl b, _, _, _, h, rx, ry => by
    obtain rfl := rx
    obtain rfl := ry
    have h := Option.some.inj h
    subst h
    exact SeqAt.RcAt.none_bool b
  | .non, .int b, _, _, _, h, rx, ry => by
    obtain rfl := rx
    obtain ⟨t2, rfl⟩ := ry
    have h := Option.some.inj h
    subst h
    exact SeqAt.RcAt.none_int b t2
  | .non, .str b, _, _, _, h, rx, ry => by
    obtain rfl := rx
    obtain ⟨t2, rfl⟩ := ry
    have h := Option.some.inj h
    subst h
    exact SeqAt.RcAt.none_str b t2
  | .bl a, .non, _, _, _, h, rx, ry => by
    obtain rfl := rx
    obtain rfl := ry
    have h := Option.some.inj h
    subst h
    exact SeqAt.RcAt.bool_none a
  | .bl a, .bl b, _, _, _, h, rx, ry => by
    obtain rfl := rx
    obtain rfl := ry
    have h := Option.some.inj h
    subst h
    exact SeqAt.RcAt.bool_bool a b
  | .bl a, .int b, _, _, _, h, rx, ry => by
    obtain rfl := rx
    obtain ⟨t2, rfl⟩ := ry
    have h := Option.some.inj h
    subst h
    exact SeqAt.RcAt.bool_int a b t2
  | .bl a, .str b, _, _, _, h, rx, ry => by
    obtain rfl := rx
    obtain ⟨t2, rfl⟩ := ry
    have h := Option.some.inj h
    subst h
    exact SeqAt.RcAt.bool_str a b t2
  | .int a, .non, _, _, _, h, rx, ry => by
    obtain ⟨t, rfl⟩ := rx
    obtain rfl := ry
    have h := Option.some.inj h
    subst h
    exact SeqAt.RcAt.int_none a t
  | .int a, .bl b, _, _, _, h, rx, ry => by
    obtain ⟨t, rfl⟩ := rx
    obtain rfl := ry
    have h := Option.some.inj h
    subst h
    exact SeqAt.RcAt.int_bool a t b
  | .int a, .int b, _, _, _, h, rx, ry => by
    obtain ⟨t, rfl⟩ := rx
    obtain ⟨t2, rfl⟩ := ry
    have h := Option.some.inj h
    subst h
    exact SeqAt.RcAt.int_int a t b t2
  | .int a, .str b, _, _, _, h, rx, ry => by
    obtain ⟨t, rfl⟩ := rx
    obtain ⟨t2, rfl⟩ := ry
    have h := Option.some.inj h
    subst h
    exact SeqAt.RcAt.int_str a t b t2
  | .str a, .non, _, _, _, h, rx, ry => by
    obtain ⟨t, rfl⟩ := rx
    obtain rfl := ry
    have h := Option.some.inj h
    subst h
    exact SeqAt.RcAt.str_none a t
  | .str a, .bl b, _, _, _, h, rx, ry => by
    obtain ⟨t, rfl⟩ := rx
    obtain rfl := ry
    have h := Option.some.inj h
    subst h
    exact SeqAt.RcAt.str_bool a t b
  | .str a, .int b, _, _, _, h, rx, ry => by
    obtain ⟨t, rfl⟩ := rx
    obtain ⟨t2, rfl⟩ := ry
    have h := Option.some.inj h
    subst h
    exact SeqAt.RcAt.str_int a t b t2
  | .str a, .str b, _, _, _, h, rx, ry => by
    obtain ⟨t, rfl⟩ := rx
    obtain ⟨t2, rfl⟩ := ry
    have h := Option.some.inj h
    subst h
    exact SeqAt.RcAt.str_str a t b t2
  | .flt _, _, _, _, _, h, _, _ => by cases h
  | .byt _, _, _, _, _, h, _, _ => by cases h
  | .ref _, _, _, _, _, h, _, _ => by cases h
  | .ty _, _, _, _, _, h, _, _ => by cases h
  | .non, .flt _, _, _, _, h, _, _ => by cases h
  | .non, .byt _, _, _, _, h, _, _ => by cases h
  | .non, .ref _, _, _, _, h, _, _ => by cases h
  | .non, .ty _, _, _, _, h, _, _ => by cases h
  | .bl _, .flt _, _, _, _, h, _, _ => by cases h
  | .bl _, .byt _, _, _, _, h, _, _ => by cases h
  | .bl _, .ref _, _, _, _, h, _, _ => by cases h
  | .bl _, .ty _, _, _, _, h, _, _ => by cases h
  | .int _, .flt _, _, _, _, h, _, _ => by cases h
  | .int _, .byt _, _, _, _, h, _, _ => by cases h
  | .int _, .ref _, _, _, _, h, _, _ => by cases h
  | .int _, .ty _, _, _, _, h, _, _ => by cases h
  | .str _, .flt _, _, _, _, h, _, _ => by cases h
  | .str _, .byt _, _, _, _, h, _, _ => by cases h
  | .str _, .ref _, _, _, _, h, _, _ => by cases h
  | .str _, .ty _, _, _, _, h, _, _ => by cases h
theorem fc_rc (I : Inv X pins σ H s) (hu : A.units < cLine) {a : Addr} : ∀ (k : CK) (x : V) (v : Value), flV x = true → Cont X.K H a k → RelV x v → SeqAt.RcAt A s v (.ref a) false ∧ SeqAt.RcAt A s (.ref a) v false
  | .l, x, v, hf, hc, rx => by
    obtain ⟨xs, hc⟩ := hc
    obtain ⟨its, _, p, _⟩ := I.list hc
    cases x with
    | non => cases rx; exact ⟨.none_list p.isList hu, .list_none p.isList hu⟩
    | bl b => cases rx; exact ⟨.bool_list _ p.isList hu, .list_bool _ p.isList hu⟩
    | int i => obtain ⟨t, rfl⟩ := rx; exact ⟨.int_list _ _ p.isList hu, .list_int _ _ p.isList hu⟩
    | str i => obtain ⟨t, rfl⟩ := rx; exact ⟨.str_list _ _ p.isList hu, .list_str _ _ p.isList hu⟩
    | _ => cases hf
  | .t, x, v, hf, hc, rx => by
    obtain ⟨xs, hc⟩ := hc
    obtain ⟨its, _, p, _⟩ := I.tuple hc
    cases x with
    | non => cases rx; exact ⟨.none_tuple p hu, .tuple_none p hu⟩
    | bl b => cases rx; exact ⟨.bool_tuple _ p hu, .tuple_bool _ p hu⟩
    | int i => obtain ⟨t, rfl⟩ := rx; exact ⟨.int_tuple _ _ p hu, .tuple_int _ _ p hu⟩
    | str i => obtain ⟨t, rfl⟩ := rx; exact ⟨.str_tuple _ _ p hu, .tuple_str _ _ p hu⟩
    | _ => cases hf
  | .d, x, v, hf, hc, rx => by
    obtain ⟨xs, hc⟩ := hc
    have p := dct_at I hc
    cases x with
    | non => cases rx; exact ⟨.none_dict p hu, .dict_none p hu⟩
    | bl b => cases rx; exact ⟨.bool_dict _ p hu, .dict_bool _ p hu⟩
    | int i => obtain ⟨t, rfl⟩ := rx; exact ⟨.int_dict _ _ p hu, .dict_int _ _ p hu⟩
    | str i => obtain ⟨t, rfl⟩ := rx; exact ⟨.str_dict _ _ p hu, .dict_str _ _ p hu⟩
    | _ => cases hf
theorem cc_rc (I : Inv X pins σ H s) (hu : A.units < cLine) {a b : Addr} : ∀ (k k' : CK), k ≠ k' → Cont X.K H a k → Cont X.K H b k' → SeqAt.RcAt A s (.ref a) (.ref b) false
  | .l, .t, _, ⟨_, h1⟩, ⟨_, h2⟩ => by obtain ⟨_, _, p, _⟩ := I.list h1; obtain ⟨_, _, q, _⟩ := I.tuple h2; exact .list_tuple p.isList q hu
  | .t, .l, _, ⟨_, h1⟩, ⟨_, h2⟩ => by obtain ⟨_, _, p, _⟩ := I.tuple h1; obtain ⟨_, _, q, _⟩ := I.list h2; exact .tuple_list p q.isList hu
  | .l, .d, _, ⟨_, h1⟩, ⟨_, h2⟩ => by obtain ⟨_, _, p, _⟩ := I.list h1; exact .list_dict (dct_at I h2) p.isList hu
  | .d, .l, _, ⟨_, h1⟩, ⟨_, h2⟩ => by obtain ⟨_, _, p, _⟩ := I.list h2; exact .dict_list (dct_at I h1) p.isList hu
  | .t, .d, _, ⟨_, h1⟩, ⟨_, h2⟩ => by obtain ⟨_, _, p, _⟩ := I.tuple h1; exact .tuple_dict (dct_at I h2) p hu
  | .d, .t, _, ⟨_, h1⟩, ⟨_, h2⟩ => by obtain ⟨_, _, p, _⟩ := I.tuple h2; exact .dict_tuple (dct_at I h1) p hu
  | .l, .l, h, _, _ => absurd rfl h
  | .t, .t, h, _, _ => absurd rfl h
  | .d, .d, h, _, _ => absurd rfl h
theorem veq_rc (I : Inv X pins σ H s) {n : Nat} {x y : V} {b : Bool} (h : VEq X.K H n x y b) {v u : Value} (rx : RelV x v) (ry : RelV y u) (hu : A.units + (n + 1) < cLine) {E Q : Value → Shared → Prop} (q : Q (.bool b) s) :
    wpAny (model X.prog X.w) A (richCompare .Eq v u) Q E s := by
  have h0 : A.units < cLine := by omega
  cases h with
  | flat h => exact flat_rc x y v u b h rx ry _ _ _ _ q
  | fc k hf hc => cases ry; exact (fc_rc I h0 k _ v hf hc rx).1 _ _ _ _ q
  | cf k hf hc => cases rx; exact (fc_rc I h0 k _ u hf hc ry).2 _ _ _ _ q
  | cc k k' hn h1 h2 => cases rx; cases ry; exact cc_rc I h0 k k' hn h1 h2 _ _ _ _ q
  | @ll n a b xs ys e h1 h2 hl hh =>
    cases rx
    cases ry
    obtain ⟨us, r1, p1, _⟩ := I.list h1
    obtain ⟨ws, r2, p2, _⟩ := I.list h2
    have e1 : us.toArray.size = xs.length := by rw [List.size_toArray, r1.length]
    refine SeqAt.rcIn_lists (e := e) p1.isList p2.isList (by rw [List.size_toArray, List.size_toArray, ← r1.length, ← r2.length]; exact hl) h0 (fun j g1 g2 => ?_) (by rw [e1]; exact q)
    obtain ⟨x, hx, rx⟩ := vals_item r1 g1
    obtain ⟨y, hy, ry⟩ := vals_item r2 g2
    exact (veq_tree I (hh j x y hx hy) _ _ rx ry).at A.in1 (by show A.units + 1 + n < cLine; omega)
  | @lx n a b xs ys h1 h2 hl =>
    cases rx
    cases ry
    obtain ⟨us, r1, p1, _⟩ := I.list h1
    obtain ⟨ws, r2, p2, _⟩ := I.list h2
    exact SeqAt.RcAt.lists_lengths p1.isList p2.isList (by rw [List.size_toArray, List.size_toArray, ← r1.length, ← r2.length]; simpa using hl) h0 _ _ _ _ q
  | @tt n a b xs ys e h1 h2 hl hh =>
    cases rx
    cases ry
    obtain ⟨us, r1, p1, _⟩ := I.tuple h1
    obtain ⟨ws, r2, p2, _⟩ := I.tuple h2
    have e1 : us.toArray.size = xs.length := by rw [List.size_toArray, r1.length]
    have e2 : us.toArray.size = ws.toArray.size := by rw [List.size_toArray, List.size_toArray, ← r1.length, ← r2.length]; exact hl
    refine SeqAt.rcIn_tuples (e := e) p1 p2 h0 (fun j g1 g2 => ?_) (by rw [← e2, Nat.min_self, e1, beq_self_eq_true, Bool.and_true]; exact q)
    obtain ⟨x, hx, rx⟩ := vals_item r1 g1
    obtain ⟨y, hy, ry⟩ := vals_item r2 g2
    exact (veq_tree I (hh j x y hx hy) _ _ rx ry).at A.in1 (by show A.units + 1 + n < cLine; omega)
  | @dd n a b ka kb e h1 h2 nd hh =>
    cases rx
    cases ry
    obtain ⟨_, ya, va, ra, da⟩ := (show ObjOk X.prog X.w H s.heap a (.dK ka) from I.hok a _ h1)
    obtain ⟨_, yb, vb, rb, db⟩ := (show ObjOk X.prog X.w H s.heap b (.dK kb) from I.hok b _ h2)
    have l1 : ka.length = va.length := Paired.length ra
    have l2 : kb.length = vb.length := Paired.length rb
    refine PySem.W.eq_dictsT (e := e) (n := n) ya yb da db (fun k v y hm hv => ?_) (by omega) (by rw [← l1, ← l2, kv_all rb e ra]; exact q)
    obtain ⟨p, hp, ep⟩ := kv_mem ra hm
    rcases kv_at (k := k) rb with ⟨_, z⟩ | ⟨y', u', z1, z2, z3⟩
    · rw [z] at hv; cases hv
    · rw [z2] at hv
      cases hv
      obtain ⟨rfl, rp⟩ := ep
      exact veq_tree I (hh p.1 p.2 y' hp z1) _ _ rp z3
/-- == of anything, != of two lists of one length -/
def rEqX (K : PySem.W.Frag) : R2 := fun x y H Q => ∃ n b, n ≤ 60 ∧ VEq K H n x y b ∧ Q (.bl b) H
def rNeX (K : PySem.W.Frag) : R2 := fun x y H Q => ∃ (n : Nat) (a b : Addr) (xs ys : List V) (e : Nat → Bool), n ≤ 60 ∧ x = .ref a ∧ y = .ref b ∧ SqL K H a xs ∧ SqL K H b ys ∧ xs.length = ys.length ∧ (∀ (j : Nat) (x y : V), xs[j]? = some x → ys[j]? = some y → VEq K H n x y (e j)) ∧ Q (.bl (!(List.range xs.length).all e)) H
theorem op_eqX (hu : X.A.units + 64 < cLine) : OpR X (compareOp .Eq) (rEqX X.K) := by
  intro pins s σ H x y v u Q I rx ry h
  obtain ⟨n, b, hn, h, q⟩ := h
  exact veq_rc I h rx ry (by omega) ⟨V.bl b, H, I, rfl, q⟩
theorem op_neX (hu : X.A.units + 64 < cLine) : OpR X (compareOp .NotEq) (rNeX X.K) := by
  intro pins s σ H x y v u Q I rx ry h
  obtain ⟨n, a, b, xs, ys, e, hn, rfl, rfl, h1, h2, hl, hh, q⟩ := h
  cases rx
  cases ry
  obtain ⟨us, r1, p1, _⟩ := I.list h1
  obtain ⟨ws, r2, p2, _⟩ := I.list h2
  have e1 : us.toArray.size = xs.length := by rw [List.size_toArray, r1.length]
  show wpAny (model X.prog X.w) X.A (richCompare .NotEq (.ref a) (.ref b)) (EP X pins σ Q) X.xe s
  refine SeqAt.rcNeIn (f := e) p1.isList p2.isList (by rw [List.size_toArray, List.size_toArray, ← r1.length, ← r2.length]; exact hl) (by omega) (fun j g1 g2 => ?_) (by rw [e1]; exact ⟨V.bl _, H, I, rfl, q⟩)
  obtain ⟨x, hx, rx⟩ := vals_item r1 g1
  obtain ⟨y, hy, ry⟩ := vals_item r2 g2
  exact (veq_tree I (hh j x y hx hy) _ _ rx ry).at X.A.in1 (by show X.A.units + 1 + n < cLine; omega)
end
/-! ### as data -/
inductive Sh where
  | f (x : V) | l (xs : List D) | t (xs : List D) | d (kvs : List (Key × D))
def D.sh : D → Option Sh
  | .non => some (.f .non)
  | .bl b => some (.f (.bl b))
  | .int i => some (.f (.int i))
  | .str x => some (.f (.str x))
  | .lst xs => some (.l xs)
  | .tup xs => some (.t xs)
  | .dct xs => some (.d xs)
  | _ => none
def D.eqs (f : D → D → Option Bool) : List D → List D → Option (List Bool)
  | [], [] => some []
  | x :: xs, y :: ys => (f x y).bind fun b => (D.eqs f xs ys).map fun r => b :: r
  | _, _ => none
def eqKD (f : D → D → Option Bool) : List (Key × D) → List (Key × D) → Option Bool
  | [], ys => some (ys.length == 0)
  | [_], [] => some false
  | [(k, v)], [(k', v')] => if k = k' then f v v' else none
  | _, _ => none
def eqS (f : D → D → Option Bool) : Sh → Sh → Option Bool
  | .f x, .f y => flEq x y
  | .l xs, .l ys => if xs.length = ys.length then (D.eqs f xs ys).map fun r => r.all id else some false
  | .t xs, .t ys => if xs.length = ys.length then (D.eqs f xs ys).map fun r => r.all id else none
  | .d xs, .d ys => eqKD f xs ys
  | _, _ => some false
def D.eqX : Nat → D → D → Option Bool
  | 0, _, _ => none
  | n + 1, a, b => a.sh.bind fun p => b.sh.bind fun q => eqS (D.eqX n) p q
section
variable {K : PySem.W.Frag} {G H : Hp}
/-- what v is, where its data has the shape p -/
def ShR (K : PySem.W.Frag) (G H : Hp) (v : V) : Sh → Prop
  | .f x => v = x ∧ flV x = true
  | .l xs => ∃ p vs, v = .ref p ∧ SqL K H p vs ∧ Reps K G vs xs
  | .t xs => ∃ p vs, v = .ref p ∧ SqT K H p vs ∧ Reps K G vs xs
  | .d xs => ∃ p vs, v = .ref p ∧ H p = some (.dK vs) ∧ RepK K G vs xs
theorem sh_of (e : Ex G H) {v : V} {a : D} {p : Sh} (r : RepT K G H v a) (h : a.sh = some p) : ShR K G H v p := by
  cases a with
  | non => cases h; exact ⟨r.non, rfl⟩
  | bl b => cases h; exact ⟨r.bl, rfl⟩
  | int b => cases h; exact ⟨r.int, rfl⟩
  | str b => cases h; exact ⟨r.str, rfl⟩
  | lst xs => cases h; exact r.lst e
  | tup xs => cases h; exact r.tup e
  | dct xs => cases h; exact r.dct e
  | _ => cases h
theorem eqs_at {f : D → D → Option Bool} : ∀ {xs ys : List D} {r : List Bool}, D.eqs f xs ys = some r → r.length = xs.length ∧ ∀ (j : Nat) (x y : D), xs[j]? = some x → ys[j]? = some y → ∃ b, r[j]? = some b ∧ f x y = some b
  | [], [], _, h => by cases h; exact ⟨rfl, fun j x y h => by simp at h⟩
  | x :: xs, y :: ys, r, h => by
    have h : (f x y).bind (fun b => (D.eqs f xs ys).map fun r => b :: r) = some r := h
    cases q : f x y with
    | none => rw [q] at h; cases h
    | some b =>
      rw [q] at h
      cases q2 : D.eqs f xs ys with
      | none => rw [q2] at h; cases h
      | some t =>
        rw [q2] at h
        cases h
        obtain ⟨h1, h2⟩ := eqs_at q2
        refine ⟨by rw [List.length_cons, List.length_cons, h1], fun j u v hu hv => ?_⟩
        cases j with
        | zero => simp at hu hv; subst hu hv; exact ⟨b, rfl, q⟩
        | succ j => exact h2 j u v (by simpa using hu) (by simpa using hv)
  | [], _ :: _, _, h => by cases h
  | _ :: _, [], _, h => by cases h
theorem all_id (r : List Bool) : r.all id = (List.range r.length).all fun j => (r[j]?).getD false := by
  induction r with
  | nil => rfl
  | cons b r ih => rw [List.length_cons, List.range_succ_eq_map, List.all_cons, List.all_cons, List.all_map, ih]; rfl
theorem reps_at {vs : List V} {ds : List D} {j : Nat} {v : V} (r : Reps K G vs ds) (h : vs[j]? = some v) : ∃ d, ds[j]? = some d ∧ Rep K G v d := by
  cases q : ds[j]? with
  | none => rw [r.none_of q] at h; cases h
  | some d =>
    obtain ⟨w, h1, h2⟩ := r.get q
    rw [h] at h1
    cases h1
    exact ⟨d, rfl, h2⟩
theorem eqX_veq (e : Ex G H) : ∀ (n : Nat) (a b : D) (v u : V) (r : Bool), RepT K G H v a → RepT K G H u b → D.eqX n a b = some r → VEq K H n v u r
  | 0, _, _, _, _, _, _, _, h => by cases h
  | n + 1, a, b, v, u, r, ra, rb, h => by
    have h : (a.sh.bind fun p => b.sh.bind fun q => eqS (D.eqX n) p q) = some r := h
    cases qa : a.sh with
    | none => rw [qa] at h; cases h
    | some p =>
      cases qb : b.sh with
      | none => rw [qa, qb] at h; cases h
      | some q =>
        rw [qa, qb] at h
        have h : eqS (D.eqX n) p q = some r := h
        have sa := sh_of e ra qa
        have sb := sh_of e rb qb
        have items : ∀ {vs us : List V} {xs ys : List D} {l : List Bool}, Reps K G vs xs → Reps K G us ys → D.eqs (D.eqX n) xs ys = some l → ∀ (j : Nat) (x y : V), vs[j]? = some x → us[j]? = some y → VEq K H n x y ((l[j]?).getD false) := fun {vs us xs ys l} r1 r2 hl j x y hx hy => by
          obtain ⟨dx, ex, rx⟩ := reps_at r1 hx
          obtain ⟨dy, ey, ry⟩ := reps_at r2 hy
          obtain ⟨b, eb, hb⟩ := (eqs_at hl).2 j dx dy ex ey
          rw [eb]
          exact eqX_veq e n dx dy x y b (.inl rx) (.inl ry) hb
        match p, q, h, sa, sb with
        | .f x, .f y, h, ⟨e1, _⟩, ⟨e2, _⟩ => subst e1 e2; exact .flat h
        | .f x, .l ys, h, ⟨e1, f1⟩, ⟨p, vs, e2, h2, _⟩ => subst e1 e2; cases h; exact .fc .l f1 ⟨_, h2⟩
        | .f x, .t ys, h, ⟨e1, f1⟩, ⟨p, vs, e2, h2, _⟩ => subst e1 e2; cases h; exact .fc .t f1 ⟨_, h2⟩
        | .f x, .d ys, h, ⟨e1, f1⟩, ⟨p, vs, e2, h2, _⟩ => subst e1 e2; cases h; exact .fc .d f1 ⟨_, h2⟩
        | .l xs, .f y, h, ⟨p, vs, e2, h2, _⟩, ⟨e1, f1⟩ => subst e1 e2; cases h; exact .cf .l f1 ⟨_, h2⟩
        | .t xs, .f y, h, ⟨p, vs, e2, h2, _⟩, ⟨e1, f1⟩ => subst e1 e2; cases h; exact .cf .t f1 ⟨_, h2⟩
        | .d xs, .f y, h, ⟨p, vs, e2, h2, _⟩, ⟨e1, f1⟩ => subst e1 e2; cases h; exact .cf .d f1 ⟨_, h2⟩
        | .l xs, .t ys, h, ⟨p, vs, e1, h1, _⟩, ⟨p', vs', e2, h2, _⟩ => subst e1 e2; cases h; exact .cc .l .t nofun ⟨_, h1⟩ ⟨_, h2⟩
        | .t xs, .l ys, h, ⟨p, vs, e1, h1, _⟩, ⟨p', vs', e2, h2, _⟩ => subst e1 e2; cases h; exact .cc .t .l nofun ⟨_, h1⟩ ⟨_, h2⟩
        | .l xs, .d ys, h, ⟨p, vs, e1, h1, _⟩, ⟨p', vs', e2, h2, _⟩ => subst e1 e2; cases h; exact .cc .l .d nofun ⟨_, h1⟩ ⟨_, h2⟩
        | .d xs, .l ys, h, ⟨p, vs, e1, h1, _⟩, ⟨p', vs', e2, h2, _⟩ => subst e1 e2; cases h; exact .cc .d .l nofun ⟨_, h1⟩ ⟨_, h2⟩
        | .t xs, .d ys, h, ⟨p, vs, e1, h1, _⟩, ⟨p', vs', e2, h2, _⟩ => subst e1 e2; cases h; exact .cc .t .d nofun ⟨_, h1⟩ ⟨_, h2⟩
        | .d xs, .t ys, h, ⟨p, vs, e1, h1, _⟩, ⟨p', vs', e2, h2, _⟩ => subst e1 e2; cases h; exact .cc .d .t nofun ⟨_, h1⟩ ⟨_, h2⟩
        | .l xs, .l ys, h, ⟨p, vs, e1, h1, r1⟩, ⟨p', us, e2, h2, r2⟩ =>
          subst e1 e2
          have h : (if xs.length = ys.length then (D.eqs (D.eqX n) xs ys).map (fun r => r.all id) else some false) = some r := h
          by_cases hl : xs.length = ys.length
          · rw [if_pos hl] at h
            cases q : D.eqs (D.eqX n) xs ys with
            | none => rw [q] at h; cases h
            | some l =>
              rw [q] at h
              cases h
              show VEq K H (n + 1) _ _ (l.all id)
              rw [all_id, (eqs_at q).1, ← r1.length]
              exact .ll _ h1 h2 (by rw [r1.length, r2.length, hl]) (items r1 r2 q)
          · rw [if_neg hl] at h
            cases h
            exact .lx h1 h2 (by rw [r1.length, r2.length]; exact hl)
        | .t xs, .t ys, h, ⟨p, vs, e1, h1, r1⟩, ⟨p', us, e2, h2, r2⟩ =>
          subst e1 e2
          have h : (if xs.length = ys.length then (D.eqs (D.eqX n) xs ys).map (fun r => r.all id) else none) = some r := h
          by_cases hl : xs.length = ys.length
          · rw [if_pos hl] at h
            cases q : D.eqs (D.eqX n) xs ys with
            | none => rw [q] at h; cases h
            | some l =>
              rw [q] at h
              cases h
              show VEq K H (n + 1) _ _ (l.all id)
              rw [all_id, (eqs_at q).1, ← r1.length]
              exact .tt _ h1 h2 (by rw [r1.length, r2.length, hl]) (items r1 r2 q)
          · rw [if_neg hl] at h
            cases h
        | .d xs, .d ys, h, ⟨p, vs, e1, h1, r1⟩, ⟨p', us, e2, h2, r2⟩ =>
          subst e1 e2
          cases r1 with
          | nil =>
            have h : some (ys.length == 0) = some r := h
            have h := Option.some.inj h
            have l2 : us.length = ys.length := by
              clear h h2 sb rb
              have : ∀ {a : List (Key × V)} {b : List (Key × D)}, RepK K G a b → a.length = b.length := fun {a b} x => by
                induction b generalizing a with
                | nil => cases x; rfl
                | cons _ _ ih => cases x with | cons _ t => rw [List.length_cons, List.length_cons, ih t]
              exact this r2
            have t := VEq.dd (K := K) (H := H) (n := n) (fun _ => true) h1 h2 (by simp) (fun k x y hm => by cases hm)
            rw [← h, ← l2]
            have e0 : (([] : List (Key × V)).length == us.length && ([] : List (Key × V)).all fun p => (lkV us p.1).isSome && true) = (us.length == 0) := by
              cases us <;> rfl
            rw [e0] at t
            exact t
          | @cons k v1 d1 vs1 xs1 r1 rr1 =>
            cases rr1 with
            | cons _ _ => cases r2 <;> first | cases h | (rename_i rr; cases rr <;> cases h)
            | nil =>
              cases r2 with
              | nil =>
                have h : some false = some r := h
                cases h
                have t := VEq.dd (K := K) (H := H) (n := n) (fun _ => true) h1 h2 (by simp) (fun k x y _ hl => by cases hl)
                exact t
              | @cons k' v2 d2 vs2 xs2 r2 rr2 =>
                cases rr2 with
                | cons _ _ => cases h
                | nil =>
                  have h : (if k = k' then D.eqX n d1 d2 else none) = some r := h
                  by_cases hk : k = k'
                  · subst hk
                    rw [if_pos rfl] at h
                    have hv := eqX_veq e n d1 d2 v1 v2 r (.inl r1) (.inl r2) h
                    have t := VEq.dd (K := K) (H := H) (n := n) (fun _ => r) h1 h2 (by simp) (fun k2 x y hm hl => by
                      have hm : (k2, x) = (k, v1) := by simpa using hm
                      cases hm
                      have hl : lkV [(k, v2)] k = some y := hl
                      rw [lkV_mem (by simp) (List.mem_singleton.mpr rfl)] at hl
                      cases hl
                      exact hv)
                    have e0 : (([(k, v1)] : List (Key × V)).length == ([(k, v2)] : List (Key × V)).length && ([(k, v1)] : List (Key × V)).all fun p => (lkV [(k, v2)] p.1).isSome && r) = r := by
                      simp [lkV]
                    rw [e0] at t
                    exact t
                  · rw [if_neg hk] at h
                    cases h
def D.eqD (a b : D) : Option D := (D.eqX 8 a b).map .bl
def D.neD (a b : D) : Option D := match a, b with
  | .lst xs, .lst ys => if xs.length = ys.length then (D.eqs (D.eqX 8) xs ys).map fun r => .bl (!(r.all id)) else none
  | _, _ => none
theorem sr_eqX : SR K (rEqX K) D.eqD := fun G H x y dx dy z Q e rx ry q k => by
  unfold D.eqD at q
  cases qc : D.eqX 8 dx dy with
  | none => rw [qc] at q; cases q
  | some c =>
    rw [qc] at q
    cases q
    exact ⟨8, c, by decide, eqX_veq e 8 dx dy x y c rx ry qc, k G H _ (Al.refl e) (.bl _)⟩
theorem sr_neX : SR K (rNeX K) D.neD := fun G H x y dx dy z Q e rx ry q k => by
  cases dx with
  | lst xs =>
    cases dy with
    | lst ys =>
      have q : (if xs.length = ys.length then (D.eqs (D.eqX 8) xs ys).map (fun r => D.bl (!(r.all id))) else none) = some z := q
      by_cases hl : xs.length = ys.length
      · rw [if_pos hl] at q
        cases qc : D.eqs (D.eqX 8) xs ys with
        | none => rw [qc] at q; cases q
        | some l =>
          rw [qc] at q
          cases q
          obtain ⟨a, vs, rfl, h1, r1⟩ := rx.lst e
          obtain ⟨b, us, rfl, h2, r2⟩ := ry.lst e
          refine ⟨8, a, b, vs, us, fun j => (l[j]?).getD false, by decide, rfl, rfl, h1, h2, by rw [r1.length, r2.length, hl], fun j x y hx hy => ?_, ?_⟩
          · obtain ⟨dx, ex, rx⟩ := reps_at r1 hx
            obtain ⟨dy, ey, ry⟩ := reps_at r2 hy
            obtain ⟨b, eb, hb⟩ := (eqs_at qc).2 j dx dy ex ey
            show VEq K H 8 x y ((l[j]?).getD false)
            rw [eb]
            exact eqX_veq e 8 dx dy x y b (.inl rx) (.inl ry) hb
          · have e1 : (List.range vs.length).all (fun j => (l[j]?).getD false) = l.all id := by rw [all_id, (eqs_at qc).1, ← r1.length]
            rw [e1]
            exact k G H _ (Al.refl e) (.bl _)
      · rw [if_neg hl] at q; cases q
    | _ => cases q
  | _ => cases dy <;> cases q
end
end DL
set_option autoImplicit false
set_option Elab.async false
set_option linter.all false
set_option maxRecDepth 100000
set_option maxHeartbeats 400000
namespace DL
open PySem L2 Evl
/-! ### {'k': e} -/
def dDisp1 (k : Str) (de : DE) : DF := fun ρ q er => de ρ (fun t ρ1 => match t with
  | .val d => q (.dct [(.inr k, d)]) ρ1
  | _ => False) er
section
variable {K : PySem.W.Frag} {pa : PaG} {W : WX} {tv : TE} {dv : DE}
theorem sf_disp1 {k : Str} (hv : SE K pa W tv dv) : SF K pa W (tDisp [(tC (.str k), tv)]) (dDisp1 k dv) := fun F G σ H ρ Q q er S h kk x p hp => by
  have gp : G p = none := fresh_back S.ex hp
  have fp : F p = none := fresh_back S.fx hp
  have S2 := (S.new (o := .dK []) hp).frameIn gp upd_same (fresh_no S hp)
  have ff : Ex F (upd F p (.dK [])) := Ex.new fp
  refine hv (upd F p (.dK [])) G σ _ ρ _ _ er S2 h (fun G' H' y t ρ' e S' r q' => ?_) (fun G' H' ρ' C d vs fs e S' h0 h1 h2 => x G' H' ρ' C d vs fs e (S'.frame ff) h0 h1 h2)
  cases t with
  | bor i => exact q'.elim
  | val d =>
    have h1 : H' p = some (.dK []) := S'.fx p _ upd_same
    have g1 : G' p = none := S'.dj p _ upd_same
    have away : ∀ (i : Nat) (s : Sl) (d : DL.D) (b : Addr), ρ'[i]? = some s → s.ownD = some d → σ[i]? = some (some (.ref b)) → b ≠ p := fun i s d b u1 u2 u3 z => by
      have := S'.ofr i s d b u1 u2 u3
      rw [z, upd_same] at this
      cases this
    refine ⟨h1, [(.inr k, y)], rfl, by simp, ?_⟩
    refine kk G' (upd H' p (.dK [(.inr k, y)])) p (.dct [(.inr k, d)]) ρ' e ?_ ⟨g1, fp⟩ ⟨_, upd_same, .cons r .nil⟩ (fun i s d u1 u2 u3 => away i s d p u1 u2 u3 rfl) q'
    refine (S'.frame ff).grow (Ex.refl G') (fun b o z => ?_) (fun b o z => ?_) (S'.frame ff).dj fun i s d b u1 u2 u3 => ?_
    · rw [upd_ne (fun w => by rw [w, g1] at z; cases z)]; exact S'.ex b o z
    · rw [upd_ne (fun w => by rw [w, fp] at z; cases z)]; exact (S'.frame ff).fx b o z
    · obtain ⟨b', v1, v2, _⟩ := S'.own i s d u1 u2
      rw [u3] at v1
      cases v1
      exact ⟨v2, upd_ne (away i s d b u1 u2 u3)⟩
end
/-! ### == and != of objects of several own classes -/
structure EqM (P : Program) (w : World) (K : PySem.W.Frag) (mg : Str → Option Value) (base : Heap) (k : Nat) (C : Addr) (sp : Sp) : Prop where
  ex : ∃ f fd ps, CmpC K C f ∧ FnOk P w K mg base CX0 k f fd ps sp ∧ Binds K fd ps []
def rEqM (K : PySem.W.Frag) (g : Bool → Bool) (l : List (Addr × Sp)) : R2 := fun x y H Q => ∃ C sp, (C, sp) ∈ l ∧ rEqO K g C sp L2.E0 x y H Q
section
variable {X : Cx} {k : Nat} {l : List (Addr × Sp)}
theorem op_eqM (hl : ∀ q ∈ l, EqM X.prog X.w X.K X.mg X.base k q.1 q.2) (hr : Room k X.A) : OpR X (compareOp .Eq) (rEqM X.K (fun b => b) l) := by
  intro pins s σ H x y v u Q I rx ry h
  obtain ⟨C, sp, hm, h⟩ := h
  obtain ⟨f, fd, ps, M, F, hb⟩ := (hl _ hm).ex
  exact op_eqO M F hr hb pass0 pins s σ H x y v u Q I rx ry h
theorem op_neM (hl : ∀ q ∈ l, EqM X.prog X.w X.K X.mg X.base k q.1 q.2) (hr : Room (k + 1) X.A) : OpR X (compareOp .NotEq) (rEqM X.K (fun b => !b) l) := by
  intro pins s σ H x y v u Q I rx ry h
  obtain ⟨C, sp, hm, h⟩ := h
  obtain ⟨f, fd, ps, M, F, hb⟩ := (hl _ hm).ex
  exact op_neO M F hr hb pass0 pins s σ H x y v u Q I rx ry h
end
def D.insC : D → Option Addr
  | .ins C _ => some C
  | _ => none
def dEqM (K : PySem.W.Frag) (g : Bool → Bool) (Cs : List Addr) (l : List (Addr × DSp)) (da db : DE) : DE := fun ρ q er => da ρ (fun t ρ1 => db ρ1 (fun u ρ2 => Opt (rd ρ2 t) fun d => Opt d.insC fun C => Opt (rd ρ2 u) fun y => y.kno Cs = true ∧ Opt y.tyV fun ty => PySem.W.notFirst K C ty = true ∧ Opt (argsOf ρ2 [t, u]) fun av => (bors [t, u]).Nodup ∧
  ∃ dsp, (C, dsp) ∈ l ∧ noEr dsp av (fun r os => Opt r.bool fun b => q (.val (.bl (g b))) (putOuts ρ2 (bors [t, u]) os)) (fun _ _ _ => False)) er) er
section
variable {K : PySem.W.Frag} {pa : PaG} {W : WX} {te tc : TE} {dx dc : DE} {l : List (Addr × DSp)} {g : Bool → Bool} {Cs : List Addr}
theorem se_eqM (hK : IsiK K) (hC : ∀ C ∈ Cs, IsiC K C) (hx : SE K pa W te dx) (hc : SE K pa W tc dc) : SE K pa W (tOp (rEqM K g (l.map fun q => (q.1, SpV K 2 q.2))) te tc) (dEqM K g Cs l dx dc) := fun F G σ H ρ Q q er S h k x =>
  hx F G σ H ρ _ _ er S h (fun G1 H1 v t ρ1 e1 S1 r1 h1 => hc F G1 σ H1 ρ1 _ _ er S1 h1 (fun G2 H2 w u ρ2 e2 S2 r2 h2 => by
    obtain ⟨d, ed, C, eC, y, ey, hk, ty, ety, hn, av, ea, nd, dsp, hm, hd⟩ := h2
    have hi : d.insOf C = true := by
      cases d with
      | ins C' es => cases eC; simp [D.insOf]
      | _ => cases eC
    obtain ⟨a, dx, fs, rfl, ha⟩ := insOf_at S2.ex (S2.rdT (r1.mono e2) ed) hi
    refine ⟨C, SpV K 2 dsp, List.mem_map.mpr ⟨_, hm, rfl⟩, a, dx, fs, ty, rfl, ha, tyX_of hK (kno_of hC hk) S2.ex (S2.rdT r2 ey) ety, hn, ?_⟩
    exact call_core S2 (.cons (r1.mono e2) (.cons r2 .nil)) ea nd rfl hd (fun G3 H3 v3 d3 os e3 S3 rv hq => by
      obtain ⟨b, eb, hq⟩ := hq
      cases bool_of eb
      cases rv
      exact ⟨b, rfl, k G3 H3 _ (.val _) _ ((e1.trans e2).trans e3) S3 (.bl _) hq⟩) (fun _ _ _ _ _ _ _ _ _ _ _ hq => hq.elim)) (x.grow e1)) x
end
end DL
set_option autoImplicit false
set_option Elab.async false
set_option linter.all false
set_option maxRecDepth 100000
set_option maxHeartbeats 400000
namespace DL
open PySem L2 Evl
def strRep (x : Str) (n : Nat) : Str := ⟨(List.replicate n x.cps).foldl (· ++ ·) #[]⟩
def rMulS : R2 := fun x y H Q => ∃ i n, x = .str i ∧ y = .int n ∧ 2 ≤ n ∧ n ≤ 1000 ∧ 0 < i.length ∧ i.length ≤ 1000 ∧ (strRep i n.toNat).length ≤ sizeLine ∧ Q (.str (strRep i n.toNat)) H
theorem op_mulS {X : Cx} : OpR X (binaryOp .Mult) rMulS := by
  intro pins s σ H x y v u Q I rx ry h
  obtain ⟨i, n, rfl, rfl, n1, n2, i1, i2, i3, q⟩ := h
  obtain ⟨t, rfl⟩ := rx
  obtain ⟨t', rfl⟩ := ry
  have hn : ¬ n < 1 := by omega
  have hz : (n == 1 || i.length == 0) = false := by
    rw [Bool.or_eq_false_iff]
    exact ⟨by simpa using (by omega : ¬ n = 1), by simpa using (by omega : ¬ i.length = 0)⟩
  refine P.mul_str (by simp; omega) (fun _ _ => ?_) (fun _ _ => ?_) ?_
  · have h1 : (1000 : Int) ≤ (2 ^ 63 - 1) / n := by
      rw [Int.le_ediv_iff_mul_le (by omega)]
      omega
    omega
  · have h2 : i.length * n.toNat ≤ 1000 * 1000 := Nat.mul_le_mul i2 (by omega)
    unfold Builtin.Str.tooLong
    simp only [decide_eq_false_iff_not]
    have : (1000 * 1000 : Nat) ≤ sizeLine := by decide
    omega
  · rw [if_neg hn, if_neg (by rw [hz]; decide)]
    exact ⟨i3, V.str (strRep i n.toNat), H, I.tok _, ⟨_, rfl⟩, q⟩
def D.mulS : D → D → Option D
  | .str x, .int n => if 2 ≤ n ∧ n ≤ 1000 ∧ 0 < x.length ∧ x.length ≤ 1000 ∧ (strRep x n.toNat).length ≤ sizeLine then some (.str (strRep x n.toNat)) else none
  | _, _ => none
theorem sr_mulS {K : PySem.W.Frag} : SR K rMulS D.mulS := fun G H x y dx dy z Q e rx ry q k => by
  cases dx with
  | str a =>
    cases dy with
    | int n =>
      have q : (if 2 ≤ n ∧ n ≤ 1000 ∧ 0 < a.length ∧ a.length ≤ 1000 ∧ (strRep a n.toNat).length ≤ sizeLine then some (D.str (strRep a n.toNat)) else none) = some z := q
      by_cases h : 2 ≤ n ∧ n ≤ 1000 ∧ 0 < a.length ∧ a.length ≤ 1000 ∧ (strRep a n.toNat).length ≤ sizeLine
      · rw [if_pos h] at q
        cases q
        rw [rx.str, ry.int]
        exact ⟨a, n, rfl, rfl, h.1, h.2.1, h.2.2.1, h.2.2.2.1, h.2.2.2.2, k G H _ (Al.refl e) (.str _)⟩
      · rw [if_neg h] at q; cases q
    | _ => cases q
  | _ => cases dy <;> cases q
end DL
set_option autoImplicit false
set_option Elab.async false
set_option linter.all false
set_option maxRecDepth 100000
set_option maxHeartbeats 2000000
namespace My
open PySem L2 Evl ClX DL
def topS (i : Nat) : Stmt := PySem.Challenge.pw_forestrows_k07_deeds_as_things.main.body.getD i (.Pass ⟨0, 0, 0, 0⟩)
abbrev s_Put_init : Stmt := inClass (topS 1) 0
abbrev s_Put_eq : Stmt := inClass (topS 1) 1
abbrev s_Move_init : Stmt := inClass (topS 2) 0
abbrev s_Move_eq : Stmt := inClass (topS 2) 1
abbrev s_Cut_init : Stmt := inClass (topS 3) 0
abbrev s_Cut_eq : Stmt := inClass (topS 3) 1
abbrev s_Lift_init : Stmt := inClass (topS 4) 0
abbrev s_Lift_eq : Stmt := inClass (topS 4) 1
abbrev s_Wrap_init : Stmt := inClass (topS 5) 0
abbrev s_Wrap_eq : Stmt := inClass (topS 5) 1
abbrev s_Reverse_init : Stmt := inClass (topS 6) 0
abbrev s_Reverse_eq : Stmt := inClass (topS 6) 1
abbrev s_SetValue_init : Stmt := inClass (topS 7) 0
abbrev s_SetValue_eq : Stmt := inClass (topS 7) 1
abbrev s_p_law_well : Stmt := topS 9
abbrev s_p_law_draw : Stmt := topS 10
abbrev s_p_law_one : Stmt := topS 11
abbrev s_p_law_field : Stmt := topS 12
abbrev s_p_law_deed : Stmt := topS 13
abbrev s_p_law_named : Stmt := topS 14
abbrev s_p_law_told : Stmt := topS 15
abbrev s_law : Stmt := topS 16
structure Ads where
  a_Put_init : Addr
  d_Put_init : FuncData
  a_Put_eq : Addr
  d_Put_eq : FuncData
  a_Move_init : Addr
  d_Move_init : FuncData
  a_Move_eq : Addr
  d_Move_eq : FuncData
  a_Cut_init : Addr
  d_Cut_init : FuncData
  a_Cut_eq : Addr
  d_Cut_eq : FuncData
  a_Lift_init : Addr
  d_Lift_init : FuncData
  a_Lift_eq : Addr
  d_Lift_eq : FuncData
  a_Wrap_init : Addr
  d_Wrap_init : FuncData
  a_Wrap_eq : Addr
  d_Wrap_eq : FuncData
  a_Reverse_init : Addr
  d_Reverse_init : FuncData
  a_Reverse_eq : Addr
  d_Reverse_eq : FuncData
  a_SetValue_init : Addr
  d_SetValue_init : FuncData
  a_SetValue_eq : Addr
  d_SetValue_eq : FuncData
  a_p_law_well : Addr
  d_p_law_well : FuncData
  a_p_law_draw : Addr
  d_p_law_draw : FuncData
  a_p_law_one : Addr
  d_p_law_one : FuncData
  a_p_law_field : Addr
  d_p_law_field : FuncData
  a_p_law_deed : Addr
  d_p_law_deed : FuncData
  a_p_law_named : Addr
  d_p_law_named : FuncData
  a_p_law_told : Addr
  d_p_law_told : FuncData
  a_law : Addr
  d_law : FuncData
  c_Cut : Addr
  c_Lift : Addr
  c_Move : Addr
  c_Put : Addr
  c_Reverse : Addr
  c_SetValue : Addr
  c_Wrap : Addr
abbrev Ads.isis (A : Ads) : List Addr := [A.c_Put, A.c_Move, A.c_Cut, A.c_Lift, A.c_Wrap, A.c_Reverse, A.c_SetValue]
abbrev Ads.cs_first (A : Ads) : List Addr := [A.c_Wrap]
abbrev Ads.cs_last (A : Ads) : List Addr := [A.c_Wrap]
abbrev Ads.cs_name (A : Ads) : List Addr := [A.c_Put, A.c_Move, A.c_Cut, A.c_Lift, A.c_Wrap, A.c_SetValue]
abbrev Ads.cs_parent (A : Ads) : List Addr := [A.c_Put, A.c_Move, A.c_Wrap, A.c_Reverse]
abbrev Ads.cs_rank (A : Ads) : List Addr := [A.c_Put, A.c_Move]
abbrev Ads.cs_value (A : Ads) : List Addr := [A.c_Put, A.c_Wrap, A.c_SetValue]
structure Txt (K : PySem.W.Frag) (mg : Str → Option Value) (A : Ads) : Prop where
  F_Put_init : Fun K "__init__" "Put.__init__" s_Put_init A.a_Put_init A.d_Put_init
  b_Put_init : Binds K A.d_Put_init ["self", "name", "value", "parent", "rank"] []
  F_Put_eq : Fun K "__eq__" "Put.__eq__" s_Put_eq A.a_Put_eq A.d_Put_eq
  b_Put_eq : Binds K A.d_Put_eq ["self", "other"] []
  F_Move_init : Fun K "__init__" "Move.__init__" s_Move_init A.a_Move_init A.d_Move_init
  b_Move_init : Binds K A.d_Move_init ["self", "name", "parent", "rank"] []
  F_Move_eq : Fun K "__eq__" "Move.__eq__" s_Move_eq A.a_Move_eq A.d_Move_eq
  b_Move_eq : Binds K A.d_Move_eq ["self", "other"] []
  F_Cut_init : Fun K "__init__" "Cut.__init__" s_Cut_init A.a_Cut_init A.d_Cut_init
  b_Cut_init : Binds K A.d_Cut_init ["self", "name"] []
  F_Cut_eq : Fun K "__eq__" "Cut.__eq__" s_Cut_eq A.a_Cut_eq A.d_Cut_eq
  b_Cut_eq : Binds K A.d_Cut_eq ["self", "other"] []
  F_Lift_init : Fun K "__init__" "Lift.__init__" s_Lift_init A.a_Lift_init A.d_Lift_init
  b_Lift_init : Binds K A.d_Lift_init ["self", "name"] []
  F_Lift_eq : Fun K "__eq__" "Lift.__eq__" s_Lift_eq A.a_Lift_eq A.d_Lift_eq
  b_Lift_eq : Binds K A.d_Lift_eq ["self", "other"] []
  F_Wrap_init : Fun K "__init__" "Wrap.__init__" s_Wrap_init A.a_Wrap_init A.d_Wrap_init
  b_Wrap_init : Binds K A.d_Wrap_init ["self", "name", "value", "parent", "first", "last"] []
  F_Wrap_eq : Fun K "__eq__" "Wrap.__eq__" s_Wrap_eq A.a_Wrap_eq A.d_Wrap_eq
  b_Wrap_eq : Binds K A.d_Wrap_eq ["self", "other"] []
  F_Reverse_init : Fun K "__init__" "Reverse.__init__" s_Reverse_init A.a_Reverse_init A.d_Reverse_init
  b_Reverse_init : Binds K A.d_Reverse_init ["self", "parent"] []
  F_Reverse_eq : Fun K "__eq__" "Reverse.__eq__" s_Reverse_eq A.a_Reverse_eq A.d_Reverse_eq
  b_Reverse_eq : Binds K A.d_Reverse_eq ["self", "other"] []
  F_SetValue_init : Fun K "__init__" "SetValue.__init__" s_SetValue_init A.a_SetValue_init A.d_SetValue_init
  b_SetValue_init : Binds K A.d_SetValue_init ["self", "name", "value"] []
  F_SetValue_eq : Fun K "__eq__" "SetValue.__eq__" s_SetValue_eq A.a_SetValue_eq A.d_SetValue_eq
  b_SetValue_eq : Binds K A.d_SetValue_eq ["self", "other"] []
  F_p_law_well : Fun K "_law_well" "_law_well" s_p_law_well A.a_p_law_well A.d_p_law_well
  b_p_law_well : Binds K A.d_p_law_well ["_law_cell"] []
  g_p_law_well : mg "_law_well" = some (.ref A.a_p_law_well)
  F_p_law_draw : Fun K "_law_draw" "_law_draw" s_p_law_draw A.a_p_law_draw A.d_p_law_draw
  b_p_law_draw : Binds K A.d_p_law_draw ["_law_well_here", "_law_many"] []
  g_p_law_draw : mg "_law_draw" = some (.ref A.a_p_law_draw)
  F_p_law_one : Fun K "_law_one" "_law_one" s_p_law_one A.a_p_law_one A.d_p_law_one
  b_p_law_one : Binds K A.d_p_law_one ["_law_well_here", "_law_some"] []
  g_p_law_one : mg "_law_one" = some (.ref A.a_p_law_one)
  F_p_law_field : Fun K "_law_field" "_law_field" s_p_law_field A.a_p_law_field A.d_p_law_field
  b_p_law_field : Binds K A.d_p_law_field ["_law_well_here"] []
  g_p_law_field : mg "_law_field" = some (.ref A.a_p_law_field)
  F_p_law_deed : Fun K "_law_deed" "_law_deed" s_p_law_deed A.a_p_law_deed A.d_p_law_deed
  b_p_law_deed : Binds K A.d_p_law_deed ["_law_kind", "_law_fields"] []
  g_p_law_deed : mg "_law_deed" = some (.ref A.a_p_law_deed)
  F_p_law_named : Fun K "_law_named" "_law_named" s_p_law_named A.a_p_law_named A.d_p_law_named
  b_p_law_named : Binds K A.d_p_law_named ["_law_kind", "_law_fields"] []
  g_p_law_named : mg "_law_named" = some (.ref A.a_p_law_named)
  F_p_law_told : Fun K "_law_told" "_law_told" s_p_law_told A.a_p_law_told A.d_p_law_told
  b_p_law_told : Binds K A.d_p_law_told ["_law_kind", "_law_deed_here"] []
  g_p_law_told : mg "_law_told" = some (.ref A.a_p_law_told)
  F_law : Fun K "law" "law" s_law A.a_law A.d_law
  b_law : Binds K A.d_law ["_law_script"] []
  g_law : mg "law" = some (.ref A.a_law)
  f_first : ∀ C ∈ A.cs_first, Cls K C ∧ NoAttr K C "first"
  f_last : ∀ C ∈ A.cs_last, Cls K C ∧ NoAttr K C "last"
  f_name : ∀ C ∈ A.cs_name, Cls K C ∧ NoAttr K C "name"
  f_parent : ∀ C ∈ A.cs_parent, Cls K C ∧ NoAttr K C "parent"
  f_rank : ∀ C ∈ A.cs_rank, Cls K C ∧ NoAttr K C "rank"
  f_value : ∀ C ∈ A.cs_value, Cls K C ∧ NoAttr K C "value"
  g_Cut : mg "Cut" = some (.ref A.c_Cut)
  g_Lift : mg "Lift" = some (.ref A.c_Lift)
  g_Move : mg "Move" = some (.ref A.c_Move)
  g_Put : mg "Put" = some (.ref A.c_Put)
  g_Reverse : mg "Reverse" = some (.ref A.c_Reverse)
  g_SetValue : mg "SetValue" = some (.ref A.c_SetValue)
  g_Wrap : mg "Wrap" = some (.ref A.c_Wrap)
  ic : ∀ C ∈ A.isis, IsiC K C
  isi : IsiK K
  kw_Cut_init_1_name : KwOk K A.d_Cut_init ["self", "name"] 1 ["name"] [0]
  kw_Lift_init_1_name : KwOk K A.d_Lift_init ["self", "name"] 1 ["name"] [0]
  kw_Move_init_1_rank_parent_name : KwOk K A.d_Move_init ["self", "name", "parent", "rank"] 1 ["rank", "parent", "name"] [2, 1, 0]
  kw_Put_init_1_rank_parent_value_name : KwOk K A.d_Put_init ["self", "name", "value", "parent", "rank"] 1 ["rank", "parent", "value", "name"] [3, 2, 1, 0]
  kw_Reverse_init_1_parent : KwOk K A.d_Reverse_init ["self", "parent"] 1 ["parent"] [0]
  kw_SetValue_init_1_value_name : KwOk K A.d_SetValue_init ["self", "name", "value"] 1 ["value", "name"] [1, 0]
  kw_Wrap_init_1_last_first_parent_value_name : KwOk K A.d_Wrap_init ["self", "name", "value", "parent", "first", "last"] 1 ["last", "first", "parent", "value", "name"] [4, 3, 2, 1, 0]
  mk_Cut : Mk K A.c_Cut A.a_Cut_init
  mk_Lift : Mk K A.c_Lift A.a_Lift_init
  mk_Move : Mk K A.c_Move A.a_Move_init
  mk_Put : Mk K A.c_Put A.a_Put_init
  mk_Reverse : Mk K A.c_Reverse A.a_Reverse_init
  mk_SetValue : Mk K A.c_SetValue A.a_SetValue_init
  mk_Wrap : Mk K A.c_Wrap A.a_Wrap_init
  q_Cut : CmpC K A.c_Cut A.a_Cut_eq
  q_Lift : CmpC K A.c_Lift A.a_Lift_eq
  q_Move : CmpC K A.c_Move A.a_Move_eq
  q_Put : CmpC K A.c_Put A.a_Put_eq
  q_Reverse : CmpC K A.c_Reverse A.a_Reverse_eq
  q_SetValue : CmpC K A.c_SetValue A.a_SetValue_eq
  q_Wrap : CmpC K A.c_Wrap A.a_Wrap_eq
  z_int : mg "int" = none
  z_isinstance : mg "isinstance" = none
  z_len : mg "len" = none
  z_range : mg "range" = none
  z_tuple : mg "tuple" = none
structure Fax (K : PySem.W.Frag) (A : Ads) : Prop where
  kb_Put : KitB K A.c_Put
  kb_Move : KitB K A.c_Move
  kb_Cut : KitB K A.c_Cut
  kb_Lift : KitB K A.c_Lift
  kb_Wrap : KitB K A.c_Wrap
  kb_Reverse : KitB K A.c_Reverse
  kb_SetValue : KitB K A.c_SetValue
  kp_Put_Move : PySem.W.kitOne K (.ref A.c_Put) (.ref A.c_Move) = some false
  nf_Put_Move : PySem.W.notFirst K A.c_Move (.ref A.c_Put) = true
  kp_Put_Cut : PySem.W.kitOne K (.ref A.c_Put) (.ref A.c_Cut) = some false
  nf_Put_Cut : PySem.W.notFirst K A.c_Cut (.ref A.c_Put) = true
  kp_Put_Lift : PySem.W.kitOne K (.ref A.c_Put) (.ref A.c_Lift) = some false
  nf_Put_Lift : PySem.W.notFirst K A.c_Lift (.ref A.c_Put) = true
  kp_Put_Wrap : PySem.W.kitOne K (.ref A.c_Put) (.ref A.c_Wrap) = some false
  nf_Put_Wrap : PySem.W.notFirst K A.c_Wrap (.ref A.c_Put) = true
  kp_Put_Reverse : PySem.W.kitOne K (.ref A.c_Put) (.ref A.c_Reverse) = some false
  nf_Put_Reverse : PySem.W.notFirst K A.c_Reverse (.ref A.c_Put) = true
  kp_Put_SetValue : PySem.W.kitOne K (.ref A.c_Put) (.ref A.c_SetValue) = some false
  nf_Put_SetValue : PySem.W.notFirst K A.c_SetValue (.ref A.c_Put) = true
  kp_Move_Put : PySem.W.kitOne K (.ref A.c_Move) (.ref A.c_Put) = some false
  nf_Move_Put : PySem.W.notFirst K A.c_Put (.ref A.c_Move) = true
  kp_Move_Cut : PySem.W.kitOne K (.ref A.c_Move) (.ref A.c_Cut) = some false
  nf_Move_Cut : PySem.W.notFirst K A.c_Cut (.ref A.c_Move) = true
  kp_Move_Lift : PySem.W.kitOne K (.ref A.c_Move) (.ref A.c_Lift) = some false
  nf_Move_Lift : PySem.W.notFirst K A.c_Lift (.ref A.c_Move) = true
  kp_Move_Wrap : PySem.W.kitOne K (.ref A.c_Move) (.ref A.c_Wrap) = some false
  nf_Move_Wrap : PySem.W.notFirst K A.c_Wrap (.ref A.c_Move) = true
  kp_Move_Reverse : PySem.W.kitOne K (.ref A.c_Move) (.ref A.c_Reverse) = some false
  nf_Move_Reverse : PySem.W.notFirst K A.c_Reverse (.ref A.c_Move) = true
  kp_Move_SetValue : PySem.W.kitOne K (.ref A.c_Move) (.ref A.c_SetValue) = some false
  nf_Move_SetValue : PySem.W.notFirst K A.c_SetValue (.ref A.c_Move) = true
  kp_Cut_Put : PySem.W.kitOne K (.ref A.c_Cut) (.ref A.c_Put) = some false
  nf_Cut_Put : PySem.W.notFirst K A.c_Put (.ref A.c_Cut) = true
  kp_Cut_Move : PySem.W.kitOne K (.ref A.c_Cut) (.ref A.c_Move) = some false
  nf_Cut_Move : PySem.W.notFirst K A.c_Move (.ref A.c_Cut) = true
  kp_Cut_Lift : PySem.W.kitOne K (.ref A.c_Cut) (.ref A.c_Lift) = some false
  nf_Cut_Lift : PySem.W.notFirst K A.c_Lift (.ref A.c_Cut) = true
  kp_Cut_Wrap : PySem.W.kitOne K (.ref A.c_Cut) (.ref A.c_Wrap) = some false
  nf_Cut_Wrap : PySem.W.notFirst K A.c_Wrap (.ref A.c_Cut) = true
  kp_Cut_Reverse : PySem.W.kitOne K (.ref A.c_Cut) (.ref A.c_Reverse) = some false
  nf_Cut_Reverse : PySem.W.notFirst K A.c_Reverse (.ref A.c_Cut) = true
  kp_Cut_SetValue : PySem.W.kitOne K (.ref A.c_Cut) (.ref A.c_SetValue) = some false
  nf_Cut_SetValue : PySem.W.notFirst K A.c_SetValue (.ref A.c_Cut) = true
  kp_Lift_Put : PySem.W.kitOne K (.ref A.c_Lift) (.ref A.c_Put) = some false
  nf_Lift_Put : PySem.W.notFirst K A.c_Put (.ref A.c_Lift) = true
  kp_Lift_Move : PySem.W.kitOne K (.ref A.c_Lift) (.ref A.c_Move) = some false
  nf_Lift_Move : PySem.W.notFirst K A.c_Move (.ref A.c_Lift) = true
  kp_Lift_Cut : PySem.W.kitOne K (.ref A.c_Lift) (.ref A.c_Cut) = some false
  nf_Lift_Cut : PySem.W.notFirst K A.c_Cut (.ref A.c_Lift) = true
  kp_Lift_Wrap : PySem.W.kitOne K (.ref A.c_Lift) (.ref A.c_Wrap) = some false
  nf_Lift_Wrap : PySem.W.notFirst K A.c_Wrap (.ref A.c_Lift) = true
  kp_Lift_Reverse : PySem.W.kitOne K (.ref A.c_Lift) (.ref A.c_Reverse) = some false
  nf_Lift_Reverse : PySem.W.notFirst K A.c_Reverse (.ref A.c_Lift) = true
  kp_Lift_SetValue : PySem.W.kitOne K (.ref A.c_Lift) (.ref A.c_SetValue) = some false
  nf_Lift_SetValue : PySem.W.notFirst K A.c_SetValue (.ref A.c_Lift) = true
  kp_Wrap_Put : PySem.W.kitOne K (.ref A.c_Wrap) (.ref A.c_Put) = some false
  nf_Wrap_Put : PySem.W.notFirst K A.c_Put (.ref A.c_Wrap) = true
  kp_Wrap_Move : PySem.W.kitOne K (.ref A.c_Wrap) (.ref A.c_Move) = some false
  nf_Wrap_Move : PySem.W.notFirst K A.c_Move (.ref A.c_Wrap) = true
  kp_Wrap_Cut : PySem.W.kitOne K (.ref A.c_Wrap) (.ref A.c_Cut) = some false
  nf_Wrap_Cut : PySem.W.notFirst K A.c_Cut (.ref A.c_Wrap) = true
  kp_Wrap_Lift : PySem.W.kitOne K (.ref A.c_Wrap) (.ref A.c_Lift) = some false
  nf_Wrap_Lift : PySem.W.notFirst K A.c_Lift (.ref A.c_Wrap) = true
  kp_Wrap_Reverse : PySem.W.kitOne K (.ref A.c_Wrap) (.ref A.c_Reverse) = some false
  nf_Wrap_Reverse : PySem.W.notFirst K A.c_Reverse (.ref A.c_Wrap) = true
  kp_Wrap_SetValue : PySem.W.kitOne K (.ref A.c_Wrap) (.ref A.c_SetValue) = some false
  nf_Wrap_SetValue : PySem.W.notFirst K A.c_SetValue (.ref A.c_Wrap) = true
  kp_Reverse_Put : PySem.W.kitOne K (.ref A.c_Reverse) (.ref A.c_Put) = some false
  nf_Reverse_Put : PySem.W.notFirst K A.c_Put (.ref A.c_Reverse) = true
  kp_Reverse_Move : PySem.W.kitOne K (.ref A.c_Reverse) (.ref A.c_Move) = some false
  nf_Reverse_Move : PySem.W.notFirst K A.c_Move (.ref A.c_Reverse) = true
  kp_Reverse_Cut : PySem.W.kitOne K (.ref A.c_Reverse) (.ref A.c_Cut) = some false
  nf_Reverse_Cut : PySem.W.notFirst K A.c_Cut (.ref A.c_Reverse) = true
  kp_Reverse_Lift : PySem.W.kitOne K (.ref A.c_Reverse) (.ref A.c_Lift) = some false
  nf_Reverse_Lift : PySem.W.notFirst K A.c_Lift (.ref A.c_Reverse) = true
  kp_Reverse_Wrap : PySem.W.kitOne K (.ref A.c_Reverse) (.ref A.c_Wrap) = some false
  nf_Reverse_Wrap : PySem.W.notFirst K A.c_Wrap (.ref A.c_Reverse) = true
  kp_Reverse_SetValue : PySem.W.kitOne K (.ref A.c_Reverse) (.ref A.c_SetValue) = some false
  nf_Reverse_SetValue : PySem.W.notFirst K A.c_SetValue (.ref A.c_Reverse) = true
  kp_SetValue_Put : PySem.W.kitOne K (.ref A.c_SetValue) (.ref A.c_Put) = some false
  nf_SetValue_Put : PySem.W.notFirst K A.c_Put (.ref A.c_SetValue) = true
  kp_SetValue_Move : PySem.W.kitOne K (.ref A.c_SetValue) (.ref A.c_Move) = some false
  nf_SetValue_Move : PySem.W.notFirst K A.c_Move (.ref A.c_SetValue) = true
  kp_SetValue_Cut : PySem.W.kitOne K (.ref A.c_SetValue) (.ref A.c_Cut) = some false
  nf_SetValue_Cut : PySem.W.notFirst K A.c_Cut (.ref A.c_SetValue) = true
  kp_SetValue_Lift : PySem.W.kitOne K (.ref A.c_SetValue) (.ref A.c_Lift) = some false
  nf_SetValue_Lift : PySem.W.notFirst K A.c_Lift (.ref A.c_SetValue) = true
  kp_SetValue_Wrap : PySem.W.kitOne K (.ref A.c_SetValue) (.ref A.c_Wrap) = some false
  nf_SetValue_Wrap : PySem.W.notFirst K A.c_Wrap (.ref A.c_SetValue) = true
  kp_SetValue_Reverse : PySem.W.kitOne K (.ref A.c_SetValue) (.ref A.c_Reverse) = some false
  nf_SetValue_Reverse : PySem.W.notFirst K A.c_Reverse (.ref A.c_SetValue) = true
abbrev N_Put_init : List Str := ["self", "name", "value", "parent", "rank"]
theorem sc_Put_init : FnScope N_Put_init ["self", "name", "value", "parent", "rank"] (defScope s_Put_init) := ⟨rfl, rfl, rfl, by decide +kernel, rfl, by decide +kernel, by decide +kernel⟩
def body_Put_init (K : PySem.W.Frag) (A : Ads) : DS := (dSeq (dSetF A.cs_name 0 "name" (dVar 1))
    (dSeq (dSetF A.cs_value 0 "value" (dVar 2))
    (dSeq (dSetF A.cs_parent 0 "parent" (dVar 3))
    (dSetF A.cs_rank 0 "rank" (dVar 4)))))
def dsp_Put_init (K : PySem.W.Frag) (A : Ads) : DSp := dBody 5 (body_Put_init K A)
abbrev N_Put_eq : List Str := ["self", "other"]
theorem sc_Put_eq : FnScope N_Put_eq ["self", "other"] (defScope s_Put_eq) := ⟨rfl, rfl, rfl, by decide +kernel, rfl, by decide +kernel, by decide +kernel⟩
def body_Put_eq (K : PySem.W.Frag) (A : Ads) : DS := (dRet (dAndV (dIsi K A.isis (dVar 1) (dC (.ptr A.c_Put))) (dAndV (dOp D.eqD (dFld A.cs_name "name" (dVar 0)) (dFld A.cs_name "name" (dVar 1))) (dAndV (dOp D.eqD (dFld A.cs_value "value" (dVar 0)) (dFld A.cs_value "value" (dVar 1))) (dAndV (dOp D.eqD (dFld A.cs_parent "parent" (dVar 0)) (dFld A.cs_parent "parent" (dVar 1))) (dOp D.eqD (dFld A.cs_rank "rank" (dVar 0)) (dFld A.cs_rank "rank" (dVar 1))))))))
def dsp_Put_eq (K : PySem.W.Frag) (A : Ads) : DSp := dBody 2 (body_Put_eq K A)
abbrev N_Move_init : List Str := ["self", "name", "parent", "rank"]
theorem sc_Move_init : FnScope N_Move_init ["self", "name", "parent", "rank"] (defScope s_Move_init) := ⟨rfl, rfl, rfl, by decide +kernel, rfl, by decide +kernel, by decide +kernel⟩
def body_Move_init (K : PySem.W.Frag) (A : Ads) : DS := (dSeq (dSetF A.cs_name 0 "name" (dVar 1))
    (dSeq (dSetF A.cs_parent 0 "parent" (dVar 2))
    (dSetF A.cs_rank 0 "rank" (dVar 3))))
def dsp_Move_init (K : PySem.W.Frag) (A : Ads) : DSp := dBody 4 (body_Move_init K A)
abbrev N_Move_eq : List Str := ["self", "other"]
theorem sc_Move_eq : FnScope N_Move_eq ["self", "other"] (defScope s_Move_eq) := ⟨rfl, rfl, rfl, by decide +kernel, rfl, by decide +kernel, by decide +kernel⟩
def body_Move_eq (K : PySem.W.Frag) (A : Ads) : DS := (dRet (dAndV (dIsi K A.isis (dVar 1) (dC (.ptr A.c_Move))) (dAndV (dOp D.eqD (dFld A.cs_name "name" (dVar 0)) (dFld A.cs_name "name" (dVar 1))) (dAndV (dOp D.eqD (dFld A.cs_parent "parent" (dVar 0)) (dFld A.cs_parent "parent" (dVar 1))) (dOp D.eqD (dFld A.cs_rank "rank" (dVar 0)) (dFld A.cs_rank "rank" (dVar 1)))))))
def dsp_Move_eq (K : PySem.W.Frag) (A : Ads) : DSp := dBody 2 (body_Move_eq K A)
abbrev N_Cut_init : List Str := ["self", "name"]
theorem sc_Cut_init : FnScope N_Cut_init ["self", "name"] (defScope s_Cut_init) := ⟨rfl, rfl, rfl, by decide +kernel, rfl, by decide +kernel, by decide +kernel⟩
def body_Cut_init (K : PySem.W.Frag) (A : Ads) : DS := (dSetF A.cs_name 0 "name" (dVar 1))
def dsp_Cut_init (K : PySem.W.Frag) (A : Ads) : DSp := dBody 2 (body_Cut_init K A)
abbrev N_Cut_eq : List Str := ["self", "other"]
theorem sc_Cut_eq : FnScope N_Cut_eq ["self", "other"] (defScope s_Cut_eq) := ⟨rfl, rfl, rfl, by decide +kernel, rfl, by decide +kernel, by decide +kernel⟩
def body_Cut_eq (K : PySem.W.Frag) (A : Ads) : DS := (dRet (dAndV (dIsi K A.isis (dVar 1) (dC (.ptr A.c_Cut))) (dOp D.eqD (dFld A.cs_name "name" (dVar 0)) (dFld A.cs_name "name" (dVar 1)))))
def dsp_Cut_eq (K : PySem.W.Frag) (A : Ads) : DSp := dBody 2 (body_Cut_eq K A)
abbrev N_Lift_init : List Str := ["self", "name"]
theorem sc_Lift_init : FnScope N_Lift_init ["self", "name"] (defScope s_Lift_init) := ⟨rfl, rfl, rfl, by decide +kernel, rfl, by decide +kernel, by decide +kernel⟩
def body_Lift_init (K : PySem.W.Frag) (A : Ads) : DS := (dSetF A.cs_name 0 "name" (dVar 1))
def dsp_Lift_init (K : PySem.W.Frag) (A : Ads) : DSp := dBody 2 (body_Lift_init K A)
abbrev N_Lift_eq : List Str := ["self", "other"]
theorem sc_Lift_eq : FnScope N_Lift_eq ["self", "other"] (defScope s_Lift_eq) := ⟨rfl, rfl, rfl, by decide +kernel, rfl, by decide +kernel, by decide +kernel⟩
def body_Lift_eq (K : PySem.W.Frag) (A : Ads) : DS := (dRet (dAndV (dIsi K A.isis (dVar 1) (dC (.ptr A.c_Lift))) (dOp D.eqD (dFld A.cs_name "name" (dVar 0)) (dFld A.cs_name "name" (dVar 1)))))
def dsp_Lift_eq (K : PySem.W.Frag) (A : Ads) : DSp := dBody 2 (body_Lift_eq K A)
abbrev N_Wrap_init : List Str := ["self", "name", "value", "parent", "first", "last"]
theorem sc_Wrap_init : FnScope N_Wrap_init ["self", "name", "value", "parent", "first", "last"] (defScope s_Wrap_init) := ⟨rfl, rfl, rfl, by decide +kernel, rfl, by decide +kernel, by decide +kernel⟩
def body_Wrap_init (K : PySem.W.Frag) (A : Ads) : DS := (dSeq (dSetF A.cs_name 0 "name" (dVar 1))
    (dSeq (dSetF A.cs_value 0 "value" (dVar 2))
    (dSeq (dSetF A.cs_parent 0 "parent" (dVar 3))
    (dSeq (dSetF A.cs_first 0 "first" (dVar 4))
    (dSetF A.cs_last 0 "last" (dVar 5))))))
def dsp_Wrap_init (K : PySem.W.Frag) (A : Ads) : DSp := dBody 6 (body_Wrap_init K A)
abbrev N_Wrap_eq : List Str := ["self", "other"]
theorem sc_Wrap_eq : FnScope N_Wrap_eq ["self", "other"] (defScope s_Wrap_eq) := ⟨rfl, rfl, rfl, by decide +kernel, rfl, by decide +kernel, by decide +kernel⟩
def body_Wrap_eq (K : PySem.W.Frag) (A : Ads) : DS := (dRet (dAndV (dIsi K A.isis (dVar 1) (dC (.ptr A.c_Wrap))) (dAndV (dOp D.eqD (dFld A.cs_name "name" (dVar 0)) (dFld A.cs_name "name" (dVar 1))) (dAndV (dOp D.eqD (dFld A.cs_value "value" (dVar 0)) (dFld A.cs_value "value" (dVar 1))) (dAndV (dOp D.eqD (dFld A.cs_parent "parent" (dVar 0)) (dFld A.cs_parent "parent" (dVar 1))) (dAndV (dOp D.eqD (dFld A.cs_first "first" (dVar 0)) (dFld A.cs_first "first" (dVar 1))) (dOp D.eqD (dFld A.cs_last "last" (dVar 0)) (dFld A.cs_last "last" (dVar 1)))))))))
def dsp_Wrap_eq (K : PySem.W.Frag) (A : Ads) : DSp := dBody 2 (body_Wrap_eq K A)
abbrev N_Reverse_init : List Str := ["self", "parent"]
theorem sc_Reverse_init : FnScope N_Reverse_init ["self", "parent"] (defScope s_Reverse_init) := ⟨rfl, rfl, rfl, by decide +kernel, rfl, by decide +kernel, by decide +kernel⟩
def body_Reverse_init (K : PySem.W.Frag) (A : Ads) : DS := (dSetF A.cs_parent 0 "parent" (dVar 1))
def dsp_Reverse_init (K : PySem.W.Frag) (A : Ads) : DSp := dBody 2 (body_Reverse_init K A)
abbrev N_Reverse_eq : List Str := ["self", "other"]
theorem sc_Reverse_eq : FnScope N_Reverse_eq ["self", "other"] (defScope s_Reverse_eq) := ⟨rfl, rfl, rfl, by decide +kernel, rfl, by decide +kernel, by decide +kernel⟩
def body_Reverse_eq (K : PySem.W.Frag) (A : Ads) : DS := (dRet (dAndV (dIsi K A.isis (dVar 1) (dC (.ptr A.c_Reverse))) (dOp D.eqD (dFld A.cs_parent "parent" (dVar 0)) (dFld A.cs_parent "parent" (dVar 1)))))
def dsp_Reverse_eq (K : PySem.W.Frag) (A : Ads) : DSp := dBody 2 (body_Reverse_eq K A)
abbrev N_SetValue_init : List Str := ["self", "name", "value"]
theorem sc_SetValue_init : FnScope N_SetValue_init ["self", "name", "value"] (defScope s_SetValue_init) := ⟨rfl, rfl, rfl, by decide +kernel, rfl, by decide +kernel, by decide +kernel⟩
def body_SetValue_init (K : PySem.W.Frag) (A : Ads) : DS := (dSeq (dSetF A.cs_name 0 "name" (dVar 1))
    (dSetF A.cs_value 0 "value" (dVar 2)))
def dsp_SetValue_init (K : PySem.W.Frag) (A : Ads) : DSp := dBody 3 (body_SetValue_init K A)
abbrev N_SetValue_eq : List Str := ["self", "other"]
theorem sc_SetValue_eq : FnScope N_SetValue_eq ["self", "other"] (defScope s_SetValue_eq) := ⟨rfl, rfl, rfl, by decide +kernel, rfl, by decide +kernel, by decide +kernel⟩
def body_SetValue_eq (K : PySem.W.Frag) (A : Ads) : DS := (dRet (dAndV (dIsi K A.isis (dVar 1) (dC (.ptr A.c_SetValue))) (dAndV (dOp D.eqD (dFld A.cs_name "name" (dVar 0)) (dFld A.cs_name "name" (dVar 1))) (dOp D.eqD (dFld A.cs_value "value" (dVar 0)) (dFld A.cs_value "value" (dVar 1))))))
def dsp_SetValue_eq (K : PySem.W.Frag) (A : Ads) : DSp := dBody 2 (body_SetValue_eq K A)
def l_eqm (K : PySem.W.Frag) (A : Ads) : List (Addr × DSp) := [(A.c_Put, dsp_Put_eq K A), (A.c_Move, dsp_Move_eq K A), (A.c_Cut, dsp_Cut_eq K A), (A.c_Lift, dsp_Lift_eq K A), (A.c_Wrap, dsp_Wrap_eq K A), (A.c_Reverse, dsp_Reverse_eq K A), (A.c_SetValue, dsp_SetValue_eq K A)]
abbrev N_p_law_well : List Str := ["_law_cell"]
theorem sc_p_law_well : FnScope N_p_law_well ["_law_cell"] (defScope s_p_law_well) := ⟨rfl, rfl, rfl, by decide +kernel, rfl, by decide +kernel, by decide +kernel⟩
def body_p_law_well (K : PySem.W.Frag) (A : Ads) : DS := (dRetF (dLst (dCons (dOp D.mul (dVar 0) (dCB D.toInt (dCons (dOp D.ge (dVar 0) (dOp D.pow (dC (.int 10)) (dC (.int 18)))) dNil))) (dCons (dOp D.mod (dCB D.toInt (dCons (dVar 0) dNil)) (dC (.int 2147483629))) (dCons (dC (.int 0)) dNil)))))
def dsp_p_law_well (K : PySem.W.Frag) (A : Ads) : DSp := dBodyF 1 (body_p_law_well K A)
abbrev N_p_law_draw : List Str := ["_law_well_here", "_law_many", "_law_digit", "_law_mixed"]
theorem sc_p_law_draw : FnScope N_p_law_draw ["_law_well_here", "_law_many"] (defScope s_p_law_draw) := ⟨rfl, rfl, rfl, by decide +kernel, rfl, by decide +kernel, by decide +kernel⟩
def body_p_law_draw (K : PySem.W.Frag) (A : Ads) : DS := (dSeq (dIfS (dTest (dOp D.gt (dOp D.ix (dVar 0) (dC (.int 0))) (dC (.int 0)))) (dSeq (dAsg (dOp D.mod (dCB D.toInt (dCons (dOp D.ix (dVar 0) (dC (.int 0))) dNil)) (dVar 1)) (dgName 2))
    (dSeq (dSetIx 0 (dC (.int 0)) (dOp D.fdiv (dOp D.ix (dVar 0) (dC (.int 0))) (dVar 1)))
    (dRet (dVar 2)))) dNext)
    (dSeq (dSetIx 0 (dC (.int 2)) (dOp D.add (dOp D.ix (dVar 0) (dC (.int 2))) (dC (.int 1))))
    (dSeq (dAsg (dOp D.mod (dCB D.toInt (dCons (dOp D.pow (dOp D.add (dOp D.add (dOp D.ix (dVar 0) (dC (.int 1))) (dOp D.mul (dC (.int 50021)) (dOp D.ix (dVar 0) (dC (.int 2))))) (dC (.int 17))) (dC (.int 3))) dNil)) (dC (.int 2147483647))) (dgName 3))
    (dSeq (dAsg (dOp D.mod (dCB D.toInt (dCons (dOp D.mul (dOp D.add (dVar 3) (dOp D.ix (dVar 0) (dC (.int 2)))) (dOp D.add (dOp D.fdiv (dVar 3) (dC (.int 1021))) (dC (.int 69621)))) dNil)) (dC (.int 2147483587))) (dgName 3))
    (dRet (dOp D.mod (dCB D.toInt (dCons (dOp D.fdiv (dOp D.mod (dCB D.toInt (dCons (dOp D.mul (dVar 3) (dOp D.add (dOp D.fdiv (dVar 3) (dC (.int 2017))) (dC (.int 48271)))) dNil)) (dC (.int 2147483563))) (dC (.int 3))) dNil)) (dVar 1)))))))
def dsp_p_law_draw (K : PySem.W.Frag) (A : Ads) : DSp := dBody 4 (body_p_law_draw K A)
abbrev N_p_law_one : List Str := ["_law_well_here", "_law_some"]
theorem sc_p_law_one : FnScope N_p_law_one ["_law_well_here", "_law_some"] (defScope s_p_law_one) := ⟨rfl, rfl, rfl, by decide +kernel, rfl, by decide +kernel, by decide +kernel⟩
def body_p_law_one (K : PySem.W.Frag) (A : Ads) : DS := (dRet (dOp D.ix (dVar 1) (dCall (noEr (dsp_p_law_draw K A)) (dN 2 (dCons (dVar 0) (dCons (dCB D.len (dCons (dVar 1) dNil)) dNil))))))
def dsp_p_law_one (K : PySem.W.Frag) (A : Ads) : DSp := dBody 2 (body_p_law_one K A)
abbrev N_p_law_field : List Str := ["_law_well_here", "_law_some"]
theorem sc_p_law_field : FnScope N_p_law_field ["_law_well_here"] (defScope s_p_law_field) := ⟨rfl, rfl, rfl, by decide +kernel, rfl, by decide +kernel, by decide +kernel⟩
def body_p_law_field (K : PySem.W.Frag) (A : Ads) : DS := (dSeq (dAsg (dV (dLst (dCons (dC (.str (PySem.Str.ofString "a"))) (dCons (dC (.str (PySem.Str.ofString "b1"))) (dCons (dC (.str (PySem.Str.ofString ""))) (dCons (dC .non) (dCons (dC (.int 0)) (dCons (dC (.int 1)) (dCons (dC (.int 7)) (dCons (dUn D.neg (dC (.int 1))) (dCons (dOp D.pow (dC (.int 10)) (dC (.int 30))) (dCons (dV (dLst dNil)) (dCons (dV (dLst (dCons (dC (.str (PySem.Str.ofString "a"))) dNil))) (dCons (dTup (dCons (dC (.int 1)) (dCons (dC (.str (PySem.Str.ofString "a"))) dNil))) (dCons (dV dDNew) (dCons (dV (dDisp1 (PySem.Str.ofString "a") (dV (dLst (dCons (dC (.int 1)) dNil))))) (dCons (dOp D.mulS (dC (.str (PySem.Str.ofString "a"))) (dC (.int 9))) (dCons (dC (.bl true)) (dCons (dC (.bl false)) dNil))))))))))))))))))) (dgName 1))
    (dRet (dCall (noEr (dsp_p_law_one K A)) (dN 2 (dCons (dVar 0) (dCons (dVar 1) dNil))))))
def dsp_p_law_field (K : PySem.W.Frag) (A : Ads) : DSp := dBody 2 (body_p_law_field K A)
abbrev N_p_law_deed : List Str := ["_law_kind", "_law_fields"]
theorem sc_p_law_deed : FnScope N_p_law_deed ["_law_kind", "_law_fields"] (defScope s_p_law_deed) := ⟨rfl, rfl, rfl, by decide +kernel, rfl, by decide +kernel, by decide +kernel⟩
def body_p_law_deed (K : PySem.W.Frag) (A : Ads) : DS := (dSeq (dIfS (dTest (dOp D.eq (dVar 0) (dC (.int 0)))) (dRet (dV (dMake A.c_Put (noEr (dsp_Put_init K A)) (dN 4 (dCons (dOp D.ix (dVar 1) (dC (.int 0))) (dCons (dOp D.ix (dVar 1) (dC (.int 1))) (dCons (dOp D.ix (dVar 1) (dC (.int 2))) (dCons (dOp D.ix (dVar 1) (dC (.int 3))) dNil)))))))) dNext)
    (dSeq (dIfS (dTest (dOp D.eq (dVar 0) (dC (.int 1)))) (dRet (dV (dMake A.c_Move (noEr (dsp_Move_init K A)) (dN 3 (dCons (dOp D.ix (dVar 1) (dC (.int 0))) (dCons (dOp D.ix (dVar 1) (dC (.int 1))) (dCons (dOp D.ix (dVar 1) (dC (.int 2))) dNil))))))) dNext)
    (dSeq (dIfS (dTest (dOp D.eq (dVar 0) (dC (.int 2)))) (dRet (dV (dMake A.c_Cut (noEr (dsp_Cut_init K A)) (dN 1 (dCons (dOp D.ix (dVar 1) (dC (.int 0))) dNil))))) dNext)
    (dSeq (dIfS (dTest (dOp D.eq (dVar 0) (dC (.int 3)))) (dRet (dV (dMake A.c_Lift (noEr (dsp_Lift_init K A)) (dN 1 (dCons (dOp D.ix (dVar 1) (dC (.int 0))) dNil))))) dNext)
    (dSeq (dIfS (dTest (dOp D.eq (dVar 0) (dC (.int 4)))) (dRet (dV (dMake A.c_Wrap (noEr (dsp_Wrap_init K A)) (dN 5 (dCons (dOp D.ix (dVar 1) (dC (.int 0))) (dCons (dOp D.ix (dVar 1) (dC (.int 1))) (dCons (dOp D.ix (dVar 1) (dC (.int 2))) (dCons (dOp D.ix (dVar 1) (dC (.int 3))) (dCons (dOp D.ix (dVar 1) (dC (.int 4))) dNil))))))))) dNext)
    (dSeq (dIfS (dTest (dOp D.eq (dVar 0) (dC (.int 5)))) (dRet (dV (dMake A.c_Reverse (noEr (dsp_Reverse_init K A)) (dN 1 (dCons (dOp D.ix (dVar 1) (dC (.int 0))) dNil))))) dNext)
    (dRet (dV (dMake A.c_SetValue (noEr (dsp_SetValue_init K A)) (dN 2 (dCons (dOp D.ix (dVar 1) (dC (.int 0))) (dCons (dOp D.ix (dVar 1) (dC (.int 1))) dNil))))))))))))
def dsp_p_law_deed (K : PySem.W.Frag) (A : Ads) : DSp := dBody 2 (body_p_law_deed K A)
abbrev N_p_law_named : List Str := ["_law_kind", "_law_fields"]
theorem sc_p_law_named : FnScope N_p_law_named ["_law_kind", "_law_fields"] (defScope s_p_law_named) := ⟨rfl, rfl, rfl, by decide +kernel, rfl, by decide +kernel, by decide +kernel⟩
def body_p_law_named (K : PySem.W.Frag) (A : Ads) : DS := (dSeq (dIfS (dTest (dOp D.eq (dVar 0) (dC (.int 0)))) (dRet (dV (dMake A.c_Put (noEr (dsp_Put_init K A)) (dN 4 (dKw 0 4 [3, 2, 1, 0] dNil (dCons (dOp D.ix (dVar 1) (dC (.int 3))) (dCons (dOp D.ix (dVar 1) (dC (.int 2))) (dCons (dOp D.ix (dVar 1) (dC (.int 1))) (dCons (dOp D.ix (dVar 1) (dC (.int 0))) dNil))))))))) dNext)
    (dSeq (dIfS (dTest (dOp D.eq (dVar 0) (dC (.int 1)))) (dRet (dV (dMake A.c_Move (noEr (dsp_Move_init K A)) (dN 3 (dKw 0 3 [2, 1, 0] dNil (dCons (dOp D.ix (dVar 1) (dC (.int 2))) (dCons (dOp D.ix (dVar 1) (dC (.int 1))) (dCons (dOp D.ix (dVar 1) (dC (.int 0))) dNil)))))))) dNext)
    (dSeq (dIfS (dTest (dOp D.eq (dVar 0) (dC (.int 2)))) (dRet (dV (dMake A.c_Cut (noEr (dsp_Cut_init K A)) (dN 1 (dKw 0 1 [0] dNil (dCons (dOp D.ix (dVar 1) (dC (.int 0))) dNil)))))) dNext)
    (dSeq (dIfS (dTest (dOp D.eq (dVar 0) (dC (.int 3)))) (dRet (dV (dMake A.c_Lift (noEr (dsp_Lift_init K A)) (dN 1 (dKw 0 1 [0] dNil (dCons (dOp D.ix (dVar 1) (dC (.int 0))) dNil)))))) dNext)
    (dSeq (dIfS (dTest (dOp D.eq (dVar 0) (dC (.int 4)))) (dRet (dV (dMake A.c_Wrap (noEr (dsp_Wrap_init K A)) (dN 5 (dKw 0 5 [4, 3, 2, 1, 0] dNil (dCons (dOp D.ix (dVar 1) (dC (.int 4))) (dCons (dOp D.ix (dVar 1) (dC (.int 3))) (dCons (dOp D.ix (dVar 1) (dC (.int 2))) (dCons (dOp D.ix (dVar 1) (dC (.int 1))) (dCons (dOp D.ix (dVar 1) (dC (.int 0))) dNil)))))))))) dNext)
    (dSeq (dIfS (dTest (dOp D.eq (dVar 0) (dC (.int 5)))) (dRet (dV (dMake A.c_Reverse (noEr (dsp_Reverse_init K A)) (dN 1 (dKw 0 1 [0] dNil (dCons (dOp D.ix (dVar 1) (dC (.int 0))) dNil)))))) dNext)
    (dRet (dV (dMake A.c_SetValue (noEr (dsp_SetValue_init K A)) (dN 2 (dKw 0 2 [1, 0] dNil (dCons (dOp D.ix (dVar 1) (dC (.int 1))) (dCons (dOp D.ix (dVar 1) (dC (.int 0))) dNil)))))))))))))
def dsp_p_law_named (K : PySem.W.Frag) (A : Ads) : DSp := dBody 2 (body_p_law_named K A)
abbrev N_p_law_told : List Str := ["_law_kind", "_law_deed_here"]
theorem sc_p_law_told : FnScope N_p_law_told ["_law_kind", "_law_deed_here"] (defScope s_p_law_told) := ⟨rfl, rfl, rfl, by decide +kernel, rfl, by decide +kernel, by decide +kernel⟩
def body_p_law_told (K : PySem.W.Frag) (A : Ads) : DS := (dSeq (dIfS (dTest (dOp D.eq (dVar 0) (dC (.int 0)))) (dRet (dV (dLst (dCons (dFld A.cs_name "name" (dVar 1)) (dCons (dFld A.cs_value "value" (dVar 1)) (dCons (dFld A.cs_parent "parent" (dVar 1)) (dCons (dFld A.cs_rank "rank" (dVar 1)) dNil))))))) dNext)
    (dSeq (dIfS (dTest (dOp D.eq (dVar 0) (dC (.int 1)))) (dRet (dV (dLst (dCons (dFld A.cs_name "name" (dVar 1)) (dCons (dFld A.cs_parent "parent" (dVar 1)) (dCons (dFld A.cs_rank "rank" (dVar 1)) dNil)))))) dNext)
    (dSeq (dIfS (dTest (dOp D.isIn (dVar 0) (dTup (dCons (dC (.int 2)) (dCons (dC (.int 3)) dNil))))) (dRet (dV (dLst (dCons (dFld A.cs_name "name" (dVar 1)) dNil)))) dNext)
    (dSeq (dIfS (dTest (dOp D.eq (dVar 0) (dC (.int 4)))) (dRet (dV (dLst (dCons (dFld A.cs_name "name" (dVar 1)) (dCons (dFld A.cs_value "value" (dVar 1)) (dCons (dFld A.cs_parent "parent" (dVar 1)) (dCons (dFld A.cs_first "first" (dVar 1)) (dCons (dFld A.cs_last "last" (dVar 1)) dNil)))))))) dNext)
    (dRet (dIf (dTest (dOp D.eq (dVar 0) (dC (.int 5)))) (dV (dLst (dCons (dFld A.cs_parent "parent" (dVar 1)) dNil))) (dV (dLst (dCons (dFld A.cs_name "name" (dVar 1)) (dCons (dFld A.cs_value "value" (dVar 1)) dNil))))))))))
def dsp_p_law_told (K : PySem.W.Frag) (A : Ads) : DSp := dBody 2 (body_p_law_told K A)
abbrev N_law : List Str := ["_law_script", "_law_sizes", "_law_cell", "_law_well_here", "_law_turn", "_law_kind", "_law_fields", "_law_others", "_law_deed_here", "_law_again", "_law_far", "_law_due", "_law_other", "_law_more", "_law_k", "_law_field_here"]
theorem sc_law : FnScope N_law ["_law_script"] (defScope s_law) := ⟨rfl, rfl, rfl, by decide +kernel, rfl, by decide +kernel, by decide +kernel⟩
def body_law (K : PySem.W.Frag) (A : Ads) : DS := (dSeq (dAsg (dV (dLst (dCons (dC (.int 4)) (dCons (dC (.int 3)) (dCons (dC (.int 1)) (dCons (dC (.int 1)) (dCons (dC (.int 5)) (dCons (dC (.int 1)) (dCons (dC (.int 2)) dNil))))))))) (dgName 1))
    (dSeq (dFor (diAny (dSl (dOp D.add (dVar 0) (dV (dLst (dCons (dC (.int 0)) dNil)))) dNoP (dPart (dC (.int 5))))) (dgName 2) (dSeq (dOwn (dCallF (noEr (dsp_p_law_well K A)) (dN 1 (dCons (dVar 2) dNil))) 3)
    (dFor (diRng1 (dC (.int 6))) (dgName 4) (dSeq (dAsg (dCall (noEr (dsp_p_law_draw K A)) (dN 2 (dCons (dVar 3) (dCons (dC (.int 7)) dNil)))) (dgName 5))
    (dSeq (dAsg (dV (dLc (diRng1 (dC (.int 5))) (dgName 14) (fun ρ q _ => q true ρ) (dCall (noEr (dsp_p_law_field K A)) (dN 1 (dCons (dVar 3) dNil))) [14])) (dgName 6))
    (dSeq (dAsg (dV (dLc (diAny (dVar 6)) (dgName 15) (fun ρ q _ => q true ρ) (dIf (dTest (dOp D.eq (dCall (noEr (dsp_p_law_draw K A)) (dN 2 (dCons (dVar 3) (dCons (dC (.int 5)) dNil)))) (dC (.int 0)))) (dCall (noEr (dsp_p_law_field K A)) (dN 1 (dCons (dVar 3) dNil))) (dVar 15)) [15])) (dgName 7))
    (dSeq (dPar3 8 9 10 (dCons (dCall (noEr (dsp_p_law_deed K A)) (dN 2 (dCons (dVar 5) (dCons (dVar 6) dNil)))) (dCons (dCall (noEr (dsp_p_law_named K A)) (dN 2 (dCons (dVar 5) (dCons (dVar 6) dNil)))) (dCons (dCall (noEr (dsp_p_law_deed K A)) (dN 2 (dCons (dVar 5) (dCons (dVar 7) dNil)))) dNil))))
    (dSeq (dAsg (dSl (dVar 6) dNoP (dPart (dOp D.ix (dVar 1) (dVar 5)))) (dgName 11))
    (dSeq (dIfS (dOr (dTest (dOp D.neD (dCall (noEr (dsp_p_law_told K A)) (dN 2 (dCons (dVar 5) (dCons (dVar 8) dNil)))) (dVar 11))) (dTest (dOp D.neD (dCall (noEr (dsp_p_law_told K A)) (dN 2 (dCons (dVar 5) (dCons (dVar 9) dNil)))) (dVar 11)))) (dRet (dC (.bl false))) dNext)
    (dSeq (dIfS (dOr (dTest (dEqM K (fun b => !b) A.isis (l_eqm K A) (dVar 8) (dVar 9))) (dOr (dNot (dTest (dEqM K (fun b => b) A.isis (l_eqm K A) (dVar 8) (dVar 9)))) (dTest (dOp D.eq (dEqM K (fun b => !b) A.isis (l_eqm K A) (dVar 8) (dVar 10)) (dEqM K (fun b => b) A.isis (l_eqm K A) (dVar 8) (dVar 10)))))) (dRet (dC (.bl false))) dNext)
    (dSeq (dIfS (dTest (dOp D.ne (dEqM K (fun b => b) A.isis (l_eqm K A) (dVar 8) (dVar 10)) (dOp D.eqD (dVar 11) (dSl (dVar 7) dNoP (dPart (dOp D.ix (dVar 1) (dVar 5))))))) (dRet (dC (.bl false))) dNext)
    (dSeq (dAsg (dCall (noEr (dsp_p_law_draw K A)) (dN 2 (dCons (dVar 3) (dCons (dC (.int 7)) dNil)))) (dgName 12))
    (dSeq (dAsg (dCall (noEr (dsp_p_law_deed K A)) (dN 2 (dCons (dVar 12) (dCons (dVar 6) dNil)))) (dgName 13))
    (dSeq (dIfS (dAnd (dTest (dOp D.ne (dVar 12) (dVar 5))) (dOr (dTest (dEqM K (fun b => b) A.isis (l_eqm K A) (dVar 8) (dVar 13))) (dNot (dTest (dEqM K (fun b => !b) A.isis (l_eqm K A) (dVar 8) (dVar 13)))))) (dRet (dC (.bl false))) dNext)
    (dIfS (dOr (dTest (dEqM K (fun b => b) A.isis (l_eqm K A) (dVar 8) (dCB D.toTuple (dCons (dVar 11) dNil)))) (dOr (dTest (dEqM K (fun b => b) A.isis (l_eqm K A) (dVar 8) (dVar 11))) (dOr (dTest (dOp D.isN (dVar 8) (dC .non))) (dNot (dTest (dEqM K (fun b => !b) A.isis (l_eqm K A) (dVar 8) (dC (.int 5)))))))) (dRet (dC (.bl false))) dNext)))))))))))))))
    (dRet (dAndV (dEqM K (fun b => !b) A.isis (l_eqm K A) (dV (dMake A.c_Cut (noEr (dsp_Cut_init K A)) (dN 1 (dCons (dC (.str (PySem.Str.ofString "a"))) dNil)))) (dV (dMake A.c_Lift (noEr (dsp_Lift_init K A)) (dN 1 (dCons (dC (.str (PySem.Str.ofString "a"))) dNil))))) (dAndV (dEqM K (fun b => b) A.isis (l_eqm K A) (dV (dMake A.c_Cut (noEr (dsp_Cut_init K A)) (dN 1 (dCons (dC (.str (PySem.Str.ofString "a"))) dNil)))) (dV (dMake A.c_Cut (noEr (dsp_Cut_init K A)) (dN 1 (dCons (dC (.str (PySem.Str.ofString "a"))) dNil))))) (dEqM K (fun b => !b) A.isis (l_eqm K A) (dV (dMake A.c_Cut (noEr (dsp_Cut_init K A)) (dN 1 (dCons (dC (.str (PySem.Str.ofString "a"))) dNil)))) (dV (dMake A.c_Reverse (noEr (dsp_Reverse_init K A)) (dN 1 (dCons (dC (.str (PySem.Str.ofString "a"))) dNil))))))))))
def dsp_law (K : PySem.W.Frag) (A : Ads) : DSp := dBody 16 (body_law K A)
section
variable {P : Program} {w : World} {K : PySem.W.Frag} {mg : Str → Option Value} {base : Heap} {A : Ads}
theorem ok_Put_init (T : Txt K mg A) : FnOk P w K mg base CX0 1 A.a_Put_init A.d_Put_init ["self", "name", "value", "parent", "rank"] (SpV K 5 (dsp_Put_init K A)) :=
  T.F_Put_init.ok sc_Put_init (fun vs H Q E h => h.len) (fun cdv A' outer s H vs Q E hr h => ⟨_, (pss_cons (ps_fld (pv 0) (pv 1) rfl)
      (pss_cons (ps_fld (pv 0) (pv 2) rfl)
      (pss_cons (ps_fld (pv 0) (pv 3) rfl)
      (pss_one (ps_fld (pv 0) (pv 4) rfl))))),
    bodyV (N := N_Put_init) (ss_seq (ss_setF T.f_name se_var)
      (ss_seq (ss_setF T.f_value se_var)
      (ss_seq (ss_setF T.f_parent se_var)
      (ss_setF T.f_rank se_var)))) (by decide) h⟩)
theorem ok_Put_eq (T : Txt K mg A) : FnOk P w K mg base CX0 1 A.a_Put_eq A.d_Put_eq ["self", "other"] (SpV K 2 (dsp_Put_eq K A)) :=
  T.F_Put_eq.ok sc_Put_eq (fun vs H Q E h => h.len) (fun cdv A' outer s H vs Q E hr h => ⟨_, (pss_one (ps_ret (pe_and (pe_callB call_isiX (by rfl) T.z_isinstance (by decide +kernel) (pa_cons (pv 1) (pa_cons (pe_glob (v := .ref A.c_Put) rfl T.g_Put rfl) pa_nil))) (pe_and (pe_cmpR (op_eqX hr.units) (pe_fld (pv 0) rfl) (pe_fld (pv 1) rfl) (nomark _)) (pe_and (pe_cmpR (op_eqX hr.units) (pe_fld (pv 0) rfl) (pe_fld (pv 1) rfl) (nomark _)) (pe_and (pe_cmpR (op_eqX hr.units) (pe_fld (pv 0) rfl) (pe_fld (pv 1) rfl) (nomark _)) (pe_one (pe_cmpR (op_eqX hr.units) (pe_fld (pv 0) rfl) (pe_fld (pv 1) rfl) (nomark _))))))))),
    bodyV (N := N_Put_eq) (ss_ret (se_andV (se_isi T.isi T.ic se_var (se_c (fun _ => .ptr A.c_Put))) (se_andV (se_op sr_eqX (se_fld T.f_name se_var) (se_fld T.f_name se_var)) (se_andV (se_op sr_eqX (se_fld T.f_value se_var) (se_fld T.f_value se_var)) (se_andV (se_op sr_eqX (se_fld T.f_parent se_var) (se_fld T.f_parent se_var)) (se_op sr_eqX (se_fld T.f_rank se_var) (se_fld T.f_rank se_var))))))) (by decide) h⟩)
theorem ok_Move_init (T : Txt K mg A) : FnOk P w K mg base CX0 1 A.a_Move_init A.d_Move_init ["self", "name", "parent", "rank"] (SpV K 4 (dsp_Move_init K A)) :=
  T.F_Move_init.ok sc_Move_init (fun vs H Q E h => h.len) (fun cdv A' outer s H vs Q E hr h => ⟨_, (pss_cons (ps_fld (pv 0) (pv 1) rfl)
      (pss_cons (ps_fld (pv 0) (pv 2) rfl)
      (pss_one (ps_fld (pv 0) (pv 3) rfl)))),
    bodyV (N := N_Move_init) (ss_seq (ss_setF T.f_name se_var)
      (ss_seq (ss_setF T.f_parent se_var)
      (ss_setF T.f_rank se_var))) (by decide) h⟩)
theorem ok_Move_eq (T : Txt K mg A) : FnOk P w K mg base CX0 1 A.a_Move_eq A.d_Move_eq ["self", "other"] (SpV K 2 (dsp_Move_eq K A)) :=
  T.F_Move_eq.ok sc_Move_eq (fun vs H Q E h => h.len) (fun cdv A' outer s H vs Q E hr h => ⟨_, (pss_one (ps_ret (pe_and (pe_callB call_isiX (by rfl) T.z_isinstance (by decide +kernel) (pa_cons (pv 1) (pa_cons (pe_glob (v := .ref A.c_Move) rfl T.g_Move rfl) pa_nil))) (pe_and (pe_cmpR (op_eqX hr.units) (pe_fld (pv 0) rfl) (pe_fld (pv 1) rfl) (nomark _)) (pe_and (pe_cmpR (op_eqX hr.units) (pe_fld (pv 0) rfl) (pe_fld (pv 1) rfl) (nomark _)) (pe_one (pe_cmpR (op_eqX hr.units) (pe_fld (pv 0) rfl) (pe_fld (pv 1) rfl) (nomark _)))))))),
    bodyV (N := N_Move_eq) (ss_ret (se_andV (se_isi T.isi T.ic se_var (se_c (fun _ => .ptr A.c_Move))) (se_andV (se_op sr_eqX (se_fld T.f_name se_var) (se_fld T.f_name se_var)) (se_andV (se_op sr_eqX (se_fld T.f_parent se_var) (se_fld T.f_parent se_var)) (se_op sr_eqX (se_fld T.f_rank se_var) (se_fld T.f_rank se_var)))))) (by decide) h⟩)
theorem ok_Cut_init (T : Txt K mg A) : FnOk P w K mg base CX0 1 A.a_Cut_init A.d_Cut_init ["self", "name"] (SpV K 2 (dsp_Cut_init K A)) :=
  T.F_Cut_init.ok sc_Cut_init (fun vs H Q E h => h.len) (fun cdv A' outer s H vs Q E hr h => ⟨_, (pss_one (ps_fld (pv 0) (pv 1) rfl)),
    bodyV (N := N_Cut_init) (ss_setF T.f_name se_var) (by decide) h⟩)
theorem ok_Cut_eq (T : Txt K mg A) : FnOk P w K mg base CX0 1 A.a_Cut_eq A.d_Cut_eq ["self", "other"] (SpV K 2 (dsp_Cut_eq K A)) :=
  T.F_Cut_eq.ok sc_Cut_eq (fun vs H Q E h => h.len) (fun cdv A' outer s H vs Q E hr h => ⟨_, (pss_one (ps_ret (pe_and (pe_callB call_isiX (by rfl) T.z_isinstance (by decide +kernel) (pa_cons (pv 1) (pa_cons (pe_glob (v := .ref A.c_Cut) rfl T.g_Cut rfl) pa_nil))) (pe_one (pe_cmpR (op_eqX hr.units) (pe_fld (pv 0) rfl) (pe_fld (pv 1) rfl) (nomark _)))))),
    bodyV (N := N_Cut_eq) (ss_ret (se_andV (se_isi T.isi T.ic se_var (se_c (fun _ => .ptr A.c_Cut))) (se_op sr_eqX (se_fld T.f_name se_var) (se_fld T.f_name se_var)))) (by decide) h⟩)
theorem ok_Lift_init (T : Txt K mg A) : FnOk P w K mg base CX0 1 A.a_Lift_init A.d_Lift_init ["self", "name"] (SpV K 2 (dsp_Lift_init K A)) :=
  T.F_Lift_init.ok sc_Lift_init (fun vs H Q E h => h.len) (fun cdv A' outer s H vs Q E hr h => ⟨_, (pss_one (ps_fld (pv 0) (pv 1) rfl)),
    bodyV (N := N_Lift_init) (ss_setF T.f_name se_var) (by decide) h⟩)
theorem ok_Lift_eq (T : Txt K mg A) : FnOk P w K mg base CX0 1 A.a_Lift_eq A.d_Lift_eq ["self", "other"] (SpV K 2 (dsp_Lift_eq K A)) :=
  T.F_Lift_eq.ok sc_Lift_eq (fun vs H Q E h => h.len) (fun cdv A' outer s H vs Q E hr h => ⟨_, (pss_one (ps_ret (pe_and (pe_callB call_isiX (by rfl) T.z_isinstance (by decide +kernel) (pa_cons (pv 1) (pa_cons (pe_glob (v := .ref A.c_Lift) rfl T.g_Lift rfl) pa_nil))) (pe_one (pe_cmpR (op_eqX hr.units) (pe_fld (pv 0) rfl) (pe_fld (pv 1) rfl) (nomark _)))))),
    bodyV (N := N_Lift_eq) (ss_ret (se_andV (se_isi T.isi T.ic se_var (se_c (fun _ => .ptr A.c_Lift))) (se_op sr_eqX (se_fld T.f_name se_var) (se_fld T.f_name se_var)))) (by decide) h⟩)
theorem ok_Wrap_init (T : Txt K mg A) : FnOk P w K mg base CX0 1 A.a_Wrap_init A.d_Wrap_init ["self", "name", "value", "parent", "first", "last"] (SpV K 6 (dsp_Wrap_init K A)) :=
  T.F_Wrap_init.ok sc_Wrap_init (fun vs H Q E h => h.len) (fun cdv A' outer s H vs Q E hr h => ⟨_, (pss_cons (ps_fld (pv 0) (pv 1) rfl)
      (pss_cons (ps_fld (pv 0) (pv 2) rfl)
      (pss_cons (ps_fld (pv 0) (pv 3) rfl)
      (pss_cons (ps_fld (pv 0) (pv 4) rfl)
      (pss_one (ps_fld (pv 0) (pv 5) rfl)))))),
    bodyV (N := N_Wrap_init) (ss_seq (ss_setF T.f_name se_var)
      (ss_seq (ss_setF T.f_value se_var)
      (ss_seq (ss_setF T.f_parent se_var)
      (ss_seq (ss_setF T.f_first se_var)
      (ss_setF T.f_last se_var))))) (by decide) h⟩)
theorem ok_Wrap_eq (T : Txt K mg A) : FnOk P w K mg base CX0 1 A.a_Wrap_eq A.d_Wrap_eq ["self", "other"] (SpV K 2 (dsp_Wrap_eq K A)) :=
  T.F_Wrap_eq.ok sc_Wrap_eq (fun vs H Q E h => h.len) (fun cdv A' outer s H vs Q E hr h => ⟨_, (pss_one (ps_ret (pe_and (pe_callB call_isiX (by rfl) T.z_isinstance (by decide +kernel) (pa_cons (pv 1) (pa_cons (pe_glob (v := .ref A.c_Wrap) rfl T.g_Wrap rfl) pa_nil))) (pe_and (pe_cmpR (op_eqX hr.units) (pe_fld (pv 0) rfl) (pe_fld (pv 1) rfl) (nomark _)) (pe_and (pe_cmpR (op_eqX hr.units) (pe_fld (pv 0) rfl) (pe_fld (pv 1) rfl) (nomark _)) (pe_and (pe_cmpR (op_eqX hr.units) (pe_fld (pv 0) rfl) (pe_fld (pv 1) rfl) (nomark _)) (pe_and (pe_cmpR (op_eqX hr.units) (pe_fld (pv 0) rfl) (pe_fld (pv 1) rfl) (nomark _)) (pe_one (pe_cmpR (op_eqX hr.units) (pe_fld (pv 0) rfl) (pe_fld (pv 1) rfl) (nomark _)))))))))),
    bodyV (N := N_Wrap_eq) (ss_ret (se_andV (se_isi T.isi T.ic se_var (se_c (fun _ => .ptr A.c_Wrap))) (se_andV (se_op sr_eqX (se_fld T.f_name se_var) (se_fld T.f_name se_var)) (se_andV (se_op sr_eqX (se_fld T.f_value se_var) (se_fld T.f_value se_var)) (se_andV (se_op sr_eqX (se_fld T.f_parent se_var) (se_fld T.f_parent se_var)) (se_andV (se_op sr_eqX (se_fld T.f_first se_var) (se_fld T.f_first se_var)) (se_op sr_eqX (se_fld T.f_last se_var) (se_fld T.f_last se_var)))))))) (by decide) h⟩)
theorem ok_Reverse_init (T : Txt K mg A) : FnOk P w K mg base CX0 1 A.a_Reverse_init A.d_Reverse_init ["self", "parent"] (SpV K 2 (dsp_Reverse_init K A)) :=
  T.F_Reverse_init.ok sc_Reverse_init (fun vs H Q E h => h.len) (fun cdv A' outer s H vs Q E hr h => ⟨_, (pss_one (ps_fld (pv 0) (pv 1) rfl)),
    bodyV (N := N_Reverse_init) (ss_setF T.f_parent se_var) (by decide) h⟩)
theorem ok_Reverse_eq (T : Txt K mg A) : FnOk P w K mg base CX0 1 A.a_Reverse_eq A.d_Reverse_eq ["self", "other"] (SpV K 2 (dsp_Reverse_eq K A)) :=
  T.F_Reverse_eq.ok sc_Reverse_eq (fun vs H Q E h => h.len) (fun cdv A' outer s H vs Q E hr h => ⟨_, (pss_one (ps_ret (pe_and (pe_callB call_isiX (by rfl) T.z_isinstance (by decide +kernel) (pa_cons (pv 1) (pa_cons (pe_glob (v := .ref A.c_Reverse) rfl T.g_Reverse rfl) pa_nil))) (pe_one (pe_cmpR (op_eqX hr.units) (pe_fld (pv 0) rfl) (pe_fld (pv 1) rfl) (nomark _)))))),
    bodyV (N := N_Reverse_eq) (ss_ret (se_andV (se_isi T.isi T.ic se_var (se_c (fun _ => .ptr A.c_Reverse))) (se_op sr_eqX (se_fld T.f_parent se_var) (se_fld T.f_parent se_var)))) (by decide) h⟩)
theorem ok_SetValue_init (T : Txt K mg A) : FnOk P w K mg base CX0 1 A.a_SetValue_init A.d_SetValue_init ["self", "name", "value"] (SpV K 3 (dsp_SetValue_init K A)) :=
  T.F_SetValue_init.ok sc_SetValue_init (fun vs H Q E h => h.len) (fun cdv A' outer s H vs Q E hr h => ⟨_, (pss_cons (ps_fld (pv 0) (pv 1) rfl)
      (pss_one (ps_fld (pv 0) (pv 2) rfl))),
    bodyV (N := N_SetValue_init) (ss_seq (ss_setF T.f_name se_var)
      (ss_setF T.f_value se_var)) (by decide) h⟩)
theorem ok_SetValue_eq (T : Txt K mg A) : FnOk P w K mg base CX0 1 A.a_SetValue_eq A.d_SetValue_eq ["self", "other"] (SpV K 2 (dsp_SetValue_eq K A)) :=
  T.F_SetValue_eq.ok sc_SetValue_eq (fun vs H Q E h => h.len) (fun cdv A' outer s H vs Q E hr h => ⟨_, (pss_one (ps_ret (pe_and (pe_callB call_isiX (by rfl) T.z_isinstance (by decide +kernel) (pa_cons (pv 1) (pa_cons (pe_glob (v := .ref A.c_SetValue) rfl T.g_SetValue rfl) pa_nil))) (pe_and (pe_cmpR (op_eqX hr.units) (pe_fld (pv 0) rfl) (pe_fld (pv 1) rfl) (nomark _)) (pe_one (pe_cmpR (op_eqX hr.units) (pe_fld (pv 0) rfl) (pe_fld (pv 1) rfl) (nomark _))))))),
    bodyV (N := N_SetValue_eq) (ss_ret (se_andV (se_isi T.isi T.ic se_var (se_c (fun _ => .ptr A.c_SetValue))) (se_andV (se_op sr_eqX (se_fld T.f_name se_var) (se_fld T.f_name se_var)) (se_op sr_eqX (se_fld T.f_value se_var) (se_fld T.f_value se_var))))) (by decide) h⟩)
theorem eqm_all (T : Txt K mg A) : ∀ q ∈ (l_eqm K A).map (fun q => (q.1, SpV K 2 q.2)), EqM P w K mg base 1 q.1 q.2 := by
  intro q hq
  simp only [l_eqm, List.map_cons, List.map_nil, List.mem_cons, List.not_mem_nil, or_false] at hq
  rcases hq with rfl | rfl | rfl | rfl | rfl | rfl | rfl
  · exact ⟨_, _, _, T.q_Put, ok_Put_eq T, T.b_Put_eq⟩
  · exact ⟨_, _, _, T.q_Move, ok_Move_eq T, T.b_Move_eq⟩
  · exact ⟨_, _, _, T.q_Cut, ok_Cut_eq T, T.b_Cut_eq⟩
  · exact ⟨_, _, _, T.q_Lift, ok_Lift_eq T, T.b_Lift_eq⟩
  · exact ⟨_, _, _, T.q_Wrap, ok_Wrap_eq T, T.b_Wrap_eq⟩
  · exact ⟨_, _, _, T.q_Reverse, ok_Reverse_eq T, T.b_Reverse_eq⟩
  · exact ⟨_, _, _, T.q_SetValue, ok_SetValue_eq T, T.b_SetValue_eq⟩
theorem ok_p_law_well (T : Txt K mg A) : FnOk P w K mg base CX0 1 A.a_p_law_well A.d_p_law_well ["_law_cell"] (SpF K 1 (dsp_p_law_well K A)) :=
  T.F_p_law_well.ok sc_p_law_well (fun vs H Q E h => h.len) (fun cdv A' outer s H vs Q E hr h => ⟨_, (pss_one (ps_ret (pe_lst (pa_cons (pe_op op_mulX (pv 0) (pe_callTy call_intX (by rfl) T.z_int (by decide +kernel) (pa_cons (pe_cmpR op_geX (pv 0) (pe_op op_powX pe_int pe_int) (nomark _)) pa_nil))) (pa_cons (pe_op op_modX (pe_callTy call_intX (by rfl) T.z_int (by decide +kernel) (pa_cons (pv 0) pa_nil)) pe_int) (pa_cons pe_int pa_nil)))))),
    bodyF (N := N_p_law_well) (ss_retF (sf_lst (sa_cons (se_op sr_mul se_var (se_cb sc_int (sa_cons (se_op sr_cmp se_var (se_op sr_pow (se_c (fun _ => .int 10)) (se_c (fun _ => .int 18)))) sa_nil))) (sa_cons (se_op sr_mod (se_cb sc_int (sa_cons se_var sa_nil)) (se_c (fun _ => .int 2147483629))) (sa_cons (se_c (fun _ => .int 0)) sa_nil))))) (by decide) h⟩)
theorem ok_p_law_draw (T : Txt K mg A) : FnOk P w K mg base CX0 1 A.a_p_law_draw A.d_p_law_draw ["_law_well_here", "_law_many"] (SpV K 2 (dsp_p_law_draw K A)) :=
  T.F_p_law_draw.ok sc_p_law_draw (fun vs H Q E h => h.len) (fun cdv A' outer s H vs Q E hr h => ⟨_, (pss_cons (ps_if (pt_cmpR op_gtX (pe_ix ix_seq (pv 0) pe_int (fun _ _ => rfl)) pe_int (nomark _)) (pss_cons (ps_set (i := 2) sc_p_law_draw.nd rfl (Or.inl rfl) (pe_op op_modX (pe_callTy call_intX (by rfl) T.z_int (by decide +kernel) (pa_cons (pe_ix ix_seq (pv 0) pe_int (fun _ _ => rfl)) pa_nil)) (pv 1)))
      (pss_cons (ps_asg (pe_op op_divX (pe_ix ix_seq (pv 0) pe_int (fun _ _ => rfl)) (pv 1)) (pg_sub (pv 0) pe_int set_list))
      (pss_one (ps_ret (pv 2))))) pss_nil)
      (pss_cons (ps_asg (pe_op op_addX (pe_ix ix_seq (pv 0) pe_int (fun _ _ => rfl)) pe_int) (pg_sub (pv 0) pe_int set_list))
      (pss_cons (ps_set (i := 3) sc_p_law_draw.nd rfl (Or.inl rfl) (pe_op op_modX (pe_callTy call_intX (by rfl) T.z_int (by decide +kernel) (pa_cons (pe_op op_powX (pe_op op_addX (pe_op op_addX (pe_ix ix_seq (pv 0) pe_int (fun _ _ => rfl)) (pe_op op_mulX pe_int (pe_ix ix_seq (pv 0) pe_int (fun _ _ => rfl)))) pe_int) pe_int) pa_nil)) pe_int))
      (pss_cons (ps_set (i := 3) sc_p_law_draw.nd rfl (Or.inl rfl) (pe_op op_modX (pe_callTy call_intX (by rfl) T.z_int (by decide +kernel) (pa_cons (pe_op op_mulX (pe_op op_addX (pv 3) (pe_ix ix_seq (pv 0) pe_int (fun _ _ => rfl))) (pe_op op_addX (pe_op op_divX (pv 3) pe_int) pe_int)) pa_nil)) pe_int))
      (pss_one (ps_ret (pe_op op_modX (pe_callTy call_intX (by rfl) T.z_int (by decide +kernel) (pa_cons (pe_op op_divX (pe_op op_modX (pe_callTy call_intX (by rfl) T.z_int (by decide +kernel) (pa_cons (pe_op op_mulX (pv 3) (pe_op op_addX (pe_op op_divX (pv 3) pe_int) pe_int)) pa_nil)) pe_int) pe_int) pa_nil)) (pv 1)))))))),
    bodyV (N := N_p_law_draw) (ss_seq (ss_if (st_test (se_op sr_cmp (se_op sr_ix se_var (se_c (fun _ => .int 0))) (se_c (fun _ => .int 0)))) (ss_seq (ss_asg (se_op sr_mod (se_cb sc_int (sa_cons (se_op sr_ix se_var (se_c (fun _ => .int 0))) sa_nil)) se_var) sg_name)
      (ss_seq (ss_setIx (se_c (fun _ => .int 0)) (se_op sr_fdiv (se_op sr_ix se_var (se_c (fun _ => .int 0))) se_var))
      (ss_ret se_var))) ss_next)
      (ss_seq (ss_setIx (se_c (fun _ => .int 2)) (se_op sr_add (se_op sr_ix se_var (se_c (fun _ => .int 2))) (se_c (fun _ => .int 1))))
      (ss_seq (ss_asg (se_op sr_mod (se_cb sc_int (sa_cons (se_op sr_pow (se_op sr_add (se_op sr_add (se_op sr_ix se_var (se_c (fun _ => .int 1))) (se_op sr_mul (se_c (fun _ => .int 50021)) (se_op sr_ix se_var (se_c (fun _ => .int 2))))) (se_c (fun _ => .int 17))) (se_c (fun _ => .int 3))) sa_nil)) (se_c (fun _ => .int 2147483647))) sg_name)
      (ss_seq (ss_asg (se_op sr_mod (se_cb sc_int (sa_cons (se_op sr_mul (se_op sr_add se_var (se_op sr_ix se_var (se_c (fun _ => .int 2)))) (se_op sr_add (se_op sr_fdiv se_var (se_c (fun _ => .int 1021))) (se_c (fun _ => .int 69621)))) sa_nil)) (se_c (fun _ => .int 2147483587))) sg_name)
      (ss_ret (se_op sr_mod (se_cb sc_int (sa_cons (se_op sr_fdiv (se_op sr_mod (se_cb sc_int (sa_cons (se_op sr_mul se_var (se_op sr_add (se_op sr_fdiv se_var (se_c (fun _ => .int 2017))) (se_c (fun _ => .int 48271)))) sa_nil)) (se_c (fun _ => .int 2147483563))) (se_c (fun _ => .int 3))) sa_nil)) se_var)))))) (by decide) h⟩)
theorem ok_p_law_one (T : Txt K mg A) : FnOk P w K mg base CX0 2 A.a_p_law_one A.d_p_law_one ["_law_well_here", "_law_some"] (SpV K 2 (dsp_p_law_one K A)) :=
  T.F_p_law_one.ok sc_p_law_one (fun vs H Q E h => h.len) (fun cdv A' outer s H vs Q E hr h => ⟨_, (pss_one (ps_ret (pe_ix ix_seq (pv 1) (pe_call (ok_p_law_draw T) (hr.mono (by decide)) rfl T.g_p_law_draw T.F_p_law_draw.kp T.b_p_law_draw .nil pass0 (pa_cons (pv 0) (pa_cons (pe_callB call_lenX (by rfl) T.z_len (by decide +kernel) (pa_cons (pv 1) pa_nil)) pa_nil))) (fun _ _ => rfl)))),
    bodyV (N := N_p_law_one) (ss_ret (se_op sr_ix se_var (se_call (sa_cons se_var (sa_cons (se_cb sc_len (sa_cons se_var sa_nil)) sa_nil))))) (by decide) h⟩)
theorem ok_p_law_field (T : Txt K mg A) : FnOk P w K mg base CX0 3 A.a_p_law_field A.d_p_law_field ["_law_well_here"] (SpV K 1 (dsp_p_law_field K A)) :=
  T.F_p_law_field.ok sc_p_law_field (fun vs H Q E h => h.len) (fun cdv A' outer s H vs Q E hr h => ⟨_, (pss_cons (ps_set (i := 1) sc_p_law_field.nd rfl (Or.inl rfl) (pe_lst (pa_cons pe_str (pa_cons pe_str (pa_cons pe_str (pa_cons pe_non (pa_cons pe_int (pa_cons pe_int (pa_cons pe_int (pa_cons (pe_un un_negX pe_int) (pa_cons (pe_op op_powX pe_int pe_int) (pa_cons (pe_lst pa_nil) (pa_cons (pe_lst (pa_cons pe_str pa_nil)) (pa_cons (pe_tup (pa_cons pe_int (pa_cons pe_str pa_nil))) (pa_cons pe_dnewK (pa_cons (pe_disp (pps_cons pe_str (pe_lst (pa_cons pe_int pa_nil)) pps_nil) rfl rfl (by simp) (by decide)) (pa_cons (pe_op op_mulS pe_str pe_int) (pa_cons pe_bl (pa_cons pe_bl pa_nil)))))))))))))))))))
      (pss_one (ps_ret (pe_call (ok_p_law_one T) (hr.mono (by decide)) rfl T.g_p_law_one T.F_p_law_one.kp T.b_p_law_one .nil pass0 (pa_cons (pv 0) (pa_cons (pv 1) pa_nil)))))),
    bodyV (N := N_p_law_field) (ss_seq (ss_asg (se_new (sf_lst (sa_cons (se_c (fun _ => .str _)) (sa_cons (se_c (fun _ => .str _)) (sa_cons (se_c (fun _ => .str _)) (sa_cons (se_c (fun _ => .non)) (sa_cons (se_c (fun _ => .int 0)) (sa_cons (se_c (fun _ => .int 1)) (sa_cons (se_c (fun _ => .int 7)) (sa_cons (se_un su_neg (se_c (fun _ => .int 1))) (sa_cons (se_op sr_pow (se_c (fun _ => .int 10)) (se_c (fun _ => .int 30))) (sa_cons (se_new (sf_lst sa_nil)) (sa_cons (se_new (sf_lst (sa_cons (se_c (fun _ => .str _)) sa_nil))) (sa_cons (se_tup (sa_cons (se_c (fun _ => .int 1)) (sa_cons (se_c (fun _ => .str _)) sa_nil))) (sa_cons (se_new sf_dnew) (sa_cons (se_new (sf_disp1 (se_new (sf_lst (sa_cons (se_c (fun _ => .int 1)) sa_nil))))) (sa_cons (se_op sr_mulS (se_c (fun _ => .str _)) (se_c (fun _ => .int 9))) (sa_cons (se_c (fun _ => .bl true)) (sa_cons (se_c (fun _ => .bl false)) sa_nil))))))))))))))))))) sg_name)
      (ss_ret (se_call (sa_cons se_var (sa_cons se_var sa_nil))))) (by decide) h⟩)
theorem ok_p_law_deed (T : Txt K mg A) : FnOk P w K mg base CX0 3 A.a_p_law_deed A.d_p_law_deed ["_law_kind", "_law_fields"] (SpV K 2 (dsp_p_law_deed K A)) :=
  T.F_p_law_deed.ok sc_p_law_deed (fun vs H Q E h => h.len) (fun cdv A' outer s H vs Q E hr h => ⟨_, (pss_cons (ps_if (pt_cmpR (op_eqD hr.units) (pv 0) pe_int (nomark _)) (pss_one (ps_ret (pe_make T.mk_Put (ok_Put_init T) (hr.mono (by decide)) rfl T.g_Put T.b_Put_init .nil pass0 (pa_cons (pe_ix ix_seq (pv 1) pe_int (fun _ _ => rfl)) (pa_cons (pe_ix ix_seq (pv 1) pe_int (fun _ _ => rfl)) (pa_cons (pe_ix ix_seq (pv 1) pe_int (fun _ _ => rfl)) (pa_cons (pe_ix ix_seq (pv 1) pe_int (fun _ _ => rfl)) pa_nil))))))) pss_nil)
      (pss_cons (ps_if (pt_cmpR (op_eqD hr.units) (pv 0) pe_int (nomark _)) (pss_one (ps_ret (pe_make T.mk_Move (ok_Move_init T) (hr.mono (by decide)) rfl T.g_Move T.b_Move_init .nil pass0 (pa_cons (pe_ix ix_seq (pv 1) pe_int (fun _ _ => rfl)) (pa_cons (pe_ix ix_seq (pv 1) pe_int (fun _ _ => rfl)) (pa_cons (pe_ix ix_seq (pv 1) pe_int (fun _ _ => rfl)) pa_nil)))))) pss_nil)
      (pss_cons (ps_if (pt_cmpR (op_eqD hr.units) (pv 0) pe_int (nomark _)) (pss_one (ps_ret (pe_make T.mk_Cut (ok_Cut_init T) (hr.mono (by decide)) rfl T.g_Cut T.b_Cut_init .nil pass0 (pa_cons (pe_ix ix_seq (pv 1) pe_int (fun _ _ => rfl)) pa_nil)))) pss_nil)
      (pss_cons (ps_if (pt_cmpR (op_eqD hr.units) (pv 0) pe_int (nomark _)) (pss_one (ps_ret (pe_make T.mk_Lift (ok_Lift_init T) (hr.mono (by decide)) rfl T.g_Lift T.b_Lift_init .nil pass0 (pa_cons (pe_ix ix_seq (pv 1) pe_int (fun _ _ => rfl)) pa_nil)))) pss_nil)
      (pss_cons (ps_if (pt_cmpR (op_eqD hr.units) (pv 0) pe_int (nomark _)) (pss_one (ps_ret (pe_make T.mk_Wrap (ok_Wrap_init T) (hr.mono (by decide)) rfl T.g_Wrap T.b_Wrap_init .nil pass0 (pa_cons (pe_ix ix_seq (pv 1) pe_int (fun _ _ => rfl)) (pa_cons (pe_ix ix_seq (pv 1) pe_int (fun _ _ => rfl)) (pa_cons (pe_ix ix_seq (pv 1) pe_int (fun _ _ => rfl)) (pa_cons (pe_ix ix_seq (pv 1) pe_int (fun _ _ => rfl)) (pa_cons (pe_ix ix_seq (pv 1) pe_int (fun _ _ => rfl)) pa_nil)))))))) pss_nil)
      (pss_cons (ps_if (pt_cmpR (op_eqD hr.units) (pv 0) pe_int (nomark _)) (pss_one (ps_ret (pe_make T.mk_Reverse (ok_Reverse_init T) (hr.mono (by decide)) rfl T.g_Reverse T.b_Reverse_init .nil pass0 (pa_cons (pe_ix ix_seq (pv 1) pe_int (fun _ _ => rfl)) pa_nil)))) pss_nil)
      (pss_one (ps_ret (pe_make T.mk_SetValue (ok_SetValue_init T) (hr.mono (by decide)) rfl T.g_SetValue T.b_SetValue_init .nil pass0 (pa_cons (pe_ix ix_seq (pv 1) pe_int (fun _ _ => rfl)) (pa_cons (pe_ix ix_seq (pv 1) pe_int (fun _ _ => rfl)) pa_nil))))))))))),
    bodyV (N := N_p_law_deed) (ss_seq (ss_if (st_test (se_op sr_eq se_var (se_c (fun _ => .int 0)))) (ss_ret (se_new (sf_make (sa_cons (se_op sr_ix se_var (se_c (fun _ => .int 0))) (sa_cons (se_op sr_ix se_var (se_c (fun _ => .int 1))) (sa_cons (se_op sr_ix se_var (se_c (fun _ => .int 2))) (sa_cons (se_op sr_ix se_var (se_c (fun _ => .int 3))) sa_nil))))))) ss_next)
      (ss_seq (ss_if (st_test (se_op sr_eq se_var (se_c (fun _ => .int 1)))) (ss_ret (se_new (sf_make (sa_cons (se_op sr_ix se_var (se_c (fun _ => .int 0))) (sa_cons (se_op sr_ix se_var (se_c (fun _ => .int 1))) (sa_cons (se_op sr_ix se_var (se_c (fun _ => .int 2))) sa_nil)))))) ss_next)
      (ss_seq (ss_if (st_test (se_op sr_eq se_var (se_c (fun _ => .int 2)))) (ss_ret (se_new (sf_make (sa_cons (se_op sr_ix se_var (se_c (fun _ => .int 0))) sa_nil)))) ss_next)
      (ss_seq (ss_if (st_test (se_op sr_eq se_var (se_c (fun _ => .int 3)))) (ss_ret (se_new (sf_make (sa_cons (se_op sr_ix se_var (se_c (fun _ => .int 0))) sa_nil)))) ss_next)
      (ss_seq (ss_if (st_test (se_op sr_eq se_var (se_c (fun _ => .int 4)))) (ss_ret (se_new (sf_make (sa_cons (se_op sr_ix se_var (se_c (fun _ => .int 0))) (sa_cons (se_op sr_ix se_var (se_c (fun _ => .int 1))) (sa_cons (se_op sr_ix se_var (se_c (fun _ => .int 2))) (sa_cons (se_op sr_ix se_var (se_c (fun _ => .int 3))) (sa_cons (se_op sr_ix se_var (se_c (fun _ => .int 4))) sa_nil)))))))) ss_next)
      (ss_seq (ss_if (st_test (se_op sr_eq se_var (se_c (fun _ => .int 5)))) (ss_ret (se_new (sf_make (sa_cons (se_op sr_ix se_var (se_c (fun _ => .int 0))) sa_nil)))) ss_next)
      (ss_ret (se_new (sf_make (sa_cons (se_op sr_ix se_var (se_c (fun _ => .int 0))) (sa_cons (se_op sr_ix se_var (se_c (fun _ => .int 1))) sa_nil))))))))))) (by decide) h⟩)
theorem ok_p_law_named (T : Txt K mg A) : FnOk P w K mg base CX0 3 A.a_p_law_named A.d_p_law_named ["_law_kind", "_law_fields"] (SpV K 2 (dsp_p_law_named K A)) :=
  T.F_p_law_named.ok sc_p_law_named (fun vs H Q E h => h.len) (fun cdv A' outer s H vs Q E hr h => ⟨_, (pss_cons (ps_if (pt_cmpR (op_eqD hr.units) (pv 0) pe_int (nomark _)) (pss_one (ps_ret (pe_makeK0 T.mk_Put (ok_Put_init T) (hr.mono (by decide)) rfl T.g_Put T.kw_Put_init_1_rank_parent_value_name.kbn pass0 (pk_cons (pe_ix ix_seq (pv 1) pe_int (fun _ _ => rfl)) (pk_cons (pe_ix ix_seq (pv 1) pe_int (fun _ _ => rfl)) (pk_cons (pe_ix ix_seq (pv 1) pe_int (fun _ _ => rfl)) (pk_cons (pe_ix ix_seq (pv 1) pe_int (fun _ _ => rfl)) pk_nil))))))) pss_nil)
      (pss_cons (ps_if (pt_cmpR (op_eqD hr.units) (pv 0) pe_int (nomark _)) (pss_one (ps_ret (pe_makeK0 T.mk_Move (ok_Move_init T) (hr.mono (by decide)) rfl T.g_Move T.kw_Move_init_1_rank_parent_name.kbn pass0 (pk_cons (pe_ix ix_seq (pv 1) pe_int (fun _ _ => rfl)) (pk_cons (pe_ix ix_seq (pv 1) pe_int (fun _ _ => rfl)) (pk_cons (pe_ix ix_seq (pv 1) pe_int (fun _ _ => rfl)) pk_nil)))))) pss_nil)
      (pss_cons (ps_if (pt_cmpR (op_eqD hr.units) (pv 0) pe_int (nomark _)) (pss_one (ps_ret (pe_makeK0 T.mk_Cut (ok_Cut_init T) (hr.mono (by decide)) rfl T.g_Cut T.kw_Cut_init_1_name.kbn pass0 (pk_cons (pe_ix ix_seq (pv 1) pe_int (fun _ _ => rfl)) pk_nil)))) pss_nil)
      (pss_cons (ps_if (pt_cmpR (op_eqD hr.units) (pv 0) pe_int (nomark _)) (pss_one (ps_ret (pe_makeK0 T.mk_Lift (ok_Lift_init T) (hr.mono (by decide)) rfl T.g_Lift T.kw_Lift_init_1_name.kbn pass0 (pk_cons (pe_ix ix_seq (pv 1) pe_int (fun _ _ => rfl)) pk_nil)))) pss_nil)
      (pss_cons (ps_if (pt_cmpR (op_eqD hr.units) (pv 0) pe_int (nomark _)) (pss_one (ps_ret (pe_makeK0 T.mk_Wrap (ok_Wrap_init T) (hr.mono (by decide)) rfl T.g_Wrap T.kw_Wrap_init_1_last_first_parent_value_name.kbn pass0 (pk_cons (pe_ix ix_seq (pv 1) pe_int (fun _ _ => rfl)) (pk_cons (pe_ix ix_seq (pv 1) pe_int (fun _ _ => rfl)) (pk_cons (pe_ix ix_seq (pv 1) pe_int (fun _ _ => rfl)) (pk_cons (pe_ix ix_seq (pv 1) pe_int (fun _ _ => rfl)) (pk_cons (pe_ix ix_seq (pv 1) pe_int (fun _ _ => rfl)) pk_nil)))))))) pss_nil)
      (pss_cons (ps_if (pt_cmpR (op_eqD hr.units) (pv 0) pe_int (nomark _)) (pss_one (ps_ret (pe_makeK0 T.mk_Reverse (ok_Reverse_init T) (hr.mono (by decide)) rfl T.g_Reverse T.kw_Reverse_init_1_parent.kbn pass0 (pk_cons (pe_ix ix_seq (pv 1) pe_int (fun _ _ => rfl)) pk_nil)))) pss_nil)
      (pss_one (ps_ret (pe_makeK0 T.mk_SetValue (ok_SetValue_init T) (hr.mono (by decide)) rfl T.g_SetValue T.kw_SetValue_init_1_value_name.kbn pass0 (pk_cons (pe_ix ix_seq (pv 1) pe_int (fun _ _ => rfl)) (pk_cons (pe_ix ix_seq (pv 1) pe_int (fun _ _ => rfl)) pk_nil))))))))))),
    bodyV (N := N_p_law_named) (ss_seq (ss_if (st_test (se_op sr_eq se_var (se_c (fun _ => .int 0)))) (ss_ret (se_new (sf_makeK sa_nil (sa_cons (se_op sr_ix se_var (se_c (fun _ => .int 3))) (sa_cons (se_op sr_ix se_var (se_c (fun _ => .int 2))) (sa_cons (se_op sr_ix se_var (se_c (fun _ => .int 1))) (sa_cons (se_op sr_ix se_var (se_c (fun _ => .int 0))) sa_nil))))))) ss_next)
      (ss_seq (ss_if (st_test (se_op sr_eq se_var (se_c (fun _ => .int 1)))) (ss_ret (se_new (sf_makeK sa_nil (sa_cons (se_op sr_ix se_var (se_c (fun _ => .int 2))) (sa_cons (se_op sr_ix se_var (se_c (fun _ => .int 1))) (sa_cons (se_op sr_ix se_var (se_c (fun _ => .int 0))) sa_nil)))))) ss_next)
      (ss_seq (ss_if (st_test (se_op sr_eq se_var (se_c (fun _ => .int 2)))) (ss_ret (se_new (sf_makeK sa_nil (sa_cons (se_op sr_ix se_var (se_c (fun _ => .int 0))) sa_nil)))) ss_next)
      (ss_seq (ss_if (st_test (se_op sr_eq se_var (se_c (fun _ => .int 3)))) (ss_ret (se_new (sf_makeK sa_nil (sa_cons (se_op sr_ix se_var (se_c (fun _ => .int 0))) sa_nil)))) ss_next)
      (ss_seq (ss_if (st_test (se_op sr_eq se_var (se_c (fun _ => .int 4)))) (ss_ret (se_new (sf_makeK sa_nil (sa_cons (se_op sr_ix se_var (se_c (fun _ => .int 4))) (sa_cons (se_op sr_ix se_var (se_c (fun _ => .int 3))) (sa_cons (se_op sr_ix se_var (se_c (fun _ => .int 2))) (sa_cons (se_op sr_ix se_var (se_c (fun _ => .int 1))) (sa_cons (se_op sr_ix se_var (se_c (fun _ => .int 0))) sa_nil)))))))) ss_next)
      (ss_seq (ss_if (st_test (se_op sr_eq se_var (se_c (fun _ => .int 5)))) (ss_ret (se_new (sf_makeK sa_nil (sa_cons (se_op sr_ix se_var (se_c (fun _ => .int 0))) sa_nil)))) ss_next)
      (ss_ret (se_new (sf_makeK sa_nil (sa_cons (se_op sr_ix se_var (se_c (fun _ => .int 1))) (sa_cons (se_op sr_ix se_var (se_c (fun _ => .int 0))) sa_nil))))))))))) (by decide) h⟩)
theorem ok_p_law_told (T : Txt K mg A) : FnOk P w K mg base CX0 1 A.a_p_law_told A.d_p_law_told ["_law_kind", "_law_deed_here"] (SpV K 2 (dsp_p_law_told K A)) :=
  T.F_p_law_told.ok sc_p_law_told (fun vs H Q E h => h.len) (fun cdv A' outer s H vs Q E hr h => ⟨_, (pss_cons (ps_if (pt_cmpR (op_eqD hr.units) (pv 0) pe_int (nomark _)) (pss_one (ps_ret (pe_lst (pa_cons (pe_fld (pv 1) rfl) (pa_cons (pe_fld (pv 1) rfl) (pa_cons (pe_fld (pv 1) rfl) (pa_cons (pe_fld (pv 1) rfl) pa_nil))))))) pss_nil)
      (pss_cons (ps_if (pt_cmpR (op_eqD hr.units) (pv 0) pe_int (nomark _)) (pss_one (ps_ret (pe_lst (pa_cons (pe_fld (pv 1) rfl) (pa_cons (pe_fld (pv 1) rfl) (pa_cons (pe_fld (pv 1) rfl) pa_nil)))))) pss_nil)
      (pss_cons (ps_if (pt_cmpR (op_inX (hu65 hr)) (pv 0) (pe_tup (pa_cons pe_int (pa_cons pe_int pa_nil))) (by first | rfl | with_unfolding_all rfl)) (pss_one (ps_ret (pe_lst (pa_cons (pe_fld (pv 1) rfl) pa_nil)))) pss_nil)
      (pss_cons (ps_if (pt_cmpR (op_eqD hr.units) (pv 0) pe_int (nomark _)) (pss_one (ps_ret (pe_lst (pa_cons (pe_fld (pv 1) rfl) (pa_cons (pe_fld (pv 1) rfl) (pa_cons (pe_fld (pv 1) rfl) (pa_cons (pe_fld (pv 1) rfl) (pa_cons (pe_fld (pv 1) rfl) pa_nil)))))))) pss_nil)
      (pss_one (ps_ret (pe_ifExp (pt_cmpR (op_eqD hr.units) (pv 0) pe_int (nomark _)) (pe_lst (pa_cons (pe_fld (pv 1) rfl) pa_nil)) (pe_lst (pa_cons (pe_fld (pv 1) rfl) (pa_cons (pe_fld (pv 1) rfl) pa_nil)))))))))),
    bodyV (N := N_p_law_told) (ss_seq (ss_if (st_test (se_op sr_eq se_var (se_c (fun _ => .int 0)))) (ss_ret (se_new (sf_lst (sa_cons (se_fld T.f_name se_var) (sa_cons (se_fld T.f_value se_var) (sa_cons (se_fld T.f_parent se_var) (sa_cons (se_fld T.f_rank se_var) sa_nil))))))) ss_next)
      (ss_seq (ss_if (st_test (se_op sr_eq se_var (se_c (fun _ => .int 1)))) (ss_ret (se_new (sf_lst (sa_cons (se_fld T.f_name se_var) (sa_cons (se_fld T.f_parent se_var) (sa_cons (se_fld T.f_rank se_var) sa_nil)))))) ss_next)
      (ss_seq (ss_if (st_test (se_op sr_in se_var (se_tup (sa_cons (se_c (fun _ => .int 2)) (sa_cons (se_c (fun _ => .int 3)) sa_nil))))) (ss_ret (se_new (sf_lst (sa_cons (se_fld T.f_name se_var) sa_nil)))) ss_next)
      (ss_seq (ss_if (st_test (se_op sr_eq se_var (se_c (fun _ => .int 4)))) (ss_ret (se_new (sf_lst (sa_cons (se_fld T.f_name se_var) (sa_cons (se_fld T.f_value se_var) (sa_cons (se_fld T.f_parent se_var) (sa_cons (se_fld T.f_first se_var) (sa_cons (se_fld T.f_last se_var) sa_nil)))))))) ss_next)
      (ss_ret (se_if (st_test (se_op sr_eq se_var (se_c (fun _ => .int 5)))) (se_new (sf_lst (sa_cons (se_fld T.f_parent se_var) sa_nil))) (se_new (sf_lst (sa_cons (se_fld T.f_name se_var) (sa_cons (se_fld T.f_value se_var) sa_nil)))))))))) (by decide) h⟩)
theorem ok_law (T : Txt K mg A) : FnOk P w K mg base CX0 4 A.a_law A.d_law ["_law_script"] (SpV K 1 (dsp_law K A)) :=
  T.F_law.ok sc_law (fun vs H Q E h => h.len) (fun cdv A' outer s H vs Q E hr h => ⟨_, (pss_cons (ps_set (i := 1) sc_law.nd rfl (Or.inl rfl) (pe_lst (pa_cons pe_int (pa_cons pe_int (pa_cons pe_int (pa_cons pe_int (pa_cons pe_int (pa_cons pe_int (pa_cons pe_int pa_nil)))))))))
      (pss_cons (ps_for PassesOwn.never rfl (pi_any (pe_slice sl_any (pe_op op_addX (pv 0) (pe_lst (pa_cons pe_int pa_nil))) po_none (po_some pe_int))) (pg_name (i := 2) sc_law.nd rfl (Or.inl rfl)) (pss_cons (ps_set (i := 3) sc_law.nd rfl (Or.inr rfl) (pe_call (ok_p_law_well T) (hr.mono (by decide)) rfl T.g_p_law_well T.F_p_law_well.kp T.b_p_law_well .nil pass0 (pa_cons (pv 2) pa_nil)))
      (pss_one (ps_for PassesOwn.never rfl (pi_range1 rfl T.z_range (pa_cons pe_int pa_nil)) (pg_name (i := 4) sc_law.nd rfl (Or.inl rfl)) (pss_cons (ps_set (i := 5) sc_law.nd rfl (Or.inl rfl) (pe_call (ok_p_law_draw T) (hr.mono (by decide)) rfl T.g_p_law_draw T.F_p_law_draw.kp T.b_p_law_draw .nil pass0 (pa_cons (pv 3) (pa_cons pe_int pa_nil))))
      (pss_cons (ps_setLc (i := 6) (own := [("_law_k", 14)]) (by rfl) sc_law.nd rfl rfl (sw_true rfl rfl rfl (by decide +kernel)) (pi_range1 rfl T.z_range (pa_cons pe_int pa_nil)) (blkOk_by (own := [("_law_k", 14)]) (N := N_law) (sc := defScope s_law) (by decide +kernel)) (fun _ _ _ _ _ => (pg_name (i := 14) sc_law.nd rfl (Or.inl rfl))) (fun _ _ _ _ _ => pts_nil) (fun _ _ _ _ _ => (pe_call (ok_p_law_field T) (hr.mono (by decide)) rfl T.g_p_law_field T.F_p_law_field.kp T.b_p_law_field .nil pass0 (pa_cons (pv 3) pa_nil))))
      (pss_cons (ps_setLc (i := 7) (own := [("_law_field_here", 15)]) (by rfl) sc_law.nd rfl rfl (sw_true rfl rfl rfl (by decide +kernel)) (pi_any (pv 6)) (blkOk_by (own := [("_law_field_here", 15)]) (N := N_law) (sc := defScope s_law) (by decide +kernel)) (fun _ _ _ _ _ => (pg_name (i := 15) sc_law.nd rfl (Or.inl rfl))) (fun _ _ _ _ _ => pts_nil) (fun _ _ _ _ _ => (pe_ifExp (pt_cmpR (op_eqD hr.units) (pe_call (ok_p_law_draw T) (hr.mono (by decide)) rfl T.g_p_law_draw T.F_p_law_draw.kp T.b_p_law_draw .nil pass0 (pa_cons (pv 3) (pa_cons pe_int pa_nil))) pe_int (nomark _)) (pe_call (ok_p_law_field T) (hr.mono (by decide)) rfl T.g_p_law_field T.F_p_law_field.kp T.b_p_law_field .nil pass0 (pa_cons (pv 3) pa_nil)) (pv 15))))
      (pss_cons (ps_par3 (i := 8) (j := 9) (l := 10) (by rfl) sc_law.nd rfl rfl rfl (by decide) (by decide) (by decide) rfl rfl rfl (pa_cons (pe_call (ok_p_law_deed T) (hr.mono (by decide)) rfl T.g_p_law_deed T.F_p_law_deed.kp T.b_p_law_deed .nil pass0 (pa_cons (pv 5) (pa_cons (pv 6) pa_nil))) (pa_cons (pe_call (ok_p_law_named T) (hr.mono (by decide)) rfl T.g_p_law_named T.F_p_law_named.kp T.b_p_law_named .nil pass0 (pa_cons (pv 5) (pa_cons (pv 6) pa_nil))) (pa_cons (pe_call (ok_p_law_deed T) (hr.mono (by decide)) rfl T.g_p_law_deed T.F_p_law_deed.kp T.b_p_law_deed .nil pass0 (pa_cons (pv 5) (pa_cons (pv 7) pa_nil))) pa_nil))) (by rfl))
      (pss_cons (ps_set (i := 11) sc_law.nd rfl (Or.inl rfl) (pe_slice sl_any (pv 6) po_none (po_some (pe_ix ix_seq (pv 1) (pv 5) (fun _ _ => rfl)))))
      (pss_cons (ps_if (PW.pt (pw_or (pt_cmpR (op_neX hr.units) (pe_call (ok_p_law_told T) (hr.mono (by decide)) rfl T.g_p_law_told T.F_p_law_told.kp T.b_p_law_told .nil pass0 (pa_cons (pv 5) (pa_cons (pv 8) pa_nil))) (pv 11) (nomark _)) (pw_or1 (pt_cmpR (op_neX hr.units) (pe_call (ok_p_law_told T) (hr.mono (by decide)) rfl T.g_p_law_told T.F_p_law_told.kp T.b_p_law_told .nil pass0 (pa_cons (pv 5) (pa_cons (pv 9) pa_nil))) (pv 11) (nomark _))))) (pss_one (ps_ret pe_bl)) pss_nil)
      (pss_cons (ps_if (PW.pt (pw_or (pt_cmpR (op_neM (l := (l_eqm K A).map fun (q : Addr × DSp) => ((q.1, SpV K 2 q.2) : Addr × Sp)) (fun q hq => eqm_all T q hq) (hr.mono (by decide))) (pv 8) (pv 9) (nomark _)) (pw_or (pt_not (pt_cmpR (op_eqM (l := (l_eqm K A).map fun (q : Addr × DSp) => ((q.1, SpV K 2 q.2) : Addr × Sp)) (fun q hq => eqm_all T q hq) (hr.mono (by decide))) (pv 8) (pv 9) (nomark _))) (pw_or1 (pt_cmpR (op_eqD hr.units) (pe_cmpR (op_neM (l := (l_eqm K A).map fun (q : Addr × DSp) => ((q.1, SpV K 2 q.2) : Addr × Sp)) (fun q hq => eqm_all T q hq) (hr.mono (by decide))) (pv 8) (pv 10) (nomark _)) (pe_cmpR (op_eqM (l := (l_eqm K A).map fun (q : Addr × DSp) => ((q.1, SpV K 2 q.2) : Addr × Sp)) (fun q hq => eqm_all T q hq) (hr.mono (by decide))) (pv 8) (pv 10) (nomark _)) (nomark _)))))) (pss_one (ps_ret pe_bl)) pss_nil)
      (pss_cons (ps_if (pt_cmpR (op_neD hr.units) (pe_cmpR (op_eqM (l := (l_eqm K A).map fun (q : Addr × DSp) => ((q.1, SpV K 2 q.2) : Addr × Sp)) (fun q hq => eqm_all T q hq) (hr.mono (by decide))) (pv 8) (pv 10) (nomark _)) (pe_cmpR (op_eqX hr.units) (pv 11) (pe_slice sl_any (pv 7) po_none (po_some (pe_ix ix_seq (pv 1) (pv 5) (fun _ _ => rfl)))) (nomark _)) (nomark _)) (pss_one (ps_ret pe_bl)) pss_nil)
      (pss_cons (ps_set (i := 12) sc_law.nd rfl (Or.inl rfl) (pe_call (ok_p_law_draw T) (hr.mono (by decide)) rfl T.g_p_law_draw T.F_p_law_draw.kp T.b_p_law_draw .nil pass0 (pa_cons (pv 3) (pa_cons pe_int pa_nil))))
      (pss_cons (ps_set (i := 13) sc_law.nd rfl (Or.inl rfl) (pe_call (ok_p_law_deed T) (hr.mono (by decide)) rfl T.g_p_law_deed T.F_p_law_deed.kp T.b_p_law_deed .nil pass0 (pa_cons (pv 12) (pa_cons (pv 6) pa_nil))))
      (pss_cons (ps_if (PW.pt (pw_and (pt_cmpR (op_neD hr.units) (pv 12) (pv 5) (nomark _)) (pw_and1 (PW.pt (pw_or (pt_cmpR (op_eqM (l := (l_eqm K A).map fun (q : Addr × DSp) => ((q.1, SpV K 2 q.2) : Addr × Sp)) (fun q hq => eqm_all T q hq) (hr.mono (by decide))) (pv 8) (pv 13) (nomark _)) (pw_or1 (pt_not (pt_cmpR (op_neM (l := (l_eqm K A).map fun (q : Addr × DSp) => ((q.1, SpV K 2 q.2) : Addr × Sp)) (fun q hq => eqm_all T q hq) (hr.mono (by decide))) (pv 8) (pv 13) (nomark _))))))))) (pss_one (ps_ret pe_bl)) pss_nil)
      (pss_one (ps_if (PW.pt (pw_or (pt_cmpR (op_eqM (l := (l_eqm K A).map fun (q : Addr × DSp) => ((q.1, SpV K 2 q.2) : Addr × Sp)) (fun q hq => eqm_all T q hq) (hr.mono (by decide))) (pv 8) (pe_callTy call_tupX (by rfl) T.z_tuple (by decide +kernel) (pa_cons (pv 11) pa_nil)) (nomark _)) (pw_or (pt_cmpR (op_eqM (l := (l_eqm K A).map fun (q : Addr × DSp) => ((q.1, SpV K 2 q.2) : Addr × Sp)) (fun q hq => eqm_all T q hq) (hr.mono (by decide))) (pv 8) (pv 11) (nomark _)) (pw_or (pt_cmpR op_isNX (pv 8) pe_non (nomark _)) (pw_or1 (pt_not (pt_cmpR (op_neM (l := (l_eqm K A).map fun (q : Addr × DSp) => ((q.1, SpV K 2 q.2) : Addr × Sp)) (fun q hq => eqm_all T q hq) (hr.mono (by decide))) (pv 8) pe_int (nomark _)))))))) (pss_one (ps_ret pe_bl)) pss_nil)))))))))))))))))
      (pss_one (ps_ret (pe_and (pe_cmpR (op_neM (l := (l_eqm K A).map fun (q : Addr × DSp) => ((q.1, SpV K 2 q.2) : Addr × Sp)) (fun q hq => eqm_all T q hq) (hr.mono (by decide))) (pe_make T.mk_Cut (ok_Cut_init T) (hr.mono (by decide)) rfl T.g_Cut T.b_Cut_init .nil pass0 (pa_cons pe_str pa_nil)) (pe_make T.mk_Lift (ok_Lift_init T) (hr.mono (by decide)) rfl T.g_Lift T.b_Lift_init .nil pass0 (pa_cons pe_str pa_nil)) (nomark _)) (pe_and (pe_cmpR (op_eqM (l := (l_eqm K A).map fun (q : Addr × DSp) => ((q.1, SpV K 2 q.2) : Addr × Sp)) (fun q hq => eqm_all T q hq) (hr.mono (by decide))) (pe_make T.mk_Cut (ok_Cut_init T) (hr.mono (by decide)) rfl T.g_Cut T.b_Cut_init .nil pass0 (pa_cons pe_str pa_nil)) (pe_make T.mk_Cut (ok_Cut_init T) (hr.mono (by decide)) rfl T.g_Cut T.b_Cut_init .nil pass0 (pa_cons pe_str pa_nil)) (nomark _)) (pe_one (pe_cmpR (op_neM (l := (l_eqm K A).map fun (q : Addr × DSp) => ((q.1, SpV K 2 q.2) : Addr × Sp)) (fun q hq => eqm_all T q hq) (hr.mono (by decide))) (pe_make T.mk_Cut (ok_Cut_init T) (hr.mono (by decide)) rfl T.g_Cut T.b_Cut_init .nil pass0 (pa_cons pe_str pa_nil)) (pe_make T.mk_Reverse (ok_Reverse_init T) (hr.mono (by decide)) rfl T.g_Reverse T.b_Reverse_init .nil pass0 (pa_cons pe_str pa_nil)) (nomark _))))))))),
    bodyV (N := N_law) (ss_seq (ss_asg (se_new (sf_lst (sa_cons (se_c (fun _ => .int 4)) (sa_cons (se_c (fun _ => .int 3)) (sa_cons (se_c (fun _ => .int 1)) (sa_cons (se_c (fun _ => .int 1)) (sa_cons (se_c (fun _ => .int 5)) (sa_cons (se_c (fun _ => .int 1)) (sa_cons (se_c (fun _ => .int 2)) sa_nil))))))))) sg_name)
      (ss_seq (ss_for (si_any (se_sl (se_op sr_add se_var (se_new (sf_lst (sa_cons (se_c (fun _ => .int 0)) sa_nil)))) so_none (so_some (se_c (fun _ => .int 5))))) sg_name (ss_seq (ss_own (sf_call (sa_cons se_var sa_nil)))
      (ss_for (si_rng1 (se_c (fun _ => .int 6))) sg_name (ss_seq (ss_asg (se_call (sa_cons se_var (sa_cons (se_c (fun _ => .int 7)) sa_nil))) sg_name)
      (ss_seq (ss_asg (se_new (sf_lc (vs := [14]) (by decide) (si_rng1 (se_c (fun _ => .int 5))) sg_name st_yes (se_call (sa_cons se_var sa_nil)))) sg_name)
      (ss_seq (ss_asg (se_new (sf_lc (vs := [15]) (by decide) (si_any se_var) sg_name st_yes (se_if (st_test (se_op sr_eq (se_call (sa_cons se_var (sa_cons (se_c (fun _ => .int 5)) sa_nil))) (se_c (fun _ => .int 0)))) (se_call (sa_cons se_var sa_nil)) se_var))) sg_name)
      (ss_seq (ss_par3 (sa_cons (se_call (sa_cons se_var (sa_cons se_var sa_nil))) (sa_cons (se_call (sa_cons se_var (sa_cons se_var sa_nil))) (sa_cons (se_call (sa_cons se_var (sa_cons se_var sa_nil))) sa_nil))))
      (ss_seq (ss_asg (se_sl se_var so_none (so_some (se_op sr_ix se_var se_var))) sg_name)
      (ss_seq (ss_if (st_or (st_test (se_op sr_neX (se_call (sa_cons se_var (sa_cons se_var sa_nil))) se_var)) (st_test (se_op sr_neX (se_call (sa_cons se_var (sa_cons se_var sa_nil))) se_var))) (ss_ret (se_c (fun _ => .bl false))) ss_next)
      (ss_seq (ss_if (st_or (st_test (se_eqM T.isi T.ic se_var se_var)) (st_or (st_not (st_test (se_eqM T.isi T.ic se_var se_var))) (st_test (se_op sr_eq (se_eqM T.isi T.ic se_var se_var) (se_eqM T.isi T.ic se_var se_var))))) (ss_ret (se_c (fun _ => .bl false))) ss_next)
      (ss_seq (ss_if (st_test (se_op sr_ne (se_eqM T.isi T.ic se_var se_var) (se_op sr_eqX se_var (se_sl se_var so_none (so_some (se_op sr_ix se_var se_var)))))) (ss_ret (se_c (fun _ => .bl false))) ss_next)
      (ss_seq (ss_asg (se_call (sa_cons se_var (sa_cons (se_c (fun _ => .int 7)) sa_nil))) sg_name)
      (ss_seq (ss_asg (se_call (sa_cons se_var (sa_cons se_var sa_nil))) sg_name)
      (ss_seq (ss_if (st_and (st_test (se_op sr_ne se_var se_var)) (st_or (st_test (se_eqM T.isi T.ic se_var se_var)) (st_not (st_test (se_eqM T.isi T.ic se_var se_var))))) (ss_ret (se_c (fun _ => .bl false))) ss_next)
      (ss_if (st_or (st_test (se_eqM T.isi T.ic se_var (se_cb sc_tuple (sa_cons se_var sa_nil)))) (st_or (st_test (se_eqM T.isi T.ic se_var se_var)) (st_or (st_test (se_op sr_isN se_var (se_c (fun _ => .non)))) (st_not (st_test (se_eqM T.isi T.ic se_var (se_c (fun _ => .int 5)))))))) (ss_ret (se_c (fun _ => .bl false))) ss_next)))))))))))))))
      (ss_ret (se_andV (se_eqM T.isi T.ic (se_new (sf_make (sa_cons (se_c (fun _ => .str _)) sa_nil))) (se_new (sf_make (sa_cons (se_c (fun _ => .str _)) sa_nil)))) (se_andV (se_eqM T.isi T.ic (se_new (sf_make (sa_cons (se_c (fun _ => .str _)) sa_nil))) (se_new (sf_make (sa_cons (se_c (fun _ => .str _)) sa_nil)))) (se_eqM T.isi T.ic (se_new (sf_make (sa_cons (se_c (fun _ => .str _)) sa_nil))) (se_new (sf_make (sa_cons (se_c (fun _ => .str _)) sa_nil))))))))) (by decide) h⟩)
end
end My
set_option autoImplicit false
set_option Elab.async false
set_option maxRecDepth 100000
set_option linter.all false
set_option maxHeartbeats 400000
namespace My
open PySem L2 Evl ClX DL
section
variable {K : PySem.W.Frag} (A : Ads)
def Well (n : Nat) (d : D) : Prop := ∃ a b c : Int, d = .lst [.int a, .int b, .int c] ∧ 0 ≤ b ∧ b < 2147483629 ∧ 0 ≤ c ∧ c ≤ n
theorem Well.mono {n m : Nat} {d : D} (h : Well n d) (e : n ≤ m) : Well m d := by
  obtain ⟨a, b, c, h1, h2, h3, h4, h5⟩ := h
  exact ⟨a, b, c, h1, h2, h3, h4, by omega⟩
theorem draw_ok {n : Nat} (hn : n < 1000000000) {w : D} (hw : Well n w) {m : Int} (hm : 0 < m) (hm2 : m.natAbs.log2 < 9000) {q : D → List D → Prop} {er} (k : ∀ (x : Int) (w' : D), 0 ≤ x → x < m → Well (n + 1) w' → q (.int x) [w']) :
    dsp_p_law_draw K A [.par w, .val (.int m)] q er := by
  obtain ⟨a, b, c, rfl, b0, b1, c0, c1⟩ := hw
  unfold dsp_p_law_draw body_p_law_draw
  by_cases ha : 0 < a
  · simp -implicitDefEqProofs -dsimp only [idd_eq, Nat.reduceEqDiff, ↓w_seq, ↓w_if, ↓dTest, ↓dOp, ↓dUn, ↓w_var, ↓getS_val, ↓getS_own, ↓getS_par, ↓dC, rd_val, rd_bor, ownD_own, ownD_par, rds_nil, rds_cons, ↓w_asg, ↓dCB, ↓dCons, ↓dNil, ↓dgName, ↓dgTup, ↓dgCons, ↓dgNil, ↓w_setIx, ↓w_ret, ↓w_retF, ↓w_retN, ↓w_next, ↓w_drop, ↓w_own, ↓w_brk, ↓w_cnt, ↓w_setF, ↓w_dput, ↓w_body, ↓dN, ↓dCall, ↓dCallF, argsOf_nil, argsOf_val, argsOf_bor, bors, ↓dV, ↓dTup, ↓dLst, vals_nil, vals_val, ↓w_par, ↓w_par3, ↓w_parVO, ↓w_parOV, ↓w_parOO, ↓dTruth, ↓dIsi, ↓dIsiT, ↓dInO, insOf_ins, ↓dDNew, ↓dDGet, ↓dDIn, toTup_lst, toTup_tup, pf_nil, lk_self, key_str, key_int, isN_non, isNN_non, kno_int, kno_str, kno_lst, kno_tup, kno_bl, kno_non, tyV_int, tyV_bl, tyV_str, tyV_lst, tyV_tup, tyV_non, clV_ty, clVT_nil, clVT_val, kit_same, kit_int_bool, kit_bool_int, kits_list, kits_tuple, ↓dNot, ↓dAnd, ↓dOr, ↓dIf, ↓dAndV, ↓dOrV, ↓dNotV, ↓dChain, ↓dMeth, ↓dMethF, ↓dKw, ↓dSl, ↓dNoP, ↓dPart, ↓w_for, diRng1, diRng2, diRevR1, diEnumX, diAny, items_lst, items_tup, ↓dLc, ↓dDc, ↓dFld, ownAt_def, setD, Sl.setD, isPar0, isParS, isPN, isP_val, isP_own, isP_no, isP_par, ↓doF, outs_nil, outs_cons, parD_par, parIx, putOuts, wipeD, ↓dBodyF, ↓dAppend, D.isLst, cmp_int, bool_bl, toInt_int, toInt_bl, truth_bl, truth_int, truth_non, len_lst, len_tup, D_add, D_sub, D_mod, eq_int, ne_int, neg_int, ix0, ix1, ix2, ix3, ix4, tx0, tx1, tx2, sx0, sx1, sx2, List.length_cons, List.length_nil, List.cons_append, List.nil_append, List.replicate, Nat.reduceAdd, Nat.reduceSub, List.getElem?_cons_zero, List.getElem?_cons_succ, List.getElem?_nil, List.set_cons_zero, List.set_cons_succ, Option.bind_some, Option.map_some, Option.isSome_some, true_and, and_true, if_true, if_false, Bool.false_eq_true, reduceIte, Int.reduceBEq, Bool.not_true, Bool.not_false, List.nodup_cons, List.nodup_nil, List.not_mem_nil, not_false_eq_true, List.mem_cons, or_false, ↓opt_f, ↓optF_some, ↓ite_cd, ↓cd_true, ↓cd_false, ↓forL_f, ↓lcL_f, ↓dcL_f, ↓noEr_run, ↓w_frz, ↓getW_own, ↓dListRg1, ↓dIndex, ↓dCKw, ↓dMake, ↓dList, seq_lst, seq_tup, kwP1, kwP10, beq_self_eq_true, ↓dEqO, ↓dBinO, ↓dNev, tyV_dct, tyV_ins, kno_dct, clV_ptr, kit_sameR, nf_same, nf_none, nf_int, nf_bool, nf_str, nf_lst, nf_tup, nf_dct, ↓dLenO, eq_bl, ne_bl, ↓hot_run, ↓w_try, ↓w_try0, ↓erH_cons, ↓erH_nil, ↓shutD_mk, x1_mk, x2_mk, ↓w_rz, ↓dXf, ↓dIsX, ↓dBinS, ha, D_mod hm, decide_true, D_div (show CDivW a m from ⟨hm, hm2⟩)]
    exact k _ _ (Int.emod_nonneg _ (by omega)) (Int.emod_lt_of_pos _ hm) ⟨_, _, _, rfl, b0, b1, c0, by omega⟩
  · have h1 : D.mul (.int 50021) (.int (c + 1)) = some (.int (50021 * (c + 1))) := D_mul (Or.inl ⟨by decide, by decide⟩)
    have h2 : D.pow (.int (b + 50021 * (c + 1) + 17)) (.int 3) = some (.int ((b + 50021 * (c + 1) + 17) ^ 3)) := D_pow ⟨by decide, by decide, by omega⟩
    generalize hX : (b + 50021 * (c + 1) + 17) ^ 3 % 2147483647 = X
    have x0 : 0 ≤ X := by rw [← hX]; exact Int.emod_nonneg _ (by decide)
    have x1 : X < 2147483647 := by rw [← hX]; exact Int.emod_lt_of_pos _ (by decide)
    have h3 : D.fdiv (.int X) (.int 1021) = some (.int (X / 1021)) := D_div ⟨by decide, by decide⟩
    have h4 : D.mul (.int (X + (c + 1))) (.int (X / 1021 + 69621)) = some (.int ((X + (c + 1)) * (X / 1021 + 69621))) := D_mul (Or.inl ⟨by omega, by omega⟩)
    generalize hY : (X + (c + 1)) * (X / 1021 + 69621) % 2147483587 = Y
    have y0 : 0 ≤ Y := by rw [← hY]; exact Int.emod_nonneg _ (by decide)
    have y1 : Y < 2147483587 := by rw [← hY]; exact Int.emod_lt_of_pos _ (by decide)
    have h5 : D.fdiv (.int Y) (.int 2017) = some (.int (Y / 2017)) := D_div ⟨by decide, by decide⟩
    have h6 : D.mul (.int Y) (.int (Y / 2017 + 48271)) = some (.int (Y * (Y / 2017 + 48271))) := D_mul (Or.inl ⟨by omega, by omega⟩)
    have h7 : ∀ z : Int, D.fdiv (.int z) (.int 3) = some (.int (z / 3)) := fun z => D_div ⟨by decide, by decide⟩
    have m1 : ∀ z : Int, D.mod (.int z) (.int 2147483647) = some (.int (z % 2147483647)) := fun z => D_mod (by decide)
    have m2 : ∀ z : Int, D.mod (.int z) (.int 2147483587) = some (.int (z % 2147483587)) := fun z => D_mod (by decide)
    have m3 : ∀ z : Int, D.mod (.int z) (.int 2147483563) = some (.int (z % 2147483563)) := fun z => D_mod (by decide)
    simp -implicitDefEqProofs -dsimp only [idd_eq, Nat.reduceEqDiff, ↓w_seq, ↓w_if, ↓dTest, ↓dOp, ↓dUn, ↓w_var, ↓getS_val, ↓getS_own, ↓getS_par, ↓dC, rd_val, rd_bor, ownD_own, ownD_par, rds_nil, rds_cons, ↓w_asg, ↓dCB, ↓dCons, ↓dNil, ↓dgName, ↓dgTup, ↓dgCons, ↓dgNil, ↓w_setIx, ↓w_ret, ↓w_retF, ↓w_retN, ↓w_next, ↓w_drop, ↓w_own, ↓w_brk, ↓w_cnt, ↓w_setF, ↓w_dput, ↓w_body, ↓dN, ↓dCall, ↓dCallF, argsOf_nil, argsOf_val, argsOf_bor, bors, ↓dV, ↓dTup, ↓dLst, vals_nil, vals_val, ↓w_par, ↓w_par3, ↓w_parVO, ↓w_parOV, ↓w_parOO, ↓dTruth, ↓dIsi, ↓dIsiT, ↓dInO, insOf_ins, ↓dDNew, ↓dDGet, ↓dDIn, toTup_lst, toTup_tup, pf_nil, lk_self, key_str, key_int, isN_non, isNN_non, kno_int, kno_str, kno_lst, kno_tup, kno_bl, kno_non, tyV_int, tyV_bl, tyV_str, tyV_lst, tyV_tup, tyV_non, clV_ty, clVT_nil, clVT_val, kit_same, kit_int_bool, kit_bool_int, kits_list, kits_tuple, ↓dNot, ↓dAnd, ↓dOr, ↓dIf, ↓dAndV, ↓dOrV, ↓dNotV, ↓dChain, ↓dMeth, ↓dMethF, ↓dKw, ↓dSl, ↓dNoP, ↓dPart, ↓w_for, diRng1, diRng2, diRevR1, diEnumX, diAny, items_lst, items_tup, ↓dLc, ↓dDc, ↓dFld, ownAt_def, setD, Sl.setD, isPar0, isParS, isPN, isP_val, isP_own, isP_no, isP_par, ↓doF, outs_nil, outs_cons, parD_par, parIx, putOuts, wipeD, ↓dBodyF, ↓dAppend, D.isLst, cmp_int, bool_bl, toInt_int, toInt_bl, truth_bl, truth_int, truth_non, len_lst, len_tup, D_add, D_sub, D_mod, eq_int, ne_int, neg_int, ix0, ix1, ix2, ix3, ix4, tx0, tx1, tx2, sx0, sx1, sx2, List.length_cons, List.length_nil, List.cons_append, List.nil_append, List.replicate, Nat.reduceAdd, Nat.reduceSub, List.getElem?_cons_zero, List.getElem?_cons_succ, List.getElem?_nil, List.set_cons_zero, List.set_cons_succ, Option.bind_some, Option.map_some, Option.isSome_some, true_and, and_true, if_true, if_false, Bool.false_eq_true, reduceIte, Int.reduceBEq, Bool.not_true, Bool.not_false, List.nodup_cons, List.nodup_nil, List.not_mem_nil, not_false_eq_true, List.mem_cons, or_false, ↓opt_f, ↓optF_some, ↓ite_cd, ↓cd_true, ↓cd_false, ↓forL_f, ↓lcL_f, ↓dcL_f, ↓noEr_run, ↓w_frz, ↓getW_own, ↓dListRg1, ↓dIndex, ↓dCKw, ↓dMake, ↓dList, seq_lst, seq_tup, kwP1, kwP10, beq_self_eq_true, ↓dEqO, ↓dBinO, ↓dNev, tyV_dct, tyV_ins, kno_dct, clV_ptr, kit_sameR, nf_same, nf_none, nf_int, nf_bool, nf_str, nf_lst, nf_tup, nf_dct, ↓dLenO, eq_bl, ne_bl, ↓hot_run, ↓w_try, ↓w_try0, ↓erH_cons, ↓erH_nil, ↓shutD_mk, x1_mk, x2_mk, ↓w_rz, ↓dXf, ↓dIsX, ↓dBinS, ha, decide_false, h1, h2, m1, hX, h3, h4, m2, hY, h5, h6, m3, h7, D_mod hm]
    exact k _ _ (Int.emod_nonneg _ (by omega)) (Int.emod_lt_of_pos _ hm) ⟨_, _, _, rfl, b0, b1, by omega, by omega⟩
theorem log_int {z : Int} (h0 : 0 ≤ z) (h1 : z < 2 ^ 64) : z.natAbs.log2 < 9000 := by
  obtain ⟨n, rfl⟩ := Int.eq_ofNat_of_zero_le h0
  rw [Int.natAbs_natCast]
  rcases Nat.eq_zero_or_pos n with e | e
  · subst e; decide
  · have := (Nat.log2_lt (by omega)).mpr (show n < 2 ^ 64 by omega)
    omega
theorem log_small {n : Nat} (h : n < 2 ^ 64) : ((n : Int)).natAbs.log2 < 9000 := by
  rw [Int.natAbs_natCast]
  rcases Nat.eq_zero_or_pos n with e | e
  · subst e; decide
  · have := (Nat.log2_lt (by omega)).mpr h
    omega
theorem one_lst {n : Nat} (hn : n < 1000000000) {w : D} (hw : Well n w) {xs : List D} (hx : xs ≠ []) (hx2 : xs.length < 1000) {q : D → List D → Prop} {er} (k : ∀ (i : Nat) (h : i < xs.length) (w' : D), Well (n + 1) w' → q xs[i] [w']) :
    dsp_p_law_one K A [.par w, .val (.lst xs)] q er := by
  unfold dsp_p_law_one body_p_law_one
  have hp : 0 < xs.length := List.length_pos_iff.mpr hx
  simp -implicitDefEqProofs -dsimp only [idd_eq, Nat.reduceEqDiff, ↓w_seq, ↓w_if, ↓dTest, ↓dOp, ↓dUn, ↓w_var, ↓getS_val, ↓getS_own, ↓getS_par, ↓dC, rd_val, rd_bor, ownD_own, ownD_par, rds_nil, rds_cons, ↓w_asg, ↓dCB, ↓dCons, ↓dNil, ↓dgName, ↓dgTup, ↓dgCons, ↓dgNil, ↓w_setIx, ↓w_ret, ↓w_retF, ↓w_retN, ↓w_next, ↓w_drop, ↓w_own, ↓w_brk, ↓w_cnt, ↓w_setF, ↓w_dput, ↓w_body, ↓dN, ↓dCall, ↓dCallF, argsOf_nil, argsOf_val, argsOf_bor, bors, ↓dV, ↓dTup, ↓dLst, vals_nil, vals_val, ↓w_par, ↓w_par3, ↓w_parVO, ↓w_parOV, ↓w_parOO, ↓dTruth, ↓dIsi, ↓dIsiT, ↓dInO, insOf_ins, ↓dDNew, ↓dDGet, ↓dDIn, toTup_lst, toTup_tup, pf_nil, lk_self, key_str, key_int, isN_non, isNN_non, kno_int, kno_str, kno_lst, kno_tup, kno_bl, kno_non, tyV_int, tyV_bl, tyV_str, tyV_lst, tyV_tup, tyV_non, clV_ty, clVT_nil, clVT_val, kit_same, kit_int_bool, kit_bool_int, kits_list, kits_tuple, ↓dNot, ↓dAnd, ↓dOr, ↓dIf, ↓dAndV, ↓dOrV, ↓dNotV, ↓dChain, ↓dMeth, ↓dMethF, ↓dKw, ↓dSl, ↓dNoP, ↓dPart, ↓w_for, diRng1, diRng2, diRevR1, diEnumX, diAny, items_lst, items_tup, ↓dLc, ↓dDc, ↓dFld, ownAt_def, setD, Sl.setD, isPar0, isParS, isPN, isP_val, isP_own, isP_no, isP_par, ↓doF, outs_nil, outs_cons, parD_par, parIx, putOuts, wipeD, ↓dBodyF, ↓dAppend, D.isLst, cmp_int, bool_bl, toInt_int, toInt_bl, truth_bl, truth_int, truth_non, len_lst, len_tup, D_add, D_sub, D_mod, eq_int, ne_int, neg_int, ix0, ix1, ix2, ix3, ix4, tx0, tx1, tx2, sx0, sx1, sx2, List.length_cons, List.length_nil, List.cons_append, List.nil_append, List.replicate, Nat.reduceAdd, Nat.reduceSub, List.getElem?_cons_zero, List.getElem?_cons_succ, List.getElem?_nil, List.set_cons_zero, List.set_cons_succ, Option.bind_some, Option.map_some, Option.isSome_some, true_and, and_true, if_true, if_false, Bool.false_eq_true, reduceIte, Int.reduceBEq, Bool.not_true, Bool.not_false, List.nodup_cons, List.nodup_nil, List.not_mem_nil, not_false_eq_true, List.mem_cons, or_false, ↓opt_f, ↓optF_some, ↓ite_cd, ↓cd_true, ↓cd_false, ↓forL_f, ↓lcL_f, ↓dcL_f, ↓noEr_run, ↓w_frz, ↓getW_own, ↓dListRg1, ↓dIndex, ↓dCKw, ↓dMake, ↓dList, seq_lst, seq_tup, kwP1, kwP10, beq_self_eq_true, ↓dEqO, ↓dBinO, ↓dNev, tyV_dct, tyV_ins, kno_dct, clV_ptr, kit_sameR, nf_same, nf_none, nf_int, nf_bool, nf_str, nf_lst, nf_tup, nf_dct, ↓dLenO, eq_bl, ne_bl, ↓hot_run, ↓w_try, ↓w_try0, ↓erH_cons, ↓erH_nil, ↓shutD_mk, x1_mk, x2_mk, ↓w_rz, ↓dXf, ↓dIsX, ↓dBinS, D.len]
  refine draw_ok A hn hw (by omega) (log_small (by omega)) fun x w' x0 x1 hw' => ?_
  obtain ⟨i, rfl⟩ := Int.eq_ofNat_of_zero_le x0
  have hi : i < xs.length := by omega
  simp -implicitDefEqProofs -dsimp only [idd_eq, Nat.reduceEqDiff, ↓w_seq, ↓w_if, ↓dTest, ↓dOp, ↓dUn, ↓w_var, ↓getS_val, ↓getS_own, ↓getS_par, ↓dC, rd_val, rd_bor, ownD_own, ownD_par, rds_nil, rds_cons, ↓w_asg, ↓dCB, ↓dCons, ↓dNil, ↓dgName, ↓dgTup, ↓dgCons, ↓dgNil, ↓w_setIx, ↓w_ret, ↓w_retF, ↓w_retN, ↓w_next, ↓w_drop, ↓w_own, ↓w_brk, ↓w_cnt, ↓w_setF, ↓w_dput, ↓w_body, ↓dN, ↓dCall, ↓dCallF, argsOf_nil, argsOf_val, argsOf_bor, bors, ↓dV, ↓dTup, ↓dLst, vals_nil, vals_val, ↓w_par, ↓w_par3, ↓w_parVO, ↓w_parOV, ↓w_parOO, ↓dTruth, ↓dIsi, ↓dIsiT, ↓dInO, insOf_ins, ↓dDNew, ↓dDGet, ↓dDIn, toTup_lst, toTup_tup, pf_nil, lk_self, key_str, key_int, isN_non, isNN_non, kno_int, kno_str, kno_lst, kno_tup, kno_bl, kno_non, tyV_int, tyV_bl, tyV_str, tyV_lst, tyV_tup, tyV_non, clV_ty, clVT_nil, clVT_val, kit_same, kit_int_bool, kit_bool_int, kits_list, kits_tuple, ↓dNot, ↓dAnd, ↓dOr, ↓dIf, ↓dAndV, ↓dOrV, ↓dNotV, ↓dChain, ↓dMeth, ↓dMethF, ↓dKw, ↓dSl, ↓dNoP, ↓dPart, ↓w_for, diRng1, diRng2, diRevR1, diEnumX, diAny, items_lst, items_tup, ↓dLc, ↓dDc, ↓dFld, ownAt_def, setD, Sl.setD, isPar0, isParS, isPN, isP_val, isP_own, isP_no, isP_par, ↓doF, outs_nil, outs_cons, parD_par, parIx, putOuts, wipeD, ↓dBodyF, ↓dAppend, D.isLst, cmp_int, bool_bl, toInt_int, toInt_bl, truth_bl, truth_int, truth_non, len_lst, len_tup, D_add, D_sub, D_mod, eq_int, ne_int, neg_int, ix0, ix1, ix2, ix3, ix4, tx0, tx1, tx2, sx0, sx1, sx2, List.length_cons, List.length_nil, List.cons_append, List.nil_append, List.replicate, Nat.reduceAdd, Nat.reduceSub, List.getElem?_cons_zero, List.getElem?_cons_succ, List.getElem?_nil, List.set_cons_zero, List.set_cons_succ, Option.bind_some, Option.map_some, Option.isSome_some, true_and, and_true, if_true, if_false, Bool.false_eq_true, reduceIte, Int.reduceBEq, Bool.not_true, Bool.not_false, List.nodup_cons, List.nodup_nil, List.not_mem_nil, not_false_eq_true, List.mem_cons, or_false, ↓opt_f, ↓optF_some, ↓ite_cd, ↓cd_true, ↓cd_false, ↓forL_f, ↓lcL_f, ↓dcL_f, ↓noEr_run, ↓w_frz, ↓getW_own, ↓dListRg1, ↓dIndex, ↓dCKw, ↓dMake, ↓dList, seq_lst, seq_tup, kwP1, kwP10, beq_self_eq_true, ↓dEqO, ↓dBinO, ↓dNev, tyV_dct, tyV_ins, kno_dct, clV_ptr, kit_sameR, nf_same, nf_none, nf_int, nf_bool, nf_str, nf_lst, nf_tup, nf_dct, ↓dLenO, eq_bl, ne_bl, ↓hot_run, ↓w_try, ↓w_try0, ↓erH_cons, ↓erH_nil, ↓shutD_mk, x1_mk, x2_mk, ↓w_rz, ↓dXf, ↓dIsX, ↓dBinS, ixn (xs := xs) rfl hi, List.getElem?_eq_getElem hi]
  exact k i hi w' hw'
theorem one_par {n : Nat} (hn : n < 1000000000) {w : D} (hw : Well n w) {xs : List D} (hx : xs ≠ []) (hx2 : xs.length < 1000) {q : D → List D → Prop} {er} (k : ∀ (i : Nat) (h : i < xs.length) (w' : D), Well (n + 1) w' → q xs[i] [w', .lst xs]) :
    dsp_p_law_one K A [.par w, .par (.lst xs)] q er := by
  unfold dsp_p_law_one body_p_law_one
  have hp : 0 < xs.length := List.length_pos_iff.mpr hx
  simp -implicitDefEqProofs -dsimp only [idd_eq, Nat.reduceEqDiff, ↓w_seq, ↓w_if, ↓dTest, ↓dOp, ↓dUn, ↓w_var, ↓getS_val, ↓getS_own, ↓getS_par, ↓dC, rd_val, rd_bor, ownD_own, ownD_par, rds_nil, rds_cons, ↓w_asg, ↓dCB, ↓dCons, ↓dNil, ↓dgName, ↓dgTup, ↓dgCons, ↓dgNil, ↓w_setIx, ↓w_ret, ↓w_retF, ↓w_retN, ↓w_next, ↓w_drop, ↓w_own, ↓w_brk, ↓w_cnt, ↓w_setF, ↓w_dput, ↓w_body, ↓dN, ↓dCall, ↓dCallF, argsOf_nil, argsOf_val, argsOf_bor, bors, ↓dV, ↓dTup, ↓dLst, vals_nil, vals_val, ↓w_par, ↓w_par3, ↓w_parVO, ↓w_parOV, ↓w_parOO, ↓dTruth, ↓dIsi, ↓dIsiT, ↓dInO, insOf_ins, ↓dDNew, ↓dDGet, ↓dDIn, toTup_lst, toTup_tup, pf_nil, lk_self, key_str, key_int, isN_non, isNN_non, kno_int, kno_str, kno_lst, kno_tup, kno_bl, kno_non, tyV_int, tyV_bl, tyV_str, tyV_lst, tyV_tup, tyV_non, clV_ty, clVT_nil, clVT_val, kit_same, kit_int_bool, kit_bool_int, kits_list, kits_tuple, ↓dNot, ↓dAnd, ↓dOr, ↓dIf, ↓dAndV, ↓dOrV, ↓dNotV, ↓dChain, ↓dMeth, ↓dMethF, ↓dKw, ↓dSl, ↓dNoP, ↓dPart, ↓w_for, diRng1, diRng2, diRevR1, diEnumX, diAny, items_lst, items_tup, ↓dLc, ↓dDc, ↓dFld, ownAt_def, setD, Sl.setD, isPar0, isParS, isPN, isP_val, isP_own, isP_no, isP_par, ↓doF, outs_nil, outs_cons, parD_par, parIx, putOuts, wipeD, ↓dBodyF, ↓dAppend, D.isLst, cmp_int, bool_bl, toInt_int, toInt_bl, truth_bl, truth_int, truth_non, len_lst, len_tup, D_add, D_sub, D_mod, eq_int, ne_int, neg_int, ix0, ix1, ix2, ix3, ix4, tx0, tx1, tx2, sx0, sx1, sx2, List.length_cons, List.length_nil, List.cons_append, List.nil_append, List.replicate, Nat.reduceAdd, Nat.reduceSub, List.getElem?_cons_zero, List.getElem?_cons_succ, List.getElem?_nil, List.set_cons_zero, List.set_cons_succ, Option.bind_some, Option.map_some, Option.isSome_some, true_and, and_true, if_true, if_false, Bool.false_eq_true, reduceIte, Int.reduceBEq, Bool.not_true, Bool.not_false, List.nodup_cons, List.nodup_nil, List.not_mem_nil, not_false_eq_true, List.mem_cons, or_false, ↓opt_f, ↓optF_some, ↓ite_cd, ↓cd_true, ↓cd_false, ↓forL_f, ↓lcL_f, ↓dcL_f, ↓noEr_run, ↓w_frz, ↓getW_own, ↓dListRg1, ↓dIndex, ↓dCKw, ↓dMake, ↓dList, seq_lst, seq_tup, kwP1, kwP10, beq_self_eq_true, ↓dEqO, ↓dBinO, ↓dNev, tyV_dct, tyV_ins, kno_dct, clV_ptr, kit_sameR, nf_same, nf_none, nf_int, nf_bool, nf_str, nf_lst, nf_tup, nf_dct, ↓dLenO, eq_bl, ne_bl, ↓hot_run, ↓w_try, ↓w_try0, ↓erH_cons, ↓erH_nil, ↓shutD_mk, x1_mk, x2_mk, ↓w_rz, ↓dXf, ↓dIsX, ↓dBinS, D.len]
  refine draw_ok A hn hw (by omega) (log_small (by omega)) fun x w' x0 x1 hw' => ?_
  obtain ⟨i, rfl⟩ := Int.eq_ofNat_of_zero_le x0
  have hi : i < xs.length := by omega
  simp -implicitDefEqProofs -dsimp only [idd_eq, Nat.reduceEqDiff, ↓w_seq, ↓w_if, ↓dTest, ↓dOp, ↓dUn, ↓w_var, ↓getS_val, ↓getS_own, ↓getS_par, ↓dC, rd_val, rd_bor, ownD_own, ownD_par, rds_nil, rds_cons, ↓w_asg, ↓dCB, ↓dCons, ↓dNil, ↓dgName, ↓dgTup, ↓dgCons, ↓dgNil, ↓w_setIx, ↓w_ret, ↓w_retF, ↓w_retN, ↓w_next, ↓w_drop, ↓w_own, ↓w_brk, ↓w_cnt, ↓w_setF, ↓w_dput, ↓w_body, ↓dN, ↓dCall, ↓dCallF, argsOf_nil, argsOf_val, argsOf_bor, bors, ↓dV, ↓dTup, ↓dLst, vals_nil, vals_val, ↓w_par, ↓w_par3, ↓w_parVO, ↓w_parOV, ↓w_parOO, ↓dTruth, ↓dIsi, ↓dIsiT, ↓dInO, insOf_ins, ↓dDNew, ↓dDGet, ↓dDIn, toTup_lst, toTup_tup, pf_nil, lk_self, key_str, key_int, isN_non, isNN_non, kno_int, kno_str, kno_lst, kno_tup, kno_bl, kno_non, tyV_int, tyV_bl, tyV_str, tyV_lst, tyV_tup, tyV_non, clV_ty, clVT_nil, clVT_val, kit_same, kit_int_bool, kit_bool_int, kits_list, kits_tuple, ↓dNot, ↓dAnd, ↓dOr, ↓dIf, ↓dAndV, ↓dOrV, ↓dNotV, ↓dChain, ↓dMeth, ↓dMethF, ↓dKw, ↓dSl, ↓dNoP, ↓dPart, ↓w_for, diRng1, diRng2, diRevR1, diEnumX, diAny, items_lst, items_tup, ↓dLc, ↓dDc, ↓dFld, ownAt_def, setD, Sl.setD, isPar0, isParS, isPN, isP_val, isP_own, isP_no, isP_par, ↓doF, outs_nil, outs_cons, parD_par, parIx, putOuts, wipeD, ↓dBodyF, ↓dAppend, D.isLst, cmp_int, bool_bl, toInt_int, toInt_bl, truth_bl, truth_int, truth_non, len_lst, len_tup, D_add, D_sub, D_mod, eq_int, ne_int, neg_int, ix0, ix1, ix2, ix3, ix4, tx0, tx1, tx2, sx0, sx1, sx2, List.length_cons, List.length_nil, List.cons_append, List.nil_append, List.replicate, Nat.reduceAdd, Nat.reduceSub, List.getElem?_cons_zero, List.getElem?_cons_succ, List.getElem?_nil, List.set_cons_zero, List.set_cons_succ, Option.bind_some, Option.map_some, Option.isSome_some, true_and, and_true, if_true, if_false, Bool.false_eq_true, reduceIte, Int.reduceBEq, Bool.not_true, Bool.not_false, List.nodup_cons, List.nodup_nil, List.not_mem_nil, not_false_eq_true, List.mem_cons, or_false, ↓opt_f, ↓optF_some, ↓ite_cd, ↓cd_true, ↓cd_false, ↓forL_f, ↓lcL_f, ↓dcL_f, ↓noEr_run, ↓w_frz, ↓getW_own, ↓dListRg1, ↓dIndex, ↓dCKw, ↓dMake, ↓dList, seq_lst, seq_tup, kwP1, kwP10, beq_self_eq_true, ↓dEqO, ↓dBinO, ↓dNev, tyV_dct, tyV_ins, kno_dct, clV_ptr, kit_sameR, nf_same, nf_none, nf_int, nf_bool, nf_str, nf_lst, nf_tup, nf_dct, ↓dLenO, eq_bl, ne_bl, ↓hot_run, ↓w_try, ↓w_try0, ↓erH_cons, ↓erH_nil, ↓shutD_mk, x1_mk, x2_mk, ↓w_rz, ↓dXf, ↓dIsX, ↓dBinS, ixn (xs := xs) rfl hi, List.getElem?_eq_getElem hi]
  exact k i hi w' hw'
theorem one_str {n : Nat} (hn : n < 1000000000) {w : D} (hw : Well n w) {l : List Nat} (hx : l ≠ []) (hx2 : l.length < 1000) {q : D → List D → Prop} {er} (k : ∀ c ∈ l, ∀ w' : D, Well (n + 1) w' → q (.str (mk [c])) [w']) :
    dsp_p_law_one K A [.par w, .val (.str (mk l))] q er := by
  unfold dsp_p_law_one body_p_law_one
  have hp : 0 < l.length := List.length_pos_iff.mpr hx
  have hs : l.length ≤ sizeLine := Nat.le_trans (Nat.le_of_lt hx2) (by decide)
  simp -implicitDefEqProofs -dsimp only [idd_eq, Nat.reduceEqDiff, ↓w_seq, ↓w_if, ↓dTest, ↓dOp, ↓dUn, ↓w_var, ↓getS_val, ↓getS_own, ↓getS_par, ↓dC, rd_val, rd_bor, ownD_own, ownD_par, rds_nil, rds_cons, ↓w_asg, ↓dCB, ↓dCons, ↓dNil, ↓dgName, ↓dgTup, ↓dgCons, ↓dgNil, ↓w_setIx, ↓w_ret, ↓w_retF, ↓w_retN, ↓w_next, ↓w_drop, ↓w_own, ↓w_brk, ↓w_cnt, ↓w_setF, ↓w_dput, ↓w_body, ↓dN, ↓dCall, ↓dCallF, argsOf_nil, argsOf_val, argsOf_bor, bors, ↓dV, ↓dTup, ↓dLst, vals_nil, vals_val, ↓w_par, ↓w_par3, ↓w_parVO, ↓w_parOV, ↓w_parOO, ↓dTruth, ↓dIsi, ↓dIsiT, ↓dInO, insOf_ins, ↓dDNew, ↓dDGet, ↓dDIn, toTup_lst, toTup_tup, pf_nil, lk_self, key_str, key_int, isN_non, isNN_non, kno_int, kno_str, kno_lst, kno_tup, kno_bl, kno_non, tyV_int, tyV_bl, tyV_str, tyV_lst, tyV_tup, tyV_non, clV_ty, clVT_nil, clVT_val, kit_same, kit_int_bool, kit_bool_int, kits_list, kits_tuple, ↓dNot, ↓dAnd, ↓dOr, ↓dIf, ↓dAndV, ↓dOrV, ↓dNotV, ↓dChain, ↓dMeth, ↓dMethF, ↓dKw, ↓dSl, ↓dNoP, ↓dPart, ↓w_for, diRng1, diRng2, diRevR1, diEnumX, diAny, items_lst, items_tup, ↓dLc, ↓dDc, ↓dFld, ownAt_def, setD, Sl.setD, isPar0, isParS, isPN, isP_val, isP_own, isP_no, isP_par, ↓doF, outs_nil, outs_cons, parD_par, parIx, putOuts, wipeD, ↓dBodyF, ↓dAppend, D.isLst, cmp_int, bool_bl, toInt_int, toInt_bl, truth_bl, truth_int, truth_non, len_lst, len_tup, D_add, D_sub, D_mod, eq_int, ne_int, neg_int, ix0, ix1, ix2, ix3, ix4, tx0, tx1, tx2, sx0, sx1, sx2, List.length_cons, List.length_nil, List.cons_append, List.nil_append, List.replicate, Nat.reduceAdd, Nat.reduceSub, List.getElem?_cons_zero, List.getElem?_cons_succ, List.getElem?_nil, List.set_cons_zero, List.set_cons_succ, Option.bind_some, Option.map_some, Option.isSome_some, true_and, and_true, if_true, if_false, Bool.false_eq_true, reduceIte, Int.reduceBEq, Bool.not_true, Bool.not_false, List.nodup_cons, List.nodup_nil, List.not_mem_nil, not_false_eq_true, List.mem_cons, or_false, ↓opt_f, ↓optF_some, ↓ite_cd, ↓cd_true, ↓cd_false, ↓forL_f, ↓lcL_f, ↓dcL_f, ↓noEr_run, ↓w_frz, ↓getW_own, ↓dListRg1, ↓dIndex, ↓dCKw, ↓dMake, ↓dList, seq_lst, seq_tup, kwP1, kwP10, beq_self_eq_true, ↓dEqO, ↓dBinO, ↓dNev, tyV_dct, tyV_ins, kno_dct, clV_ptr, kit_sameR, nf_same, nf_none, nf_int, nf_bool, nf_str, nf_lst, nf_tup, nf_dct, ↓dLenO, eq_bl, ne_bl, ↓hot_run, ↓w_try, ↓w_try0, ↓erH_cons, ↓erH_nil, ↓shutD_mk, x1_mk, x2_mk, ↓w_rz, ↓dXf, ↓dIsX, ↓dBinS, len_mk hs]
  refine draw_ok A hn hw (by omega) (log_small (by omega)) fun x w' x0 x1 hw' => ?_
  obtain ⟨i, rfl⟩ := Int.eq_ofNat_of_zero_le x0
  have hi : i < l.length := by omega
  simp -implicitDefEqProofs -dsimp only [idd_eq, Nat.reduceEqDiff, ↓w_seq, ↓w_if, ↓dTest, ↓dOp, ↓dUn, ↓w_var, ↓getS_val, ↓getS_own, ↓getS_par, ↓dC, rd_val, rd_bor, ownD_own, ownD_par, rds_nil, rds_cons, ↓w_asg, ↓dCB, ↓dCons, ↓dNil, ↓dgName, ↓dgTup, ↓dgCons, ↓dgNil, ↓w_setIx, ↓w_ret, ↓w_retF, ↓w_retN, ↓w_next, ↓w_drop, ↓w_own, ↓w_brk, ↓w_cnt, ↓w_setF, ↓w_dput, ↓w_body, ↓dN, ↓dCall, ↓dCallF, argsOf_nil, argsOf_val, argsOf_bor, bors, ↓dV, ↓dTup, ↓dLst, vals_nil, vals_val, ↓w_par, ↓w_par3, ↓w_parVO, ↓w_parOV, ↓w_parOO, ↓dTruth, ↓dIsi, ↓dIsiT, ↓dInO, insOf_ins, ↓dDNew, ↓dDGet, ↓dDIn, toTup_lst, toTup_tup, pf_nil, lk_self, key_str, key_int, isN_non, isNN_non, kno_int, kno_str, kno_lst, kno_tup, kno_bl, kno_non, tyV_int, tyV_bl, tyV_str, tyV_lst, tyV_tup, tyV_non, clV_ty, clVT_nil, clVT_val, kit_same, kit_int_bool, kit_bool_int, kits_list, kits_tuple, ↓dNot, ↓dAnd, ↓dOr, ↓dIf, ↓dAndV, ↓dOrV, ↓dNotV, ↓dChain, ↓dMeth, ↓dMethF, ↓dKw, ↓dSl, ↓dNoP, ↓dPart, ↓w_for, diRng1, diRng2, diRevR1, diEnumX, diAny, items_lst, items_tup, ↓dLc, ↓dDc, ↓dFld, ownAt_def, setD, Sl.setD, isPar0, isParS, isPN, isP_val, isP_own, isP_no, isP_par, ↓doF, outs_nil, outs_cons, parD_par, parIx, putOuts, wipeD, ↓dBodyF, ↓dAppend, D.isLst, cmp_int, bool_bl, toInt_int, toInt_bl, truth_bl, truth_int, truth_non, len_lst, len_tup, D_add, D_sub, D_mod, eq_int, ne_int, neg_int, ix0, ix1, ix2, ix3, ix4, tx0, tx1, tx2, sx0, sx1, sx2, List.length_cons, List.length_nil, List.cons_append, List.nil_append, List.replicate, Nat.reduceAdd, Nat.reduceSub, List.getElem?_cons_zero, List.getElem?_cons_succ, List.getElem?_nil, List.set_cons_zero, List.set_cons_succ, Option.bind_some, Option.map_some, Option.isSome_some, true_and, and_true, if_true, if_false, Bool.false_eq_true, reduceIte, Int.reduceBEq, Bool.not_true, Bool.not_false, List.nodup_cons, List.nodup_nil, List.not_mem_nil, not_false_eq_true, List.mem_cons, or_false, ↓opt_f, ↓optF_some, ↓ite_cd, ↓cd_true, ↓cd_false, ↓forL_f, ↓lcL_f, ↓dcL_f, ↓noEr_run, ↓w_frz, ↓getW_own, ↓dListRg1, ↓dIndex, ↓dCKw, ↓dMake, ↓dList, seq_lst, seq_tup, kwP1, kwP10, beq_self_eq_true, ↓dEqO, ↓dBinO, ↓dNev, tyV_dct, tyV_ins, kno_dct, clV_ptr, kit_sameR, nf_same, nf_none, nf_int, nf_bool, nf_str, nf_lst, nf_tup, nf_dct, ↓dLenO, eq_bl, ne_bl, ↓hot_run, ↓w_try, ↓w_try0, ↓erH_cons, ↓erH_nil, ↓shutD_mk, x1_mk, x2_mk, ↓w_rz, ↓dXf, ↓dIsX, ↓dBinS, ixs (l := l) rfl hi hs]
  exact k _ (List.getElem_mem hi) w' hw'
theorem well_ok (c : Int) {q : D → List D → Prop} {er} (k : ∀ w', Well 0 w' → q w' []) : dsp_p_law_well K A [.val (.int c)] q er := by
  unfold dsp_p_law_well body_p_law_well
  have h1 : D.pow (.int 10) (.int 18) = some (.int (10 ^ 18)) := D_pow ⟨by decide, by decide, by decide⟩
  have h2 : ∀ b : Bool, D.mul (.int c) (.int (if b = true then 1 else 0)) = some (.int (c * (if b = true then 1 else 0))) := fun b => D_mul (Or.inr (by cases b <;> exact ⟨by decide, by decide⟩))
  have h3 : D.mod (.int c) (.int 2147483629) = some (.int (c % 2147483629)) := D_mod (by decide)
  have h4 : 0 + 1 + 1 + 1 ≤ sizeLine := by decide
  simp -implicitDefEqProofs -dsimp only [idd_eq, Nat.reduceEqDiff, ↓w_seq, ↓w_if, ↓dTest, ↓dOp, ↓dUn, ↓w_var, ↓getS_val, ↓getS_own, ↓getS_par, ↓dC, rd_val, rd_bor, ownD_own, ownD_par, rds_nil, rds_cons, ↓w_asg, ↓dCB, ↓dCons, ↓dNil, ↓dgName, ↓dgTup, ↓dgCons, ↓dgNil, ↓w_setIx, ↓w_ret, ↓w_retF, ↓w_retN, ↓w_next, ↓w_drop, ↓w_own, ↓w_brk, ↓w_cnt, ↓w_setF, ↓w_dput, ↓w_body, ↓dN, ↓dCall, ↓dCallF, argsOf_nil, argsOf_val, argsOf_bor, bors, ↓dV, ↓dTup, ↓dLst, vals_nil, vals_val, ↓w_par, ↓w_par3, ↓w_parVO, ↓w_parOV, ↓w_parOO, ↓dTruth, ↓dIsi, ↓dIsiT, ↓dInO, insOf_ins, ↓dDNew, ↓dDGet, ↓dDIn, toTup_lst, toTup_tup, pf_nil, lk_self, key_str, key_int, isN_non, isNN_non, kno_int, kno_str, kno_lst, kno_tup, kno_bl, kno_non, tyV_int, tyV_bl, tyV_str, tyV_lst, tyV_tup, tyV_non, clV_ty, clVT_nil, clVT_val, kit_same, kit_int_bool, kit_bool_int, kits_list, kits_tuple, ↓dNot, ↓dAnd, ↓dOr, ↓dIf, ↓dAndV, ↓dOrV, ↓dNotV, ↓dChain, ↓dMeth, ↓dMethF, ↓dKw, ↓dSl, ↓dNoP, ↓dPart, ↓w_for, diRng1, diRng2, diRevR1, diEnumX, diAny, items_lst, items_tup, ↓dLc, ↓dDc, ↓dFld, ownAt_def, setD, Sl.setD, isPar0, isParS, isPN, isP_val, isP_own, isP_no, isP_par, ↓doF, outs_nil, outs_cons, parD_par, parIx, putOuts, wipeD, ↓dBodyF, ↓dAppend, D.isLst, cmp_int, bool_bl, toInt_int, toInt_bl, truth_bl, truth_int, truth_non, len_lst, len_tup, D_add, D_sub, D_mod, eq_int, ne_int, neg_int, ix0, ix1, ix2, ix3, ix4, tx0, tx1, tx2, sx0, sx1, sx2, List.length_cons, List.length_nil, List.cons_append, List.nil_append, List.replicate, Nat.reduceAdd, Nat.reduceSub, List.getElem?_cons_zero, List.getElem?_cons_succ, List.getElem?_nil, List.set_cons_zero, List.set_cons_succ, Option.bind_some, Option.map_some, Option.isSome_some, true_and, and_true, if_true, if_false, Bool.false_eq_true, reduceIte, Int.reduceBEq, Bool.not_true, Bool.not_false, List.nodup_cons, List.nodup_nil, List.not_mem_nil, not_false_eq_true, List.mem_cons, or_false, ↓opt_f, ↓optF_some, ↓ite_cd, ↓cd_true, ↓cd_false, ↓forL_f, ↓lcL_f, ↓dcL_f, ↓noEr_run, ↓w_frz, ↓getW_own, ↓dListRg1, ↓dIndex, ↓dCKw, ↓dMake, ↓dList, seq_lst, seq_tup, kwP1, kwP10, beq_self_eq_true, ↓dEqO, ↓dBinO, ↓dNev, tyV_dct, tyV_ins, kno_dct, clV_ptr, kit_sameR, nf_same, nf_none, nf_int, nf_bool, nf_str, nf_lst, nf_tup, nf_dct, ↓dLenO, eq_bl, ne_bl, ↓hot_run, ↓w_try, ↓w_try0, ↓erH_cons, ↓erH_nil, ↓shutD_mk, x1_mk, x2_mk, ↓w_rz, ↓dXf, ↓dIsX, ↓dBinS, h1, h2, h3, h4]
  exact k _ ⟨_, _, _, rfl, Int.emod_nonneg _ (by decide), Int.emod_lt_of_pos _ (by decide), by decide, by decide⟩


def FL : List D := [.str (PySem.Str.ofString "a"), .str (PySem.Str.ofString "b1"), .str (PySem.Str.ofString ""), .non, .int 0, .int 1, .int 7, .int (-1), .int (10 ^ 30), .lst [], .lst [.str (PySem.Str.ofString "a")], .tup [.int 1, .str (PySem.Str.ofString "a")], .dct [], .dct [(.inr (PySem.Str.ofString "a"), .lst [.int 1])], .str (strRep (PySem.Str.ofString "a") 9), .bl true, .bl false]
def bx (x y : D) : Bool := (D.eqX 7 x y).getD false
theorem fl7 : (FL.all fun x => FL.all fun y => (D.eqX 7 x y).isSome) = true := by decide +kernel
theorem fl8 : (FL.all fun x => FL.all fun y => D.eqX 8 x y == D.eqX 7 x y) = true := by decide +kernel
theorem flr : (FL.all fun x => bx x x) = true := by decide +kernel
theorem eqx7 {x y : D} (hx : x ∈ FL) (hy : y ∈ FL) : D.eqX 7 x y = some (bx x y) := by
  have h := List.all_eq_true.mp (List.all_eq_true.mp fl7 x hx) y hy
  unfold bx
  cases e : D.eqX 7 x y with
  | none => rw [e] at h; cases h
  | some b => rfl
theorem eqd {x y : D} (hx : x ∈ FL) (hy : y ∈ FL) : D.eqD x y = some (.bl (bx x y)) := by
  have h := List.all_eq_true.mp (List.all_eq_true.mp fl8 x hx) y hy
  unfold D.eqD
  rw [eq_of_beq h, eqx7 hx hy]
  rfl
theorem eqx8 {x : D} (hx : x ∈ FL) : D.eqX 8 x x = some true := by
  rw [eq_of_beq (List.all_eq_true.mp (List.all_eq_true.mp fl8 x hx) x hx), eqx7 hx hx, List.all_eq_true.mp flr x hx]
theorem bxr {x : D} (hx : x ∈ FL) : bx x x = true := List.all_eq_true.mp flr x hx
theorem field_ok {n : Nat} (hn : n < 900000000) {w : D} (hw : Well n w) {q : D → List D → Prop} {er} (k : ∀ (x : D) (w' : D), x ∈ FL → Well (n + 1) w' → q x [w']) : dsp_p_law_field K A [.par w] q er := by
  unfold dsp_p_law_field body_p_law_field
  have h30 : D.pow (.int 10) (.int 30) = some (.int (10 ^ 30)) := D_pow ⟨by decide, by decide, by decide⟩
  have hm : D.mulS (.str (PySem.Str.ofString "a")) (.int 9) = some (.str (strRep (PySem.Str.ofString "a") 9)) := by
    show (if 2 ≤ (9 : Int) ∧ (9 : Int) ≤ 1000 ∧ 0 < (PySem.Str.ofString "a").length ∧ (PySem.Str.ofString "a").length ≤ 1000 ∧ (strRep (PySem.Str.ofString "a") (9 : Int).toNat).length ≤ sizeLine then some (D.str (strRep (PySem.Str.ofString "a") (9 : Int).toNat)) else none) = _
    rw [if_pos (by decide +kernel)]
    rfl
  have h0 : (0 : Nat) ≤ sizeLine := Nat.zero_le _
  have h1 : 0 + 1 ≤ sizeLine := by decide
  have h2 : 0 + 1 + 1 ≤ sizeLine := by decide
  have h17 : 0 + 1 + 1 + 1 + 1 + 1 + 1 + 1 + 1 + 1 + 1 + 1 + 1 + 1 + 1 + 1 + 1 + 1 ≤ sizeLine := by decide
  simp -implicitDefEqProofs -dsimp only [idd_eq, Nat.reduceEqDiff, ↓w_seq, ↓w_if, ↓dTest, ↓dOp, ↓dUn, ↓w_var, ↓getS_val, ↓getS_own, ↓getS_par, ↓dC, rd_val, rd_bor, ownD_own, ownD_par, rds_nil, rds_cons, ↓w_asg, ↓dCB, ↓dCons, ↓dNil, ↓dgName, ↓dgTup, ↓dgCons, ↓dgNil, ↓w_setIx, ↓w_ret, ↓w_retF, ↓w_retN, ↓w_next, ↓w_drop, ↓w_own, ↓w_brk, ↓w_cnt, ↓w_setF, ↓w_dput, ↓w_body, ↓dN, ↓dCall, ↓dCallF, argsOf_nil, argsOf_val, argsOf_bor, bors, ↓dV, ↓dTup, ↓dLst, vals_nil, vals_val, ↓w_par, ↓w_par3, ↓w_parVO, ↓w_parOV, ↓w_parOO, ↓dTruth, ↓dIsi, ↓dIsiT, ↓dInO, insOf_ins, ↓dDNew, ↓dDGet, ↓dDIn, toTup_lst, toTup_tup, pf_nil, lk_self, key_str, key_int, isN_non, isNN_non, kno_int, kno_str, kno_lst, kno_tup, kno_bl, kno_non, tyV_int, tyV_bl, tyV_str, tyV_lst, tyV_tup, tyV_non, clV_ty, clVT_nil, clVT_val, kit_same, kit_int_bool, kit_bool_int, kits_list, kits_tuple, ↓dNot, ↓dAnd, ↓dOr, ↓dIf, ↓dAndV, ↓dOrV, ↓dNotV, ↓dChain, ↓dMeth, ↓dMethF, ↓dKw, ↓dSl, ↓dNoP, ↓dPart, ↓w_for, diRng1, diRng2, diRevR1, diEnumX, diAny, items_lst, items_tup, ↓dLc, ↓dDc, ↓dFld, ownAt_def, setD, Sl.setD, isPar0, isParS, isPN, isP_val, isP_own, isP_no, isP_par, ↓doF, outs_nil, outs_cons, parD_par, parIx, putOuts, wipeD, ↓dBodyF, ↓dAppend, D.isLst, cmp_int, bool_bl, toInt_int, toInt_bl, truth_bl, truth_int, truth_non, len_lst, len_tup, D_add, D_sub, D_mod, eq_int, ne_int, neg_int, ix0, ix1, ix2, ix3, ix4, tx0, tx1, tx2, sx0, sx1, sx2, List.length_cons, List.length_nil, List.cons_append, List.nil_append, List.replicate, Nat.reduceAdd, Nat.reduceSub, List.getElem?_cons_zero, List.getElem?_cons_succ, List.getElem?_nil, List.set_cons_zero, List.set_cons_succ, Option.bind_some, Option.map_some, Option.isSome_some, true_and, and_true, if_true, if_false, Bool.false_eq_true, reduceIte, Int.reduceBEq, Bool.not_true, Bool.not_false, List.nodup_cons, List.nodup_nil, List.not_mem_nil, not_false_eq_true, List.mem_cons, or_false, ↓opt_f, ↓optF_some, ↓ite_cd, ↓cd_true, ↓cd_false, ↓forL_f, ↓lcL_f, ↓dcL_f, ↓noEr_run, ↓w_frz, ↓getW_own, ↓dListRg1, ↓dIndex, ↓dCKw, ↓dMake, ↓dList, seq_lst, seq_tup, kwP1, kwP10, beq_self_eq_true, ↓dEqO, ↓dBinO, ↓dNev, tyV_dct, tyV_ins, kno_dct, clV_ptr, kit_sameR, nf_same, nf_none, nf_int, nf_bool, nf_str, nf_lst, nf_tup, nf_dct, ↓dLenO, eq_bl, ne_bl, ↓hot_run, ↓w_try, ↓w_try0, ↓erH_cons, ↓erH_nil, ↓shutD_mk, x1_mk, x2_mk, ↓w_rz, ↓dXf, ↓dIsX, ↓dBinS, h30, hm, dDisp1, h0, h1, h2, h17]
  refine one_lst A (by omega) hw (by simp) (by simp) fun i hi w' hw' => ?_
  simp -implicitDefEqProofs -dsimp only [idd_eq, Nat.reduceEqDiff, ↓w_seq, ↓w_if, ↓dTest, ↓dOp, ↓dUn, ↓w_var, ↓getS_val, ↓getS_own, ↓getS_par, ↓dC, rd_val, rd_bor, ownD_own, ownD_par, rds_nil, rds_cons, ↓w_asg, ↓dCB, ↓dCons, ↓dNil, ↓dgName, ↓dgTup, ↓dgCons, ↓dgNil, ↓w_setIx, ↓w_ret, ↓w_retF, ↓w_retN, ↓w_next, ↓w_drop, ↓w_own, ↓w_brk, ↓w_cnt, ↓w_setF, ↓w_dput, ↓w_body, ↓dN, ↓dCall, ↓dCallF, argsOf_nil, argsOf_val, argsOf_bor, bors, ↓dV, ↓dTup, ↓dLst, vals_nil, vals_val, ↓w_par, ↓w_par3, ↓w_parVO, ↓w_parOV, ↓w_parOO, ↓dTruth, ↓dIsi, ↓dIsiT, ↓dInO, insOf_ins, ↓dDNew, ↓dDGet, ↓dDIn, toTup_lst, toTup_tup, pf_nil, lk_self, key_str, key_int, isN_non, isNN_non, kno_int, kno_str, kno_lst, kno_tup, kno_bl, kno_non, tyV_int, tyV_bl, tyV_str, tyV_lst, tyV_tup, tyV_non, clV_ty, clVT_nil, clVT_val, kit_same, kit_int_bool, kit_bool_int, kits_list, kits_tuple, ↓dNot, ↓dAnd, ↓dOr, ↓dIf, ↓dAndV, ↓dOrV, ↓dNotV, ↓dChain, ↓dMeth, ↓dMethF, ↓dKw, ↓dSl, ↓dNoP, ↓dPart, ↓w_for, diRng1, diRng2, diRevR1, diEnumX, diAny, items_lst, items_tup, ↓dLc, ↓dDc, ↓dFld, ownAt_def, setD, Sl.setD, isPar0, isParS, isPN, isP_val, isP_own, isP_no, isP_par, ↓doF, outs_nil, outs_cons, parD_par, parIx, putOuts, wipeD, ↓dBodyF, ↓dAppend, D.isLst, cmp_int, bool_bl, toInt_int, toInt_bl, truth_bl, truth_int, truth_non, len_lst, len_tup, D_add, D_sub, D_mod, eq_int, ne_int, neg_int, ix0, ix1, ix2, ix3, ix4, tx0, tx1, tx2, sx0, sx1, sx2, List.length_cons, List.length_nil, List.cons_append, List.nil_append, List.replicate, Nat.reduceAdd, Nat.reduceSub, List.getElem?_cons_zero, List.getElem?_cons_succ, List.getElem?_nil, List.set_cons_zero, List.set_cons_succ, Option.bind_some, Option.map_some, Option.isSome_some, true_and, and_true, if_true, if_false, Bool.false_eq_true, reduceIte, Int.reduceBEq, Bool.not_true, Bool.not_false, List.nodup_cons, List.nodup_nil, List.not_mem_nil, not_false_eq_true, List.mem_cons, or_false, ↓opt_f, ↓optF_some, ↓ite_cd, ↓cd_true, ↓cd_false, ↓forL_f, ↓lcL_f, ↓dcL_f, ↓noEr_run, ↓w_frz, ↓getW_own, ↓dListRg1, ↓dIndex, ↓dCKw, ↓dMake, ↓dList, seq_lst, seq_tup, kwP1, kwP10, beq_self_eq_true, ↓dEqO, ↓dBinO, ↓dNev, tyV_dct, tyV_ins, kno_dct, clV_ptr, kit_sameR, nf_same, nf_none, nf_int, nf_bool, nf_str, nf_lst, nf_tup, nf_dct, ↓dLenO, eq_bl, ne_bl, ↓hot_run, ↓w_try, ↓w_try0, ↓erH_cons, ↓erH_nil, ↓shutD_mk, x1_mk, x2_mk, ↓w_rz, ↓dXf, ↓dIsX, ↓dBinS]
  exact k _ _ (List.getElem_mem hi) hw'
end
end My
set_option autoImplicit false
set_option Elab.async false
set_option maxRecDepth 100000
set_option maxHeartbeats 400000
set_option linter.all false
namespace My
open PySem L2 Evl ClX DL
section
variable {K : PySem.W.Frag} (A : Ads)

theorem p_name_value : ¬ ("name" : Str) = "value" := by decide +kernel
theorem l_value_name : (("value" : Str) == "name") = false := by decide +kernel

theorem p_name_parent : ¬ ("name" : Str) = "parent" := by decide +kernel
theorem l_parent_name : (("parent" : Str) == "name") = false := by decide +kernel

theorem p_name_rank : ¬ ("name" : Str) = "rank" := by decide +kernel
theorem l_rank_name : (("rank" : Str) == "name") = false := by decide +kernel

theorem p_name_first : ¬ ("name" : Str) = "first" := by decide +kernel
theorem l_first_name : (("first" : Str) == "name") = false := by decide +kernel

theorem p_name_last : ¬ ("name" : Str) = "last" := by decide +kernel
theorem l_last_name : (("last" : Str) == "name") = false := by decide +kernel

theorem p_value_parent : ¬ ("value" : Str) = "parent" := by decide +kernel
theorem l_parent_value : (("parent" : Str) == "value") = false := by decide +kernel

theorem p_value_rank : ¬ ("value" : Str) = "rank" := by decide +kernel
theorem l_rank_value : (("rank" : Str) == "value") = false := by decide +kernel

theorem p_value_first : ¬ ("value" : Str) = "first" := by decide +kernel
theorem l_first_value : (("first" : Str) == "value") = false := by decide +kernel

theorem p_value_last : ¬ ("value" : Str) = "last" := by decide +kernel
theorem l_last_value : (("last" : Str) == "value") = false := by decide +kernel

theorem p_parent_rank : ¬ ("parent" : Str) = "rank" := by decide +kernel
theorem l_rank_parent : (("rank" : Str) == "parent") = false := by decide +kernel

theorem p_parent_first : ¬ ("parent" : Str) = "first" := by decide +kernel
theorem l_first_parent : (("first" : Str) == "parent") = false := by decide +kernel

theorem p_parent_last : ¬ ("parent" : Str) = "last" := by decide +kernel
theorem l_last_parent : (("last" : Str) == "parent") = false := by decide +kernel

theorem p_rank_first : ¬ ("rank" : Str) = "first" := by decide +kernel
theorem l_first_rank : (("first" : Str) == "rank") = false := by decide +kernel

theorem p_rank_last : ¬ ("rank" : Str) = "last" := by decide +kernel
theorem l_last_rank : (("last" : Str) == "rank") = false := by decide +kernel

theorem p_first_last : ¬ ("first" : Str) = "last" := by decide +kernel
theorem l_last_first : (("last" : Str) == "first") = false := by decide +kernel

def dd (A : Ads) (k : Nat) (f0 f1 f2 f3 f4 : D) : D := match k with
  | 0 => .ins A.c_Put [("name", f0), ("value", f1), ("parent", f2), ("rank", f3)]
  | 1 => .ins A.c_Move [("name", f0), ("parent", f1), ("rank", f2)]
  | 2 => .ins A.c_Cut [("name", f0)]
  | 3 => .ins A.c_Lift [("name", f0)]
  | 4 => .ins A.c_Wrap [("name", f0), ("value", f1), ("parent", f2), ("first", f3), ("last", f4)]
  | 5 => .ins A.c_Reverse [("parent", f0)]
  | _ => .ins A.c_SetValue [("name", f0), ("value", f1)]

def due (k : Nat) (f0 f1 f2 f3 f4 : D) : List D := match k with
  | 0 => [f0, f1, f2, f3]
  | 1 => [f0, f1, f2]
  | 2 => [f0]
  | 3 => [f0]
  | 4 => [f0, f1, f2, f3, f4]
  | 5 => [f0]
  | _ => [f0, f1]

def sz (k : Nat) : Int := match k with
  | 0 => 4
  | 1 => 3
  | 2 => 1
  | 3 => 1
  | 4 => 5
  | 5 => 1
  | _ => 2

def deq (k : Nat) (f0 f1 f2 f3 f4 : D) (g0 g1 g2 g3 g4 : D) : Bool := match k with
  | 0 => bx f0 g0 && (bx f1 g1 && (bx f2 g2 && (bx f3 g3)))
  | 1 => bx f0 g0 && (bx f1 g1 && (bx f2 g2))
  | 2 => bx f0 g0
  | 3 => bx f0 g0
  | 4 => bx f0 g0 && (bx f1 g1 && (bx f2 g2 && (bx f3 g3 && (bx f4 g4))))
  | 5 => bx f0 g0
  | _ => bx f0 g0 && (bx f1 g1)

def cls (A : Ads) (k : Nat) : Addr := match k with
  | 0 => A.c_Put
  | 1 => A.c_Move
  | 2 => A.c_Cut
  | 3 => A.c_Lift
  | 4 => A.c_Wrap
  | 5 => A.c_Reverse
  | _ => A.c_SetValue

def dspq (K : PySem.W.Frag) (A : Ads) (k : Nat) : DSp := match k with
  | 0 => dsp_Put_eq K A
  | 1 => dsp_Move_eq K A
  | 2 => dsp_Cut_eq K A
  | 3 => dsp_Lift_eq K A
  | 4 => dsp_Wrap_eq K A
  | 5 => dsp_Reverse_eq K A
  | _ => dsp_SetValue_eq K A


theorem kwP210 {a b c : T} : kwPerm [2, 1, 0] [] [a, b, c] = [c, b, a] := rfl
theorem kwP3210 {a b c d : T} : kwPerm [3, 2, 1, 0] [] [a, b, c, d] = [d, c, b, a] := rfl
theorem kwP43210 {a b c d e : T} : kwPerm [4, 3, 2, 1, 0] [] [a, b, c, d, e] = [e, d, c, b, a] := rfl

variable {f0 f1 f2 f3 f4 : D} {g0 g1 g2 g3 g4 : D}

theorem ixq0 : D.ix (.lst [f0, f1, f2, f3, f4]) (.int 0) = some f0 := ixn (n := 0) rfl (by simp)

theorem ixq1 : D.ix (.lst [f0, f1, f2, f3, f4]) (.int 1) = some f1 := ixn (n := 1) rfl (by simp)

theorem ixq2 : D.ix (.lst [f0, f1, f2, f3, f4]) (.int 2) = some f2 := ixn (n := 2) rfl (by simp)

theorem ixq3 : D.ix (.lst [f0, f1, f2, f3, f4]) (.int 3) = some f3 := ixn (n := 3) rfl (by simp)

theorem ixq4 : D.ix (.lst [f0, f1, f2, f3, f4]) (.int 4) = some f4 := ixn (n := 4) rfl (by simp)

theorem mk_Put {q : D → List D → Prop} {er} (k : q .non [.ins A.c_Put [("name", f0), ("value", f1), ("parent", f2), ("rank", f3)]]) : dsp_Put_init K A [.par (.ins A.c_Put []), (.val f0), (.val f1), (.val f2), (.val f3)] q er := by
  unfold dsp_Put_init body_Put_init
  simp -implicitDefEqProofs -dsimp only [idd_eq, Nat.reduceEqDiff, ↓w_seq, ↓w_if, ↓dTest, ↓dOp, ↓dUn, ↓w_var, ↓getS_val, ↓getS_own, ↓getS_par, ↓dC, rd_val, rd_bor, ownD_own, ownD_par, rds_nil, rds_cons, ↓w_asg, ↓dCB, ↓dCons, ↓dNil, ↓dgName, ↓dgTup, ↓dgCons, ↓dgNil, ↓w_setIx, ↓w_ret, ↓w_retF, ↓w_retN, ↓w_next, ↓w_drop, ↓w_own, ↓w_brk, ↓w_cnt, ↓w_setF, ↓w_dput, ↓w_body, ↓dN, ↓dCall, ↓dCallF, argsOf_nil, argsOf_val, argsOf_bor, bors, ↓dV, ↓dTup, ↓dLst, vals_nil, vals_val, ↓w_par, ↓w_par3, ↓w_parVO, ↓w_parOV, ↓w_parOO, ↓dTruth, ↓dIsi, ↓dIsiT, ↓dInO, insOf_ins, ↓dDNew, ↓dDGet, ↓dDIn, toTup_lst, toTup_tup, pf_nil, lk_self, key_str, key_int, isN_non, isNN_non, kno_int, kno_str, kno_lst, kno_tup, kno_bl, kno_non, tyV_int, tyV_bl, tyV_str, tyV_lst, tyV_tup, tyV_non, clV_ty, clVT_nil, clVT_val, kit_same, kit_int_bool, kit_bool_int, kits_list, kits_tuple, ↓dNot, ↓dAnd, ↓dOr, ↓dIf, ↓dAndV, ↓dOrV, ↓dNotV, ↓dChain, ↓dMeth, ↓dMethF, ↓dKw, ↓dSl, ↓dNoP, ↓dPart, ↓w_for, diRng1, diRng2, diRevR1, diEnumX, diAny, items_lst, items_tup, ↓dLc, ↓dDc, ↓dFld, ownAt_def, setD, Sl.setD, isPar0, isParS, isPN, isP_val, isP_own, isP_no, isP_par, ↓doF, outs_nil, outs_cons, parD_par, parIx, putOuts, wipeD, ↓dBodyF, ↓dAppend, D.isLst, cmp_int, bool_bl, toInt_int, toInt_bl, truth_bl, truth_int, truth_non, len_lst, len_tup, D_add, D_sub, D_mod, eq_int, ne_int, neg_int, ix0, ix1, ix2, ix3, ix4, tx0, tx1, tx2, sx0, sx1, sx2, List.length_cons, List.length_nil, List.cons_append, List.nil_append, List.replicate, Nat.reduceAdd, Nat.reduceSub, List.getElem?_cons_zero, List.getElem?_cons_succ, List.getElem?_nil, List.set_cons_zero, List.set_cons_succ, Option.bind_some, Option.map_some, Option.isSome_some, true_and, and_true, if_true, if_false, Bool.false_eq_true, reduceIte, Int.reduceBEq, Bool.not_true, Bool.not_false, List.nodup_cons, List.nodup_nil, List.not_mem_nil, not_false_eq_true, List.mem_cons, or_false, ↓opt_f, ↓optF_some, ↓ite_cd, ↓cd_true, ↓cd_false, ↓forL_f, ↓lcL_f, ↓dcL_f, ↓noEr_run, ↓w_frz, ↓getW_own, ↓dListRg1, ↓dIndex, ↓dCKw, ↓dMake, ↓dList, seq_lst, seq_tup, kwP1, kwP10, beq_self_eq_true, ↓dEqO, ↓dBinO, ↓dNev, tyV_dct, tyV_ins, kno_dct, clV_ptr, kit_sameR, nf_same, nf_none, nf_int, nf_bool, nf_str, nf_lst, nf_tup, nf_dct, ↓dLenO, eq_bl, ne_bl, ↓hot_run, ↓w_try, ↓w_try0, ↓erH_cons, ↓erH_nil, ↓shutD_mk, x1_mk, x2_mk, ↓w_rz, ↓dXf, ↓dIsX, ↓dBinS, true_or, or_true, or_self, Nat.reduceLT, Ads.cs_name, Ads.cs_value, Ads.cs_parent, Ads.cs_rank, Ads.cs_first, Ads.cs_last, pf_ne p_name_value, pf_ne p_name_parent, pf_ne p_name_rank, pf_ne p_name_first, pf_ne p_name_last, pf_ne p_value_parent, pf_ne p_value_rank, pf_ne p_value_first, pf_ne p_value_last, pf_ne p_parent_rank, pf_ne p_parent_first, pf_ne p_parent_last, pf_ne p_rank_first, pf_ne p_rank_last, pf_ne p_first_last]
  exact k

theorem kn_Put (es : List (Str × D)) : D.kno A.isis (.ins A.c_Put es) = true := by simp [D.kno]

theorem io_Put (es : List (Str × D)) : (D.ins A.c_Put es).insOf A.c_Put = true := by simp [D.insOf]

theorem mk_Move {q : D → List D → Prop} {er} (k : q .non [.ins A.c_Move [("name", f0), ("parent", f1), ("rank", f2)]]) : dsp_Move_init K A [.par (.ins A.c_Move []), (.val f0), (.val f1), (.val f2)] q er := by
  unfold dsp_Move_init body_Move_init
  simp -implicitDefEqProofs -dsimp only [idd_eq, Nat.reduceEqDiff, ↓w_seq, ↓w_if, ↓dTest, ↓dOp, ↓dUn, ↓w_var, ↓getS_val, ↓getS_own, ↓getS_par, ↓dC, rd_val, rd_bor, ownD_own, ownD_par, rds_nil, rds_cons, ↓w_asg, ↓dCB, ↓dCons, ↓dNil, ↓dgName, ↓dgTup, ↓dgCons, ↓dgNil, ↓w_setIx, ↓w_ret, ↓w_retF, ↓w_retN, ↓w_next, ↓w_drop, ↓w_own, ↓w_brk, ↓w_cnt, ↓w_setF, ↓w_dput, ↓w_body, ↓dN, ↓dCall, ↓dCallF, argsOf_nil, argsOf_val, argsOf_bor, bors, ↓dV, ↓dTup, ↓dLst, vals_nil, vals_val, ↓w_par, ↓w_par3, ↓w_parVO, ↓w_parOV, ↓w_parOO, ↓dTruth, ↓dIsi, ↓dIsiT, ↓dInO, insOf_ins, ↓dDNew, ↓dDGet, ↓dDIn, toTup_lst, toTup_tup, pf_nil, lk_self, key_str, key_int, isN_non, isNN_non, kno_int, kno_str, kno_lst, kno_tup, kno_bl, kno_non, tyV_int, tyV_bl, tyV_str, tyV_lst, tyV_tup, tyV_non, clV_ty, clVT_nil, clVT_val, kit_same, kit_int_bool, kit_bool_int, kits_list, kits_tuple, ↓dNot, ↓dAnd, ↓dOr, ↓dIf, ↓dAndV, ↓dOrV, ↓dNotV, ↓dChain, ↓dMeth, ↓dMethF, ↓dKw, ↓dSl, ↓dNoP, ↓dPart, ↓w_for, diRng1, diRng2, diRevR1, diEnumX, diAny, items_lst, items_tup, ↓dLc, ↓dDc, ↓dFld, ownAt_def, setD, Sl.setD, isPar0, isParS, isPN, isP_val, isP_own, isP_no, isP_par, ↓doF, outs_nil, outs_cons, parD_par, parIx, putOuts, wipeD, ↓dBodyF, ↓dAppend, D.isLst, cmp_int, bool_bl, toInt_int, toInt_bl, truth_bl, truth_int, truth_non, len_lst, len_tup, D_add, D_sub, D_mod, eq_int, ne_int, neg_int, ix0, ix1, ix2, ix3, ix4, tx0, tx1, tx2, sx0, sx1, sx2, List.length_cons, List.length_nil, List.cons_append, List.nil_append, List.replicate, Nat.reduceAdd, Nat.reduceSub, List.getElem?_cons_zero, List.getElem?_cons_succ, List.getElem?_nil, List.set_cons_zero, List.set_cons_succ, Option.bind_some, Option.map_some, Option.isSome_some, true_and, and_true, if_true, if_false, Bool.false_eq_true, reduceIte, Int.reduceBEq, Bool.not_true, Bool.not_false, List.nodup_cons, List.nodup_nil, List.not_mem_nil, not_false_eq_true, List.mem_cons, or_false, ↓opt_f, ↓optF_some, ↓ite_cd, ↓cd_true, ↓cd_false, ↓forL_f, ↓lcL_f, ↓dcL_f, ↓noEr_run, ↓w_frz, ↓getW_own, ↓dListRg1, ↓dIndex, ↓dCKw, ↓dMake, ↓dList, seq_lst, seq_tup, kwP1, kwP10, beq_self_eq_true, ↓dEqO, ↓dBinO, ↓dNev, tyV_dct, tyV_ins, kno_dct, clV_ptr, kit_sameR, nf_same, nf_none, nf_int, nf_bool, nf_str, nf_lst, nf_tup, nf_dct, ↓dLenO, eq_bl, ne_bl, ↓hot_run, ↓w_try, ↓w_try0, ↓erH_cons, ↓erH_nil, ↓shutD_mk, x1_mk, x2_mk, ↓w_rz, ↓dXf, ↓dIsX, ↓dBinS, true_or, or_true, or_self, Nat.reduceLT, Ads.cs_name, Ads.cs_value, Ads.cs_parent, Ads.cs_rank, Ads.cs_first, Ads.cs_last, pf_ne p_name_value, pf_ne p_name_parent, pf_ne p_name_rank, pf_ne p_name_first, pf_ne p_name_last, pf_ne p_value_parent, pf_ne p_value_rank, pf_ne p_value_first, pf_ne p_value_last, pf_ne p_parent_rank, pf_ne p_parent_first, pf_ne p_parent_last, pf_ne p_rank_first, pf_ne p_rank_last, pf_ne p_first_last]
  exact k

theorem kn_Move (es : List (Str × D)) : D.kno A.isis (.ins A.c_Move es) = true := by simp [D.kno]

theorem io_Move (es : List (Str × D)) : (D.ins A.c_Move es).insOf A.c_Move = true := by simp [D.insOf]

theorem mk_Cut {q : D → List D → Prop} {er} (k : q .non [.ins A.c_Cut [("name", f0)]]) : dsp_Cut_init K A [.par (.ins A.c_Cut []), (.val f0)] q er := by
  unfold dsp_Cut_init body_Cut_init
  simp -implicitDefEqProofs -dsimp only [idd_eq, Nat.reduceEqDiff, ↓w_seq, ↓w_if, ↓dTest, ↓dOp, ↓dUn, ↓w_var, ↓getS_val, ↓getS_own, ↓getS_par, ↓dC, rd_val, rd_bor, ownD_own, ownD_par, rds_nil, rds_cons, ↓w_asg, ↓dCB, ↓dCons, ↓dNil, ↓dgName, ↓dgTup, ↓dgCons, ↓dgNil, ↓w_setIx, ↓w_ret, ↓w_retF, ↓w_retN, ↓w_next, ↓w_drop, ↓w_own, ↓w_brk, ↓w_cnt, ↓w_setF, ↓w_dput, ↓w_body, ↓dN, ↓dCall, ↓dCallF, argsOf_nil, argsOf_val, argsOf_bor, bors, ↓dV, ↓dTup, ↓dLst, vals_nil, vals_val, ↓w_par, ↓w_par3, ↓w_parVO, ↓w_parOV, ↓w_parOO, ↓dTruth, ↓dIsi, ↓dIsiT, ↓dInO, insOf_ins, ↓dDNew, ↓dDGet, ↓dDIn, toTup_lst, toTup_tup, pf_nil, lk_self, key_str, key_int, isN_non, isNN_non, kno_int, kno_str, kno_lst, kno_tup, kno_bl, kno_non, tyV_int, tyV_bl, tyV_str, tyV_lst, tyV_tup, tyV_non, clV_ty, clVT_nil, clVT_val, kit_same, kit_int_bool, kit_bool_int, kits_list, kits_tuple, ↓dNot, ↓dAnd, ↓dOr, ↓dIf, ↓dAndV, ↓dOrV, ↓dNotV, ↓dChain, ↓dMeth, ↓dMethF, ↓dKw, ↓dSl, ↓dNoP, ↓dPart, ↓w_for, diRng1, diRng2, diRevR1, diEnumX, diAny, items_lst, items_tup, ↓dLc, ↓dDc, ↓dFld, ownAt_def, setD, Sl.setD, isPar0, isParS, isPN, isP_val, isP_own, isP_no, isP_par, ↓doF, outs_nil, outs_cons, parD_par, parIx, putOuts, wipeD, ↓dBodyF, ↓dAppend, D.isLst, cmp_int, bool_bl, toInt_int, toInt_bl, truth_bl, truth_int, truth_non, len_lst, len_tup, D_add, D_sub, D_mod, eq_int, ne_int, neg_int, ix0, ix1, ix2, ix3, ix4, tx0, tx1, tx2, sx0, sx1, sx2, List.length_cons, List.length_nil, List.cons_append, List.nil_append, List.replicate, Nat.reduceAdd, Nat.reduceSub, List.getElem?_cons_zero, List.getElem?_cons_succ, List.getElem?_nil, List.set_cons_zero, List.set_cons_succ, Option.bind_some, Option.map_some, Option.isSome_some, true_and, and_true, if_true, if_false, Bool.false_eq_true, reduceIte, Int.reduceBEq, Bool.not_true, Bool.not_false, List.nodup_cons, List.nodup_nil, List.not_mem_nil, not_false_eq_true, List.mem_cons, or_false, ↓opt_f, ↓optF_some, ↓ite_cd, ↓cd_true, ↓cd_false, ↓forL_f, ↓lcL_f, ↓dcL_f, ↓noEr_run, ↓w_frz, ↓getW_own, ↓dListRg1, ↓dIndex, ↓dCKw, ↓dMake, ↓dList, seq_lst, seq_tup, kwP1, kwP10, beq_self_eq_true, ↓dEqO, ↓dBinO, ↓dNev, tyV_dct, tyV_ins, kno_dct, clV_ptr, kit_sameR, nf_same, nf_none, nf_int, nf_bool, nf_str, nf_lst, nf_tup, nf_dct, ↓dLenO, eq_bl, ne_bl, ↓hot_run, ↓w_try, ↓w_try0, ↓erH_cons, ↓erH_nil, ↓shutD_mk, x1_mk, x2_mk, ↓w_rz, ↓dXf, ↓dIsX, ↓dBinS, true_or, or_true, or_self, Nat.reduceLT, Ads.cs_name, Ads.cs_value, Ads.cs_parent, Ads.cs_rank, Ads.cs_first, Ads.cs_last, pf_ne p_name_value, pf_ne p_name_parent, pf_ne p_name_rank, pf_ne p_name_first, pf_ne p_name_last, pf_ne p_value_parent, pf_ne p_value_rank, pf_ne p_value_first, pf_ne p_value_last, pf_ne p_parent_rank, pf_ne p_parent_first, pf_ne p_parent_last, pf_ne p_rank_first, pf_ne p_rank_last, pf_ne p_first_last]
  exact k

theorem kn_Cut (es : List (Str × D)) : D.kno A.isis (.ins A.c_Cut es) = true := by simp [D.kno]

theorem io_Cut (es : List (Str × D)) : (D.ins A.c_Cut es).insOf A.c_Cut = true := by simp [D.insOf]

theorem mk_Lift {q : D → List D → Prop} {er} (k : q .non [.ins A.c_Lift [("name", f0)]]) : dsp_Lift_init K A [.par (.ins A.c_Lift []), (.val f0)] q er := by
  unfold dsp_Lift_init body_Lift_init
  simp -implicitDefEqProofs -dsimp only [idd_eq, Nat.reduceEqDiff, ↓w_seq, ↓w_if, ↓dTest, ↓dOp, ↓dUn, ↓w_var, ↓getS_val, ↓getS_own, ↓getS_par, ↓dC, rd_val, rd_bor, ownD_own, ownD_par, rds_nil, rds_cons, ↓w_asg, ↓dCB, ↓dCons, ↓dNil, ↓dgName, ↓dgTup, ↓dgCons, ↓dgNil, ↓w_setIx, ↓w_ret, ↓w_retF, ↓w_retN, ↓w_next, ↓w_drop, ↓w_own, ↓w_brk, ↓w_cnt, ↓w_setF, ↓w_dput, ↓w_body, ↓dN, ↓dCall, ↓dCallF, argsOf_nil, argsOf_val, argsOf_bor, bors, ↓dV, ↓dTup, ↓dLst, vals_nil, vals_val, ↓w_par, ↓w_par3, ↓w_parVO, ↓w_parOV, ↓w_parOO, ↓dTruth, ↓dIsi, ↓dIsiT, ↓dInO, insOf_ins, ↓dDNew, ↓dDGet, ↓dDIn, toTup_lst, toTup_tup, pf_nil, lk_self, key_str, key_int, isN_non, isNN_non, kno_int, kno_str, kno_lst, kno_tup, kno_bl, kno_non, tyV_int, tyV_bl, tyV_str, tyV_lst, tyV_tup, tyV_non, clV_ty, clVT_nil, clVT_val, kit_same, kit_int_bool, kit_bool_int, kits_list, kits_tuple, ↓dNot, ↓dAnd, ↓dOr, ↓dIf, ↓dAndV, ↓dOrV, ↓dNotV, ↓dChain, ↓dMeth, ↓dMethF, ↓dKw, ↓dSl, ↓dNoP, ↓dPart, ↓w_for, diRng1, diRng2, diRevR1, diEnumX, diAny, items_lst, items_tup, ↓dLc, ↓dDc, ↓dFld, ownAt_def, setD, Sl.setD, isPar0, isParS, isPN, isP_val, isP_own, isP_no, isP_par, ↓doF, outs_nil, outs_cons, parD_par, parIx, putOuts, wipeD, ↓dBodyF, ↓dAppend, D.isLst, cmp_int, bool_bl, toInt_int, toInt_bl, truth_bl, truth_int, truth_non, len_lst, len_tup, D_add, D_sub, D_mod, eq_int, ne_int, neg_int, ix0, ix1, ix2, ix3, ix4, tx0, tx1, tx2, sx0, sx1, sx2, List.length_cons, List.length_nil, List.cons_append, List.nil_append, List.replicate, Nat.reduceAdd, Nat.reduceSub, List.getElem?_cons_zero, List.getElem?_cons_succ, List.getElem?_nil, List.set_cons_zero, List.set_cons_succ, Option.bind_some, Option.map_some, Option.isSome_some, true_and, and_true, if_true, if_false, Bool.false_eq_true, reduceIte, Int.reduceBEq, Bool.not_true, Bool.not_false, List.nodup_cons, List.nodup_nil, List.not_mem_nil, not_false_eq_true, List.mem_cons, or_false, ↓opt_f, ↓optF_some, ↓ite_cd, ↓cd_true, ↓cd_false, ↓forL_f, ↓lcL_f, ↓dcL_f, ↓noEr_run, ↓w_frz, ↓getW_own, ↓dListRg1, ↓dIndex, ↓dCKw, ↓dMake, ↓dList, seq_lst, seq_tup, kwP1, kwP10, beq_self_eq_true, ↓dEqO, ↓dBinO, ↓dNev, tyV_dct, tyV_ins, kno_dct, clV_ptr, kit_sameR, nf_same, nf_none, nf_int, nf_bool, nf_str, nf_lst, nf_tup, nf_dct, ↓dLenO, eq_bl, ne_bl, ↓hot_run, ↓w_try, ↓w_try0, ↓erH_cons, ↓erH_nil, ↓shutD_mk, x1_mk, x2_mk, ↓w_rz, ↓dXf, ↓dIsX, ↓dBinS, true_or, or_true, or_self, Nat.reduceLT, Ads.cs_name, Ads.cs_value, Ads.cs_parent, Ads.cs_rank, Ads.cs_first, Ads.cs_last, pf_ne p_name_value, pf_ne p_name_parent, pf_ne p_name_rank, pf_ne p_name_first, pf_ne p_name_last, pf_ne p_value_parent, pf_ne p_value_rank, pf_ne p_value_first, pf_ne p_value_last, pf_ne p_parent_rank, pf_ne p_parent_first, pf_ne p_parent_last, pf_ne p_rank_first, pf_ne p_rank_last, pf_ne p_first_last]
  exact k

theorem kn_Lift (es : List (Str × D)) : D.kno A.isis (.ins A.c_Lift es) = true := by simp [D.kno]

theorem io_Lift (es : List (Str × D)) : (D.ins A.c_Lift es).insOf A.c_Lift = true := by simp [D.insOf]

theorem mk_Wrap {q : D → List D → Prop} {er} (k : q .non [.ins A.c_Wrap [("name", f0), ("value", f1), ("parent", f2), ("first", f3), ("last", f4)]]) : dsp_Wrap_init K A [.par (.ins A.c_Wrap []), (.val f0), (.val f1), (.val f2), (.val f3), (.val f4)] q er := by
  unfold dsp_Wrap_init body_Wrap_init
  simp -implicitDefEqProofs -dsimp only [idd_eq, Nat.reduceEqDiff, ↓w_seq, ↓w_if, ↓dTest, ↓dOp, ↓dUn, ↓w_var, ↓getS_val, ↓getS_own, ↓getS_par, ↓dC, rd_val, rd_bor, ownD_own, ownD_par, rds_nil, rds_cons, ↓w_asg, ↓dCB, ↓dCons, ↓dNil, ↓dgName, ↓dgTup, ↓dgCons, ↓dgNil, ↓w_setIx, ↓w_ret, ↓w_retF, ↓w_retN, ↓w_next, ↓w_drop, ↓w_own, ↓w_brk, ↓w_cnt, ↓w_setF, ↓w_dput, ↓w_body, ↓dN, ↓dCall, ↓dCallF, argsOf_nil, argsOf_val, argsOf_bor, bors, ↓dV, ↓dTup, ↓dLst, vals_nil, vals_val, ↓w_par, ↓w_par3, ↓w_parVO, ↓w_parOV, ↓w_parOO, ↓dTruth, ↓dIsi, ↓dIsiT, ↓dInO, insOf_ins, ↓dDNew, ↓dDGet, ↓dDIn, toTup_lst, toTup_tup, pf_nil, lk_self, key_str, key_int, isN_non, isNN_non, kno_int, kno_str, kno_lst, kno_tup, kno_bl, kno_non, tyV_int, tyV_bl, tyV_str, tyV_lst, tyV_tup, tyV_non, clV_ty, clVT_nil, clVT_val, kit_same, kit_int_bool, kit_bool_int, kits_list, kits_tuple, ↓dNot, ↓dAnd, ↓dOr, ↓dIf, ↓dAndV, ↓dOrV, ↓dNotV, ↓dChain, ↓dMeth, ↓dMethF, ↓dKw, ↓dSl, ↓dNoP, ↓dPart, ↓w_for, diRng1, diRng2, diRevR1, diEnumX, diAny, items_lst, items_tup, ↓dLc, ↓dDc, ↓dFld, ownAt_def, setD, Sl.setD, isPar0, isParS, isPN, isP_val, isP_own, isP_no, isP_par, ↓doF, outs_nil, outs_cons, parD_par, parIx, putOuts, wipeD, ↓dBodyF, ↓dAppend, D.isLst, cmp_int, bool_bl, toInt_int, toInt_bl, truth_bl, truth_int, truth_non, len_lst, len_tup, D_add, D_sub, D_mod, eq_int, ne_int, neg_int, ix0, ix1, ix2, ix3, ix4, tx0, tx1, tx2, sx0, sx1, sx2, List.length_cons, List.length_nil, List.cons_append, List.nil_append, List.replicate, Nat.reduceAdd, Nat.reduceSub, List.getElem?_cons_zero, List.getElem?_cons_succ, List.getElem?_nil, List.set_cons_zero, List.set_cons_succ, Option.bind_some, Option.map_some, Option.isSome_some, true_and, and_true, if_true, if_false, Bool.false_eq_true, reduceIte, Int.reduceBEq, Bool.not_true, Bool.not_false, List.nodup_cons, List.nodup_nil, List.not_mem_nil, not_false_eq_true, List.mem_cons, or_false, ↓opt_f, ↓optF_some, ↓ite_cd, ↓cd_true, ↓cd_false, ↓forL_f, ↓lcL_f, ↓dcL_f, ↓noEr_run, ↓w_frz, ↓getW_own, ↓dListRg1, ↓dIndex, ↓dCKw, ↓dMake, ↓dList, seq_lst, seq_tup, kwP1, kwP10, beq_self_eq_true, ↓dEqO, ↓dBinO, ↓dNev, tyV_dct, tyV_ins, kno_dct, clV_ptr, kit_sameR, nf_same, nf_none, nf_int, nf_bool, nf_str, nf_lst, nf_tup, nf_dct, ↓dLenO, eq_bl, ne_bl, ↓hot_run, ↓w_try, ↓w_try0, ↓erH_cons, ↓erH_nil, ↓shutD_mk, x1_mk, x2_mk, ↓w_rz, ↓dXf, ↓dIsX, ↓dBinS, true_or, or_true, or_self, Nat.reduceLT, Ads.cs_name, Ads.cs_value, Ads.cs_parent, Ads.cs_rank, Ads.cs_first, Ads.cs_last, pf_ne p_name_value, pf_ne p_name_parent, pf_ne p_name_rank, pf_ne p_name_first, pf_ne p_name_last, pf_ne p_value_parent, pf_ne p_value_rank, pf_ne p_value_first, pf_ne p_value_last, pf_ne p_parent_rank, pf_ne p_parent_first, pf_ne p_parent_last, pf_ne p_rank_first, pf_ne p_rank_last, pf_ne p_first_last]
  exact k

theorem kn_Wrap (es : List (Str × D)) : D.kno A.isis (.ins A.c_Wrap es) = true := by simp [D.kno]

theorem io_Wrap (es : List (Str × D)) : (D.ins A.c_Wrap es).insOf A.c_Wrap = true := by simp [D.insOf]

theorem mk_Reverse {q : D → List D → Prop} {er} (k : q .non [.ins A.c_Reverse [("parent", f0)]]) : dsp_Reverse_init K A [.par (.ins A.c_Reverse []), (.val f0)] q er := by
  unfold dsp_Reverse_init body_Reverse_init
  simp -implicitDefEqProofs -dsimp only [idd_eq, Nat.reduceEqDiff, ↓w_seq, ↓w_if, ↓dTest, ↓dOp, ↓dUn, ↓w_var, ↓getS_val, ↓getS_own, ↓getS_par, ↓dC, rd_val, rd_bor, ownD_own, ownD_par, rds_nil, rds_cons, ↓w_asg, ↓dCB, ↓dCons, ↓dNil, ↓dgName, ↓dgTup, ↓dgCons, ↓dgNil, ↓w_setIx, ↓w_ret, ↓w_retF, ↓w_retN, ↓w_next, ↓w_drop, ↓w_own, ↓w_brk, ↓w_cnt, ↓w_setF, ↓w_dput, ↓w_body, ↓dN, ↓dCall, ↓dCallF, argsOf_nil, argsOf_val, argsOf_bor, bors, ↓dV, ↓dTup, ↓dLst, vals_nil, vals_val, ↓w_par, ↓w_par3, ↓w_parVO, ↓w_parOV, ↓w_parOO, ↓dTruth, ↓dIsi, ↓dIsiT, ↓dInO, insOf_ins, ↓dDNew, ↓dDGet, ↓dDIn, toTup_lst, toTup_tup, pf_nil, lk_self, key_str, key_int, isN_non, isNN_non, kno_int, kno_str, kno_lst, kno_tup, kno_bl, kno_non, tyV_int, tyV_bl, tyV_str, tyV_lst, tyV_tup, tyV_non, clV_ty, clVT_nil, clVT_val, kit_same, kit_int_bool, kit_bool_int, kits_list, kits_tuple, ↓dNot, ↓dAnd, ↓dOr, ↓dIf, ↓dAndV, ↓dOrV, ↓dNotV, ↓dChain, ↓dMeth, ↓dMethF, ↓dKw, ↓dSl, ↓dNoP, ↓dPart, ↓w_for, diRng1, diRng2, diRevR1, diEnumX, diAny, items_lst, items_tup, ↓dLc, ↓dDc, ↓dFld, ownAt_def, setD, Sl.setD, isPar0, isParS, isPN, isP_val, isP_own, isP_no, isP_par, ↓doF, outs_nil, outs_cons, parD_par, parIx, putOuts, wipeD, ↓dBodyF, ↓dAppend, D.isLst, cmp_int, bool_bl, toInt_int, toInt_bl, truth_bl, truth_int, truth_non, len_lst, len_tup, D_add, D_sub, D_mod, eq_int, ne_int, neg_int, ix0, ix1, ix2, ix3, ix4, tx0, tx1, tx2, sx0, sx1, sx2, List.length_cons, List.length_nil, List.cons_append, List.nil_append, List.replicate, Nat.reduceAdd, Nat.reduceSub, List.getElem?_cons_zero, List.getElem?_cons_succ, List.getElem?_nil, List.set_cons_zero, List.set_cons_succ, Option.bind_some, Option.map_some, Option.isSome_some, true_and, and_true, if_true, if_false, Bool.false_eq_true, reduceIte, Int.reduceBEq, Bool.not_true, Bool.not_false, List.nodup_cons, List.nodup_nil, List.not_mem_nil, not_false_eq_true, List.mem_cons, or_false, ↓opt_f, ↓optF_some, ↓ite_cd, ↓cd_true, ↓cd_false, ↓forL_f, ↓lcL_f, ↓dcL_f, ↓noEr_run, ↓w_frz, ↓getW_own, ↓dListRg1, ↓dIndex, ↓dCKw, ↓dMake, ↓dList, seq_lst, seq_tup, kwP1, kwP10, beq_self_eq_true, ↓dEqO, ↓dBinO, ↓dNev, tyV_dct, tyV_ins, kno_dct, clV_ptr, kit_sameR, nf_same, nf_none, nf_int, nf_bool, nf_str, nf_lst, nf_tup, nf_dct, ↓dLenO, eq_bl, ne_bl, ↓hot_run, ↓w_try, ↓w_try0, ↓erH_cons, ↓erH_nil, ↓shutD_mk, x1_mk, x2_mk, ↓w_rz, ↓dXf, ↓dIsX, ↓dBinS, true_or, or_true, or_self, Nat.reduceLT, Ads.cs_name, Ads.cs_value, Ads.cs_parent, Ads.cs_rank, Ads.cs_first, Ads.cs_last, pf_ne p_name_value, pf_ne p_name_parent, pf_ne p_name_rank, pf_ne p_name_first, pf_ne p_name_last, pf_ne p_value_parent, pf_ne p_value_rank, pf_ne p_value_first, pf_ne p_value_last, pf_ne p_parent_rank, pf_ne p_parent_first, pf_ne p_parent_last, pf_ne p_rank_first, pf_ne p_rank_last, pf_ne p_first_last]
  exact k

theorem kn_Reverse (es : List (Str × D)) : D.kno A.isis (.ins A.c_Reverse es) = true := by simp [D.kno]

theorem io_Reverse (es : List (Str × D)) : (D.ins A.c_Reverse es).insOf A.c_Reverse = true := by simp [D.insOf]

theorem mk_SetValue {q : D → List D → Prop} {er} (k : q .non [.ins A.c_SetValue [("name", f0), ("value", f1)]]) : dsp_SetValue_init K A [.par (.ins A.c_SetValue []), (.val f0), (.val f1)] q er := by
  unfold dsp_SetValue_init body_SetValue_init
  simp -implicitDefEqProofs -dsimp only [idd_eq, Nat.reduceEqDiff, ↓w_seq, ↓w_if, ↓dTest, ↓dOp, ↓dUn, ↓w_var, ↓getS_val, ↓getS_own, ↓getS_par, ↓dC, rd_val, rd_bor, ownD_own, ownD_par, rds_nil, rds_cons, ↓w_asg, ↓dCB, ↓dCons, ↓dNil, ↓dgName, ↓dgTup, ↓dgCons, ↓dgNil, ↓w_setIx, ↓w_ret, ↓w_retF, ↓w_retN, ↓w_next, ↓w_drop, ↓w_own, ↓w_brk, ↓w_cnt, ↓w_setF, ↓w_dput, ↓w_body, ↓dN, ↓dCall, ↓dCallF, argsOf_nil, argsOf_val, argsOf_bor, bors, ↓dV, ↓dTup, ↓dLst, vals_nil, vals_val, ↓w_par, ↓w_par3, ↓w_parVO, ↓w_parOV, ↓w_parOO, ↓dTruth, ↓dIsi, ↓dIsiT, ↓dInO, insOf_ins, ↓dDNew, ↓dDGet, ↓dDIn, toTup_lst, toTup_tup, pf_nil, lk_self, key_str, key_int, isN_non, isNN_non, kno_int, kno_str, kno_lst, kno_tup, kno_bl, kno_non, tyV_int, tyV_bl, tyV_str, tyV_lst, tyV_tup, tyV_non, clV_ty, clVT_nil, clVT_val, kit_same, kit_int_bool, kit_bool_int, kits_list, kits_tuple, ↓dNot, ↓dAnd, ↓dOr, ↓dIf, ↓dAndV, ↓dOrV, ↓dNotV, ↓dChain, ↓dMeth, ↓dMethF, ↓dKw, ↓dSl, ↓dNoP, ↓dPart, ↓w_for, diRng1, diRng2, diRevR1, diEnumX, diAny, items_lst, items_tup, ↓dLc, ↓dDc, ↓dFld, ownAt_def, setD, Sl.setD, isPar0, isParS, isPN, isP_val, isP_own, isP_no, isP_par, ↓doF, outs_nil, outs_cons, parD_par, parIx, putOuts, wipeD, ↓dBodyF, ↓dAppend, D.isLst, cmp_int, bool_bl, toInt_int, toInt_bl, truth_bl, truth_int, truth_non, len_lst, len_tup, D_add, D_sub, D_mod, eq_int, ne_int, neg_int, ix0, ix1, ix2, ix3, ix4, tx0, tx1, tx2, sx0, sx1, sx2, List.length_cons, List.length_nil, List.cons_append, List.nil_append, List.replicate, Nat.reduceAdd, Nat.reduceSub, List.getElem?_cons_zero, List.getElem?_cons_succ, List.getElem?_nil, List.set_cons_zero, List.set_cons_succ, Option.bind_some, Option.map_some, Option.isSome_some, true_and, and_true, if_true, if_false, Bool.false_eq_true, reduceIte, Int.reduceBEq, Bool.not_true, Bool.not_false, List.nodup_cons, List.nodup_nil, List.not_mem_nil, not_false_eq_true, List.mem_cons, or_false, ↓opt_f, ↓optF_some, ↓ite_cd, ↓cd_true, ↓cd_false, ↓forL_f, ↓lcL_f, ↓dcL_f, ↓noEr_run, ↓w_frz, ↓getW_own, ↓dListRg1, ↓dIndex, ↓dCKw, ↓dMake, ↓dList, seq_lst, seq_tup, kwP1, kwP10, beq_self_eq_true, ↓dEqO, ↓dBinO, ↓dNev, tyV_dct, tyV_ins, kno_dct, clV_ptr, kit_sameR, nf_same, nf_none, nf_int, nf_bool, nf_str, nf_lst, nf_tup, nf_dct, ↓dLenO, eq_bl, ne_bl, ↓hot_run, ↓w_try, ↓w_try0, ↓erH_cons, ↓erH_nil, ↓shutD_mk, x1_mk, x2_mk, ↓w_rz, ↓dXf, ↓dIsX, ↓dBinS, true_or, or_true, or_self, Nat.reduceLT, Ads.cs_name, Ads.cs_value, Ads.cs_parent, Ads.cs_rank, Ads.cs_first, Ads.cs_last, pf_ne p_name_value, pf_ne p_name_parent, pf_ne p_name_rank, pf_ne p_name_first, pf_ne p_name_last, pf_ne p_value_parent, pf_ne p_value_rank, pf_ne p_value_first, pf_ne p_value_last, pf_ne p_parent_rank, pf_ne p_parent_first, pf_ne p_parent_last, pf_ne p_rank_first, pf_ne p_rank_last, pf_ne p_first_last]
  exact k

theorem kn_SetValue (es : List (Str × D)) : D.kno A.isis (.ins A.c_SetValue es) = true := by simp [D.kno]

theorem io_SetValue (es : List (Str × D)) : (D.ins A.c_SetValue es).insOf A.c_SetValue = true := by simp [D.insOf]

theorem deed_ok (k : Nat) (hk : k < 7) {q : D → List D → Prop} {er} (h : q (dd A k f0 f1 f2 f3 f4) []) : dsp_p_law_deed K A [.val (.int (k : Int)), .val (.lst [f0, f1, f2, f3, f4])] q er := by
  unfold dsp_p_law_deed body_p_law_deed
  match k, hk with
  | 0, _ => 
    simp -implicitDefEqProofs -dsimp only [idd_eq, Nat.reduceEqDiff, ↓w_seq, ↓w_if, ↓dTest, ↓dOp, ↓dUn, ↓w_var, ↓getS_val, ↓getS_own, ↓getS_par, ↓dC, rd_val, rd_bor, ownD_own, ownD_par, rds_nil, rds_cons, ↓w_asg, ↓dCB, ↓dCons, ↓dNil, ↓dgName, ↓dgTup, ↓dgCons, ↓dgNil, ↓w_setIx, ↓w_ret, ↓w_retF, ↓w_retN, ↓w_next, ↓w_drop, ↓w_own, ↓w_brk, ↓w_cnt, ↓w_setF, ↓w_dput, ↓w_body, ↓dN, ↓dCall, ↓dCallF, argsOf_nil, argsOf_val, argsOf_bor, bors, ↓dV, ↓dTup, ↓dLst, vals_nil, vals_val, ↓w_par, ↓w_par3, ↓w_parVO, ↓w_parOV, ↓w_parOO, ↓dTruth, ↓dIsi, ↓dIsiT, ↓dInO, insOf_ins, ↓dDNew, ↓dDGet, ↓dDIn, toTup_lst, toTup_tup, pf_nil, lk_self, key_str, key_int, isN_non, isNN_non, kno_int, kno_str, kno_lst, kno_tup, kno_bl, kno_non, tyV_int, tyV_bl, tyV_str, tyV_lst, tyV_tup, tyV_non, clV_ty, clVT_nil, clVT_val, kit_same, kit_int_bool, kit_bool_int, kits_list, kits_tuple, ↓dNot, ↓dAnd, ↓dOr, ↓dIf, ↓dAndV, ↓dOrV, ↓dNotV, ↓dChain, ↓dMeth, ↓dMethF, ↓dKw, ↓dSl, ↓dNoP, ↓dPart, ↓w_for, diRng1, diRng2, diRevR1, diEnumX, diAny, items_lst, items_tup, ↓dLc, ↓dDc, ↓dFld, ownAt_def, setD, Sl.setD, isPar0, isParS, isPN, isP_val, isP_own, isP_no, isP_par, ↓doF, outs_nil, outs_cons, parD_par, parIx, putOuts, wipeD, ↓dBodyF, ↓dAppend, D.isLst, cmp_int, bool_bl, toInt_int, toInt_bl, truth_bl, truth_int, truth_non, len_lst, len_tup, D_add, D_sub, D_mod, eq_int, ne_int, neg_int, ix0, ix1, ix2, ix3, ix4, tx0, tx1, tx2, sx0, sx1, sx2, List.length_cons, List.length_nil, List.cons_append, List.nil_append, List.replicate, Nat.reduceAdd, Nat.reduceSub, List.getElem?_cons_zero, List.getElem?_cons_succ, List.getElem?_nil, List.set_cons_zero, List.set_cons_succ, Option.bind_some, Option.map_some, Option.isSome_some, true_and, and_true, if_true, if_false, Bool.false_eq_true, reduceIte, Int.reduceBEq, Bool.not_true, Bool.not_false, List.nodup_cons, List.nodup_nil, List.not_mem_nil, not_false_eq_true, List.mem_cons, or_false, ↓opt_f, ↓optF_some, ↓ite_cd, ↓cd_true, ↓cd_false, ↓forL_f, ↓lcL_f, ↓dcL_f, ↓noEr_run, ↓w_frz, ↓getW_own, ↓dListRg1, ↓dIndex, ↓dCKw, ↓dMake, ↓dList, seq_lst, seq_tup, kwP1, kwP10, beq_self_eq_true, ↓dEqO, ↓dBinO, ↓dNev, tyV_dct, tyV_ins, kno_dct, clV_ptr, kit_sameR, nf_same, nf_none, nf_int, nf_bool, nf_str, nf_lst, nf_tup, nf_dct, ↓dLenO, eq_bl, ne_bl, ↓hot_run, ↓w_try, ↓w_try0, ↓erH_cons, ↓erH_nil, ↓shutD_mk, x1_mk, x2_mk, ↓w_rz, ↓dXf, ↓dIsX, ↓dBinS, true_or, or_true, or_self, Nat.reduceLT, Ads.cs_name, Ads.cs_value, Ads.cs_parent, Ads.cs_rank, Ads.cs_first, Ads.cs_last, ixq0, ixq1, ixq2, ixq3, ixq4, show ((0 : Nat) : Int) = 0 from rfl, io_Put, io_Move, io_Cut, io_Lift, io_Wrap, io_Reverse, io_SetValue, kwP210, kwP3210, kwP43210]
    refine mk_Put A ?_
    simp -implicitDefEqProofs -dsimp only [idd_eq, Nat.reduceEqDiff, ↓w_seq, ↓w_if, ↓dTest, ↓dOp, ↓dUn, ↓w_var, ↓getS_val, ↓getS_own, ↓getS_par, ↓dC, rd_val, rd_bor, ownD_own, ownD_par, rds_nil, rds_cons, ↓w_asg, ↓dCB, ↓dCons, ↓dNil, ↓dgName, ↓dgTup, ↓dgCons, ↓dgNil, ↓w_setIx, ↓w_ret, ↓w_retF, ↓w_retN, ↓w_next, ↓w_drop, ↓w_own, ↓w_brk, ↓w_cnt, ↓w_setF, ↓w_dput, ↓w_body, ↓dN, ↓dCall, ↓dCallF, argsOf_nil, argsOf_val, argsOf_bor, bors, ↓dV, ↓dTup, ↓dLst, vals_nil, vals_val, ↓w_par, ↓w_par3, ↓w_parVO, ↓w_parOV, ↓w_parOO, ↓dTruth, ↓dIsi, ↓dIsiT, ↓dInO, insOf_ins, ↓dDNew, ↓dDGet, ↓dDIn, toTup_lst, toTup_tup, pf_nil, lk_self, key_str, key_int, isN_non, isNN_non, kno_int, kno_str, kno_lst, kno_tup, kno_bl, kno_non, tyV_int, tyV_bl, tyV_str, tyV_lst, tyV_tup, tyV_non, clV_ty, clVT_nil, clVT_val, kit_same, kit_int_bool, kit_bool_int, kits_list, kits_tuple, ↓dNot, ↓dAnd, ↓dOr, ↓dIf, ↓dAndV, ↓dOrV, ↓dNotV, ↓dChain, ↓dMeth, ↓dMethF, ↓dKw, ↓dSl, ↓dNoP, ↓dPart, ↓w_for, diRng1, diRng2, diRevR1, diEnumX, diAny, items_lst, items_tup, ↓dLc, ↓dDc, ↓dFld, ownAt_def, setD, Sl.setD, isPar0, isParS, isPN, isP_val, isP_own, isP_no, isP_par, ↓doF, outs_nil, outs_cons, parD_par, parIx, putOuts, wipeD, ↓dBodyF, ↓dAppend, D.isLst, cmp_int, bool_bl, toInt_int, toInt_bl, truth_bl, truth_int, truth_non, len_lst, len_tup, D_add, D_sub, D_mod, eq_int, ne_int, neg_int, ix0, ix1, ix2, ix3, ix4, tx0, tx1, tx2, sx0, sx1, sx2, List.length_cons, List.length_nil, List.cons_append, List.nil_append, List.replicate, Nat.reduceAdd, Nat.reduceSub, List.getElem?_cons_zero, List.getElem?_cons_succ, List.getElem?_nil, List.set_cons_zero, List.set_cons_succ, Option.bind_some, Option.map_some, Option.isSome_some, true_and, and_true, if_true, if_false, Bool.false_eq_true, reduceIte, Int.reduceBEq, Bool.not_true, Bool.not_false, List.nodup_cons, List.nodup_nil, List.not_mem_nil, not_false_eq_true, List.mem_cons, or_false, ↓opt_f, ↓optF_some, ↓ite_cd, ↓cd_true, ↓cd_false, ↓forL_f, ↓lcL_f, ↓dcL_f, ↓noEr_run, ↓w_frz, ↓getW_own, ↓dListRg1, ↓dIndex, ↓dCKw, ↓dMake, ↓dList, seq_lst, seq_tup, kwP1, kwP10, beq_self_eq_true, ↓dEqO, ↓dBinO, ↓dNev, tyV_dct, tyV_ins, kno_dct, clV_ptr, kit_sameR, nf_same, nf_none, nf_int, nf_bool, nf_str, nf_lst, nf_tup, nf_dct, ↓dLenO, eq_bl, ne_bl, ↓hot_run, ↓w_try, ↓w_try0, ↓erH_cons, ↓erH_nil, ↓shutD_mk, x1_mk, x2_mk, ↓w_rz, ↓dXf, ↓dIsX, ↓dBinS, true_or, or_true, or_self, Nat.reduceLT, Ads.cs_name, Ads.cs_value, Ads.cs_parent, Ads.cs_rank, Ads.cs_first, Ads.cs_last, io_Put, io_Move, io_Cut, io_Lift, io_Wrap, io_Reverse, io_SetValue]
    exact h
  | 1, _ => 
    simp -implicitDefEqProofs -dsimp only [idd_eq, Nat.reduceEqDiff, ↓w_seq, ↓w_if, ↓dTest, ↓dOp, ↓dUn, ↓w_var, ↓getS_val, ↓getS_own, ↓getS_par, ↓dC, rd_val, rd_bor, ownD_own, ownD_par, rds_nil, rds_cons, ↓w_asg, ↓dCB, ↓dCons, ↓dNil, ↓dgName, ↓dgTup, ↓dgCons, ↓dgNil, ↓w_setIx, ↓w_ret, ↓w_retF, ↓w_retN, ↓w_next, ↓w_drop, ↓w_own, ↓w_brk, ↓w_cnt, ↓w_setF, ↓w_dput, ↓w_body, ↓dN, ↓dCall, ↓dCallF, argsOf_nil, argsOf_val, argsOf_bor, bors, ↓dV, ↓dTup, ↓dLst, vals_nil, vals_val, ↓w_par, ↓w_par3, ↓w_parVO, ↓w_parOV, ↓w_parOO, ↓dTruth, ↓dIsi, ↓dIsiT, ↓dInO, insOf_ins, ↓dDNew, ↓dDGet, ↓dDIn, toTup_lst, toTup_tup, pf_nil, lk_self, key_str, key_int, isN_non, isNN_non, kno_int, kno_str, kno_lst, kno_tup, kno_bl, kno_non, tyV_int, tyV_bl, tyV_str, tyV_lst, tyV_tup, tyV_non, clV_ty, clVT_nil, clVT_val, kit_same, kit_int_bool, kit_bool_int, kits_list, kits_tuple, ↓dNot, ↓dAnd, ↓dOr, ↓dIf, ↓dAndV, ↓dOrV, ↓dNotV, ↓dChain, ↓dMeth, ↓dMethF, ↓dKw, ↓dSl, ↓dNoP, ↓dPart, ↓w_for, diRng1, diRng2, diRevR1, diEnumX, diAny, items_lst, items_tup, ↓dLc, ↓dDc, ↓dFld, ownAt_def, setD, Sl.setD, isPar0, isParS, isPN, isP_val, isP_own, isP_no, isP_par, ↓doF, outs_nil, outs_cons, parD_par, parIx, putOuts, wipeD, ↓dBodyF, ↓dAppend, D.isLst, cmp_int, bool_bl, toInt_int, toInt_bl, truth_bl, truth_int, truth_non, len_lst, len_tup, D_add, D_sub, D_mod, eq_int, ne_int, neg_int, ix0, ix1, ix2, ix3, ix4, tx0, tx1, tx2, sx0, sx1, sx2, List.length_cons, List.length_nil, List.cons_append, List.nil_append, List.replicate, Nat.reduceAdd, Nat.reduceSub, List.getElem?_cons_zero, List.getElem?_cons_succ, List.getElem?_nil, List.set_cons_zero, List.set_cons_succ, Option.bind_some, Option.map_some, Option.isSome_some, true_and, and_true, if_true, if_false, Bool.false_eq_true, reduceIte, Int.reduceBEq, Bool.not_true, Bool.not_false, List.nodup_cons, List.nodup_nil, List.not_mem_nil, not_false_eq_true, List.mem_cons, or_false, ↓opt_f, ↓optF_some, ↓ite_cd, ↓cd_true, ↓cd_false, ↓forL_f, ↓lcL_f, ↓dcL_f, ↓noEr_run, ↓w_frz, ↓getW_own, ↓dListRg1, ↓dIndex, ↓dCKw, ↓dMake, ↓dList, seq_lst, seq_tup, kwP1, kwP10, beq_self_eq_true, ↓dEqO, ↓dBinO, ↓dNev, tyV_dct, tyV_ins, kno_dct, clV_ptr, kit_sameR, nf_same, nf_none, nf_int, nf_bool, nf_str, nf_lst, nf_tup, nf_dct, ↓dLenO, eq_bl, ne_bl, ↓hot_run, ↓w_try, ↓w_try0, ↓erH_cons, ↓erH_nil, ↓shutD_mk, x1_mk, x2_mk, ↓w_rz, ↓dXf, ↓dIsX, ↓dBinS, true_or, or_true, or_self, Nat.reduceLT, Ads.cs_name, Ads.cs_value, Ads.cs_parent, Ads.cs_rank, Ads.cs_first, Ads.cs_last, ixq0, ixq1, ixq2, ixq3, ixq4, show ((1 : Nat) : Int) = 1 from rfl, io_Put, io_Move, io_Cut, io_Lift, io_Wrap, io_Reverse, io_SetValue, kwP210, kwP3210, kwP43210]
    refine mk_Move A ?_
    simp -implicitDefEqProofs -dsimp only [idd_eq, Nat.reduceEqDiff, ↓w_seq, ↓w_if, ↓dTest, ↓dOp, ↓dUn, ↓w_var, ↓getS_val, ↓getS_own, ↓getS_par, ↓dC, rd_val, rd_bor, ownD_own, ownD_par, rds_nil, rds_cons, ↓w_asg, ↓dCB, ↓dCons, ↓dNil, ↓dgName, ↓dgTup, ↓dgCons, ↓dgNil, ↓w_setIx, ↓w_ret, ↓w_retF, ↓w_retN, ↓w_next, ↓w_drop, ↓w_own, ↓w_brk, ↓w_cnt, ↓w_setF, ↓w_dput, ↓w_body, ↓dN, ↓dCall, ↓dCallF, argsOf_nil, argsOf_val, argsOf_bor, bors, ↓dV, ↓dTup, ↓dLst, vals_nil, vals_val, ↓w_par, ↓w_par3, ↓w_parVO, ↓w_parOV, ↓w_parOO, ↓dTruth, ↓dIsi, ↓dIsiT, ↓dInO, insOf_ins, ↓dDNew, ↓dDGet, ↓dDIn, toTup_lst, toTup_tup, pf_nil, lk_self, key_str, key_int, isN_non, isNN_non, kno_int, kno_str, kno_lst, kno_tup, kno_bl, kno_non, tyV_int, tyV_bl, tyV_str, tyV_lst, tyV_tup, tyV_non, clV_ty, clVT_nil, clVT_val, kit_same, kit_int_bool, kit_bool_int, kits_list, kits_tuple, ↓dNot, ↓dAnd, ↓dOr, ↓dIf, ↓dAndV, ↓dOrV, ↓dNotV, ↓dChain, ↓dMeth, ↓dMethF, ↓dKw, ↓dSl, ↓dNoP, ↓dPart, ↓w_for, diRng1, diRng2, diRevR1, diEnumX, diAny, items_lst, items_tup, ↓dLc, ↓dDc, ↓dFld, ownAt_def, setD, Sl.setD, isPar0, isParS, isPN, isP_val, isP_own, isP_no, isP_par, ↓doF, outs_nil, outs_cons, parD_par, parIx, putOuts, wipeD, ↓dBodyF, ↓dAppend, D.isLst, cmp_int, bool_bl, toInt_int, toInt_bl, truth_bl, truth_int, truth_non, len_lst, len_tup, D_add, D_sub, D_mod, eq_int, ne_int, neg_int, ix0, ix1, ix2, ix3, ix4, tx0, tx1, tx2, sx0, sx1, sx2, List.length_cons, List.length_nil, List.cons_append, List.nil_append, List.replicate, Nat.reduceAdd, Nat.reduceSub, List.getElem?_cons_zero, List.getElem?_cons_succ, List.getElem?_nil, List.set_cons_zero, List.set_cons_succ, Option.bind_some, Option.map_some, Option.isSome_some, true_and, and_true, if_true, if_false, Bool.false_eq_true, reduceIte, Int.reduceBEq, Bool.not_true, Bool.not_false, List.nodup_cons, List.nodup_nil, List.not_mem_nil, not_false_eq_true, List.mem_cons, or_false, ↓opt_f, ↓optF_some, ↓ite_cd, ↓cd_true, ↓cd_false, ↓forL_f, ↓lcL_f, ↓dcL_f, ↓noEr_run, ↓w_frz, ↓getW_own, ↓dListRg1, ↓dIndex, ↓dCKw, ↓dMake, ↓dList, seq_lst, seq_tup, kwP1, kwP10, beq_self_eq_true, ↓dEqO, ↓dBinO, ↓dNev, tyV_dct, tyV_ins, kno_dct, clV_ptr, kit_sameR, nf_same, nf_none, nf_int, nf_bool, nf_str, nf_lst, nf_tup, nf_dct, ↓dLenO, eq_bl, ne_bl, ↓hot_run, ↓w_try, ↓w_try0, ↓erH_cons, ↓erH_nil, ↓shutD_mk, x1_mk, x2_mk, ↓w_rz, ↓dXf, ↓dIsX, ↓dBinS, true_or, or_true, or_self, Nat.reduceLT, Ads.cs_name, Ads.cs_value, Ads.cs_parent, Ads.cs_rank, Ads.cs_first, Ads.cs_last, io_Put, io_Move, io_Cut, io_Lift, io_Wrap, io_Reverse, io_SetValue]
    exact h
  | 2, _ => 
    simp -implicitDefEqProofs -dsimp only [idd_eq, Nat.reduceEqDiff, ↓w_seq, ↓w_if, ↓dTest, ↓dOp, ↓dUn, ↓w_var, ↓getS_val, ↓getS_own, ↓getS_par, ↓dC, rd_val, rd_bor, ownD_own, ownD_par, rds_nil, rds_cons, ↓w_asg, ↓dCB, ↓dCons, ↓dNil, ↓dgName, ↓dgTup, ↓dgCons, ↓dgNil, ↓w_setIx, ↓w_ret, ↓w_retF, ↓w_retN, ↓w_next, ↓w_drop, ↓w_own, ↓w_brk, ↓w_cnt, ↓w_setF, ↓w_dput, ↓w_body, ↓dN, ↓dCall, ↓dCallF, argsOf_nil, argsOf_val, argsOf_bor, bors, ↓dV, ↓dTup, ↓dLst, vals_nil, vals_val, ↓w_par, ↓w_par3, ↓w_parVO, ↓w_parOV, ↓w_parOO, ↓dTruth, ↓dIsi, ↓dIsiT, ↓dInO, insOf_ins, ↓dDNew, ↓dDGet, ↓dDIn, toTup_lst, toTup_tup, pf_nil, lk_self, key_str, key_int, isN_non, isNN_non, kno_int, kno_str, kno_lst, kno_tup, kno_bl, kno_non, tyV_int, tyV_bl, tyV_str, tyV_lst, tyV_tup, tyV_non, clV_ty, clVT_nil, clVT_val, kit_same, kit_int_bool, kit_bool_int, kits_list, kits_tuple, ↓dNot, ↓dAnd, ↓dOr, ↓dIf, ↓dAndV, ↓dOrV, ↓dNotV, ↓dChain, ↓dMeth, ↓dMethF, ↓dKw, ↓dSl, ↓dNoP, ↓dPart, ↓w_for, diRng1, diRng2, diRevR1, diEnumX, diAny, items_lst, items_tup, ↓dLc, ↓dDc, ↓dFld, ownAt_def, setD, Sl.setD, isPar0, isParS, isPN, isP_val, isP_own, isP_no, isP_par, ↓doF, outs_nil, outs_cons, parD_par, parIx, putOuts, wipeD, ↓dBodyF, ↓dAppend, D.isLst, cmp_int, bool_bl, toInt_int, toInt_bl, truth_bl, truth_int, truth_non, len_lst, len_tup, D_add, D_sub, D_mod, eq_int, ne_int, neg_int, ix0, ix1, ix2, ix3, ix4, tx0, tx1, tx2, sx0, sx1, sx2, List.length_cons, List.length_nil, List.cons_append, List.nil_append, List.replicate, Nat.reduceAdd, Nat.reduceSub, List.getElem?_cons_zero, List.getElem?_cons_succ, List.getElem?_nil, List.set_cons_zero, List.set_cons_succ, Option.bind_some, Option.map_some, Option.isSome_some, true_and, and_true, if_true, if_false, Bool.false_eq_true, reduceIte, Int.reduceBEq, Bool.not_true, Bool.not_false, List.nodup_cons, List.nodup_nil, List.not_mem_nil, not_false_eq_true, List.mem_cons, or_false, ↓opt_f, ↓optF_some, ↓ite_cd, ↓cd_true, ↓cd_false, ↓forL_f, ↓lcL_f, ↓dcL_f, ↓noEr_run, ↓w_frz, ↓getW_own, ↓dListRg1, ↓dIndex, ↓dCKw, ↓dMake, ↓dList, seq_lst, seq_tup, kwP1, kwP10, beq_self_eq_true, ↓dEqO, ↓dBinO, ↓dNev, tyV_dct, tyV_ins, kno_dct, clV_ptr, kit_sameR, nf_same, nf_none, nf_int, nf_bool, nf_str, nf_lst, nf_tup, nf_dct, ↓dLenO, eq_bl, ne_bl, ↓hot_run, ↓w_try, ↓w_try0, ↓erH_cons, ↓erH_nil, ↓shutD_mk, x1_mk, x2_mk, ↓w_rz, ↓dXf, ↓dIsX, ↓dBinS, true_or, or_true, or_self, Nat.reduceLT, Ads.cs_name, Ads.cs_value, Ads.cs_parent, Ads.cs_rank, Ads.cs_first, Ads.cs_last, ixq0, ixq1, ixq2, ixq3, ixq4, show ((2 : Nat) : Int) = 2 from rfl, io_Put, io_Move, io_Cut, io_Lift, io_Wrap, io_Reverse, io_SetValue, kwP210, kwP3210, kwP43210]
    refine mk_Cut A ?_
    simp -implicitDefEqProofs -dsimp only [idd_eq, Nat.reduceEqDiff, ↓w_seq, ↓w_if, ↓dTest, ↓dOp, ↓dUn, ↓w_var, ↓getS_val, ↓getS_own, ↓getS_par, ↓dC, rd_val, rd_bor, ownD_own, ownD_par, rds_nil, rds_cons, ↓w_asg, ↓dCB, ↓dCons, ↓dNil, ↓dgName, ↓dgTup, ↓dgCons, ↓dgNil, ↓w_setIx, ↓w_ret, ↓w_retF, ↓w_retN, ↓w_next, ↓w_drop, ↓w_own, ↓w_brk, ↓w_cnt, ↓w_setF, ↓w_dput, ↓w_body, ↓dN, ↓dCall, ↓dCallF, argsOf_nil, argsOf_val, argsOf_bor, bors, ↓dV, ↓dTup, ↓dLst, vals_nil, vals_val, ↓w_par, ↓w_par3, ↓w_parVO, ↓w_parOV, ↓w_parOO, ↓dTruth, ↓dIsi, ↓dIsiT, ↓dInO, insOf_ins, ↓dDNew, ↓dDGet, ↓dDIn, toTup_lst, toTup_tup, pf_nil, lk_self, key_str, key_int, isN_non, isNN_non, kno_int, kno_str, kno_lst, kno_tup, kno_bl, kno_non, tyV_int, tyV_bl, tyV_str, tyV_lst, tyV_tup, tyV_non, clV_ty, clVT_nil, clVT_val, kit_same, kit_int_bool, kit_bool_int, kits_list, kits_tuple, ↓dNot, ↓dAnd, ↓dOr, ↓dIf, ↓dAndV, ↓dOrV, ↓dNotV, ↓dChain, ↓dMeth, ↓dMethF, ↓dKw, ↓dSl, ↓dNoP, ↓dPart, ↓w_for, diRng1, diRng2, diRevR1, diEnumX, diAny, items_lst, items_tup, ↓dLc, ↓dDc, ↓dFld, ownAt_def, setD, Sl.setD, isPar0, isParS, isPN, isP_val, isP_own, isP_no, isP_par, ↓doF, outs_nil, outs_cons, parD_par, parIx, putOuts, wipeD, ↓dBodyF, ↓dAppend, D.isLst, cmp_int, bool_bl, toInt_int, toInt_bl, truth_bl, truth_int, truth_non, len_lst, len_tup, D_add, D_sub, D_mod, eq_int, ne_int, neg_int, ix0, ix1, ix2, ix3, ix4, tx0, tx1, tx2, sx0, sx1, sx2, List.length_cons, List.length_nil, List.cons_append, List.nil_append, List.replicate, Nat.reduceAdd, Nat.reduceSub, List.getElem?_cons_zero, List.getElem?_cons_succ, List.getElem?_nil, List.set_cons_zero, List.set_cons_succ, Option.bind_some, Option.map_some, Option.isSome_some, true_and, and_true, if_true, if_false, Bool.false_eq_true, reduceIte, Int.reduceBEq, Bool.not_true, Bool.not_false, List.nodup_cons, List.nodup_nil, List.not_mem_nil, not_false_eq_true, List.mem_cons, or_false, ↓opt_f, ↓optF_some, ↓ite_cd, ↓cd_true, ↓cd_false, ↓forL_f, ↓lcL_f, ↓dcL_f, ↓noEr_run, ↓w_frz, ↓getW_own, ↓dListRg1, ↓dIndex, ↓dCKw, ↓dMake, ↓dList, seq_lst, seq_tup, kwP1, kwP10, beq_self_eq_true, ↓dEqO, ↓dBinO, ↓dNev, tyV_dct, tyV_ins, kno_dct, clV_ptr, kit_sameR, nf_same, nf_none, nf_int, nf_bool, nf_str, nf_lst, nf_tup, nf_dct, ↓dLenO, eq_bl, ne_bl, ↓hot_run, ↓w_try, ↓w_try0, ↓erH_cons, ↓erH_nil, ↓shutD_mk, x1_mk, x2_mk, ↓w_rz, ↓dXf, ↓dIsX, ↓dBinS, true_or, or_true, or_self, Nat.reduceLT, Ads.cs_name, Ads.cs_value, Ads.cs_parent, Ads.cs_rank, Ads.cs_first, Ads.cs_last, io_Put, io_Move, io_Cut, io_Lift, io_Wrap, io_Reverse, io_SetValue]
    exact h
  | 3, _ => 
    simp -implicitDefEqProofs -dsimp only [idd_eq, Nat.reduceEqDiff, ↓w_seq, ↓w_if, ↓dTest, ↓dOp, ↓dUn, ↓w_var, ↓getS_val, ↓getS_own, ↓getS_par, ↓dC, rd_val, rd_bor, ownD_own, ownD_par, rds_nil, rds_cons, ↓w_asg, ↓dCB, ↓dCons, ↓dNil, ↓dgName, ↓dgTup, ↓dgCons, ↓dgNil, ↓w_setIx, ↓w_ret, ↓w_retF, ↓w_retN, ↓w_next, ↓w_drop, ↓w_own, ↓w_brk, ↓w_cnt, ↓w_setF, ↓w_dput, ↓w_body, ↓dN, ↓dCall, ↓dCallF, argsOf_nil, argsOf_val, argsOf_bor, bors, ↓dV, ↓dTup, ↓dLst, vals_nil, vals_val, ↓w_par, ↓w_par3, ↓w_parVO, ↓w_parOV, ↓w_parOO, ↓dTruth, ↓dIsi, ↓dIsiT, ↓dInO, insOf_ins, ↓dDNew, ↓dDGet, ↓dDIn, toTup_lst, toTup_tup, pf_nil, lk_self, key_str, key_int, isN_non, isNN_non, kno_int, kno_str, kno_lst, kno_tup, kno_bl, kno_non, tyV_int, tyV_bl, tyV_str, tyV_lst, tyV_tup, tyV_non, clV_ty, clVT_nil, clVT_val, kit_same, kit_int_bool, kit_bool_int, kits_list, kits_tuple, ↓dNot, ↓dAnd, ↓dOr, ↓dIf, ↓dAndV, ↓dOrV, ↓dNotV, ↓dChain, ↓dMeth, ↓dMethF, ↓dKw, ↓dSl, ↓dNoP, ↓dPart, ↓w_for, diRng1, diRng2, diRevR1, diEnumX, diAny, items_lst, items_tup, ↓dLc, ↓dDc, ↓dFld, ownAt_def, setD, Sl.setD, isPar0, isParS, isPN, isP_val, isP_own, isP_no, isP_par, ↓doF, outs_nil, outs_cons, parD_par, parIx, putOuts, wipeD, ↓dBodyF, ↓dAppend, D.isLst, cmp_int, bool_bl, toInt_int, toInt_bl, truth_bl, truth_int, truth_non, len_lst, len_tup, D_add, D_sub, D_mod, eq_int, ne_int, neg_int, ix0, ix1, ix2, ix3, ix4, tx0, tx1, tx2, sx0, sx1, sx2, List.length_cons, List.length_nil, List.cons_append, List.nil_append, List.replicate, Nat.reduceAdd, Nat.reduceSub, List.getElem?_cons_zero, List.getElem?_cons_succ, List.getElem?_nil, List.set_cons_zero, List.set_cons_succ, Option.bind_some, Option.map_some, Option.isSome_some, true_and, and_true, if_true, if_false, Bool.false_eq_true, reduceIte, Int.reduceBEq, Bool.not_true, Bool.not_false, List.nodup_cons, List.nodup_nil, List.not_mem_nil, not_false_eq_true, List.mem_cons, or_false, ↓opt_f, ↓optF_some, ↓ite_cd, ↓cd_true, ↓cd_false, ↓forL_f, ↓lcL_f, ↓dcL_f, ↓noEr_run, ↓w_frz, ↓getW_own, ↓dListRg1, ↓dIndex, ↓dCKw, ↓dMake, ↓dList, seq_lst, seq_tup, kwP1, kwP10, beq_self_eq_true, ↓dEqO, ↓dBinO, ↓dNev, tyV_dct, tyV_ins, kno_dct, clV_ptr, kit_sameR, nf_same, nf_none, nf_int, nf_bool, nf_str, nf_lst, nf_tup, nf_dct, ↓dLenO, eq_bl, ne_bl, ↓hot_run, ↓w_try, ↓w_try0, ↓erH_cons, ↓erH_nil, ↓shutD_mk, x1_mk, x2_mk, ↓w_rz, ↓dXf, ↓dIsX, ↓dBinS, true_or, or_true, or_self, Nat.reduceLT, Ads.cs_name, Ads.cs_value, Ads.cs_parent, Ads.cs_rank, Ads.cs_first, Ads.cs_last, ixq0, ixq1, ixq2, ixq3, ixq4, show ((3 : Nat) : Int) = 3 from rfl, io_Put, io_Move, io_Cut, io_Lift, io_Wrap, io_Reverse, io_SetValue, kwP210, kwP3210, kwP43210]
    refine mk_Lift A ?_
    simp -implicitDefEqProofs -dsimp only [idd_eq, Nat.reduceEqDiff, ↓w_seq, ↓w_if, ↓dTest, ↓dOp, ↓dUn, ↓w_var, ↓getS_val, ↓getS_own, ↓getS_par, ↓dC, rd_val, rd_bor, ownD_own, ownD_par, rds_nil, rds_cons, ↓w_asg, ↓dCB, ↓dCons, ↓dNil, ↓dgName, ↓dgTup, ↓dgCons, ↓dgNil, ↓w_setIx, ↓w_ret, ↓w_retF, ↓w_retN, ↓w_next, ↓w_drop, ↓w_own, ↓w_brk, ↓w_cnt, ↓w_setF, ↓w_dput, ↓w_body, ↓dN, ↓dCall, ↓dCallF, argsOf_nil, argsOf_val, argsOf_bor, bors, ↓dV, ↓dTup, ↓dLst, vals_nil, vals_val, ↓w_par, ↓w_par3, ↓w_parVO, ↓w_parOV, ↓w_parOO, ↓dTruth, ↓dIsi, ↓dIsiT, ↓dInO, insOf_ins, ↓dDNew, ↓dDGet, ↓dDIn, toTup_lst, toTup_tup, pf_nil, lk_self, key_str, key_int, isN_non, isNN_non, kno_int, kno_str, kno_lst, kno_tup, kno_bl, kno_non, tyV_int, tyV_bl, tyV_str, tyV_lst, tyV_tup, tyV_non, clV_ty, clVT_nil, clVT_val, kit_same, kit_int_bool, kit_bool_int, kits_list, kits_tuple, ↓dNot, ↓dAnd, ↓dOr, ↓dIf, ↓dAndV, ↓dOrV, ↓dNotV, ↓dChain, ↓dMeth, ↓dMethF, ↓dKw, ↓dSl, ↓dNoP, ↓dPart, ↓w_for, diRng1, diRng2, diRevR1, diEnumX, diAny, items_lst, items_tup, ↓dLc, ↓dDc, ↓dFld, ownAt_def, setD, Sl.setD, isPar0, isParS, isPN, isP_val, isP_own, isP_no, isP_par, ↓doF, outs_nil, outs_cons, parD_par, parIx, putOuts, wipeD, ↓dBodyF, ↓dAppend, D.isLst, cmp_int, bool_bl, toInt_int, toInt_bl, truth_bl, truth_int, truth_non, len_lst, len_tup, D_add, D_sub, D_mod, eq_int, ne_int, neg_int, ix0, ix1, ix2, ix3, ix4, tx0, tx1, tx2, sx0, sx1, sx2, List.length_cons, List.length_nil, List.cons_append, List.nil_append, List.replicate, Nat.reduceAdd, Nat.reduceSub, List.getElem?_cons_zero, List.getElem?_cons_succ, List.getElem?_nil, List.set_cons_zero, List.set_cons_succ, Option.bind_some, Option.map_some, Option.isSome_some, true_and, and_true, if_true, if_false, Bool.false_eq_true, reduceIte, Int.reduceBEq, Bool.not_true, Bool.not_false, List.nodup_cons, List.nodup_nil, List.not_mem_nil, not_false_eq_true, List.mem_cons, or_false, ↓opt_f, ↓optF_some, ↓ite_cd, ↓cd_true, ↓cd_false, ↓forL_f, ↓lcL_f, ↓dcL_f, ↓noEr_run, ↓w_frz, ↓getW_own, ↓dListRg1, ↓dIndex, ↓dCKw, ↓dMake, ↓dList, seq_lst, seq_tup, kwP1, kwP10, beq_self_eq_true, ↓dEqO, ↓dBinO, ↓dNev, tyV_dct, tyV_ins, kno_dct, clV_ptr, kit_sameR, nf_same, nf_none, nf_int, nf_bool, nf_str, nf_lst, nf_tup, nf_dct, ↓dLenO, eq_bl, ne_bl, ↓hot_run, ↓w_try, ↓w_try0, ↓erH_cons, ↓erH_nil, ↓shutD_mk, x1_mk, x2_mk, ↓w_rz, ↓dXf, ↓dIsX, ↓dBinS, true_or, or_true, or_self, Nat.reduceLT, Ads.cs_name, Ads.cs_value, Ads.cs_parent, Ads.cs_rank, Ads.cs_first, Ads.cs_last, io_Put, io_Move, io_Cut, io_Lift, io_Wrap, io_Reverse, io_SetValue]
    exact h
  | 4, _ => 
    simp -implicitDefEqProofs -dsimp only [idd_eq, Nat.reduceEqDiff, ↓w_seq, ↓w_if, ↓dTest, ↓dOp, ↓dUn, ↓w_var, ↓getS_val, ↓getS_own, ↓getS_par, ↓dC, rd_val, rd_bor, ownD_own, ownD_par, rds_nil, rds_cons, ↓w_asg, ↓dCB, ↓dCons, ↓dNil, ↓dgName, ↓dgTup, ↓dgCons, ↓dgNil, ↓w_setIx, ↓w_ret, ↓w_retF, ↓w_retN, ↓w_next, ↓w_drop, ↓w_own, ↓w_brk, ↓w_cnt, ↓w_setF, ↓w_dput, ↓w_body, ↓dN, ↓dCall, ↓dCallF, argsOf_nil, argsOf_val, argsOf_bor, bors, ↓dV, ↓dTup, ↓dLst, vals_nil, vals_val, ↓w_par, ↓w_par3, ↓w_parVO, ↓w_parOV, ↓w_parOO, ↓dTruth, ↓dIsi, ↓dIsiT, ↓dInO, insOf_ins, ↓dDNew, ↓dDGet, ↓dDIn, toTup_lst, toTup_tup, pf_nil, lk_self, key_str, key_int, isN_non, isNN_non, kno_int, kno_str, kno_lst, kno_tup, kno_bl, kno_non, tyV_int, tyV_bl, tyV_str, tyV_lst, tyV_tup, tyV_non, clV_ty, clVT_nil, clVT_val, kit_same, kit_int_bool, kit_bool_int, kits_list, kits_tuple, ↓dNot, ↓dAnd, ↓dOr, ↓dIf, ↓dAndV, ↓dOrV, ↓dNotV, ↓dChain, ↓dMeth, ↓dMethF, ↓dKw, ↓dSl, ↓dNoP, ↓dPart, ↓w_for, diRng1, diRng2, diRevR1, diEnumX, diAny, items_lst, items_tup, ↓dLc, ↓dDc, ↓dFld, ownAt_def, setD, Sl.setD, isPar0, isParS, isPN, isP_val, isP_own, isP_no, isP_par, ↓doF, outs_nil, outs_cons, parD_par, parIx, putOuts, wipeD, ↓dBodyF, ↓dAppend, D.isLst, cmp_int, bool_bl, toInt_int, toInt_bl, truth_bl, truth_int, truth_non, len_lst, len_tup, D_add, D_sub, D_mod, eq_int, ne_int, neg_int, ix0, ix1, ix2, ix3, ix4, tx0, tx1, tx2, sx0, sx1, sx2, List.length_cons, List.length_nil, List.cons_append, List.nil_append, List.replicate, Nat.reduceAdd, Nat.reduceSub, List.getElem?_cons_zero, List.getElem?_cons_succ, List.getElem?_nil, List.set_cons_zero, List.set_cons_succ, Option.bind_some, Option.map_some, Option.isSome_some, true_and, and_true, if_true, if_false, Bool.false_eq_true, reduceIte, Int.reduceBEq, Bool.not_true, Bool.not_false, List.nodup_cons, List.nodup_nil, List.not_mem_nil, not_false_eq_true, List.mem_cons, or_false, ↓opt_f, ↓optF_some, ↓ite_cd, ↓cd_true, ↓cd_false, ↓forL_f, ↓lcL_f, ↓dcL_f, ↓noEr_run, ↓w_frz, ↓getW_own, ↓dListRg1, ↓dIndex, ↓dCKw, ↓dMake, ↓dList, seq_lst, seq_tup, kwP1, kwP10, beq_self_eq_true, ↓dEqO, ↓dBinO, ↓dNev, tyV_dct, tyV_ins, kno_dct, clV_ptr, kit_sameR, nf_same, nf_none, nf_int, nf_bool, nf_str, nf_lst, nf_tup, nf_dct, ↓dLenO, eq_bl, ne_bl, ↓hot_run, ↓w_try, ↓w_try0, ↓erH_cons, ↓erH_nil, ↓shutD_mk, x1_mk, x2_mk, ↓w_rz, ↓dXf, ↓dIsX, ↓dBinS, true_or, or_true, or_self, Nat.reduceLT, Ads.cs_name, Ads.cs_value, Ads.cs_parent, Ads.cs_rank, Ads.cs_first, Ads.cs_last, ixq0, ixq1, ixq2, ixq3, ixq4, show ((4 : Nat) : Int) = 4 from rfl, io_Put, io_Move, io_Cut, io_Lift, io_Wrap, io_Reverse, io_SetValue, kwP210, kwP3210, kwP43210]
    refine mk_Wrap A ?_
    simp -implicitDefEqProofs -dsimp only [idd_eq, Nat.reduceEqDiff, ↓w_seq, ↓w_if, ↓dTest, ↓dOp, ↓dUn, ↓w_var, ↓getS_val, ↓getS_own, ↓getS_par, ↓dC, rd_val, rd_bor, ownD_own, ownD_par, rds_nil, rds_cons, ↓w_asg, ↓dCB, ↓dCons, ↓dNil, ↓dgName, ↓dgTup, ↓dgCons, ↓dgNil, ↓w_setIx, ↓w_ret, ↓w_retF, ↓w_retN, ↓w_next, ↓w_drop, ↓w_own, ↓w_brk, ↓w_cnt, ↓w_setF, ↓w_dput, ↓w_body, ↓dN, ↓dCall, ↓dCallF, argsOf_nil, argsOf_val, argsOf_bor, bors, ↓dV, ↓dTup, ↓dLst, vals_nil, vals_val, ↓w_par, ↓w_par3, ↓w_parVO, ↓w_parOV, ↓w_parOO, ↓dTruth, ↓dIsi, ↓dIsiT, ↓dInO, insOf_ins, ↓dDNew, ↓dDGet, ↓dDIn, toTup_lst, toTup_tup, pf_nil, lk_self, key_str, key_int, isN_non, isNN_non, kno_int, kno_str, kno_lst, kno_tup, kno_bl, kno_non, tyV_int, tyV_bl, tyV_str, tyV_lst, tyV_tup, tyV_non, clV_ty, clVT_nil, clVT_val, kit_same, kit_int_bool, kit_bool_int, kits_list, kits_tuple, ↓dNot, ↓dAnd, ↓dOr, ↓dIf, ↓dAndV, ↓dOrV, ↓dNotV, ↓dChain, ↓dMeth, ↓dMethF, ↓dKw, ↓dSl, ↓dNoP, ↓dPart, ↓w_for, diRng1, diRng2, diRevR1, diEnumX, diAny, items_lst, items_tup, ↓dLc, ↓dDc, ↓dFld, ownAt_def, setD, Sl.setD, isPar0, isParS, isPN, isP_val, isP_own, isP_no, isP_par, ↓doF, outs_nil, outs_cons, parD_par, parIx, putOuts, wipeD, ↓dBodyF, ↓dAppend, D.isLst, cmp_int, bool_bl, toInt_int, toInt_bl, truth_bl, truth_int, truth_non, len_lst, len_tup, D_add, D_sub, D_mod, eq_int, ne_int, neg_int, ix0, ix1, ix2, ix3, ix4, tx0, tx1, tx2, sx0, sx1, sx2, List.length_cons, List.length_nil, List.cons_append, List.nil_append, List.replicate, Nat.reduceAdd, Nat.reduceSub, List.getElem?_cons_zero, List.getElem?_cons_succ, List.getElem?_nil, List.set_cons_zero, List.set_cons_succ, Option.bind_some, Option.map_some, Option.isSome_some, true_and, and_true, if_true, if_false, Bool.false_eq_true, reduceIte, Int.reduceBEq, Bool.not_true, Bool.not_false, List.nodup_cons, List.nodup_nil, List.not_mem_nil, not_false_eq_true, List.mem_cons, or_false, ↓opt_f, ↓optF_some, ↓ite_cd, ↓cd_true, ↓cd_false, ↓forL_f, ↓lcL_f, ↓dcL_f, ↓noEr_run, ↓w_frz, ↓getW_own, ↓dListRg1, ↓dIndex, ↓dCKw, ↓dMake, ↓dList, seq_lst, seq_tup, kwP1, kwP10, beq_self_eq_true, ↓dEqO, ↓dBinO, ↓dNev, tyV_dct, tyV_ins, kno_dct, clV_ptr, kit_sameR, nf_same, nf_none, nf_int, nf_bool, nf_str, nf_lst, nf_tup, nf_dct, ↓dLenO, eq_bl, ne_bl, ↓hot_run, ↓w_try, ↓w_try0, ↓erH_cons, ↓erH_nil, ↓shutD_mk, x1_mk, x2_mk, ↓w_rz, ↓dXf, ↓dIsX, ↓dBinS, true_or, or_true, or_self, Nat.reduceLT, Ads.cs_name, Ads.cs_value, Ads.cs_parent, Ads.cs_rank, Ads.cs_first, Ads.cs_last, io_Put, io_Move, io_Cut, io_Lift, io_Wrap, io_Reverse, io_SetValue]
    exact h
  | 5, _ => 
    simp -implicitDefEqProofs -dsimp only [idd_eq, Nat.reduceEqDiff, ↓w_seq, ↓w_if, ↓dTest, ↓dOp, ↓dUn, ↓w_var, ↓getS_val, ↓getS_own, ↓getS_par, ↓dC, rd_val, rd_bor, ownD_own, ownD_par, rds_nil, rds_cons, ↓w_asg, ↓dCB, ↓dCons, ↓dNil, ↓dgName, ↓dgTup, ↓dgCons, ↓dgNil, ↓w_setIx, ↓w_ret, ↓w_retF, ↓w_retN, ↓w_next, ↓w_drop, ↓w_own, ↓w_brk, ↓w_cnt, ↓w_setF, ↓w_dput, ↓w_body, ↓dN, ↓dCall, ↓dCallF, argsOf_nil, argsOf_val, argsOf_bor, bors, ↓dV, ↓dTup, ↓dLst, vals_nil, vals_val, ↓w_par, ↓w_par3, ↓w_parVO, ↓w_parOV, ↓w_parOO, ↓dTruth, ↓dIsi, ↓dIsiT, ↓dInO, insOf_ins, ↓dDNew, ↓dDGet, ↓dDIn, toTup_lst, toTup_tup, pf_nil, lk_self, key_str, key_int, isN_non, isNN_non, kno_int, kno_str, kno_lst, kno_tup, kno_bl, kno_non, tyV_int, tyV_bl, tyV_str, tyV_lst, tyV_tup, tyV_non, clV_ty, clVT_nil, clVT_val, kit_same, kit_int_bool, kit_bool_int, kits_list, kits_tuple, ↓dNot, ↓dAnd, ↓dOr, ↓dIf, ↓dAndV, ↓dOrV, ↓dNotV, ↓dChain, ↓dMeth, ↓dMethF, ↓dKw, ↓dSl, ↓dNoP, ↓dPart, ↓w_for, diRng1, diRng2, diRevR1, diEnumX, diAny, items_lst, items_tup, ↓dLc, ↓dDc, ↓dFld, ownAt_def, setD, Sl.setD, isPar0, isParS, isPN, isP_val, isP_own, isP_no, isP_par, ↓doF, outs_nil, outs_cons, parD_par, parIx, putOuts, wipeD, ↓dBodyF, ↓dAppend, D.isLst, cmp_int, bool_bl, toInt_int, toInt_bl, truth_bl, truth_int, truth_non, len_lst, len_tup, D_add, D_sub, D_mod, eq_int, ne_int, neg_int, ix0, ix1, ix2, ix3, ix4, tx0, tx1, tx2, sx0, sx1, sx2, List.length_cons, List.length_nil, List.cons_append, List.nil_append, List.replicate, Nat.reduceAdd, Nat.reduceSub, List.getElem?_cons_zero, List.getElem?_cons_succ, List.getElem?_nil, List.set_cons_zero, List.set_cons_succ, Option.bind_some, Option.map_some, Option.isSome_some, true_and, and_true, if_true, if_false, Bool.false_eq_true, reduceIte, Int.reduceBEq, Bool.not_true, Bool.not_false, List.nodup_cons, List.nodup_nil, List.not_mem_nil, not_false_eq_true, List.mem_cons, or_false, ↓opt_f, ↓optF_some, ↓ite_cd, ↓cd_true, ↓cd_false, ↓forL_f, ↓lcL_f, ↓dcL_f, ↓noEr_run, ↓w_frz, ↓getW_own, ↓dListRg1, ↓dIndex, ↓dCKw, ↓dMake, ↓dList, seq_lst, seq_tup, kwP1, kwP10, beq_self_eq_true, ↓dEqO, ↓dBinO, ↓dNev, tyV_dct, tyV_ins, kno_dct, clV_ptr, kit_sameR, nf_same, nf_none, nf_int, nf_bool, nf_str, nf_lst, nf_tup, nf_dct, ↓dLenO, eq_bl, ne_bl, ↓hot_run, ↓w_try, ↓w_try0, ↓erH_cons, ↓erH_nil, ↓shutD_mk, x1_mk, x2_mk, ↓w_rz, ↓dXf, ↓dIsX, ↓dBinS, true_or, or_true, or_self, Nat.reduceLT, Ads.cs_name, Ads.cs_value, Ads.cs_parent, Ads.cs_rank, Ads.cs_first, Ads.cs_last, ixq0, ixq1, ixq2, ixq3, ixq4, show ((5 : Nat) : Int) = 5 from rfl, io_Put, io_Move, io_Cut, io_Lift, io_Wrap, io_Reverse, io_SetValue, kwP210, kwP3210, kwP43210]
    refine mk_Reverse A ?_
    simp -implicitDefEqProofs -dsimp only [idd_eq, Nat.reduceEqDiff, ↓w_seq, ↓w_if, ↓dTest, ↓dOp, ↓dUn, ↓w_var, ↓getS_val, ↓getS_own, ↓getS_par, ↓dC, rd_val, rd_bor, ownD_own, ownD_par, rds_nil, rds_cons, ↓w_asg, ↓dCB, ↓dCons, ↓dNil, ↓dgName, ↓dgTup, ↓dgCons, ↓dgNil, ↓w_setIx, ↓w_ret, ↓w_retF, ↓w_retN, ↓w_next, ↓w_drop, ↓w_own, ↓w_brk, ↓w_cnt, ↓w_setF, ↓w_dput, ↓w_body, ↓dN, ↓dCall, ↓dCallF, argsOf_nil, argsOf_val, argsOf_bor, bors, ↓dV, ↓dTup, ↓dLst, vals_nil, vals_val, ↓w_par, ↓w_par3, ↓w_parVO, ↓w_parOV, ↓w_parOO, ↓dTruth, ↓dIsi, ↓dIsiT, ↓dInO, insOf_ins, ↓dDNew, ↓dDGet, ↓dDIn, toTup_lst, toTup_tup, pf_nil, lk_self, key_str, key_int, isN_non, isNN_non, kno_int, kno_str, kno_lst, kno_tup, kno_bl, kno_non, tyV_int, tyV_bl, tyV_str, tyV_lst, tyV_tup, tyV_non, clV_ty, clVT_nil, clVT_val, kit_same, kit_int_bool, kit_bool_int, kits_list, kits_tuple, ↓dNot, ↓dAnd, ↓dOr, ↓dIf, ↓dAndV, ↓dOrV, ↓dNotV, ↓dChain, ↓dMeth, ↓dMethF, ↓dKw, ↓dSl, ↓dNoP, ↓dPart, ↓w_for, diRng1, diRng2, diRevR1, diEnumX, diAny, items_lst, items_tup, ↓dLc, ↓dDc, ↓dFld, ownAt_def, setD, Sl.setD, isPar0, isParS, isPN, isP_val, isP_own, isP_no, isP_par, ↓doF, outs_nil, outs_cons, parD_par, parIx, putOuts, wipeD, ↓dBodyF, ↓dAppend, D.isLst, cmp_int, bool_bl, toInt_int, toInt_bl, truth_bl, truth_int, truth_non, len_lst, len_tup, D_add, D_sub, D_mod, eq_int, ne_int, neg_int, ix0, ix1, ix2, ix3, ix4, tx0, tx1, tx2, sx0, sx1, sx2, List.length_cons, List.length_nil, List.cons_append, List.nil_append, List.replicate, Nat.reduceAdd, Nat.reduceSub, List.getElem?_cons_zero, List.getElem?_cons_succ, List.getElem?_nil, List.set_cons_zero, List.set_cons_succ, Option.bind_some, Option.map_some, Option.isSome_some, true_and, and_true, if_true, if_false, Bool.false_eq_true, reduceIte, Int.reduceBEq, Bool.not_true, Bool.not_false, List.nodup_cons, List.nodup_nil, List.not_mem_nil, not_false_eq_true, List.mem_cons, or_false, ↓opt_f, ↓optF_some, ↓ite_cd, ↓cd_true, ↓cd_false, ↓forL_f, ↓lcL_f, ↓dcL_f, ↓noEr_run, ↓w_frz, ↓getW_own, ↓dListRg1, ↓dIndex, ↓dCKw, ↓dMake, ↓dList, seq_lst, seq_tup, kwP1, kwP10, beq_self_eq_true, ↓dEqO, ↓dBinO, ↓dNev, tyV_dct, tyV_ins, kno_dct, clV_ptr, kit_sameR, nf_same, nf_none, nf_int, nf_bool, nf_str, nf_lst, nf_tup, nf_dct, ↓dLenO, eq_bl, ne_bl, ↓hot_run, ↓w_try, ↓w_try0, ↓erH_cons, ↓erH_nil, ↓shutD_mk, x1_mk, x2_mk, ↓w_rz, ↓dXf, ↓dIsX, ↓dBinS, true_or, or_true, or_self, Nat.reduceLT, Ads.cs_name, Ads.cs_value, Ads.cs_parent, Ads.cs_rank, Ads.cs_first, Ads.cs_last, io_Put, io_Move, io_Cut, io_Lift, io_Wrap, io_Reverse, io_SetValue]
    exact h
  | 6, _ => 
    simp -implicitDefEqProofs -dsimp only [idd_eq, Nat.reduceEqDiff, ↓w_seq, ↓w_if, ↓dTest, ↓dOp, ↓dUn, ↓w_var, ↓getS_val, ↓getS_own, ↓getS_par, ↓dC, rd_val, rd_bor, ownD_own, ownD_par, rds_nil, rds_cons, ↓w_asg, ↓dCB, ↓dCons, ↓dNil, ↓dgName, ↓dgTup, ↓dgCons, ↓dgNil, ↓w_setIx, ↓w_ret, ↓w_retF, ↓w_retN, ↓w_next, ↓w_drop, ↓w_own, ↓w_brk, ↓w_cnt, ↓w_setF, ↓w_dput, ↓w_body, ↓dN, ↓dCall, ↓dCallF, argsOf_nil, argsOf_val, argsOf_bor, bors, ↓dV, ↓dTup, ↓dLst, vals_nil, vals_val, ↓w_par, ↓w_par3, ↓w_parVO, ↓w_parOV, ↓w_parOO, ↓dTruth, ↓dIsi, ↓dIsiT, ↓dInO, insOf_ins, ↓dDNew, ↓dDGet, ↓dDIn, toTup_lst, toTup_tup, pf_nil, lk_self, key_str, key_int, isN_non, isNN_non, kno_int, kno_str, kno_lst, kno_tup, kno_bl, kno_non, tyV_int, tyV_bl, tyV_str, tyV_lst, tyV_tup, tyV_non, clV_ty, clVT_nil, clVT_val, kit_same, kit_int_bool, kit_bool_int, kits_list, kits_tuple, ↓dNot, ↓dAnd, ↓dOr, ↓dIf, ↓dAndV, ↓dOrV, ↓dNotV, ↓dChain, ↓dMeth, ↓dMethF, ↓dKw, ↓dSl, ↓dNoP, ↓dPart, ↓w_for, diRng1, diRng2, diRevR1, diEnumX, diAny, items_lst, items_tup, ↓dLc, ↓dDc, ↓dFld, ownAt_def, setD, Sl.setD, isPar0, isParS, isPN, isP_val, isP_own, isP_no, isP_par, ↓doF, outs_nil, outs_cons, parD_par, parIx, putOuts, wipeD, ↓dBodyF, ↓dAppend, D.isLst, cmp_int, bool_bl, toInt_int, toInt_bl, truth_bl, truth_int, truth_non, len_lst, len_tup, D_add, D_sub, D_mod, eq_int, ne_int, neg_int, ix0, ix1, ix2, ix3, ix4, tx0, tx1, tx2, sx0, sx1, sx2, List.length_cons, List.length_nil, List.cons_append, List.nil_append, List.replicate, Nat.reduceAdd, Nat.reduceSub, List.getElem?_cons_zero, List.getElem?_cons_succ, List.getElem?_nil, List.set_cons_zero, List.set_cons_succ, Option.bind_some, Option.map_some, Option.isSome_some, true_and, and_true, if_true, if_false, Bool.false_eq_true, reduceIte, Int.reduceBEq, Bool.not_true, Bool.not_false, List.nodup_cons, List.nodup_nil, List.not_mem_nil, not_false_eq_true, List.mem_cons, or_false, ↓opt_f, ↓optF_some, ↓ite_cd, ↓cd_true, ↓cd_false, ↓forL_f, ↓lcL_f, ↓dcL_f, ↓noEr_run, ↓w_frz, ↓getW_own, ↓dListRg1, ↓dIndex, ↓dCKw, ↓dMake, ↓dList, seq_lst, seq_tup, kwP1, kwP10, beq_self_eq_true, ↓dEqO, ↓dBinO, ↓dNev, tyV_dct, tyV_ins, kno_dct, clV_ptr, kit_sameR, nf_same, nf_none, nf_int, nf_bool, nf_str, nf_lst, nf_tup, nf_dct, ↓dLenO, eq_bl, ne_bl, ↓hot_run, ↓w_try, ↓w_try0, ↓erH_cons, ↓erH_nil, ↓shutD_mk, x1_mk, x2_mk, ↓w_rz, ↓dXf, ↓dIsX, ↓dBinS, true_or, or_true, or_self, Nat.reduceLT, Ads.cs_name, Ads.cs_value, Ads.cs_parent, Ads.cs_rank, Ads.cs_first, Ads.cs_last, ixq0, ixq1, ixq2, ixq3, ixq4, show ((6 : Nat) : Int) = 6 from rfl, io_Put, io_Move, io_Cut, io_Lift, io_Wrap, io_Reverse, io_SetValue, kwP210, kwP3210, kwP43210]
    refine mk_SetValue A ?_
    simp -implicitDefEqProofs -dsimp only [idd_eq, Nat.reduceEqDiff, ↓w_seq, ↓w_if, ↓dTest, ↓dOp, ↓dUn, ↓w_var, ↓getS_val, ↓getS_own, ↓getS_par, ↓dC, rd_val, rd_bor, ownD_own, ownD_par, rds_nil, rds_cons, ↓w_asg, ↓dCB, ↓dCons, ↓dNil, ↓dgName, ↓dgTup, ↓dgCons, ↓dgNil, ↓w_setIx, ↓w_ret, ↓w_retF, ↓w_retN, ↓w_next, ↓w_drop, ↓w_own, ↓w_brk, ↓w_cnt, ↓w_setF, ↓w_dput, ↓w_body, ↓dN, ↓dCall, ↓dCallF, argsOf_nil, argsOf_val, argsOf_bor, bors, ↓dV, ↓dTup, ↓dLst, vals_nil, vals_val, ↓w_par, ↓w_par3, ↓w_parVO, ↓w_parOV, ↓w_parOO, ↓dTruth, ↓dIsi, ↓dIsiT, ↓dInO, insOf_ins, ↓dDNew, ↓dDGet, ↓dDIn, toTup_lst, toTup_tup, pf_nil, lk_self, key_str, key_int, isN_non, isNN_non, kno_int, kno_str, kno_lst, kno_tup, kno_bl, kno_non, tyV_int, tyV_bl, tyV_str, tyV_lst, tyV_tup, tyV_non, clV_ty, clVT_nil, clVT_val, kit_same, kit_int_bool, kit_bool_int, kits_list, kits_tuple, ↓dNot, ↓dAnd, ↓dOr, ↓dIf, ↓dAndV, ↓dOrV, ↓dNotV, ↓dChain, ↓dMeth, ↓dMethF, ↓dKw, ↓dSl, ↓dNoP, ↓dPart, ↓w_for, diRng1, diRng2, diRevR1, diEnumX, diAny, items_lst, items_tup, ↓dLc, ↓dDc, ↓dFld, ownAt_def, setD, Sl.setD, isPar0, isParS, isPN, isP_val, isP_own, isP_no, isP_par, ↓doF, outs_nil, outs_cons, parD_par, parIx, putOuts, wipeD, ↓dBodyF, ↓dAppend, D.isLst, cmp_int, bool_bl, toInt_int, toInt_bl, truth_bl, truth_int, truth_non, len_lst, len_tup, D_add, D_sub, D_mod, eq_int, ne_int, neg_int, ix0, ix1, ix2, ix3, ix4, tx0, tx1, tx2, sx0, sx1, sx2, List.length_cons, List.length_nil, List.cons_append, List.nil_append, List.replicate, Nat.reduceAdd, Nat.reduceSub, List.getElem?_cons_zero, List.getElem?_cons_succ, List.getElem?_nil, List.set_cons_zero, List.set_cons_succ, Option.bind_some, Option.map_some, Option.isSome_some, true_and, and_true, if_true, if_false, Bool.false_eq_true, reduceIte, Int.reduceBEq, Bool.not_true, Bool.not_false, List.nodup_cons, List.nodup_nil, List.not_mem_nil, not_false_eq_true, List.mem_cons, or_false, ↓opt_f, ↓optF_some, ↓ite_cd, ↓cd_true, ↓cd_false, ↓forL_f, ↓lcL_f, ↓dcL_f, ↓noEr_run, ↓w_frz, ↓getW_own, ↓dListRg1, ↓dIndex, ↓dCKw, ↓dMake, ↓dList, seq_lst, seq_tup, kwP1, kwP10, beq_self_eq_true, ↓dEqO, ↓dBinO, ↓dNev, tyV_dct, tyV_ins, kno_dct, clV_ptr, kit_sameR, nf_same, nf_none, nf_int, nf_bool, nf_str, nf_lst, nf_tup, nf_dct, ↓dLenO, eq_bl, ne_bl, ↓hot_run, ↓w_try, ↓w_try0, ↓erH_cons, ↓erH_nil, ↓shutD_mk, x1_mk, x2_mk, ↓w_rz, ↓dXf, ↓dIsX, ↓dBinS, true_or, or_true, or_self, Nat.reduceLT, Ads.cs_name, Ads.cs_value, Ads.cs_parent, Ads.cs_rank, Ads.cs_first, Ads.cs_last, io_Put, io_Move, io_Cut, io_Lift, io_Wrap, io_Reverse, io_SetValue]
    exact h

theorem named_ok (k : Nat) (hk : k < 7) {q : D → List D → Prop} {er} (h : q (dd A k f0 f1 f2 f3 f4) []) : dsp_p_law_named K A [.val (.int (k : Int)), .val (.lst [f0, f1, f2, f3, f4])] q er := by
  unfold dsp_p_law_named body_p_law_named
  match k, hk with
  | 0, _ => 
    simp -implicitDefEqProofs -dsimp only [idd_eq, Nat.reduceEqDiff, ↓w_seq, ↓w_if, ↓dTest, ↓dOp, ↓dUn, ↓w_var, ↓getS_val, ↓getS_own, ↓getS_par, ↓dC, rd_val, rd_bor, ownD_own, ownD_par, rds_nil, rds_cons, ↓w_asg, ↓dCB, ↓dCons, ↓dNil, ↓dgName, ↓dgTup, ↓dgCons, ↓dgNil, ↓w_setIx, ↓w_ret, ↓w_retF, ↓w_retN, ↓w_next, ↓w_drop, ↓w_own, ↓w_brk, ↓w_cnt, ↓w_setF, ↓w_dput, ↓w_body, ↓dN, ↓dCall, ↓dCallF, argsOf_nil, argsOf_val, argsOf_bor, bors, ↓dV, ↓dTup, ↓dLst, vals_nil, vals_val, ↓w_par, ↓w_par3, ↓w_parVO, ↓w_parOV, ↓w_parOO, ↓dTruth, ↓dIsi, ↓dIsiT, ↓dInO, insOf_ins, ↓dDNew, ↓dDGet, ↓dDIn, toTup_lst, toTup_tup, pf_nil, lk_self, key_str, key_int, isN_non, isNN_non, kno_int, kno_str, kno_lst, kno_tup, kno_bl, kno_non, tyV_int, tyV_bl, tyV_str, tyV_lst, tyV_tup, tyV_non, clV_ty, clVT_nil, clVT_val, kit_same, kit_int_bool, kit_bool_int, kits_list, kits_tuple, ↓dNot, ↓dAnd, ↓dOr, ↓dIf, ↓dAndV, ↓dOrV, ↓dNotV, ↓dChain, ↓dMeth, ↓dMethF, ↓dKw, ↓dSl, ↓dNoP, ↓dPart, ↓w_for, diRng1, diRng2, diRevR1, diEnumX, diAny, items_lst, items_tup, ↓dLc, ↓dDc, ↓dFld, ownAt_def, setD, Sl.setD, isPar0, isParS, isPN, isP_val, isP_own, isP_no, isP_par, ↓doF, outs_nil, outs_cons, parD_par, parIx, putOuts, wipeD, ↓dBodyF, ↓dAppend, D.isLst, cmp_int, bool_bl, toInt_int, toInt_bl, truth_bl, truth_int, truth_non, len_lst, len_tup, D_add, D_sub, D_mod, eq_int, ne_int, neg_int, ix0, ix1, ix2, ix3, ix4, tx0, tx1, tx2, sx0, sx1, sx2, List.length_cons, List.length_nil, List.cons_append, List.nil_append, List.replicate, Nat.reduceAdd, Nat.reduceSub, List.getElem?_cons_zero, List.getElem?_cons_succ, List.getElem?_nil, List.set_cons_zero, List.set_cons_succ, Option.bind_some, Option.map_some, Option.isSome_some, true_and, and_true, if_true, if_false, Bool.false_eq_true, reduceIte, Int.reduceBEq, Bool.not_true, Bool.not_false, List.nodup_cons, List.nodup_nil, List.not_mem_nil, not_false_eq_true, List.mem_cons, or_false, ↓opt_f, ↓optF_some, ↓ite_cd, ↓cd_true, ↓cd_false, ↓forL_f, ↓lcL_f, ↓dcL_f, ↓noEr_run, ↓w_frz, ↓getW_own, ↓dListRg1, ↓dIndex, ↓dCKw, ↓dMake, ↓dList, seq_lst, seq_tup, kwP1, kwP10, beq_self_eq_true, ↓dEqO, ↓dBinO, ↓dNev, tyV_dct, tyV_ins, kno_dct, clV_ptr, kit_sameR, nf_same, nf_none, nf_int, nf_bool, nf_str, nf_lst, nf_tup, nf_dct, ↓dLenO, eq_bl, ne_bl, ↓hot_run, ↓w_try, ↓w_try0, ↓erH_cons, ↓erH_nil, ↓shutD_mk, x1_mk, x2_mk, ↓w_rz, ↓dXf, ↓dIsX, ↓dBinS, true_or, or_true, or_self, Nat.reduceLT, Ads.cs_name, Ads.cs_value, Ads.cs_parent, Ads.cs_rank, Ads.cs_first, Ads.cs_last, ixq0, ixq1, ixq2, ixq3, ixq4, show ((0 : Nat) : Int) = 0 from rfl, io_Put, io_Move, io_Cut, io_Lift, io_Wrap, io_Reverse, io_SetValue, kwP210, kwP3210, kwP43210]
    refine mk_Put A ?_
    simp -implicitDefEqProofs -dsimp only [idd_eq, Nat.reduceEqDiff, ↓w_seq, ↓w_if, ↓dTest, ↓dOp, ↓dUn, ↓w_var, ↓getS_val, ↓getS_own, ↓getS_par, ↓dC, rd_val, rd_bor, ownD_own, ownD_par, rds_nil, rds_cons, ↓w_asg, ↓dCB, ↓dCons, ↓dNil, ↓dgName, ↓dgTup, ↓dgCons, ↓dgNil, ↓w_setIx, ↓w_ret, ↓w_retF, ↓w_retN, ↓w_next, ↓w_drop, ↓w_own, ↓w_brk, ↓w_cnt, ↓w_setF, ↓w_dput, ↓w_body, ↓dN, ↓dCall, ↓dCallF, argsOf_nil, argsOf_val, argsOf_bor, bors, ↓dV, ↓dTup, ↓dLst, vals_nil, vals_val, ↓w_par, ↓w_par3, ↓w_parVO, ↓w_parOV, ↓w_parOO, ↓dTruth, ↓dIsi, ↓dIsiT, ↓dInO, insOf_ins, ↓dDNew, ↓dDGet, ↓dDIn, toTup_lst, toTup_tup, pf_nil, lk_self, key_str, key_int, isN_non, isNN_non, kno_int, kno_str, kno_lst, kno_tup, kno_bl, kno_non, tyV_int, tyV_bl, tyV_str, tyV_lst, tyV_tup, tyV_non, clV_ty, clVT_nil, clVT_val, kit_same, kit_int_bool, kit_bool_int, kits_list, kits_tuple, ↓dNot, ↓dAnd, ↓dOr, ↓dIf, ↓dAndV, ↓dOrV, ↓dNotV, ↓dChain, ↓dMeth, ↓dMethF, ↓dKw, ↓dSl, ↓dNoP, ↓dPart, ↓w_for, diRng1, diRng2, diRevR1, diEnumX, diAny, items_lst, items_tup, ↓dLc, ↓dDc, ↓dFld, ownAt_def, setD, Sl.setD, isPar0, isParS, isPN, isP_val, isP_own, isP_no, isP_par, ↓doF, outs_nil, outs_cons, parD_par, parIx, putOuts, wipeD, ↓dBodyF, ↓dAppend, D.isLst, cmp_int, bool_bl, toInt_int, toInt_bl, truth_bl, truth_int, truth_non, len_lst, len_tup, D_add, D_sub, D_mod, eq_int, ne_int, neg_int, ix0, ix1, ix2, ix3, ix4, tx0, tx1, tx2, sx0, sx1, sx2, List.length_cons, List.length_nil, List.cons_append, List.nil_append, List.replicate, Nat.reduceAdd, Nat.reduceSub, List.getElem?_cons_zero, List.getElem?_cons_succ, List.getElem?_nil, List.set_cons_zero, List.set_cons_succ, Option.bind_some, Option.map_some, Option.isSome_some, true_and, and_true, if_true, if_false, Bool.false_eq_true, reduceIte, Int.reduceBEq, Bool.not_true, Bool.not_false, List.nodup_cons, List.nodup_nil, List.not_mem_nil, not_false_eq_true, List.mem_cons, or_false, ↓opt_f, ↓optF_some, ↓ite_cd, ↓cd_true, ↓cd_false, ↓forL_f, ↓lcL_f, ↓dcL_f, ↓noEr_run, ↓w_frz, ↓getW_own, ↓dListRg1, ↓dIndex, ↓dCKw, ↓dMake, ↓dList, seq_lst, seq_tup, kwP1, kwP10, beq_self_eq_true, ↓dEqO, ↓dBinO, ↓dNev, tyV_dct, tyV_ins, kno_dct, clV_ptr, kit_sameR, nf_same, nf_none, nf_int, nf_bool, nf_str, nf_lst, nf_tup, nf_dct, ↓dLenO, eq_bl, ne_bl, ↓hot_run, ↓w_try, ↓w_try0, ↓erH_cons, ↓erH_nil, ↓shutD_mk, x1_mk, x2_mk, ↓w_rz, ↓dXf, ↓dIsX, ↓dBinS, true_or, or_true, or_self, Nat.reduceLT, Ads.cs_name, Ads.cs_value, Ads.cs_parent, Ads.cs_rank, Ads.cs_first, Ads.cs_last, io_Put, io_Move, io_Cut, io_Lift, io_Wrap, io_Reverse, io_SetValue]
    exact h
  | 1, _ => 
    simp -implicitDefEqProofs -dsimp only [idd_eq, Nat.reduceEqDiff, ↓w_seq, ↓w_if, ↓dTest, ↓dOp, ↓dUn, ↓w_var, ↓getS_val, ↓getS_own, ↓getS_par, ↓dC, rd_val, rd_bor, ownD_own, ownD_par, rds_nil, rds_cons, ↓w_asg, ↓dCB, ↓dCons, ↓dNil, ↓dgName, ↓dgTup, ↓dgCons, ↓dgNil, ↓w_setIx, ↓w_ret, ↓w_retF, ↓w_retN, ↓w_next, ↓w_drop, ↓w_own, ↓w_brk, ↓w_cnt, ↓w_setF, ↓w_dput, ↓w_body, ↓dN, ↓dCall, ↓dCallF, argsOf_nil, argsOf_val, argsOf_bor, bors, ↓dV, ↓dTup, ↓dLst, vals_nil, vals_val, ↓w_par, ↓w_par3, ↓w_parVO, ↓w_parOV, ↓w_parOO, ↓dTruth, ↓dIsi, ↓dIsiT, ↓dInO, insOf_ins, ↓dDNew, ↓dDGet, ↓dDIn, toTup_lst, toTup_tup, pf_nil, lk_self, key_str, key_int, isN_non, isNN_non, kno_int, kno_str, kno_lst, kno_tup, kno_bl, kno_non, tyV_int, tyV_bl, tyV_str, tyV_lst, tyV_tup, tyV_non, clV_ty, clVT_nil, clVT_val, kit_same, kit_int_bool, kit_bool_int, kits_list, kits_tuple, ↓dNot, ↓dAnd, ↓dOr, ↓dIf, ↓dAndV, ↓dOrV, ↓dNotV, ↓dChain, ↓dMeth, ↓dMethF, ↓dKw, ↓dSl, ↓dNoP, ↓dPart, ↓w_for, diRng1, diRng2, diRevR1, diEnumX, diAny, items_lst, items_tup, ↓dLc, ↓dDc, ↓dFld, ownAt_def, setD, Sl.setD, isPar0, isParS, isPN, isP_val, isP_own, isP_no, isP_par, ↓doF, outs_nil, outs_cons, parD_par, parIx, putOuts, wipeD, ↓dBodyF, ↓dAppend, D.isLst, cmp_int, bool_bl, toInt_int, toInt_bl, truth_bl, truth_int, truth_non, len_lst, len_tup, D_add, D_sub, D_mod, eq_int, ne_int, neg_int, ix0, ix1, ix2, ix3, ix4, tx0, tx1, tx2, sx0, sx1, sx2, List.length_cons, List.length_nil, List.cons_append, List.nil_append, List.replicate, Nat.reduceAdd, Nat.reduceSub, List.getElem?_cons_zero, List.getElem?_cons_succ, List.getElem?_nil, List.set_cons_zero, List.set_cons_succ, Option.bind_some, Option.map_some, Option.isSome_some, true_and, and_true, if_true, if_false, Bool.false_eq_true, reduceIte, Int.reduceBEq, Bool.not_true, Bool.not_false, List.nodup_cons, List.nodup_nil, List.not_mem_nil, not_false_eq_true, List.mem_cons, or_false, ↓opt_f, ↓optF_some, ↓ite_cd, ↓cd_true, ↓cd_false, ↓forL_f, ↓lcL_f, ↓dcL_f, ↓noEr_run, ↓w_frz, ↓getW_own, ↓dListRg1, ↓dIndex, ↓dCKw, ↓dMake, ↓dList, seq_lst, seq_tup, kwP1, kwP10, beq_self_eq_true, ↓dEqO, ↓dBinO, ↓dNev, tyV_dct, tyV_ins, kno_dct, clV_ptr, kit_sameR, nf_same, nf_none, nf_int, nf_bool, nf_str, nf_lst, nf_tup, nf_dct, ↓dLenO, eq_bl, ne_bl, ↓hot_run, ↓w_try, ↓w_try0, ↓erH_cons, ↓erH_nil, ↓shutD_mk, x1_mk, x2_mk, ↓w_rz, ↓dXf, ↓dIsX, ↓dBinS, true_or, or_true, or_self, Nat.reduceLT, Ads.cs_name, Ads.cs_value, Ads.cs_parent, Ads.cs_rank, Ads.cs_first, Ads.cs_last, ixq0, ixq1, ixq2, ixq3, ixq4, show ((1 : Nat) : Int) = 1 from rfl, io_Put, io_Move, io_Cut, io_Lift, io_Wrap, io_Reverse, io_SetValue, kwP210, kwP3210, kwP43210]
    refine mk_Move A ?_
    simp -implicitDefEqProofs -dsimp only [idd_eq, Nat.reduceEqDiff, ↓w_seq, ↓w_if, ↓dTest, ↓dOp, ↓dUn, ↓w_var, ↓getS_val, ↓getS_own, ↓getS_par, ↓dC, rd_val, rd_bor, ownD_own, ownD_par, rds_nil, rds_cons, ↓w_asg, ↓dCB, ↓dCons, ↓dNil, ↓dgName, ↓dgTup, ↓dgCons, ↓dgNil, ↓w_setIx, ↓w_ret, ↓w_retF, ↓w_retN, ↓w_next, ↓w_drop, ↓w_own, ↓w_brk, ↓w_cnt, ↓w_setF, ↓w_dput, ↓w_body, ↓dN, ↓dCall, ↓dCallF, argsOf_nil, argsOf_val, argsOf_bor, bors, ↓dV, ↓dTup, ↓dLst, vals_nil, vals_val, ↓w_par, ↓w_par3, ↓w_parVO, ↓w_parOV, ↓w_parOO, ↓dTruth, ↓dIsi, ↓dIsiT, ↓dInO, insOf_ins, ↓dDNew, ↓dDGet, ↓dDIn, toTup_lst, toTup_tup, pf_nil, lk_self, key_str, key_int, isN_non, isNN_non, kno_int, kno_str, kno_lst, kno_tup, kno_bl, kno_non, tyV_int, tyV_bl, tyV_str, tyV_lst, tyV_tup, tyV_non, clV_ty, clVT_nil, clVT_val, kit_same, kit_int_bool, kit_bool_int, kits_list, kits_tuple, ↓dNot, ↓dAnd, ↓dOr, ↓dIf, ↓dAndV, ↓dOrV, ↓dNotV, ↓dChain, ↓dMeth, ↓dMethF, ↓dKw, ↓dSl, ↓dNoP, ↓dPart, ↓w_for, diRng1, diRng2, diRevR1, diEnumX, diAny, items_lst, items_tup, ↓dLc, ↓dDc, ↓dFld, ownAt_def, setD, Sl.setD, isPar0, isParS, isPN, isP_val, isP_own, isP_no, isP_par, ↓doF, outs_nil, outs_cons, parD_par, parIx, putOuts, wipeD, ↓dBodyF, ↓dAppend, D.isLst, cmp_int, bool_bl, toInt_int, toInt_bl, truth_bl, truth_int, truth_non, len_lst, len_tup, D_add, D_sub, D_mod, eq_int, ne_int, neg_int, ix0, ix1, ix2, ix3, ix4, tx0, tx1, tx2, sx0, sx1, sx2, List.length_cons, List.length_nil, List.cons_append, List.nil_append, List.replicate, Nat.reduceAdd, Nat.reduceSub, List.getElem?_cons_zero, List.getElem?_cons_succ, List.getElem?_nil, List.set_cons_zero, List.set_cons_succ, Option.bind_some, Option.map_some, Option.isSome_some, true_and, and_true, if_true, if_false, Bool.false_eq_true, reduceIte, Int.reduceBEq, Bool.not_true, Bool.not_false, List.nodup_cons, List.nodup_nil, List.not_mem_nil, not_false_eq_true, List.mem_cons, or_false, ↓opt_f, ↓optF_some, ↓ite_cd, ↓cd_true, ↓cd_false, ↓forL_f, ↓lcL_f, ↓dcL_f, ↓noEr_run, ↓w_frz, ↓getW_own, ↓dListRg1, ↓dIndex, ↓dCKw, ↓dMake, ↓dList, seq_lst, seq_tup, kwP1, kwP10, beq_self_eq_true, ↓dEqO, ↓dBinO, ↓dNev, tyV_dct, tyV_ins, kno_dct, clV_ptr, kit_sameR, nf_same, nf_none, nf_int, nf_bool, nf_str, nf_lst, nf_tup, nf_dct, ↓dLenO, eq_bl, ne_bl, ↓hot_run, ↓w_try, ↓w_try0, ↓erH_cons, ↓erH_nil, ↓shutD_mk, x1_mk, x2_mk, ↓w_rz, ↓dXf, ↓dIsX, ↓dBinS, true_or, or_true, or_self, Nat.reduceLT, Ads.cs_name, Ads.cs_value, Ads.cs_parent, Ads.cs_rank, Ads.cs_first, Ads.cs_last, io_Put, io_Move, io_Cut, io_Lift, io_Wrap, io_Reverse, io_SetValue]
    exact h
  | 2, _ => 
    simp -implicitDefEqProofs -dsimp only [idd_eq, Nat.reduceEqDiff, ↓w_seq, ↓w_if, ↓dTest, ↓dOp, ↓dUn, ↓w_var, ↓getS_val, ↓getS_own, ↓getS_par, ↓dC, rd_val, rd_bor, ownD_own, ownD_par, rds_nil, rds_cons, ↓w_asg, ↓dCB, ↓dCons, ↓dNil, ↓dgName, ↓dgTup, ↓dgCons, ↓dgNil, ↓w_setIx, ↓w_ret, ↓w_retF, ↓w_retN, ↓w_next, ↓w_drop, ↓w_own, ↓w_brk, ↓w_cnt, ↓w_setF, ↓w_dput, ↓w_body, ↓dN, ↓dCall, ↓dCallF, argsOf_nil, argsOf_val, argsOf_bor, bors, ↓dV, ↓dTup, ↓dLst, vals_nil, vals_val, ↓w_par, ↓w_par3, ↓w_parVO, ↓w_parOV, ↓w_parOO, ↓dTruth, ↓dIsi, ↓dIsiT, ↓dInO, insOf_ins, ↓dDNew, ↓dDGet, ↓dDIn, toTup_lst, toTup_tup, pf_nil, lk_self, key_str, key_int, isN_non, isNN_non, kno_int, kno_str, kno_lst, kno_tup, kno_bl, kno_non, tyV_int, tyV_bl, tyV_str, tyV_lst, tyV_tup, tyV_non, clV_ty, clVT_nil, clVT_val, kit_same, kit_int_bool, kit_bool_int, kits_list, kits_tuple, ↓dNot, ↓dAnd, ↓dOr, ↓dIf, ↓dAndV, ↓dOrV, ↓dNotV, ↓dChain, ↓dMeth, ↓dMethF, ↓dKw, ↓dSl, ↓dNoP, ↓dPart, ↓w_for, diRng1, diRng2, diRevR1, diEnumX, diAny, items_lst, items_tup, ↓dLc, ↓dDc, ↓dFld, ownAt_def, setD, Sl.setD, isPar0, isParS, isPN, isP_val, isP_own, isP_no, isP_par, ↓doF, outs_nil, outs_cons, parD_par, parIx, putOuts, wipeD, ↓dBodyF, ↓dAppend, D.isLst, cmp_int, bool_bl, toInt_int, toInt_bl, truth_bl, truth_int, truth_non, len_lst, len_tup, D_add, D_sub, D_mod, eq_int, ne_int, neg_int, ix0, ix1, ix2, ix3, ix4, tx0, tx1, tx2, sx0, sx1, sx2, List.length_cons, List.length_nil, List.cons_append, List.nil_append, List.replicate, Nat.reduceAdd, Nat.reduceSub, List.getElem?_cons_zero, List.getElem?_cons_succ, List.getElem?_nil, List.set_cons_zero, List.set_cons_succ, Option.bind_some, Option.map_some, Option.isSome_some, true_and, and_true, if_true, if_false, Bool.false_eq_true, reduceIte, Int.reduceBEq, Bool.not_true, Bool.not_false, List.nodup_cons, List.nodup_nil, List.not_mem_nil, not_false_eq_true, List.mem_cons, or_false, ↓opt_f, ↓optF_some, ↓ite_cd, ↓cd_true, ↓cd_false, ↓forL_f, ↓lcL_f, ↓dcL_f, ↓noEr_run, ↓w_frz, ↓getW_own, ↓dListRg1, ↓dIndex, ↓dCKw, ↓dMake, ↓dList, seq_lst, seq_tup, kwP1, kwP10, beq_self_eq_true, ↓dEqO, ↓dBinO, ↓dNev, tyV_dct, tyV_ins, kno_dct, clV_ptr, kit_sameR, nf_same, nf_none, nf_int, nf_bool, nf_str, nf_lst, nf_tup, nf_dct, ↓dLenO, eq_bl, ne_bl, ↓hot_run, ↓w_try, ↓w_try0, ↓erH_cons, ↓erH_nil, ↓shutD_mk, x1_mk, x2_mk, ↓w_rz, ↓dXf, ↓dIsX, ↓dBinS, true_or, or_true, or_self, Nat.reduceLT, Ads.cs_name, Ads.cs_value, Ads.cs_parent, Ads.cs_rank, Ads.cs_first, Ads.cs_last, ixq0, ixq1, ixq2, ixq3, ixq4, show ((2 : Nat) : Int) = 2 from rfl, io_Put, io_Move, io_Cut, io_Lift, io_Wrap, io_Reverse, io_SetValue, kwP210, kwP3210, kwP43210]
    refine mk_Cut A ?_
    simp -implicitDefEqProofs -dsimp only [idd_eq, Nat.reduceEqDiff, ↓w_seq, ↓w_if, ↓dTest, ↓dOp, ↓dUn, ↓w_var, ↓getS_val, ↓getS_own, ↓getS_par, ↓dC, rd_val, rd_bor, ownD_own, ownD_par, rds_nil, rds_cons, ↓w_asg, ↓dCB, ↓dCons, ↓dNil, ↓dgName, ↓dgTup, ↓dgCons, ↓dgNil, ↓w_setIx, ↓w_ret, ↓w_retF, ↓w_retN, ↓w_next, ↓w_drop, ↓w_own, ↓w_brk, ↓w_cnt, ↓w_setF, ↓w_dput, ↓w_body, ↓dN, ↓dCall, ↓dCallF, argsOf_nil, argsOf_val, argsOf_bor, bors, ↓dV, ↓dTup, ↓dLst, vals_nil, vals_val, ↓w_par, ↓w_par3, ↓w_parVO, ↓w_parOV, ↓w_parOO, ↓dTruth, ↓dIsi, ↓dIsiT, ↓dInO, insOf_ins, ↓dDNew, ↓dDGet, ↓dDIn, toTup_lst, toTup_tup, pf_nil, lk_self, key_str, key_int, isN_non, isNN_non, kno_int, kno_str, kno_lst, kno_tup, kno_bl, kno_non, tyV_int, tyV_bl, tyV_str, tyV_lst, tyV_tup, tyV_non, clV_ty, clVT_nil, clVT_val, kit_same, kit_int_bool, kit_bool_int, kits_list, kits_tuple, ↓dNot, ↓dAnd, ↓dOr, ↓dIf, ↓dAndV, ↓dOrV, ↓dNotV, ↓dChain, ↓dMeth, ↓dMethF, ↓dKw, ↓dSl, ↓dNoP, ↓dPart, ↓w_for, diRng1, diRng2, diRevR1, diEnumX, diAny, items_lst, items_tup, ↓dLc, ↓dDc, ↓dFld, ownAt_def, setD, Sl.setD, isPar0, isParS, isPN, isP_val, isP_own, isP_no, isP_par, ↓doF, outs_nil, outs_cons, parD_par, parIx, putOuts, wipeD, ↓dBodyF, ↓dAppend, D.isLst, cmp_int, bool_bl, toInt_int, toInt_bl, truth_bl, truth_int, truth_non, len_lst, len_tup, D_add, D_sub, D_mod, eq_int, ne_int, neg_int, ix0, ix1, ix2, ix3, ix4, tx0, tx1, tx2, sx0, sx1, sx2, List.length_cons, List.length_nil, List.cons_append, List.nil_append, List.replicate, Nat.reduceAdd, Nat.reduceSub, List.getElem?_cons_zero, List.getElem?_cons_succ, List.getElem?_nil, List.set_cons_zero, List.set_cons_succ, Option.bind_some, Option.map_some, Option.isSome_some, true_and, and_true, if_true, if_false, Bool.false_eq_true, reduceIte, Int.reduceBEq, Bool.not_true, Bool.not_false, List.nodup_cons, List.nodup_nil, List.not_mem_nil, not_false_eq_true, List.mem_cons, or_false, ↓opt_f, ↓optF_some, ↓ite_cd, ↓cd_true, ↓cd_false, ↓forL_f, ↓lcL_f, ↓dcL_f, ↓noEr_run, ↓w_frz, ↓getW_own, ↓dListRg1, ↓dIndex, ↓dCKw, ↓dMake, ↓dList, seq_lst, seq_tup, kwP1, kwP10, beq_self_eq_true, ↓dEqO, ↓dBinO, ↓dNev, tyV_dct, tyV_ins, kno_dct, clV_ptr, kit_sameR, nf_same, nf_none, nf_int, nf_bool, nf_str, nf_lst, nf_tup, nf_dct, ↓dLenO, eq_bl, ne_bl, ↓hot_run, ↓w_try, ↓w_try0, ↓erH_cons, ↓erH_nil, ↓shutD_mk, x1_mk, x2_mk, ↓w_rz, ↓dXf, ↓dIsX, ↓dBinS, true_or, or_true, or_self, Nat.reduceLT, Ads.cs_name, Ads.cs_value, Ads.cs_parent, Ads.cs_rank, Ads.cs_first, Ads.cs_last, io_Put, io_Move, io_Cut, io_Lift, io_Wrap, io_Reverse, io_SetValue]
    exact h
  | 3, _ => 
    simp -implicitDefEqProofs -dsimp only [idd_eq, Nat.reduceEqDiff, ↓w_seq, ↓w_if, ↓dTest, ↓dOp, ↓dUn, ↓w_var, ↓getS_val, ↓getS_own, ↓getS_par, ↓dC, rd_val, rd_bor, ownD_own, ownD_par, rds_nil, rds_cons, ↓w_asg, ↓dCB, ↓dCons, ↓dNil, ↓dgName, ↓dgTup, ↓dgCons, ↓dgNil, ↓w_setIx, ↓w_ret, ↓w_retF, ↓w_retN, ↓w_next, ↓w_drop, ↓w_own, ↓w_brk, ↓w_cnt, ↓w_setF, ↓w_dput, ↓w_body, ↓dN, ↓dCall, ↓dCallF, argsOf_nil, argsOf_val, argsOf_bor, bors, ↓dV, ↓dTup, ↓dLst, vals_nil, vals_val, ↓w_par, ↓w_par3, ↓w_parVO, ↓w_parOV, ↓w_parOO, ↓dTruth, ↓dIsi, ↓dIsiT, ↓dInO, insOf_ins, ↓dDNew, ↓dDGet, ↓dDIn, toTup_lst, toTup_tup, pf_nil, lk_self, key_str, key_int, isN_non, isNN_non, kno_int, kno_str, kno_lst, kno_tup, kno_bl, kno_non, tyV_int, tyV_bl, tyV_str, tyV_lst, tyV_tup, tyV_non, clV_ty, clVT_nil, clVT_val, kit_same, kit_int_bool, kit_bool_int, kits_list, kits_tuple, ↓dNot, ↓dAnd, ↓dOr, ↓dIf, ↓dAndV, ↓dOrV, ↓dNotV, ↓dChain, ↓dMeth, ↓dMethF, ↓dKw, ↓dSl, ↓dNoP, ↓dPart, ↓w_for, diRng1, diRng2, diRevR1, diEnumX, diAny, items_lst, items_tup, ↓dLc, ↓dDc, ↓dFld, ownAt_def, setD, Sl.setD, isPar0, isParS, isPN, isP_val, isP_own, isP_no, isP_par, ↓doF, outs_nil, outs_cons, parD_par, parIx, putOuts, wipeD, ↓dBodyF, ↓dAppend, D.isLst, cmp_int, bool_bl, toInt_int, toInt_bl, truth_bl, truth_int, truth_non, len_lst, len_tup, D_add, D_sub, D_mod, eq_int, ne_int, neg_int, ix0, ix1, ix2, ix3, ix4, tx0, tx1, tx2, sx0, sx1, sx2, List.length_cons, List.length_nil, List.cons_append, List.nil_append, List.replicate, Nat.reduceAdd, Nat.reduceSub, List.getElem?_cons_zero, List.getElem?_cons_succ, List.getElem?_nil, List.set_cons_zero, List.set_cons_succ, Option.bind_some, Option.map_some, Option.isSome_some, true_and, and_true, if_true, if_false, Bool.false_eq_true, reduceIte, Int.reduceBEq, Bool.not_true, Bool.not_false, List.nodup_cons, List.nodup_nil, List.not_mem_nil, not_false_eq_true, List.mem_cons, or_false, ↓opt_f, ↓optF_some, ↓ite_cd, ↓cd_true, ↓cd_false, ↓forL_f, ↓lcL_f, ↓dcL_f, ↓noEr_run, ↓w_frz, ↓getW_own, ↓dListRg1, ↓dIndex, ↓dCKw, ↓dMake, ↓dList, seq_lst, seq_tup, kwP1, kwP10, beq_self_eq_true, ↓dEqO, ↓dBinO, ↓dNev, tyV_dct, tyV_ins, kno_dct, clV_ptr, kit_sameR, nf_same, nf_none, nf_int, nf_bool, nf_str, nf_lst, nf_tup, nf_dct, ↓dLenO, eq_bl, ne_bl, ↓hot_run, ↓w_try, ↓w_try0, ↓erH_cons, ↓erH_nil, ↓shutD_mk, x1_mk, x2_mk, ↓w_rz, ↓dXf, ↓dIsX, ↓dBinS, true_or, or_true, or_self, Nat.reduceLT, Ads.cs_name, Ads.cs_value, Ads.cs_parent, Ads.cs_rank, Ads.cs_first, Ads.cs_last, ixq0, ixq1, ixq2, ixq3, ixq4, show ((3 : Nat) : Int) = 3 from rfl, io_Put, io_Move, io_Cut, io_Lift, io_Wrap, io_Reverse, io_SetValue, kwP210, kwP3210, kwP43210]
    refine mk_Lift A ?_
    simp -implicitDefEqProofs -dsimp only [idd_eq, Nat.reduceEqDiff, ↓w_seq, ↓w_if, ↓dTest, ↓dOp, ↓dUn, ↓w_var, ↓getS_val, ↓getS_own, ↓getS_par, ↓dC, rd_val, rd_bor, ownD_own, ownD_par, rds_nil, rds_cons, ↓w_asg, ↓dCB, ↓dCons, ↓dNil, ↓dgName, ↓dgTup, ↓dgCons, ↓dgNil, ↓w_setIx, ↓w_ret, ↓w_retF, ↓w_retN, ↓w_next, ↓w_drop, ↓w_own, ↓w_brk, ↓w_cnt, ↓w_setF, ↓w_dput, ↓w_body, ↓dN, ↓dCall, ↓dCallF, argsOf_nil, argsOf_val, argsOf_bor, bors, ↓dV, ↓dTup, ↓dLst, vals_nil, vals_val, ↓w_par, ↓w_par3, ↓w_parVO, ↓w_parOV, ↓w_parOO, ↓dTruth, ↓dIsi, ↓dIsiT, ↓dInO, insOf_ins, ↓dDNew, ↓dDGet, ↓dDIn, toTup_lst, toTup_tup, pf_nil, lk_self, key_str, key_int, isN_non, isNN_non, kno_int, kno_str, kno_lst, kno_tup, kno_bl, kno_non, tyV_int, tyV_bl, tyV_str, tyV_lst, tyV_tup, tyV_non, clV_ty, clVT_nil, clVT_val, kit_same, kit_int_bool, kit_bool_int, kits_list, kits_tuple, ↓dNot, ↓dAnd, ↓dOr, ↓dIf, ↓dAndV, ↓dOrV, ↓dNotV, ↓dChain, ↓dMeth, ↓dMethF, ↓dKw, ↓dSl, ↓dNoP, ↓dPart, ↓w_for, diRng1, diRng2, diRevR1, diEnumX, diAny, items_lst, items_tup, ↓dLc, ↓dDc, ↓dFld, ownAt_def, setD, Sl.setD, isPar0, isParS, isPN, isP_val, isP_own, isP_no, isP_par, ↓doF, outs_nil, outs_cons, parD_par, parIx, putOuts, wipeD, ↓dBodyF, ↓dAppend, D.isLst, cmp_int, bool_bl, toInt_int, toInt_bl, truth_bl, truth_int, truth_non, len_lst, len_tup, D_add, D_sub, D_mod, eq_int, ne_int, neg_int, ix0, ix1, ix2, ix3, ix4, tx0, tx1, tx2, sx0, sx1, sx2, List.length_cons, List.length_nil, List.cons_append, List.nil_append, List.replicate, Nat.reduceAdd, Nat.reduceSub, List.getElem?_cons_zero, List.getElem?_cons_succ, List.getElem?_nil, List.set_cons_zero, List.set_cons_succ, Option.bind_some, Option.map_some, Option.isSome_some, true_and, and_true, if_true, if_false, Bool.false_eq_true, reduceIte, Int.reduceBEq, Bool.not_true, Bool.not_false, List.nodup_cons, List.nodup_nil, List.not_mem_nil, not_false_eq_true, List.mem_cons, or_false, ↓opt_f, ↓optF_some, ↓ite_cd, ↓cd_true, ↓cd_false, ↓forL_f, ↓lcL_f, ↓dcL_f, ↓noEr_run, ↓w_frz, ↓getW_own, ↓dListRg1, ↓dIndex, ↓dCKw, ↓dMake, ↓dList, seq_lst, seq_tup, kwP1, kwP10, beq_self_eq_true, ↓dEqO, ↓dBinO, ↓dNev, tyV_dct, tyV_ins, kno_dct, clV_ptr, kit_sameR, nf_same, nf_none, nf_int, nf_bool, nf_str, nf_lst, nf_tup, nf_dct, ↓dLenO, eq_bl, ne_bl, ↓hot_run, ↓w_try, ↓w_try0, ↓erH_cons, ↓erH_nil, ↓shutD_mk, x1_mk, x2_mk, ↓w_rz, ↓dXf, ↓dIsX, ↓dBinS, true_or, or_true, or_self, Nat.reduceLT, Ads.cs_name, Ads.cs_value, Ads.cs_parent, Ads.cs_rank, Ads.cs_first, Ads.cs_last, io_Put, io_Move, io_Cut, io_Lift, io_Wrap, io_Reverse, io_SetValue]
    exact h
  | 4, _ => 
    simp -implicitDefEqProofs -dsimp only [idd_eq, Nat.reduceEqDiff, ↓w_seq, ↓w_if, ↓dTest, ↓dOp, ↓dUn, ↓w_var, ↓getS_val, ↓getS_own, ↓getS_par, ↓dC, rd_val, rd_bor, ownD_own, ownD_par, rds_nil, rds_cons, ↓w_asg, ↓dCB, ↓dCons, ↓dNil, ↓dgName, ↓dgTup, ↓dgCons, ↓dgNil, ↓w_setIx, ↓w_ret, ↓w_retF, ↓w_retN, ↓w_next, ↓w_drop, ↓w_own, ↓w_brk, ↓w_cnt, ↓w_setF, ↓w_dput, ↓w_body, ↓dN, ↓dCall, ↓dCallF, argsOf_nil, argsOf_val, argsOf_bor, bors, ↓dV, ↓dTup, ↓dLst, vals_nil, vals_val, ↓w_par, ↓w_par3, ↓w_parVO, ↓w_parOV, ↓w_parOO, ↓dTruth, ↓dIsi, ↓dIsiT, ↓dInO, insOf_ins, ↓dDNew, ↓dDGet, ↓dDIn, toTup_lst, toTup_tup, pf_nil, lk_self, key_str, key_int, isN_non, isNN_non, kno_int, kno_str, kno_lst, kno_tup, kno_bl, kno_non, tyV_int, tyV_bl, tyV_str, tyV_lst, tyV_tup, tyV_non, clV_ty, clVT_nil, clVT_val, kit_same, kit_int_bool, kit_bool_int, kits_list, kits_tuple, ↓dNot, ↓dAnd, ↓dOr, ↓dIf, ↓dAndV, ↓dOrV, ↓dNotV, ↓dChain, ↓dMeth, ↓dMethF, ↓dKw, ↓dSl, ↓dNoP, ↓dPart, ↓w_for, diRng1, diRng2, diRevR1, diEnumX, diAny, items_lst, items_tup, ↓dLc, ↓dDc, ↓dFld, ownAt_def, setD, Sl.setD, isPar0, isParS, isPN, isP_val, isP_own, isP_no, isP_par, ↓doF, outs_nil, outs_cons, parD_par, parIx, putOuts, wipeD, ↓dBodyF, ↓dAppend, D.isLst, cmp_int, bool_bl, toInt_int, toInt_bl, truth_bl, truth_int, truth_non, len_lst, len_tup, D_add, D_sub, D_mod, eq_int, ne_int, neg_int, ix0, ix1, ix2, ix3, ix4, tx0, tx1, tx2, sx0, sx1, sx2, List.length_cons, List.length_nil, List.cons_append, List.nil_append, List.replicate, Nat.reduceAdd, Nat.reduceSub, List.getElem?_cons_zero, List.getElem?_cons_succ, List.getElem?_nil, List.set_cons_zero, List.set_cons_succ, Option.bind_some, Option.map_some, Option.isSome_some, true_and, and_true, if_true, if_false, Bool.false_eq_true, reduceIte, Int.reduceBEq, Bool.not_true, Bool.not_false, List.nodup_cons, List.nodup_nil, List.not_mem_nil, not_false_eq_true, List.mem_cons, or_false, ↓opt_f, ↓optF_some, ↓ite_cd, ↓cd_true, ↓cd_false, ↓forL_f, ↓lcL_f, ↓dcL_f, ↓noEr_run, ↓w_frz, ↓getW_own, ↓dListRg1, ↓dIndex, ↓dCKw, ↓dMake, ↓dList, seq_lst, seq_tup, kwP1, kwP10, beq_self_eq_true, ↓dEqO, ↓dBinO, ↓dNev, tyV_dct, tyV_ins, kno_dct, clV_ptr, kit_sameR, nf_same, nf_none, nf_int, nf_bool, nf_str, nf_lst, nf_tup, nf_dct, ↓dLenO, eq_bl, ne_bl, ↓hot_run, ↓w_try, ↓w_try0, ↓erH_cons, ↓erH_nil, ↓shutD_mk, x1_mk, x2_mk, ↓w_rz, ↓dXf, ↓dIsX, ↓dBinS, true_or, or_true, or_self, Nat.reduceLT, Ads.cs_name, Ads.cs_value, Ads.cs_parent, Ads.cs_rank, Ads.cs_first, Ads.cs_last, ixq0, ixq1, ixq2, ixq3, ixq4, show ((4 : Nat) : Int) = 4 from rfl, io_Put, io_Move, io_Cut, io_Lift, io_Wrap, io_Reverse, io_SetValue, kwP210, kwP3210, kwP43210]
    refine mk_Wrap A ?_
    simp -implicitDefEqProofs -dsimp only [idd_eq, Nat.reduceEqDiff, ↓w_seq, ↓w_if, ↓dTest, ↓dOp, ↓dUn, ↓w_var, ↓getS_val, ↓getS_own, ↓getS_par, ↓dC, rd_val, rd_bor, ownD_own, ownD_par, rds_nil, rds_cons, ↓w_asg, ↓dCB, ↓dCons, ↓dNil, ↓dgName, ↓dgTup, ↓dgCons, ↓dgNil, ↓w_setIx, ↓w_ret, ↓w_retF, ↓w_retN, ↓w_next, ↓w_drop, ↓w_own, ↓w_brk, ↓w_cnt, ↓w_setF, ↓w_dput, ↓w_body, ↓dN, ↓dCall, ↓dCallF, argsOf_nil, argsOf_val, argsOf_bor, bors, ↓dV, ↓dTup, ↓dLst, vals_nil, vals_val, ↓w_par, ↓w_par3, ↓w_parVO, ↓w_parOV, ↓w_parOO, ↓dTruth, ↓dIsi, ↓dIsiT, ↓dInO, insOf_ins, ↓dDNew, ↓dDGet, ↓dDIn, toTup_lst, toTup_tup, pf_nil, lk_self, key_str, key_int, isN_non, isNN_non, kno_int, kno_str, kno_lst, kno_tup, kno_bl, kno_non, tyV_int, tyV_bl, tyV_str, tyV_lst, tyV_tup, tyV_non, clV_ty, clVT_nil, clVT_val, kit_same, kit_int_bool, kit_bool_int, kits_list, kits_tuple, ↓dNot, ↓dAnd, ↓dOr, ↓dIf, ↓dAndV, ↓dOrV, ↓dNotV, ↓dChain, ↓dMeth, ↓dMethF, ↓dKw, ↓dSl, ↓dNoP, ↓dPart, ↓w_for, diRng1, diRng2, diRevR1, diEnumX, diAny, items_lst, items_tup, ↓dLc, ↓dDc, ↓dFld, ownAt_def, setD, Sl.setD, isPar0, isParS, isPN, isP_val, isP_own, isP_no, isP_par, ↓doF, outs_nil, outs_cons, parD_par, parIx, putOuts, wipeD, ↓dBodyF, ↓dAppend, D.isLst, cmp_int, bool_bl, toInt_int, toInt_bl, truth_bl, truth_int, truth_non, len_lst, len_tup, D_add, D_sub, D_mod, eq_int, ne_int, neg_int, ix0, ix1, ix2, ix3, ix4, tx0, tx1, tx2, sx0, sx1, sx2, List.length_cons, List.length_nil, List.cons_append, List.nil_append, List.replicate, Nat.reduceAdd, Nat.reduceSub, List.getElem?_cons_zero, List.getElem?_cons_succ, List.getElem?_nil, List.set_cons_zero, List.set_cons_succ, Option.bind_some, Option.map_some, Option.isSome_some, true_and, and_true, if_true, if_false, Bool.false_eq_true, reduceIte, Int.reduceBEq, Bool.not_true, Bool.not_false, List.nodup_cons, List.nodup_nil, List.not_mem_nil, not_false_eq_true, List.mem_cons, or_false, ↓opt_f, ↓optF_some, ↓ite_cd, ↓cd_true, ↓cd_false, ↓forL_f, ↓lcL_f, ↓dcL_f, ↓noEr_run, ↓w_frz, ↓getW_own, ↓dListRg1, ↓dIndex, ↓dCKw, ↓dMake, ↓dList, seq_lst, seq_tup, kwP1, kwP10, beq_self_eq_true, ↓dEqO, ↓dBinO, ↓dNev, tyV_dct, tyV_ins, kno_dct, clV_ptr, kit_sameR, nf_same, nf_none, nf_int, nf_bool, nf_str, nf_lst, nf_tup, nf_dct, ↓dLenO, eq_bl, ne_bl, ↓hot_run, ↓w_try, ↓w_try0, ↓erH_cons, ↓erH_nil, ↓shutD_mk, x1_mk, x2_mk, ↓w_rz, ↓dXf, ↓dIsX, ↓dBinS, true_or, or_true, or_self, Nat.reduceLT, Ads.cs_name, Ads.cs_value, Ads.cs_parent, Ads.cs_rank, Ads.cs_first, Ads.cs_last, io_Put, io_Move, io_Cut, io_Lift, io_Wrap, io_Reverse, io_SetValue]
    exact h
  | 5, _ => 
    simp -implicitDefEqProofs -dsimp only [idd_eq, Nat.reduceEqDiff, ↓w_seq, ↓w_if, ↓dTest, ↓dOp, ↓dUn, ↓w_var, ↓getS_val, ↓getS_own, ↓getS_par, ↓dC, rd_val, rd_bor, ownD_own, ownD_par, rds_nil, rds_cons, ↓w_asg, ↓dCB, ↓dCons, ↓dNil, ↓dgName, ↓dgTup, ↓dgCons, ↓dgNil, ↓w_setIx, ↓w_ret, ↓w_retF, ↓w_retN, ↓w_next, ↓w_drop, ↓w_own, ↓w_brk, ↓w_cnt, ↓w_setF, ↓w_dput, ↓w_body, ↓dN, ↓dCall, ↓dCallF, argsOf_nil, argsOf_val, argsOf_bor, bors, ↓dV, ↓dTup, ↓dLst, vals_nil, vals_val, ↓w_par, ↓w_par3, ↓w_parVO, ↓w_parOV, ↓w_parOO, ↓dTruth, ↓dIsi, ↓dIsiT, ↓dInO, insOf_ins, ↓dDNew, ↓dDGet, ↓dDIn, toTup_lst, toTup_tup, pf_nil, lk_self, key_str, key_int, isN_non, isNN_non, kno_int, kno_str, kno_lst, kno_tup, kno_bl, kno_non, tyV_int, tyV_bl, tyV_str, tyV_lst, tyV_tup, tyV_non, clV_ty, clVT_nil, clVT_val, kit_same, kit_int_bool, kit_bool_int, kits_list, kits_tuple, ↓dNot, ↓dAnd, ↓dOr, ↓dIf, ↓dAndV, ↓dOrV, ↓dNotV, ↓dChain, ↓dMeth, ↓dMethF, ↓dKw, ↓dSl, ↓dNoP, ↓dPart, ↓w_for, diRng1, diRng2, diRevR1, diEnumX, diAny, items_lst, items_tup, ↓dLc, ↓dDc, ↓dFld, ownAt_def, setD, Sl.setD, isPar0, isParS, isPN, isP_val, isP_own, isP_no, isP_par, ↓doF, outs_nil, outs_cons, parD_par, parIx, putOuts, wipeD, ↓dBodyF, ↓dAppend, D.isLst, cmp_int, bool_bl, toInt_int, toInt_bl, truth_bl, truth_int, truth_non, len_lst, len_tup, D_add, D_sub, D_mod, eq_int, ne_int, neg_int, ix0, ix1, ix2, ix3, ix4, tx0, tx1, tx2, sx0, sx1, sx2, List.length_cons, List.length_nil, List.cons_append, List.nil_append, List.replicate, Nat.reduceAdd, Nat.reduceSub, List.getElem?_cons_zero, List.getElem?_cons_succ, List.getElem?_nil, List.set_cons_zero, List.set_cons_succ, Option.bind_some, Option.map_some, Option.isSome_some, true_and, and_true, if_true, if_false, Bool.false_eq_true, reduceIte, Int.reduceBEq, Bool.not_true, Bool.not_false, List.nodup_cons, List.nodup_nil, List.not_mem_nil, not_false_eq_true, List.mem_cons, or_false, ↓opt_f, ↓optF_some, ↓ite_cd, ↓cd_true, ↓cd_false, ↓forL_f, ↓lcL_f, ↓dcL_f, ↓noEr_run, ↓w_frz, ↓getW_own, ↓dListRg1, ↓dIndex, ↓dCKw, ↓dMake, ↓dList, seq_lst, seq_tup, kwP1, kwP10, beq_self_eq_true, ↓dEqO, ↓dBinO, ↓dNev, tyV_dct, tyV_ins, kno_dct, clV_ptr, kit_sameR, nf_same, nf_none, nf_int, nf_bool, nf_str, nf_lst, nf_tup, nf_dct, ↓dLenO, eq_bl, ne_bl, ↓hot_run, ↓w_try, ↓w_try0, ↓erH_cons, ↓erH_nil, ↓shutD_mk, x1_mk, x2_mk, ↓w_rz, ↓dXf, ↓dIsX, ↓dBinS, true_or, or_true, or_self, Nat.reduceLT, Ads.cs_name, Ads.cs_value, Ads.cs_parent, Ads.cs_rank, Ads.cs_first, Ads.cs_last, ixq0, ixq1, ixq2, ixq3, ixq4, show ((5 : Nat) : Int) = 5 from rfl, io_Put, io_Move, io_Cut, io_Lift, io_Wrap, io_Reverse, io_SetValue, kwP210, kwP3210, kwP43210]
    refine mk_Reverse A ?_
    simp -implicitDefEqProofs -dsimp only [idd_eq, Nat.reduceEqDiff, ↓w_seq, ↓w_if, ↓dTest, ↓dOp, ↓dUn, ↓w_var, ↓getS_val, ↓getS_own, ↓getS_par, ↓dC, rd_val, rd_bor, ownD_own, ownD_par, rds_nil, rds_cons, ↓w_asg, ↓dCB, ↓dCons, ↓dNil, ↓dgName, ↓dgTup, ↓dgCons, ↓dgNil, ↓w_setIx, ↓w_ret, ↓w_retF, ↓w_retN, ↓w_next, ↓w_drop, ↓w_own, ↓w_brk, ↓w_cnt, ↓w_setF, ↓w_dput, ↓w_body, ↓dN, ↓dCall, ↓dCallF, argsOf_nil, argsOf_val, argsOf_bor, bors, ↓dV, ↓dTup, ↓dLst, vals_nil, vals_val, ↓w_par, ↓w_par3, ↓w_parVO, ↓w_parOV, ↓w_parOO, ↓dTruth, ↓dIsi, ↓dIsiT, ↓dInO, insOf_ins, ↓dDNew, ↓dDGet, ↓dDIn, toTup_lst, toTup_tup, pf_nil, lk_self, key_str, key_int, isN_non, isNN_non, kno_int, kno_str, kno_lst, kno_tup, kno_bl, kno_non, tyV_int, tyV_bl, tyV_str, tyV_lst, tyV_tup, tyV_non, clV_ty, clVT_nil, clVT_val, kit_same, kit_int_bool, kit_bool_int, kits_list, kits_tuple, ↓dNot, ↓dAnd, ↓dOr, ↓dIf, ↓dAndV, ↓dOrV, ↓dNotV, ↓dChain, ↓dMeth, ↓dMethF, ↓dKw, ↓dSl, ↓dNoP, ↓dPart, ↓w_for, diRng1, diRng2, diRevR1, diEnumX, diAny, items_lst, items_tup, ↓dLc, ↓dDc, ↓dFld, ownAt_def, setD, Sl.setD, isPar0, isParS, isPN, isP_val, isP_own, isP_no, isP_par, ↓doF, outs_nil, outs_cons, parD_par, parIx, putOuts, wipeD, ↓dBodyF, ↓dAppend, D.isLst, cmp_int, bool_bl, toInt_int, toInt_bl, truth_bl, truth_int, truth_non, len_lst, len_tup, D_add, D_sub, D_mod, eq_int, ne_int, neg_int, ix0, ix1, ix2, ix3, ix4, tx0, tx1, tx2, sx0, sx1, sx2, List.length_cons, List.length_nil, List.cons_append, List.nil_append, List.replicate, Nat.reduceAdd, Nat.reduceSub, List.getElem?_cons_zero, List.getElem?_cons_succ, List.getElem?_nil, List.set_cons_zero, List.set_cons_succ, Option.bind_some, Option.map_some, Option.isSome_some, true_and, and_true, if_true, if_false, Bool.false_eq_true, reduceIte, Int.reduceBEq, Bool.not_true, Bool.not_false, List.nodup_cons, List.nodup_nil, List.not_mem_nil, not_false_eq_true, List.mem_cons, or_false, ↓opt_f, ↓optF_some, ↓ite_cd, ↓cd_true, ↓cd_false, ↓forL_f, ↓lcL_f, ↓dcL_f, ↓noEr_run, ↓w_frz, ↓getW_own, ↓dListRg1, ↓dIndex, ↓dCKw, ↓dMake, ↓dList, seq_lst, seq_tup, kwP1, kwP10, beq_self_eq_true, ↓dEqO, ↓dBinO, ↓dNev, tyV_dct, tyV_ins, kno_dct, clV_ptr, kit_sameR, nf_same, nf_none, nf_int, nf_bool, nf_str, nf_lst, nf_tup, nf_dct, ↓dLenO, eq_bl, ne_bl, ↓hot_run, ↓w_try, ↓w_try0, ↓erH_cons, ↓erH_nil, ↓shutD_mk, x1_mk, x2_mk, ↓w_rz, ↓dXf, ↓dIsX, ↓dBinS, true_or, or_true, or_self, Nat.reduceLT, Ads.cs_name, Ads.cs_value, Ads.cs_parent, Ads.cs_rank, Ads.cs_first, Ads.cs_last, io_Put, io_Move, io_Cut, io_Lift, io_Wrap, io_Reverse, io_SetValue]
    exact h
  | 6, _ => 
    simp -implicitDefEqProofs -dsimp only [idd_eq, Nat.reduceEqDiff, ↓w_seq, ↓w_if, ↓dTest, ↓dOp, ↓dUn, ↓w_var, ↓getS_val, ↓getS_own, ↓getS_par, ↓dC, rd_val, rd_bor, ownD_own, ownD_par, rds_nil, rds_cons, ↓w_asg, ↓dCB, ↓dCons, ↓dNil, ↓dgName, ↓dgTup, ↓dgCons, ↓dgNil, ↓w_setIx, ↓w_ret, ↓w_retF, ↓w_retN, ↓w_next, ↓w_drop, ↓w_own, ↓w_brk, ↓w_cnt, ↓w_setF, ↓w_dput, ↓w_body, ↓dN, ↓dCall, ↓dCallF, argsOf_nil, argsOf_val, argsOf_bor, bors, ↓dV, ↓dTup, ↓dLst, vals_nil, vals_val, ↓w_par, ↓w_par3, ↓w_parVO, ↓w_parOV, ↓w_parOO, ↓dTruth, ↓dIsi, ↓dIsiT, ↓dInO, insOf_ins, ↓dDNew, ↓dDGet, ↓dDIn, toTup_lst, toTup_tup, pf_nil, lk_self, key_str, key_int, isN_non, isNN_non, kno_int, kno_str, kno_lst, kno_tup, kno_bl, kno_non, tyV_int, tyV_bl, tyV_str, tyV_lst, tyV_tup, tyV_non, clV_ty, clVT_nil, clVT_val, kit_same, kit_int_bool, kit_bool_int, kits_list, kits_tuple, ↓dNot, ↓dAnd, ↓dOr, ↓dIf, ↓dAndV, ↓dOrV, ↓dNotV, ↓dChain, ↓dMeth, ↓dMethF, ↓dKw, ↓dSl, ↓dNoP, ↓dPart, ↓w_for, diRng1, diRng2, diRevR1, diEnumX, diAny, items_lst, items_tup, ↓dLc, ↓dDc, ↓dFld, ownAt_def, setD, Sl.setD, isPar0, isParS, isPN, isP_val, isP_own, isP_no, isP_par, ↓doF, outs_nil, outs_cons, parD_par, parIx, putOuts, wipeD, ↓dBodyF, ↓dAppend, D.isLst, cmp_int, bool_bl, toInt_int, toInt_bl, truth_bl, truth_int, truth_non, len_lst, len_tup, D_add, D_sub, D_mod, eq_int, ne_int, neg_int, ix0, ix1, ix2, ix3, ix4, tx0, tx1, tx2, sx0, sx1, sx2, List.length_cons, List.length_nil, List.cons_append, List.nil_append, List.replicate, Nat.reduceAdd, Nat.reduceSub, List.getElem?_cons_zero, List.getElem?_cons_succ, List.getElem?_nil, List.set_cons_zero, List.set_cons_succ, Option.bind_some, Option.map_some, Option.isSome_some, true_and, and_true, if_true, if_false, Bool.false_eq_true, reduceIte, Int.reduceBEq, Bool.not_true, Bool.not_false, List.nodup_cons, List.nodup_nil, List.not_mem_nil, not_false_eq_true, List.mem_cons, or_false, ↓opt_f, ↓optF_some, ↓ite_cd, ↓cd_true, ↓cd_false, ↓forL_f, ↓lcL_f, ↓dcL_f, ↓noEr_run, ↓w_frz, ↓getW_own, ↓dListRg1, ↓dIndex, ↓dCKw, ↓dMake, ↓dList, seq_lst, seq_tup, kwP1, kwP10, beq_self_eq_true, ↓dEqO, ↓dBinO, ↓dNev, tyV_dct, tyV_ins, kno_dct, clV_ptr, kit_sameR, nf_same, nf_none, nf_int, nf_bool, nf_str, nf_lst, nf_tup, nf_dct, ↓dLenO, eq_bl, ne_bl, ↓hot_run, ↓w_try, ↓w_try0, ↓erH_cons, ↓erH_nil, ↓shutD_mk, x1_mk, x2_mk, ↓w_rz, ↓dXf, ↓dIsX, ↓dBinS, true_or, or_true, or_self, Nat.reduceLT, Ads.cs_name, Ads.cs_value, Ads.cs_parent, Ads.cs_rank, Ads.cs_first, Ads.cs_last, ixq0, ixq1, ixq2, ixq3, ixq4, show ((6 : Nat) : Int) = 6 from rfl, io_Put, io_Move, io_Cut, io_Lift, io_Wrap, io_Reverse, io_SetValue, kwP210, kwP3210, kwP43210]
    refine mk_SetValue A ?_
    simp -implicitDefEqProofs -dsimp only [idd_eq, Nat.reduceEqDiff, ↓w_seq, ↓w_if, ↓dTest, ↓dOp, ↓dUn, ↓w_var, ↓getS_val, ↓getS_own, ↓getS_par, ↓dC, rd_val, rd_bor, ownD_own, ownD_par, rds_nil, rds_cons, ↓w_asg, ↓dCB, ↓dCons, ↓dNil, ↓dgName, ↓dgTup, ↓dgCons, ↓dgNil, ↓w_setIx, ↓w_ret, ↓w_retF, ↓w_retN, ↓w_next, ↓w_drop, ↓w_own, ↓w_brk, ↓w_cnt, ↓w_setF, ↓w_dput, ↓w_body, ↓dN, ↓dCall, ↓dCallF, argsOf_nil, argsOf_val, argsOf_bor, bors, ↓dV, ↓dTup, ↓dLst, vals_nil, vals_val, ↓w_par, ↓w_par3, ↓w_parVO, ↓w_parOV, ↓w_parOO, ↓dTruth, ↓dIsi, ↓dIsiT, ↓dInO, insOf_ins, ↓dDNew, ↓dDGet, ↓dDIn, toTup_lst, toTup_tup, pf_nil, lk_self, key_str, key_int, isN_non, isNN_non, kno_int, kno_str, kno_lst, kno_tup, kno_bl, kno_non, tyV_int, tyV_bl, tyV_str, tyV_lst, tyV_tup, tyV_non, clV_ty, clVT_nil, clVT_val, kit_same, kit_int_bool, kit_bool_int, kits_list, kits_tuple, ↓dNot, ↓dAnd, ↓dOr, ↓dIf, ↓dAndV, ↓dOrV, ↓dNotV, ↓dChain, ↓dMeth, ↓dMethF, ↓dKw, ↓dSl, ↓dNoP, ↓dPart, ↓w_for, diRng1, diRng2, diRevR1, diEnumX, diAny, items_lst, items_tup, ↓dLc, ↓dDc, ↓dFld, ownAt_def, setD, Sl.setD, isPar0, isParS, isPN, isP_val, isP_own, isP_no, isP_par, ↓doF, outs_nil, outs_cons, parD_par, parIx, putOuts, wipeD, ↓dBodyF, ↓dAppend, D.isLst, cmp_int, bool_bl, toInt_int, toInt_bl, truth_bl, truth_int, truth_non, len_lst, len_tup, D_add, D_sub, D_mod, eq_int, ne_int, neg_int, ix0, ix1, ix2, ix3, ix4, tx0, tx1, tx2, sx0, sx1, sx2, List.length_cons, List.length_nil, List.cons_append, List.nil_append, List.replicate, Nat.reduceAdd, Nat.reduceSub, List.getElem?_cons_zero, List.getElem?_cons_succ, List.getElem?_nil, List.set_cons_zero, List.set_cons_succ, Option.bind_some, Option.map_some, Option.isSome_some, true_and, and_true, if_true, if_false, Bool.false_eq_true, reduceIte, Int.reduceBEq, Bool.not_true, Bool.not_false, List.nodup_cons, List.nodup_nil, List.not_mem_nil, not_false_eq_true, List.mem_cons, or_false, ↓opt_f, ↓optF_some, ↓ite_cd, ↓cd_true, ↓cd_false, ↓forL_f, ↓lcL_f, ↓dcL_f, ↓noEr_run, ↓w_frz, ↓getW_own, ↓dListRg1, ↓dIndex, ↓dCKw, ↓dMake, ↓dList, seq_lst, seq_tup, kwP1, kwP10, beq_self_eq_true, ↓dEqO, ↓dBinO, ↓dNev, tyV_dct, tyV_ins, kno_dct, clV_ptr, kit_sameR, nf_same, nf_none, nf_int, nf_bool, nf_str, nf_lst, nf_tup, nf_dct, ↓dLenO, eq_bl, ne_bl, ↓hot_run, ↓w_try, ↓w_try0, ↓erH_cons, ↓erH_nil, ↓shutD_mk, x1_mk, x2_mk, ↓w_rz, ↓dXf, ↓dIsX, ↓dBinS, true_or, or_true, or_self, Nat.reduceLT, Ads.cs_name, Ads.cs_value, Ads.cs_parent, Ads.cs_rank, Ads.cs_first, Ads.cs_last, io_Put, io_Move, io_Cut, io_Lift, io_Wrap, io_Reverse, io_SetValue]
    exact h

theorem told_ok (k : Nat) (hk : k < 7) {q : D → List D → Prop} {er} (h : q (.lst (due k f0 f1 f2 f3 f4)) []) : dsp_p_law_told K A [.val (.int (k : Int)), .val (dd A k f0 f1 f2 f3 f4)] q er := by
  have z1 : 0 + 1 ≤ sizeLine := by decide
  have z2 : 0 + 1 + 1 ≤ sizeLine := by decide
  have z3 : 0 + 1 + 1 + 1 ≤ sizeLine := by decide
  have z4 : 0 + 1 + 1 + 1 + 1 ≤ sizeLine := by decide
  have z5 : 0 + 1 + 1 + 1 + 1 + 1 ≤ sizeLine := by decide
  unfold dsp_p_law_told body_p_law_told
  match k, hk with
  | 0, _ => 
    have is2 : D.isIn (.int 0) (.tup [.int 2, .int 3]) = some (.bl false) := rfl
    simp -implicitDefEqProofs -dsimp only [idd_eq, Nat.reduceEqDiff, ↓w_seq, ↓w_if, ↓dTest, ↓dOp, ↓dUn, ↓w_var, ↓getS_val, ↓getS_own, ↓getS_par, ↓dC, rd_val, rd_bor, ownD_own, ownD_par, rds_nil, rds_cons, ↓w_asg, ↓dCB, ↓dCons, ↓dNil, ↓dgName, ↓dgTup, ↓dgCons, ↓dgNil, ↓w_setIx, ↓w_ret, ↓w_retF, ↓w_retN, ↓w_next, ↓w_drop, ↓w_own, ↓w_brk, ↓w_cnt, ↓w_setF, ↓w_dput, ↓w_body, ↓dN, ↓dCall, ↓dCallF, argsOf_nil, argsOf_val, argsOf_bor, bors, ↓dV, ↓dTup, ↓dLst, vals_nil, vals_val, ↓w_par, ↓w_par3, ↓w_parVO, ↓w_parOV, ↓w_parOO, ↓dTruth, ↓dIsi, ↓dIsiT, ↓dInO, insOf_ins, ↓dDNew, ↓dDGet, ↓dDIn, toTup_lst, toTup_tup, pf_nil, lk_self, key_str, key_int, isN_non, isNN_non, kno_int, kno_str, kno_lst, kno_tup, kno_bl, kno_non, tyV_int, tyV_bl, tyV_str, tyV_lst, tyV_tup, tyV_non, clV_ty, clVT_nil, clVT_val, kit_same, kit_int_bool, kit_bool_int, kits_list, kits_tuple, ↓dNot, ↓dAnd, ↓dOr, ↓dIf, ↓dAndV, ↓dOrV, ↓dNotV, ↓dChain, ↓dMeth, ↓dMethF, ↓dKw, ↓dSl, ↓dNoP, ↓dPart, ↓w_for, diRng1, diRng2, diRevR1, diEnumX, diAny, items_lst, items_tup, ↓dLc, ↓dDc, ↓dFld, ownAt_def, setD, Sl.setD, isPar0, isParS, isPN, isP_val, isP_own, isP_no, isP_par, ↓doF, outs_nil, outs_cons, parD_par, parIx, putOuts, wipeD, ↓dBodyF, ↓dAppend, D.isLst, cmp_int, bool_bl, toInt_int, toInt_bl, truth_bl, truth_int, truth_non, len_lst, len_tup, D_add, D_sub, D_mod, eq_int, ne_int, neg_int, ix0, ix1, ix2, ix3, ix4, tx0, tx1, tx2, sx0, sx1, sx2, List.length_cons, List.length_nil, List.cons_append, List.nil_append, List.replicate, Nat.reduceAdd, Nat.reduceSub, List.getElem?_cons_zero, List.getElem?_cons_succ, List.getElem?_nil, List.set_cons_zero, List.set_cons_succ, Option.bind_some, Option.map_some, Option.isSome_some, true_and, and_true, if_true, if_false, Bool.false_eq_true, reduceIte, Int.reduceBEq, Bool.not_true, Bool.not_false, List.nodup_cons, List.nodup_nil, List.not_mem_nil, not_false_eq_true, List.mem_cons, or_false, ↓opt_f, ↓optF_some, ↓ite_cd, ↓cd_true, ↓cd_false, ↓forL_f, ↓lcL_f, ↓dcL_f, ↓noEr_run, ↓w_frz, ↓getW_own, ↓dListRg1, ↓dIndex, ↓dCKw, ↓dMake, ↓dList, seq_lst, seq_tup, kwP1, kwP10, beq_self_eq_true, ↓dEqO, ↓dBinO, ↓dNev, tyV_dct, tyV_ins, kno_dct, clV_ptr, kit_sameR, nf_same, nf_none, nf_int, nf_bool, nf_str, nf_lst, nf_tup, nf_dct, ↓dLenO, eq_bl, ne_bl, ↓hot_run, ↓w_try, ↓w_try0, ↓erH_cons, ↓erH_nil, ↓shutD_mk, x1_mk, x2_mk, ↓w_rz, ↓dXf, ↓dIsX, ↓dBinS, true_or, or_true, or_self, Nat.reduceLT, Ads.cs_name, Ads.cs_value, Ads.cs_parent, Ads.cs_rank, Ads.cs_first, Ads.cs_last, lk_ne l_value_name, lk_ne l_parent_name, lk_ne l_rank_name, lk_ne l_first_name, lk_ne l_last_name, lk_ne l_parent_value, lk_ne l_rank_value, lk_ne l_first_value, lk_ne l_last_value, lk_ne l_rank_parent, lk_ne l_first_parent, lk_ne l_last_parent, lk_ne l_first_rank, lk_ne l_last_rank, lk_ne l_last_first, show ((0 : Nat) : Int) = 0 from rfl, is2, z1, z2, z3, z4, z5, dd]
    exact h
  | 1, _ => 
    have is2 : D.isIn (.int 1) (.tup [.int 2, .int 3]) = some (.bl false) := rfl
    simp -implicitDefEqProofs -dsimp only [idd_eq, Nat.reduceEqDiff, ↓w_seq, ↓w_if, ↓dTest, ↓dOp, ↓dUn, ↓w_var, ↓getS_val, ↓getS_own, ↓getS_par, ↓dC, rd_val, rd_bor, ownD_own, ownD_par, rds_nil, rds_cons, ↓w_asg, ↓dCB, ↓dCons, ↓dNil, ↓dgName, ↓dgTup, ↓dgCons, ↓dgNil, ↓w_setIx, ↓w_ret, ↓w_retF, ↓w_retN, ↓w_next, ↓w_drop, ↓w_own, ↓w_brk, ↓w_cnt, ↓w_setF, ↓w_dput, ↓w_body, ↓dN, ↓dCall, ↓dCallF, argsOf_nil, argsOf_val, argsOf_bor, bors, ↓dV, ↓dTup, ↓dLst, vals_nil, vals_val, ↓w_par, ↓w_par3, ↓w_parVO, ↓w_parOV, ↓w_parOO, ↓dTruth, ↓dIsi, ↓dIsiT, ↓dInO, insOf_ins, ↓dDNew, ↓dDGet, ↓dDIn, toTup_lst, toTup_tup, pf_nil, lk_self, key_str, key_int, isN_non, isNN_non, kno_int, kno_str, kno_lst, kno_tup, kno_bl, kno_non, tyV_int, tyV_bl, tyV_str, tyV_lst, tyV_tup, tyV_non, clV_ty, clVT_nil, clVT_val, kit_same, kit_int_bool, kit_bool_int, kits_list, kits_tuple, ↓dNot, ↓dAnd, ↓dOr, ↓dIf, ↓dAndV, ↓dOrV, ↓dNotV, ↓dChain, ↓dMeth, ↓dMethF, ↓dKw, ↓dSl, ↓dNoP, ↓dPart, ↓w_for, diRng1, diRng2, diRevR1, diEnumX, diAny, items_lst, items_tup, ↓dLc, ↓dDc, ↓dFld, ownAt_def, setD, Sl.setD, isPar0, isParS, isPN, isP_val, isP_own, isP_no, isP_par, ↓doF, outs_nil, outs_cons, parD_par, parIx, putOuts, wipeD, ↓dBodyF, ↓dAppend, D.isLst, cmp_int, bool_bl, toInt_int, toInt_bl, truth_bl, truth_int, truth_non, len_lst, len_tup, D_add, D_sub, D_mod, eq_int, ne_int, neg_int, ix0, ix1, ix2, ix3, ix4, tx0, tx1, tx2, sx0, sx1, sx2, List.length_cons, List.length_nil, List.cons_append, List.nil_append, List.replicate, Nat.reduceAdd, Nat.reduceSub, List.getElem?_cons_zero, List.getElem?_cons_succ, List.getElem?_nil, List.set_cons_zero, List.set_cons_succ, Option.bind_some, Option.map_some, Option.isSome_some, true_and, and_true, if_true, if_false, Bool.false_eq_true, reduceIte, Int.reduceBEq, Bool.not_true, Bool.not_false, List.nodup_cons, List.nodup_nil, List.not_mem_nil, not_false_eq_true, List.mem_cons, or_false, ↓opt_f, ↓optF_some, ↓ite_cd, ↓cd_true, ↓cd_false, ↓forL_f, ↓lcL_f, ↓dcL_f, ↓noEr_run, ↓w_frz, ↓getW_own, ↓dListRg1, ↓dIndex, ↓dCKw, ↓dMake, ↓dList, seq_lst, seq_tup, kwP1, kwP10, beq_self_eq_true, ↓dEqO, ↓dBinO, ↓dNev, tyV_dct, tyV_ins, kno_dct, clV_ptr, kit_sameR, nf_same, nf_none, nf_int, nf_bool, nf_str, nf_lst, nf_tup, nf_dct, ↓dLenO, eq_bl, ne_bl, ↓hot_run, ↓w_try, ↓w_try0, ↓erH_cons, ↓erH_nil, ↓shutD_mk, x1_mk, x2_mk, ↓w_rz, ↓dXf, ↓dIsX, ↓dBinS, true_or, or_true, or_self, Nat.reduceLT, Ads.cs_name, Ads.cs_value, Ads.cs_parent, Ads.cs_rank, Ads.cs_first, Ads.cs_last, lk_ne l_value_name, lk_ne l_parent_name, lk_ne l_rank_name, lk_ne l_first_name, lk_ne l_last_name, lk_ne l_parent_value, lk_ne l_rank_value, lk_ne l_first_value, lk_ne l_last_value, lk_ne l_rank_parent, lk_ne l_first_parent, lk_ne l_last_parent, lk_ne l_first_rank, lk_ne l_last_rank, lk_ne l_last_first, show ((1 : Nat) : Int) = 1 from rfl, is2, z1, z2, z3, z4, z5, dd]
    exact h
  | 2, _ => 
    have is2 : D.isIn (.int 2) (.tup [.int 2, .int 3]) = some (.bl true) := rfl
    simp -implicitDefEqProofs -dsimp only [idd_eq, Nat.reduceEqDiff, ↓w_seq, ↓w_if, ↓dTest, ↓dOp, ↓dUn, ↓w_var, ↓getS_val, ↓getS_own, ↓getS_par, ↓dC, rd_val, rd_bor, ownD_own, ownD_par, rds_nil, rds_cons, ↓w_asg, ↓dCB, ↓dCons, ↓dNil, ↓dgName, ↓dgTup, ↓dgCons, ↓dgNil, ↓w_setIx, ↓w_ret, ↓w_retF, ↓w_retN, ↓w_next, ↓w_drop, ↓w_own, ↓w_brk, ↓w_cnt, ↓w_setF, ↓w_dput, ↓w_body, ↓dN, ↓dCall, ↓dCallF, argsOf_nil, argsOf_val, argsOf_bor, bors, ↓dV, ↓dTup, ↓dLst, vals_nil, vals_val, ↓w_par, ↓w_par3, ↓w_parVO, ↓w_parOV, ↓w_parOO, ↓dTruth, ↓dIsi, ↓dIsiT, ↓dInO, insOf_ins, ↓dDNew, ↓dDGet, ↓dDIn, toTup_lst, toTup_tup, pf_nil, lk_self, key_str, key_int, isN_non, isNN_non, kno_int, kno_str, kno_lst, kno_tup, kno_bl, kno_non, tyV_int, tyV_bl, tyV_str, tyV_lst, tyV_tup, tyV_non, clV_ty, clVT_nil, clVT_val, kit_same, kit_int_bool, kit_bool_int, kits_list, kits_tuple, ↓dNot, ↓dAnd, ↓dOr, ↓dIf, ↓dAndV, ↓dOrV, ↓dNotV, ↓dChain, ↓dMeth, ↓dMethF, ↓dKw, ↓dSl, ↓dNoP, ↓dPart, ↓w_for, diRng1, diRng2, diRevR1, diEnumX, diAny, items_lst, items_tup, ↓dLc, ↓dDc, ↓dFld, ownAt_def, setD, Sl.setD, isPar0, isParS, isPN, isP_val, isP_own, isP_no, isP_par, ↓doF, outs_nil, outs_cons, parD_par, parIx, putOuts, wipeD, ↓dBodyF, ↓dAppend, D.isLst, cmp_int, bool_bl, toInt_int, toInt_bl, truth_bl, truth_int, truth_non, len_lst, len_tup, D_add, D_sub, D_mod, eq_int, ne_int, neg_int, ix0, ix1, ix2, ix3, ix4, tx0, tx1, tx2, sx0, sx1, sx2, List.length_cons, List.length_nil, List.cons_append, List.nil_append, List.replicate, Nat.reduceAdd, Nat.reduceSub, List.getElem?_cons_zero, List.getElem?_cons_succ, List.getElem?_nil, List.set_cons_zero, List.set_cons_succ, Option.bind_some, Option.map_some, Option.isSome_some, true_and, and_true, if_true, if_false, Bool.false_eq_true, reduceIte, Int.reduceBEq, Bool.not_true, Bool.not_false, List.nodup_cons, List.nodup_nil, List.not_mem_nil, not_false_eq_true, List.mem_cons, or_false, ↓opt_f, ↓optF_some, ↓ite_cd, ↓cd_true, ↓cd_false, ↓forL_f, ↓lcL_f, ↓dcL_f, ↓noEr_run, ↓w_frz, ↓getW_own, ↓dListRg1, ↓dIndex, ↓dCKw, ↓dMake, ↓dList, seq_lst, seq_tup, kwP1, kwP10, beq_self_eq_true, ↓dEqO, ↓dBinO, ↓dNev, tyV_dct, tyV_ins, kno_dct, clV_ptr, kit_sameR, nf_same, nf_none, nf_int, nf_bool, nf_str, nf_lst, nf_tup, nf_dct, ↓dLenO, eq_bl, ne_bl, ↓hot_run, ↓w_try, ↓w_try0, ↓erH_cons, ↓erH_nil, ↓shutD_mk, x1_mk, x2_mk, ↓w_rz, ↓dXf, ↓dIsX, ↓dBinS, true_or, or_true, or_self, Nat.reduceLT, Ads.cs_name, Ads.cs_value, Ads.cs_parent, Ads.cs_rank, Ads.cs_first, Ads.cs_last, lk_ne l_value_name, lk_ne l_parent_name, lk_ne l_rank_name, lk_ne l_first_name, lk_ne l_last_name, lk_ne l_parent_value, lk_ne l_rank_value, lk_ne l_first_value, lk_ne l_last_value, lk_ne l_rank_parent, lk_ne l_first_parent, lk_ne l_last_parent, lk_ne l_first_rank, lk_ne l_last_rank, lk_ne l_last_first, show ((2 : Nat) : Int) = 2 from rfl, is2, z1, z2, z3, z4, z5, dd]
    exact h
  | 3, _ => 
    have is2 : D.isIn (.int 3) (.tup [.int 2, .int 3]) = some (.bl true) := rfl
    simp -implicitDefEqProofs -dsimp only [idd_eq, Nat.reduceEqDiff, ↓w_seq, ↓w_if, ↓dTest, ↓dOp, ↓dUn, ↓w_var, ↓getS_val, ↓getS_own, ↓getS_par, ↓dC, rd_val, rd_bor, ownD_own, ownD_par, rds_nil, rds_cons, ↓w_asg, ↓dCB, ↓dCons, ↓dNil, ↓dgName, ↓dgTup, ↓dgCons, ↓dgNil, ↓w_setIx, ↓w_ret, ↓w_retF, ↓w_retN, ↓w_next, ↓w_drop, ↓w_own, ↓w_brk, ↓w_cnt, ↓w_setF, ↓w_dput, ↓w_body, ↓dN, ↓dCall, ↓dCallF, argsOf_nil, argsOf_val, argsOf_bor, bors, ↓dV, ↓dTup, ↓dLst, vals_nil, vals_val, ↓w_par, ↓w_par3, ↓w_parVO, ↓w_parOV, ↓w_parOO, ↓dTruth, ↓dIsi, ↓dIsiT, ↓dInO, insOf_ins, ↓dDNew, ↓dDGet, ↓dDIn, toTup_lst, toTup_tup, pf_nil, lk_self, key_str, key_int, isN_non, isNN_non, kno_int, kno_str, kno_lst, kno_tup, kno_bl, kno_non, tyV_int, tyV_bl, tyV_str, tyV_lst, tyV_tup, tyV_non, clV_ty, clVT_nil, clVT_val, kit_same, kit_int_bool, kit_bool_int, kits_list, kits_tuple, ↓dNot, ↓dAnd, ↓dOr, ↓dIf, ↓dAndV, ↓dOrV, ↓dNotV, ↓dChain, ↓dMeth, ↓dMethF, ↓dKw, ↓dSl, ↓dNoP, ↓dPart, ↓w_for, diRng1, diRng2, diRevR1, diEnumX, diAny, items_lst, items_tup, ↓dLc, ↓dDc, ↓dFld, ownAt_def, setD, Sl.setD, isPar0, isParS, isPN, isP_val, isP_own, isP_no, isP_par, ↓doF, outs_nil, outs_cons, parD_par, parIx, putOuts, wipeD, ↓dBodyF, ↓dAppend, D.isLst, cmp_int, bool_bl, toInt_int, toInt_bl, truth_bl, truth_int, truth_non, len_lst, len_tup, D_add, D_sub, D_mod, eq_int, ne_int, neg_int, ix0, ix1, ix2, ix3, ix4, tx0, tx1, tx2, sx0, sx1, sx2, List.length_cons, List.length_nil, List.cons_append, List.nil_append, List.replicate, Nat.reduceAdd, Nat.reduceSub, List.getElem?_cons_zero, List.getElem?_cons_succ, List.getElem?_nil, List.set_cons_zero, List.set_cons_succ, Option.bind_some, Option.map_some, Option.isSome_some, true_and, and_true, if_true, if_false, Bool.false_eq_true, reduceIte, Int.reduceBEq, Bool.not_true, Bool.not_false, List.nodup_cons, List.nodup_nil, List.not_mem_nil, not_false_eq_true, List.mem_cons, or_false, ↓opt_f, ↓optF_some, ↓ite_cd, ↓cd_true, ↓cd_false, ↓forL_f, ↓lcL_f, ↓dcL_f, ↓noEr_run, ↓w_frz, ↓getW_own, ↓dListRg1, ↓dIndex, ↓dCKw, ↓dMake, ↓dList, seq_lst, seq_tup, kwP1, kwP10, beq_self_eq_true, ↓dEqO, ↓dBinO, ↓dNev, tyV_dct, tyV_ins, kno_dct, clV_ptr, kit_sameR, nf_same, nf_none, nf_int, nf_bool, nf_str, nf_lst, nf_tup, nf_dct, ↓dLenO, eq_bl, ne_bl, ↓hot_run, ↓w_try, ↓w_try0, ↓erH_cons, ↓erH_nil, ↓shutD_mk, x1_mk, x2_mk, ↓w_rz, ↓dXf, ↓dIsX, ↓dBinS, true_or, or_true, or_self, Nat.reduceLT, Ads.cs_name, Ads.cs_value, Ads.cs_parent, Ads.cs_rank, Ads.cs_first, Ads.cs_last, lk_ne l_value_name, lk_ne l_parent_name, lk_ne l_rank_name, lk_ne l_first_name, lk_ne l_last_name, lk_ne l_parent_value, lk_ne l_rank_value, lk_ne l_first_value, lk_ne l_last_value, lk_ne l_rank_parent, lk_ne l_first_parent, lk_ne l_last_parent, lk_ne l_first_rank, lk_ne l_last_rank, lk_ne l_last_first, show ((3 : Nat) : Int) = 3 from rfl, is2, z1, z2, z3, z4, z5, dd]
    exact h
  | 4, _ => 
    have is2 : D.isIn (.int 4) (.tup [.int 2, .int 3]) = some (.bl false) := rfl
    simp -implicitDefEqProofs -dsimp only [idd_eq, Nat.reduceEqDiff, ↓w_seq, ↓w_if, ↓dTest, ↓dOp, ↓dUn, ↓w_var, ↓getS_val, ↓getS_own, ↓getS_par, ↓dC, rd_val, rd_bor, ownD_own, ownD_par, rds_nil, rds_cons, ↓w_asg, ↓dCB, ↓dCons, ↓dNil, ↓dgName, ↓dgTup, ↓dgCons, ↓dgNil, ↓w_setIx, ↓w_ret, ↓w_retF, ↓w_retN, ↓w_next, ↓w_drop, ↓w_own, ↓w_brk, ↓w_cnt, ↓w_setF, ↓w_dput, ↓w_body, ↓dN, ↓dCall, ↓dCallF, argsOf_nil, argsOf_val, argsOf_bor, bors, ↓dV, ↓dTup, ↓dLst, vals_nil, vals_val, ↓w_par, ↓w_par3, ↓w_parVO, ↓w_parOV, ↓w_parOO, ↓dTruth, ↓dIsi, ↓dIsiT, ↓dInO, insOf_ins, ↓dDNew, ↓dDGet, ↓dDIn, toTup_lst, toTup_tup, pf_nil, lk_self, key_str, key_int, isN_non, isNN_non, kno_int, kno_str, kno_lst, kno_tup, kno_bl, kno_non, tyV_int, tyV_bl, tyV_str, tyV_lst, tyV_tup, tyV_non, clV_ty, clVT_nil, clVT_val, kit_same, kit_int_bool, kit_bool_int, kits_list, kits_tuple, ↓dNot, ↓dAnd, ↓dOr, ↓dIf, ↓dAndV, ↓dOrV, ↓dNotV, ↓dChain, ↓dMeth, ↓dMethF, ↓dKw, ↓dSl, ↓dNoP, ↓dPart, ↓w_for, diRng1, diRng2, diRevR1, diEnumX, diAny, items_lst, items_tup, ↓dLc, ↓dDc, ↓dFld, ownAt_def, setD, Sl.setD, isPar0, isParS, isPN, isP_val, isP_own, isP_no, isP_par, ↓doF, outs_nil, outs_cons, parD_par, parIx, putOuts, wipeD, ↓dBodyF, ↓dAppend, D.isLst, cmp_int, bool_bl, toInt_int, toInt_bl, truth_bl, truth_int, truth_non, len_lst, len_tup, D_add, D_sub, D_mod, eq_int, ne_int, neg_int, ix0, ix1, ix2, ix3, ix4, tx0, tx1, tx2, sx0, sx1, sx2, List.length_cons, List.length_nil, List.cons_append, List.nil_append, List.replicate, Nat.reduceAdd, Nat.reduceSub, List.getElem?_cons_zero, List.getElem?_cons_succ, List.getElem?_nil, List.set_cons_zero, List.set_cons_succ, Option.bind_some, Option.map_some, Option.isSome_some, true_and, and_true, if_true, if_false, Bool.false_eq_true, reduceIte, Int.reduceBEq, Bool.not_true, Bool.not_false, List.nodup_cons, List.nodup_nil, List.not_mem_nil, not_false_eq_true, List.mem_cons, or_false, ↓opt_f, ↓optF_some, ↓ite_cd, ↓cd_true, ↓cd_false, ↓forL_f, ↓lcL_f, ↓dcL_f, ↓noEr_run, ↓w_frz, ↓getW_own, ↓dListRg1, ↓dIndex, ↓dCKw, ↓dMake, ↓dList, seq_lst, seq_tup, kwP1, kwP10, beq_self_eq_true, ↓dEqO, ↓dBinO, ↓dNev, tyV_dct, tyV_ins, kno_dct, clV_ptr, kit_sameR, nf_same, nf_none, nf_int, nf_bool, nf_str, nf_lst, nf_tup, nf_dct, ↓dLenO, eq_bl, ne_bl, ↓hot_run, ↓w_try, ↓w_try0, ↓erH_cons, ↓erH_nil, ↓shutD_mk, x1_mk, x2_mk, ↓w_rz, ↓dXf, ↓dIsX, ↓dBinS, true_or, or_true, or_self, Nat.reduceLT, Ads.cs_name, Ads.cs_value, Ads.cs_parent, Ads.cs_rank, Ads.cs_first, Ads.cs_last, lk_ne l_value_name, lk_ne l_parent_name, lk_ne l_rank_name, lk_ne l_first_name, lk_ne l_last_name, lk_ne l_parent_value, lk_ne l_rank_value, lk_ne l_first_value, lk_ne l_last_value, lk_ne l_rank_parent, lk_ne l_first_parent, lk_ne l_last_parent, lk_ne l_first_rank, lk_ne l_last_rank, lk_ne l_last_first, show ((4 : Nat) : Int) = 4 from rfl, is2, z1, z2, z3, z4, z5, dd]
    exact h
  | 5, _ => 
    have is2 : D.isIn (.int 5) (.tup [.int 2, .int 3]) = some (.bl false) := rfl
    simp -implicitDefEqProofs -dsimp only [idd_eq, Nat.reduceEqDiff, ↓w_seq, ↓w_if, ↓dTest, ↓dOp, ↓dUn, ↓w_var, ↓getS_val, ↓getS_own, ↓getS_par, ↓dC, rd_val, rd_bor, ownD_own, ownD_par, rds_nil, rds_cons, ↓w_asg, ↓dCB, ↓dCons, ↓dNil, ↓dgName, ↓dgTup, ↓dgCons, ↓dgNil, ↓w_setIx, ↓w_ret, ↓w_retF, ↓w_retN, ↓w_next, ↓w_drop, ↓w_own, ↓w_brk, ↓w_cnt, ↓w_setF, ↓w_dput, ↓w_body, ↓dN, ↓dCall, ↓dCallF, argsOf_nil, argsOf_val, argsOf_bor, bors, ↓dV, ↓dTup, ↓dLst, vals_nil, vals_val, ↓w_par, ↓w_par3, ↓w_parVO, ↓w_parOV, ↓w_parOO, ↓dTruth, ↓dIsi, ↓dIsiT, ↓dInO, insOf_ins, ↓dDNew, ↓dDGet, ↓dDIn, toTup_lst, toTup_tup, pf_nil, lk_self, key_str, key_int, isN_non, isNN_non, kno_int, kno_str, kno_lst, kno_tup, kno_bl, kno_non, tyV_int, tyV_bl, tyV_str, tyV_lst, tyV_tup, tyV_non, clV_ty, clVT_nil, clVT_val, kit_same, kit_int_bool, kit_bool_int, kits_list, kits_tuple, ↓dNot, ↓dAnd, ↓dOr, ↓dIf, ↓dAndV, ↓dOrV, ↓dNotV, ↓dChain, ↓dMeth, ↓dMethF, ↓dKw, ↓dSl, ↓dNoP, ↓dPart, ↓w_for, diRng1, diRng2, diRevR1, diEnumX, diAny, items_lst, items_tup, ↓dLc, ↓dDc, ↓dFld, ownAt_def, setD, Sl.setD, isPar0, isParS, isPN, isP_val, isP_own, isP_no, isP_par, ↓doF, outs_nil, outs_cons, parD_par, parIx, putOuts, wipeD, ↓dBodyF, ↓dAppend, D.isLst, cmp_int, bool_bl, toInt_int, toInt_bl, truth_bl, truth_int, truth_non, len_lst, len_tup, D_add, D_sub, D_mod, eq_int, ne_int, neg_int, ix0, ix1, ix2, ix3, ix4, tx0, tx1, tx2, sx0, sx1, sx2, List.length_cons, List.length_nil, List.cons_append, List.nil_append, List.replicate, Nat.reduceAdd, Nat.reduceSub, List.getElem?_cons_zero, List.getElem?_cons_succ, List.getElem?_nil, List.set_cons_zero, List.set_cons_succ, Option.bind_some, Option.map_some, Option.isSome_some, true_and, and_true, if_true, if_false, Bool.false_eq_true, reduceIte, Int.reduceBEq, Bool.not_true, Bool.not_false, List.nodup_cons, List.nodup_nil, List.not_mem_nil, not_false_eq_true, List.mem_cons, or_false, ↓opt_f, ↓optF_some, ↓ite_cd, ↓cd_true, ↓cd_false, ↓forL_f, ↓lcL_f, ↓dcL_f, ↓noEr_run, ↓w_frz, ↓getW_own, ↓dListRg1, ↓dIndex, ↓dCKw, ↓dMake, ↓dList, seq_lst, seq_tup, kwP1, kwP10, beq_self_eq_true, ↓dEqO, ↓dBinO, ↓dNev, tyV_dct, tyV_ins, kno_dct, clV_ptr, kit_sameR, nf_same, nf_none, nf_int, nf_bool, nf_str, nf_lst, nf_tup, nf_dct, ↓dLenO, eq_bl, ne_bl, ↓hot_run, ↓w_try, ↓w_try0, ↓erH_cons, ↓erH_nil, ↓shutD_mk, x1_mk, x2_mk, ↓w_rz, ↓dXf, ↓dIsX, ↓dBinS, true_or, or_true, or_self, Nat.reduceLT, Ads.cs_name, Ads.cs_value, Ads.cs_parent, Ads.cs_rank, Ads.cs_first, Ads.cs_last, lk_ne l_value_name, lk_ne l_parent_name, lk_ne l_rank_name, lk_ne l_first_name, lk_ne l_last_name, lk_ne l_parent_value, lk_ne l_rank_value, lk_ne l_first_value, lk_ne l_last_value, lk_ne l_rank_parent, lk_ne l_first_parent, lk_ne l_last_parent, lk_ne l_first_rank, lk_ne l_last_rank, lk_ne l_last_first, show ((5 : Nat) : Int) = 5 from rfl, is2, z1, z2, z3, z4, z5, dd]
    exact h
  | 6, _ => 
    have is2 : D.isIn (.int 6) (.tup [.int 2, .int 3]) = some (.bl false) := rfl
    simp -implicitDefEqProofs -dsimp only [idd_eq, Nat.reduceEqDiff, ↓w_seq, ↓w_if, ↓dTest, ↓dOp, ↓dUn, ↓w_var, ↓getS_val, ↓getS_own, ↓getS_par, ↓dC, rd_val, rd_bor, ownD_own, ownD_par, rds_nil, rds_cons, ↓w_asg, ↓dCB, ↓dCons, ↓dNil, ↓dgName, ↓dgTup, ↓dgCons, ↓dgNil, ↓w_setIx, ↓w_ret, ↓w_retF, ↓w_retN, ↓w_next, ↓w_drop, ↓w_own, ↓w_brk, ↓w_cnt, ↓w_setF, ↓w_dput, ↓w_body, ↓dN, ↓dCall, ↓dCallF, argsOf_nil, argsOf_val, argsOf_bor, bors, ↓dV, ↓dTup, ↓dLst, vals_nil, vals_val, ↓w_par, ↓w_par3, ↓w_parVO, ↓w_parOV, ↓w_parOO, ↓dTruth, ↓dIsi, ↓dIsiT, ↓dInO, insOf_ins, ↓dDNew, ↓dDGet, ↓dDIn, toTup_lst, toTup_tup, pf_nil, lk_self, key_str, key_int, isN_non, isNN_non, kno_int, kno_str, kno_lst, kno_tup, kno_bl, kno_non, tyV_int, tyV_bl, tyV_str, tyV_lst, tyV_tup, tyV_non, clV_ty, clVT_nil, clVT_val, kit_same, kit_int_bool, kit_bool_int, kits_list, kits_tuple, ↓dNot, ↓dAnd, ↓dOr, ↓dIf, ↓dAndV, ↓dOrV, ↓dNotV, ↓dChain, ↓dMeth, ↓dMethF, ↓dKw, ↓dSl, ↓dNoP, ↓dPart, ↓w_for, diRng1, diRng2, diRevR1, diEnumX, diAny, items_lst, items_tup, ↓dLc, ↓dDc, ↓dFld, ownAt_def, setD, Sl.setD, isPar0, isParS, isPN, isP_val, isP_own, isP_no, isP_par, ↓doF, outs_nil, outs_cons, parD_par, parIx, putOuts, wipeD, ↓dBodyF, ↓dAppend, D.isLst, cmp_int, bool_bl, toInt_int, toInt_bl, truth_bl, truth_int, truth_non, len_lst, len_tup, D_add, D_sub, D_mod, eq_int, ne_int, neg_int, ix0, ix1, ix2, ix3, ix4, tx0, tx1, tx2, sx0, sx1, sx2, List.length_cons, List.length_nil, List.cons_append, List.nil_append, List.replicate, Nat.reduceAdd, Nat.reduceSub, List.getElem?_cons_zero, List.getElem?_cons_succ, List.getElem?_nil, List.set_cons_zero, List.set_cons_succ, Option.bind_some, Option.map_some, Option.isSome_some, true_and, and_true, if_true, if_false, Bool.false_eq_true, reduceIte, Int.reduceBEq, Bool.not_true, Bool.not_false, List.nodup_cons, List.nodup_nil, List.not_mem_nil, not_false_eq_true, List.mem_cons, or_false, ↓opt_f, ↓optF_some, ↓ite_cd, ↓cd_true, ↓cd_false, ↓forL_f, ↓lcL_f, ↓dcL_f, ↓noEr_run, ↓w_frz, ↓getW_own, ↓dListRg1, ↓dIndex, ↓dCKw, ↓dMake, ↓dList, seq_lst, seq_tup, kwP1, kwP10, beq_self_eq_true, ↓dEqO, ↓dBinO, ↓dNev, tyV_dct, tyV_ins, kno_dct, clV_ptr, kit_sameR, nf_same, nf_none, nf_int, nf_bool, nf_str, nf_lst, nf_tup, nf_dct, ↓dLenO, eq_bl, ne_bl, ↓hot_run, ↓w_try, ↓w_try0, ↓erH_cons, ↓erH_nil, ↓shutD_mk, x1_mk, x2_mk, ↓w_rz, ↓dXf, ↓dIsX, ↓dBinS, true_or, or_true, or_self, Nat.reduceLT, Ads.cs_name, Ads.cs_value, Ads.cs_parent, Ads.cs_rank, Ads.cs_first, Ads.cs_last, lk_ne l_value_name, lk_ne l_parent_name, lk_ne l_rank_name, lk_ne l_first_name, lk_ne l_last_name, lk_ne l_parent_value, lk_ne l_rank_value, lk_ne l_first_value, lk_ne l_last_value, lk_ne l_rank_parent, lk_ne l_first_parent, lk_ne l_last_parent, lk_ne l_first_rank, lk_ne l_last_rank, lk_ne l_last_first, show ((6 : Nat) : Int) = 6 from rfl, is2, z1, z2, z3, z4, z5, dd]
    exact h

theorem eq_same (k : Nat) (hk : k < 7) (hf : ∀ x ∈ [f0, f1, f2, f3, f4], x ∈ FL) (hg : ∀ x ∈ [g0, g1, g2, g3, g4], x ∈ FL) {q : D → List D → Prop} {er} (h : q (.bl (deq k f0 f1 f2 f3 f4 g0 g1 g2 g3 g4)) []) : dspq K A k [.val (dd A k f0 f1 f2 f3 f4), .val (dd A k g0 g1 g2 g3 g4)] q er := by
  have e0 := eqd (hf f0 (by simp)) (hg g0 (by simp))
  have e1 := eqd (hf f1 (by simp)) (hg g1 (by simp))
  have e2 := eqd (hf f2 (by simp)) (hg g2 (by simp))
  have e3 := eqd (hf f3 (by simp)) (hg g3 (by simp))
  have e4 := eqd (hf f4 (by simp)) (hg g4 (by simp))
  match k, hk with
  | 0, _ => 
    show dsp_Put_eq K A _ q er
    unfold dsp_Put_eq body_Put_eq
    unfold deq at h
    generalize bx f0 g0 = b0 at e0 h
    generalize bx f1 g1 = b1 at e1 h
    generalize bx f2 g2 = b2 at e2 h
    generalize bx f3 g3 = b3 at e3 h
    cases b0 <;> cases b1 <;> cases b2 <;> cases b3 <;> (simp -implicitDefEqProofs -dsimp only [idd_eq, Nat.reduceEqDiff, ↓w_seq, ↓w_if, ↓dTest, ↓dOp, ↓dUn, ↓w_var, ↓getS_val, ↓getS_own, ↓getS_par, ↓dC, rd_val, rd_bor, ownD_own, ownD_par, rds_nil, rds_cons, ↓w_asg, ↓dCB, ↓dCons, ↓dNil, ↓dgName, ↓dgTup, ↓dgCons, ↓dgNil, ↓w_setIx, ↓w_ret, ↓w_retF, ↓w_retN, ↓w_next, ↓w_drop, ↓w_own, ↓w_brk, ↓w_cnt, ↓w_setF, ↓w_dput, ↓w_body, ↓dN, ↓dCall, ↓dCallF, argsOf_nil, argsOf_val, argsOf_bor, bors, ↓dV, ↓dTup, ↓dLst, vals_nil, vals_val, ↓w_par, ↓w_par3, ↓w_parVO, ↓w_parOV, ↓w_parOO, ↓dTruth, ↓dIsi, ↓dIsiT, ↓dInO, insOf_ins, ↓dDNew, ↓dDGet, ↓dDIn, toTup_lst, toTup_tup, pf_nil, lk_self, key_str, key_int, isN_non, isNN_non, kno_int, kno_str, kno_lst, kno_tup, kno_bl, kno_non, tyV_int, tyV_bl, tyV_str, tyV_lst, tyV_tup, tyV_non, clV_ty, clVT_nil, clVT_val, kit_same, kit_int_bool, kit_bool_int, kits_list, kits_tuple, ↓dNot, ↓dAnd, ↓dOr, ↓dIf, ↓dAndV, ↓dOrV, ↓dNotV, ↓dChain, ↓dMeth, ↓dMethF, ↓dKw, ↓dSl, ↓dNoP, ↓dPart, ↓w_for, diRng1, diRng2, diRevR1, diEnumX, diAny, items_lst, items_tup, ↓dLc, ↓dDc, ↓dFld, ownAt_def, setD, Sl.setD, isPar0, isParS, isPN, isP_val, isP_own, isP_no, isP_par, ↓doF, outs_nil, outs_cons, parD_par, parIx, putOuts, wipeD, ↓dBodyF, ↓dAppend, D.isLst, cmp_int, bool_bl, toInt_int, toInt_bl, truth_bl, truth_int, truth_non, len_lst, len_tup, D_add, D_sub, D_mod, eq_int, ne_int, neg_int, ix0, ix1, ix2, ix3, ix4, tx0, tx1, tx2, sx0, sx1, sx2, List.length_cons, List.length_nil, List.cons_append, List.nil_append, List.replicate, Nat.reduceAdd, Nat.reduceSub, List.getElem?_cons_zero, List.getElem?_cons_succ, List.getElem?_nil, List.set_cons_zero, List.set_cons_succ, Option.bind_some, Option.map_some, Option.isSome_some, true_and, and_true, if_true, if_false, Bool.false_eq_true, reduceIte, Int.reduceBEq, Bool.not_true, Bool.not_false, List.nodup_cons, List.nodup_nil, List.not_mem_nil, not_false_eq_true, List.mem_cons, or_false, ↓opt_f, ↓optF_some, ↓ite_cd, ↓cd_true, ↓cd_false, ↓forL_f, ↓lcL_f, ↓dcL_f, ↓noEr_run, ↓w_frz, ↓getW_own, ↓dListRg1, ↓dIndex, ↓dCKw, ↓dMake, ↓dList, seq_lst, seq_tup, kwP1, kwP10, beq_self_eq_true, ↓dEqO, ↓dBinO, ↓dNev, tyV_dct, tyV_ins, kno_dct, clV_ptr, kit_sameR, nf_same, nf_none, nf_int, nf_bool, nf_str, nf_lst, nf_tup, nf_dct, ↓dLenO, eq_bl, ne_bl, ↓hot_run, ↓w_try, ↓w_try0, ↓erH_cons, ↓erH_nil, ↓shutD_mk, x1_mk, x2_mk, ↓w_rz, ↓dXf, ↓dIsX, ↓dBinS, true_or, or_true, or_self, Nat.reduceLT, Ads.cs_name, Ads.cs_value, Ads.cs_parent, Ads.cs_rank, Ads.cs_first, Ads.cs_last, lk_ne l_value_name, lk_ne l_parent_name, lk_ne l_rank_name, lk_ne l_first_name, lk_ne l_last_name, lk_ne l_parent_value, lk_ne l_rank_value, lk_ne l_first_value, lk_ne l_last_value, lk_ne l_rank_parent, lk_ne l_first_parent, lk_ne l_last_parent, lk_ne l_first_rank, lk_ne l_last_rank, lk_ne l_last_first, kn_Put, kn_Move, kn_Cut, kn_Lift, kn_Wrap, kn_Reverse, kn_SetValue, kit_sameR, dd, e0, e1, e2, e3, e4]; exact h)
  | 1, _ => 
    show dsp_Move_eq K A _ q er
    unfold dsp_Move_eq body_Move_eq
    unfold deq at h
    generalize bx f0 g0 = b0 at e0 h
    generalize bx f1 g1 = b1 at e1 h
    generalize bx f2 g2 = b2 at e2 h
    cases b0 <;> cases b1 <;> cases b2 <;> (simp -implicitDefEqProofs -dsimp only [idd_eq, Nat.reduceEqDiff, ↓w_seq, ↓w_if, ↓dTest, ↓dOp, ↓dUn, ↓w_var, ↓getS_val, ↓getS_own, ↓getS_par, ↓dC, rd_val, rd_bor, ownD_own, ownD_par, rds_nil, rds_cons, ↓w_asg, ↓dCB, ↓dCons, ↓dNil, ↓dgName, ↓dgTup, ↓dgCons, ↓dgNil, ↓w_setIx, ↓w_ret, ↓w_retF, ↓w_retN, ↓w_next, ↓w_drop, ↓w_own, ↓w_brk, ↓w_cnt, ↓w_setF, ↓w_dput, ↓w_body, ↓dN, ↓dCall, ↓dCallF, argsOf_nil, argsOf_val, argsOf_bor, bors, ↓dV, ↓dTup, ↓dLst, vals_nil, vals_val, ↓w_par, ↓w_par3, ↓w_parVO, ↓w_parOV, ↓w_parOO, ↓dTruth, ↓dIsi, ↓dIsiT, ↓dInO, insOf_ins, ↓dDNew, ↓dDGet, ↓dDIn, toTup_lst, toTup_tup, pf_nil, lk_self, key_str, key_int, isN_non, isNN_non, kno_int, kno_str, kno_lst, kno_tup, kno_bl, kno_non, tyV_int, tyV_bl, tyV_str, tyV_lst, tyV_tup, tyV_non, clV_ty, clVT_nil, clVT_val, kit_same, kit_int_bool, kit_bool_int, kits_list, kits_tuple, ↓dNot, ↓dAnd, ↓dOr, ↓dIf, ↓dAndV, ↓dOrV, ↓dNotV, ↓dChain, ↓dMeth, ↓dMethF, ↓dKw, ↓dSl, ↓dNoP, ↓dPart, ↓w_for, diRng1, diRng2, diRevR1, diEnumX, diAny, items_lst, items_tup, ↓dLc, ↓dDc, ↓dFld, ownAt_def, setD, Sl.setD, isPar0, isParS, isPN, isP_val, isP_own, isP_no, isP_par, ↓doF, outs_nil, outs_cons, parD_par, parIx, putOuts, wipeD, ↓dBodyF, ↓dAppend, D.isLst, cmp_int, bool_bl, toInt_int, toInt_bl, truth_bl, truth_int, truth_non, len_lst, len_tup, D_add, D_sub, D_mod, eq_int, ne_int, neg_int, ix0, ix1, ix2, ix3, ix4, tx0, tx1, tx2, sx0, sx1, sx2, List.length_cons, List.length_nil, List.cons_append, List.nil_append, List.replicate, Nat.reduceAdd, Nat.reduceSub, List.getElem?_cons_zero, List.getElem?_cons_succ, List.getElem?_nil, List.set_cons_zero, List.set_cons_succ, Option.bind_some, Option.map_some, Option.isSome_some, true_and, and_true, if_true, if_false, Bool.false_eq_true, reduceIte, Int.reduceBEq, Bool.not_true, Bool.not_false, List.nodup_cons, List.nodup_nil, List.not_mem_nil, not_false_eq_true, List.mem_cons, or_false, ↓opt_f, ↓optF_some, ↓ite_cd, ↓cd_true, ↓cd_false, ↓forL_f, ↓lcL_f, ↓dcL_f, ↓noEr_run, ↓w_frz, ↓getW_own, ↓dListRg1, ↓dIndex, ↓dCKw, ↓dMake, ↓dList, seq_lst, seq_tup, kwP1, kwP10, beq_self_eq_true, ↓dEqO, ↓dBinO, ↓dNev, tyV_dct, tyV_ins, kno_dct, clV_ptr, kit_sameR, nf_same, nf_none, nf_int, nf_bool, nf_str, nf_lst, nf_tup, nf_dct, ↓dLenO, eq_bl, ne_bl, ↓hot_run, ↓w_try, ↓w_try0, ↓erH_cons, ↓erH_nil, ↓shutD_mk, x1_mk, x2_mk, ↓w_rz, ↓dXf, ↓dIsX, ↓dBinS, true_or, or_true, or_self, Nat.reduceLT, Ads.cs_name, Ads.cs_value, Ads.cs_parent, Ads.cs_rank, Ads.cs_first, Ads.cs_last, lk_ne l_value_name, lk_ne l_parent_name, lk_ne l_rank_name, lk_ne l_first_name, lk_ne l_last_name, lk_ne l_parent_value, lk_ne l_rank_value, lk_ne l_first_value, lk_ne l_last_value, lk_ne l_rank_parent, lk_ne l_first_parent, lk_ne l_last_parent, lk_ne l_first_rank, lk_ne l_last_rank, lk_ne l_last_first, kn_Put, kn_Move, kn_Cut, kn_Lift, kn_Wrap, kn_Reverse, kn_SetValue, kit_sameR, dd, e0, e1, e2, e3, e4]; exact h)
  | 2, _ => 
    show dsp_Cut_eq K A _ q er
    unfold dsp_Cut_eq body_Cut_eq
    unfold deq at h
    generalize bx f0 g0 = b0 at e0 h
    cases b0 <;> (simp -implicitDefEqProofs -dsimp only [idd_eq, Nat.reduceEqDiff, ↓w_seq, ↓w_if, ↓dTest, ↓dOp, ↓dUn, ↓w_var, ↓getS_val, ↓getS_own, ↓getS_par, ↓dC, rd_val, rd_bor, ownD_own, ownD_par, rds_nil, rds_cons, ↓w_asg, ↓dCB, ↓dCons, ↓dNil, ↓dgName, ↓dgTup, ↓dgCons, ↓dgNil, ↓w_setIx, ↓w_ret, ↓w_retF, ↓w_retN, ↓w_next, ↓w_drop, ↓w_own, ↓w_brk, ↓w_cnt, ↓w_setF, ↓w_dput, ↓w_body, ↓dN, ↓dCall, ↓dCallF, argsOf_nil, argsOf_val, argsOf_bor, bors, ↓dV, ↓dTup, ↓dLst, vals_nil, vals_val, ↓w_par, ↓w_par3, ↓w_parVO, ↓w_parOV, ↓w_parOO, ↓dTruth, ↓dIsi, ↓dIsiT, ↓dInO, insOf_ins, ↓dDNew, ↓dDGet, ↓dDIn, toTup_lst, toTup_tup, pf_nil, lk_self, key_str, key_int, isN_non, isNN_non, kno_int, kno_str, kno_lst, kno_tup, kno_bl, kno_non, tyV_int, tyV_bl, tyV_str, tyV_lst, tyV_tup, tyV_non, clV_ty, clVT_nil, clVT_val, kit_same, kit_int_bool, kit_bool_int, kits_list, kits_tuple, ↓dNot, ↓dAnd, ↓dOr, ↓dIf, ↓dAndV, ↓dOrV, ↓dNotV, ↓dChain, ↓dMeth, ↓dMethF, ↓dKw, ↓dSl, ↓dNoP, ↓dPart, ↓w_for, diRng1, diRng2, diRevR1, diEnumX, diAny, items_lst, items_tup, ↓dLc, ↓dDc, ↓dFld, ownAt_def, setD, Sl.setD, isPar0, isParS, isPN, isP_val, isP_own, isP_no, isP_par, ↓doF, outs_nil, outs_cons, parD_par, parIx, putOuts, wipeD, ↓dBodyF, ↓dAppend, D.isLst, cmp_int, bool_bl, toInt_int, toInt_bl, truth_bl, truth_int, truth_non, len_lst, len_tup, D_add, D_sub, D_mod, eq_int, ne_int, neg_int, ix0, ix1, ix2, ix3, ix4, tx0, tx1, tx2, sx0, sx1, sx2, List.length_cons, List.length_nil, List.cons_append, List.nil_append, List.replicate, Nat.reduceAdd, Nat.reduceSub, List.getElem?_cons_zero, List.getElem?_cons_succ, List.getElem?_nil, List.set_cons_zero, List.set_cons_succ, Option.bind_some, Option.map_some, Option.isSome_some, true_and, and_true, if_true, if_false, Bool.false_eq_true, reduceIte, Int.reduceBEq, Bool.not_true, Bool.not_false, List.nodup_cons, List.nodup_nil, List.not_mem_nil, not_false_eq_true, List.mem_cons, or_false, ↓opt_f, ↓optF_some, ↓ite_cd, ↓cd_true, ↓cd_false, ↓forL_f, ↓lcL_f, ↓dcL_f, ↓noEr_run, ↓w_frz, ↓getW_own, ↓dListRg1, ↓dIndex, ↓dCKw, ↓dMake, ↓dList, seq_lst, seq_tup, kwP1, kwP10, beq_self_eq_true, ↓dEqO, ↓dBinO, ↓dNev, tyV_dct, tyV_ins, kno_dct, clV_ptr, kit_sameR, nf_same, nf_none, nf_int, nf_bool, nf_str, nf_lst, nf_tup, nf_dct, ↓dLenO, eq_bl, ne_bl, ↓hot_run, ↓w_try, ↓w_try0, ↓erH_cons, ↓erH_nil, ↓shutD_mk, x1_mk, x2_mk, ↓w_rz, ↓dXf, ↓dIsX, ↓dBinS, true_or, or_true, or_self, Nat.reduceLT, Ads.cs_name, Ads.cs_value, Ads.cs_parent, Ads.cs_rank, Ads.cs_first, Ads.cs_last, lk_ne l_value_name, lk_ne l_parent_name, lk_ne l_rank_name, lk_ne l_first_name, lk_ne l_last_name, lk_ne l_parent_value, lk_ne l_rank_value, lk_ne l_first_value, lk_ne l_last_value, lk_ne l_rank_parent, lk_ne l_first_parent, lk_ne l_last_parent, lk_ne l_first_rank, lk_ne l_last_rank, lk_ne l_last_first, kn_Put, kn_Move, kn_Cut, kn_Lift, kn_Wrap, kn_Reverse, kn_SetValue, kit_sameR, dd, e0, e1, e2, e3, e4]; exact h)
  | 3, _ => 
    show dsp_Lift_eq K A _ q er
    unfold dsp_Lift_eq body_Lift_eq
    unfold deq at h
    generalize bx f0 g0 = b0 at e0 h
    cases b0 <;> (simp -implicitDefEqProofs -dsimp only [idd_eq, Nat.reduceEqDiff, ↓w_seq, ↓w_if, ↓dTest, ↓dOp, ↓dUn, ↓w_var, ↓getS_val, ↓getS_own, ↓getS_par, ↓dC, rd_val, rd_bor, ownD_own, ownD_par, rds_nil, rds_cons, ↓w_asg, ↓dCB, ↓dCons, ↓dNil, ↓dgName, ↓dgTup, ↓dgCons, ↓dgNil, ↓w_setIx, ↓w_ret, ↓w_retF, ↓w_retN, ↓w_next, ↓w_drop, ↓w_own, ↓w_brk, ↓w_cnt, ↓w_setF, ↓w_dput, ↓w_body, ↓dN, ↓dCall, ↓dCallF, argsOf_nil, argsOf_val, argsOf_bor, bors, ↓dV, ↓dTup, ↓dLst, vals_nil, vals_val, ↓w_par, ↓w_par3, ↓w_parVO, ↓w_parOV, ↓w_parOO, ↓dTruth, ↓dIsi, ↓dIsiT, ↓dInO, insOf_ins, ↓dDNew, ↓dDGet, ↓dDIn, toTup_lst, toTup_tup, pf_nil, lk_self, key_str, key_int, isN_non, isNN_non, kno_int, kno_str, kno_lst, kno_tup, kno_bl, kno_non, tyV_int, tyV_bl, tyV_str, tyV_lst, tyV_tup, tyV_non, clV_ty, clVT_nil, clVT_val, kit_same, kit_int_bool, kit_bool_int, kits_list, kits_tuple, ↓dNot, ↓dAnd, ↓dOr, ↓dIf, ↓dAndV, ↓dOrV, ↓dNotV, ↓dChain, ↓dMeth, ↓dMethF, ↓dKw, ↓dSl, ↓dNoP, ↓dPart, ↓w_for, diRng1, diRng2, diRevR1, diEnumX, diAny, items_lst, items_tup, ↓dLc, ↓dDc, ↓dFld, ownAt_def, setD, Sl.setD, isPar0, isParS, isPN, isP_val, isP_own, isP_no, isP_par, ↓doF, outs_nil, outs_cons, parD_par, parIx, putOuts, wipeD, ↓dBodyF, ↓dAppend, D.isLst, cmp_int, bool_bl, toInt_int, toInt_bl, truth_bl, truth_int, truth_non, len_lst, len_tup, D_add, D_sub, D_mod, eq_int, ne_int, neg_int, ix0, ix1, ix2, ix3, ix4, tx0, tx1, tx2, sx0, sx1, sx2, List.length_cons, List.length_nil, List.cons_append, List.nil_append, List.replicate, Nat.reduceAdd, Nat.reduceSub, List.getElem?_cons_zero, List.getElem?_cons_succ, List.getElem?_nil, List.set_cons_zero, List.set_cons_succ, Option.bind_some, Option.map_some, Option.isSome_some, true_and, and_true, if_true, if_false, Bool.false_eq_true, reduceIte, Int.reduceBEq, Bool.not_true, Bool.not_false, List.nodup_cons, List.nodup_nil, List.not_mem_nil, not_false_eq_true, List.mem_cons, or_false, ↓opt_f, ↓optF_some, ↓ite_cd, ↓cd_true, ↓cd_false, ↓forL_f, ↓lcL_f, ↓dcL_f, ↓noEr_run, ↓w_frz, ↓getW_own, ↓dListRg1, ↓dIndex, ↓dCKw, ↓dMake, ↓dList, seq_lst, seq_tup, kwP1, kwP10, beq_self_eq_true, ↓dEqO, ↓dBinO, ↓dNev, tyV_dct, tyV_ins, kno_dct, clV_ptr, kit_sameR, nf_same, nf_none, nf_int, nf_bool, nf_str, nf_lst, nf_tup, nf_dct, ↓dLenO, eq_bl, ne_bl, ↓hot_run, ↓w_try, ↓w_try0, ↓erH_cons, ↓erH_nil, ↓shutD_mk, x1_mk, x2_mk, ↓w_rz, ↓dXf, ↓dIsX, ↓dBinS, true_or, or_true, or_self, Nat.reduceLT, Ads.cs_name, Ads.cs_value, Ads.cs_parent, Ads.cs_rank, Ads.cs_first, Ads.cs_last, lk_ne l_value_name, lk_ne l_parent_name, lk_ne l_rank_name, lk_ne l_first_name, lk_ne l_last_name, lk_ne l_parent_value, lk_ne l_rank_value, lk_ne l_first_value, lk_ne l_last_value, lk_ne l_rank_parent, lk_ne l_first_parent, lk_ne l_last_parent, lk_ne l_first_rank, lk_ne l_last_rank, lk_ne l_last_first, kn_Put, kn_Move, kn_Cut, kn_Lift, kn_Wrap, kn_Reverse, kn_SetValue, kit_sameR, dd, e0, e1, e2, e3, e4]; exact h)
  | 4, _ => 
    show dsp_Wrap_eq K A _ q er
    unfold dsp_Wrap_eq body_Wrap_eq
    unfold deq at h
    generalize bx f0 g0 = b0 at e0 h
    generalize bx f1 g1 = b1 at e1 h
    generalize bx f2 g2 = b2 at e2 h
    generalize bx f3 g3 = b3 at e3 h
    generalize bx f4 g4 = b4 at e4 h
    cases b0 <;> cases b1 <;> cases b2 <;> cases b3 <;> cases b4 <;> (simp -implicitDefEqProofs -dsimp only [idd_eq, Nat.reduceEqDiff, ↓w_seq, ↓w_if, ↓dTest, ↓dOp, ↓dUn, ↓w_var, ↓getS_val, ↓getS_own, ↓getS_par, ↓dC, rd_val, rd_bor, ownD_own, ownD_par, rds_nil, rds_cons, ↓w_asg, ↓dCB, ↓dCons, ↓dNil, ↓dgName, ↓dgTup, ↓dgCons, ↓dgNil, ↓w_setIx, ↓w_ret, ↓w_retF, ↓w_retN, ↓w_next, ↓w_drop, ↓w_own, ↓w_brk, ↓w_cnt, ↓w_setF, ↓w_dput, ↓w_body, ↓dN, ↓dCall, ↓dCallF, argsOf_nil, argsOf_val, argsOf_bor, bors, ↓dV, ↓dTup, ↓dLst, vals_nil, vals_val, ↓w_par, ↓w_par3, ↓w_parVO, ↓w_parOV, ↓w_parOO, ↓dTruth, ↓dIsi, ↓dIsiT, ↓dInO, insOf_ins, ↓dDNew, ↓dDGet, ↓dDIn, toTup_lst, toTup_tup, pf_nil, lk_self, key_str, key_int, isN_non, isNN_non, kno_int, kno_str, kno_lst, kno_tup, kno_bl, kno_non, tyV_int, tyV_bl, tyV_str, tyV_lst, tyV_tup, tyV_non, clV_ty, clVT_nil, clVT_val, kit_same, kit_int_bool, kit_bool_int, kits_list, kits_tuple, ↓dNot, ↓dAnd, ↓dOr, ↓dIf, ↓dAndV, ↓dOrV, ↓dNotV, ↓dChain, ↓dMeth, ↓dMethF, ↓dKw, ↓dSl, ↓dNoP, ↓dPart, ↓w_for, diRng1, diRng2, diRevR1, diEnumX, diAny, items_lst, items_tup, ↓dLc, ↓dDc, ↓dFld, ownAt_def, setD, Sl.setD, isPar0, isParS, isPN, isP_val, isP_own, isP_no, isP_par, ↓doF, outs_nil, outs_cons, parD_par, parIx, putOuts, wipeD, ↓dBodyF, ↓dAppend, D.isLst, cmp_int, bool_bl, toInt_int, toInt_bl, truth_bl, truth_int, truth_non, len_lst, len_tup, D_add, D_sub, D_mod, eq_int, ne_int, neg_int, ix0, ix1, ix2, ix3, ix4, tx0, tx1, tx2, sx0, sx1, sx2, List.length_cons, List.length_nil, List.cons_append, List.nil_append, List.replicate, Nat.reduceAdd, Nat.reduceSub, List.getElem?_cons_zero, List.getElem?_cons_succ, List.getElem?_nil, List.set_cons_zero, List.set_cons_succ, Option.bind_some, Option.map_some, Option.isSome_some, true_and, and_true, if_true, if_false, Bool.false_eq_true, reduceIte, Int.reduceBEq, Bool.not_true, Bool.not_false, List.nodup_cons, List.nodup_nil, List.not_mem_nil, not_false_eq_true, List.mem_cons, or_false, ↓opt_f, ↓optF_some, ↓ite_cd, ↓cd_true, ↓cd_false, ↓forL_f, ↓lcL_f, ↓dcL_f, ↓noEr_run, ↓w_frz, ↓getW_own, ↓dListRg1, ↓dIndex, ↓dCKw, ↓dMake, ↓dList, seq_lst, seq_tup, kwP1, kwP10, beq_self_eq_true, ↓dEqO, ↓dBinO, ↓dNev, tyV_dct, tyV_ins, kno_dct, clV_ptr, kit_sameR, nf_same, nf_none, nf_int, nf_bool, nf_str, nf_lst, nf_tup, nf_dct, ↓dLenO, eq_bl, ne_bl, ↓hot_run, ↓w_try, ↓w_try0, ↓erH_cons, ↓erH_nil, ↓shutD_mk, x1_mk, x2_mk, ↓w_rz, ↓dXf, ↓dIsX, ↓dBinS, true_or, or_true, or_self, Nat.reduceLT, Ads.cs_name, Ads.cs_value, Ads.cs_parent, Ads.cs_rank, Ads.cs_first, Ads.cs_last, lk_ne l_value_name, lk_ne l_parent_name, lk_ne l_rank_name, lk_ne l_first_name, lk_ne l_last_name, lk_ne l_parent_value, lk_ne l_rank_value, lk_ne l_first_value, lk_ne l_last_value, lk_ne l_rank_parent, lk_ne l_first_parent, lk_ne l_last_parent, lk_ne l_first_rank, lk_ne l_last_rank, lk_ne l_last_first, kn_Put, kn_Move, kn_Cut, kn_Lift, kn_Wrap, kn_Reverse, kn_SetValue, kit_sameR, dd, e0, e1, e2, e3, e4]; exact h)
  | 5, _ => 
    show dsp_Reverse_eq K A _ q er
    unfold dsp_Reverse_eq body_Reverse_eq
    unfold deq at h
    generalize bx f0 g0 = b0 at e0 h
    cases b0 <;> (simp -implicitDefEqProofs -dsimp only [idd_eq, Nat.reduceEqDiff, ↓w_seq, ↓w_if, ↓dTest, ↓dOp, ↓dUn, ↓w_var, ↓getS_val, ↓getS_own, ↓getS_par, ↓dC, rd_val, rd_bor, ownD_own, ownD_par, rds_nil, rds_cons, ↓w_asg, ↓dCB, ↓dCons, ↓dNil, ↓dgName, ↓dgTup, ↓dgCons, ↓dgNil, ↓w_setIx, ↓w_ret, ↓w_retF, ↓w_retN, ↓w_next, ↓w_drop, ↓w_own, ↓w_brk, ↓w_cnt, ↓w_setF, ↓w_dput, ↓w_body, ↓dN, ↓dCall, ↓dCallF, argsOf_nil, argsOf_val, argsOf_bor, bors, ↓dV, ↓dTup, ↓dLst, vals_nil, vals_val, ↓w_par, ↓w_par3, ↓w_parVO, ↓w_parOV, ↓w_parOO, ↓dTruth, ↓dIsi, ↓dIsiT, ↓dInO, insOf_ins, ↓dDNew, ↓dDGet, ↓dDIn, toTup_lst, toTup_tup, pf_nil, lk_self, key_str, key_int, isN_non, isNN_non, kno_int, kno_str, kno_lst, kno_tup, kno_bl, kno_non, tyV_int, tyV_bl, tyV_str, tyV_lst, tyV_tup, tyV_non, clV_ty, clVT_nil, clVT_val, kit_same, kit_int_bool, kit_bool_int, kits_list, kits_tuple, ↓dNot, ↓dAnd, ↓dOr, ↓dIf, ↓dAndV, ↓dOrV, ↓dNotV, ↓dChain, ↓dMeth, ↓dMethF, ↓dKw, ↓dSl, ↓dNoP, ↓dPart, ↓w_for, diRng1, diRng2, diRevR1, diEnumX, diAny, items_lst, items_tup, ↓dLc, ↓dDc, ↓dFld, ownAt_def, setD, Sl.setD, isPar0, isParS, isPN, isP_val, isP_own, isP_no, isP_par, ↓doF, outs_nil, outs_cons, parD_par, parIx, putOuts, wipeD, ↓dBodyF, ↓dAppend, D.isLst, cmp_int, bool_bl, toInt_int, toInt_bl, truth_bl, truth_int, truth_non, len_lst, len_tup, D_add, D_sub, D_mod, eq_int, ne_int, neg_int, ix0, ix1, ix2, ix3, ix4, tx0, tx1, tx2, sx0, sx1, sx2, List.length_cons, List.length_nil, List.cons_append, List.nil_append, List.replicate, Nat.reduceAdd, Nat.reduceSub, List.getElem?_cons_zero, List.getElem?_cons_succ, List.getElem?_nil, List.set_cons_zero, List.set_cons_succ, Option.bind_some, Option.map_some, Option.isSome_some, true_and, and_true, if_true, if_false, Bool.false_eq_true, reduceIte, Int.reduceBEq, Bool.not_true, Bool.not_false, List.nodup_cons, List.nodup_nil, List.not_mem_nil, not_false_eq_true, List.mem_cons, or_false, ↓opt_f, ↓optF_some, ↓ite_cd, ↓cd_true, ↓cd_false, ↓forL_f, ↓lcL_f, ↓dcL_f, ↓noEr_run, ↓w_frz, ↓getW_own, ↓dListRg1, ↓dIndex, ↓dCKw, ↓dMake, ↓dList, seq_lst, seq_tup, kwP1, kwP10, beq_self_eq_true, ↓dEqO, ↓dBinO, ↓dNev, tyV_dct, tyV_ins, kno_dct, clV_ptr, kit_sameR, nf_same, nf_none, nf_int, nf_bool, nf_str, nf_lst, nf_tup, nf_dct, ↓dLenO, eq_bl, ne_bl, ↓hot_run, ↓w_try, ↓w_try0, ↓erH_cons, ↓erH_nil, ↓shutD_mk, x1_mk, x2_mk, ↓w_rz, ↓dXf, ↓dIsX, ↓dBinS, true_or, or_true, or_self, Nat.reduceLT, Ads.cs_name, Ads.cs_value, Ads.cs_parent, Ads.cs_rank, Ads.cs_first, Ads.cs_last, lk_ne l_value_name, lk_ne l_parent_name, lk_ne l_rank_name, lk_ne l_first_name, lk_ne l_last_name, lk_ne l_parent_value, lk_ne l_rank_value, lk_ne l_first_value, lk_ne l_last_value, lk_ne l_rank_parent, lk_ne l_first_parent, lk_ne l_last_parent, lk_ne l_first_rank, lk_ne l_last_rank, lk_ne l_last_first, kn_Put, kn_Move, kn_Cut, kn_Lift, kn_Wrap, kn_Reverse, kn_SetValue, kit_sameR, dd, e0, e1, e2, e3, e4]; exact h)
  | 6, _ => 
    show dsp_SetValue_eq K A _ q er
    unfold dsp_SetValue_eq body_SetValue_eq
    unfold deq at h
    generalize bx f0 g0 = b0 at e0 h
    generalize bx f1 g1 = b1 at e1 h
    cases b0 <;> cases b1 <;> (simp -implicitDefEqProofs -dsimp only [idd_eq, Nat.reduceEqDiff, ↓w_seq, ↓w_if, ↓dTest, ↓dOp, ↓dUn, ↓w_var, ↓getS_val, ↓getS_own, ↓getS_par, ↓dC, rd_val, rd_bor, ownD_own, ownD_par, rds_nil, rds_cons, ↓w_asg, ↓dCB, ↓dCons, ↓dNil, ↓dgName, ↓dgTup, ↓dgCons, ↓dgNil, ↓w_setIx, ↓w_ret, ↓w_retF, ↓w_retN, ↓w_next, ↓w_drop, ↓w_own, ↓w_brk, ↓w_cnt, ↓w_setF, ↓w_dput, ↓w_body, ↓dN, ↓dCall, ↓dCallF, argsOf_nil, argsOf_val, argsOf_bor, bors, ↓dV, ↓dTup, ↓dLst, vals_nil, vals_val, ↓w_par, ↓w_par3, ↓w_parVO, ↓w_parOV, ↓w_parOO, ↓dTruth, ↓dIsi, ↓dIsiT, ↓dInO, insOf_ins, ↓dDNew, ↓dDGet, ↓dDIn, toTup_lst, toTup_tup, pf_nil, lk_self, key_str, key_int, isN_non, isNN_non, kno_int, kno_str, kno_lst, kno_tup, kno_bl, kno_non, tyV_int, tyV_bl, tyV_str, tyV_lst, tyV_tup, tyV_non, clV_ty, clVT_nil, clVT_val, kit_same, kit_int_bool, kit_bool_int, kits_list, kits_tuple, ↓dNot, ↓dAnd, ↓dOr, ↓dIf, ↓dAndV, ↓dOrV, ↓dNotV, ↓dChain, ↓dMeth, ↓dMethF, ↓dKw, ↓dSl, ↓dNoP, ↓dPart, ↓w_for, diRng1, diRng2, diRevR1, diEnumX, diAny, items_lst, items_tup, ↓dLc, ↓dDc, ↓dFld, ownAt_def, setD, Sl.setD, isPar0, isParS, isPN, isP_val, isP_own, isP_no, isP_par, ↓doF, outs_nil, outs_cons, parD_par, parIx, putOuts, wipeD, ↓dBodyF, ↓dAppend, D.isLst, cmp_int, bool_bl, toInt_int, toInt_bl, truth_bl, truth_int, truth_non, len_lst, len_tup, D_add, D_sub, D_mod, eq_int, ne_int, neg_int, ix0, ix1, ix2, ix3, ix4, tx0, tx1, tx2, sx0, sx1, sx2, List.length_cons, List.length_nil, List.cons_append, List.nil_append, List.replicate, Nat.reduceAdd, Nat.reduceSub, List.getElem?_cons_zero, List.getElem?_cons_succ, List.getElem?_nil, List.set_cons_zero, List.set_cons_succ, Option.bind_some, Option.map_some, Option.isSome_some, true_and, and_true, if_true, if_false, Bool.false_eq_true, reduceIte, Int.reduceBEq, Bool.not_true, Bool.not_false, List.nodup_cons, List.nodup_nil, List.not_mem_nil, not_false_eq_true, List.mem_cons, or_false, ↓opt_f, ↓optF_some, ↓ite_cd, ↓cd_true, ↓cd_false, ↓forL_f, ↓lcL_f, ↓dcL_f, ↓noEr_run, ↓w_frz, ↓getW_own, ↓dListRg1, ↓dIndex, ↓dCKw, ↓dMake, ↓dList, seq_lst, seq_tup, kwP1, kwP10, beq_self_eq_true, ↓dEqO, ↓dBinO, ↓dNev, tyV_dct, tyV_ins, kno_dct, clV_ptr, kit_sameR, nf_same, nf_none, nf_int, nf_bool, nf_str, nf_lst, nf_tup, nf_dct, ↓dLenO, eq_bl, ne_bl, ↓hot_run, ↓w_try, ↓w_try0, ↓erH_cons, ↓erH_nil, ↓shutD_mk, x1_mk, x2_mk, ↓w_rz, ↓dXf, ↓dIsX, ↓dBinS, true_or, or_true, or_self, Nat.reduceLT, Ads.cs_name, Ads.cs_value, Ads.cs_parent, Ads.cs_rank, Ads.cs_first, Ads.cs_last, lk_ne l_value_name, lk_ne l_parent_name, lk_ne l_rank_name, lk_ne l_first_name, lk_ne l_last_name, lk_ne l_parent_value, lk_ne l_rank_value, lk_ne l_first_value, lk_ne l_last_value, lk_ne l_rank_parent, lk_ne l_first_parent, lk_ne l_last_parent, lk_ne l_first_rank, lk_ne l_last_rank, lk_ne l_last_first, kn_Put, kn_Move, kn_Cut, kn_Lift, kn_Wrap, kn_Reverse, kn_SetValue, kit_sameR, dd, e0, e1, e2, e3, e4]; exact h)
theorem eq_odd (k : Nat) (hk : k < 7) {x : D} {ty : Value} (hx : x.kno A.isis = true) (ht : x.tyV = some ty) (ho : PySem.W.kitOne K ty (.ref (cls A k)) = some false) {q : D → List D → Prop} {er} (h : q (.bl false) []) : dspq K A k [.val (dd A k f0 f1 f2 f3 f4), .val x] q er := by
  match k, hk with
  | 0, _ => 
    show dsp_Put_eq K A _ q er
    unfold dsp_Put_eq body_Put_eq
    have ho : PySem.W.kitOne K ty (.ref A.c_Put) = some false := ho
    simp -implicitDefEqProofs -dsimp only [idd_eq, Nat.reduceEqDiff, ↓w_seq, ↓w_if, ↓dTest, ↓dOp, ↓dUn, ↓w_var, ↓getS_val, ↓getS_own, ↓getS_par, ↓dC, rd_val, rd_bor, ownD_own, ownD_par, rds_nil, rds_cons, ↓w_asg, ↓dCB, ↓dCons, ↓dNil, ↓dgName, ↓dgTup, ↓dgCons, ↓dgNil, ↓w_setIx, ↓w_ret, ↓w_retF, ↓w_retN, ↓w_next, ↓w_drop, ↓w_own, ↓w_brk, ↓w_cnt, ↓w_setF, ↓w_dput, ↓w_body, ↓dN, ↓dCall, ↓dCallF, argsOf_nil, argsOf_val, argsOf_bor, bors, ↓dV, ↓dTup, ↓dLst, vals_nil, vals_val, ↓w_par, ↓w_par3, ↓w_parVO, ↓w_parOV, ↓w_parOO, ↓dTruth, ↓dIsi, ↓dIsiT, ↓dInO, insOf_ins, ↓dDNew, ↓dDGet, ↓dDIn, toTup_lst, toTup_tup, pf_nil, lk_self, key_str, key_int, isN_non, isNN_non, kno_int, kno_str, kno_lst, kno_tup, kno_bl, kno_non, tyV_int, tyV_bl, tyV_str, tyV_lst, tyV_tup, tyV_non, clV_ty, clVT_nil, clVT_val, kit_same, kit_int_bool, kit_bool_int, kits_list, kits_tuple, ↓dNot, ↓dAnd, ↓dOr, ↓dIf, ↓dAndV, ↓dOrV, ↓dNotV, ↓dChain, ↓dMeth, ↓dMethF, ↓dKw, ↓dSl, ↓dNoP, ↓dPart, ↓w_for, diRng1, diRng2, diRevR1, diEnumX, diAny, items_lst, items_tup, ↓dLc, ↓dDc, ↓dFld, ownAt_def, setD, Sl.setD, isPar0, isParS, isPN, isP_val, isP_own, isP_no, isP_par, ↓doF, outs_nil, outs_cons, parD_par, parIx, putOuts, wipeD, ↓dBodyF, ↓dAppend, D.isLst, cmp_int, bool_bl, toInt_int, toInt_bl, truth_bl, truth_int, truth_non, len_lst, len_tup, D_add, D_sub, D_mod, eq_int, ne_int, neg_int, ix0, ix1, ix2, ix3, ix4, tx0, tx1, tx2, sx0, sx1, sx2, List.length_cons, List.length_nil, List.cons_append, List.nil_append, List.replicate, Nat.reduceAdd, Nat.reduceSub, List.getElem?_cons_zero, List.getElem?_cons_succ, List.getElem?_nil, List.set_cons_zero, List.set_cons_succ, Option.bind_some, Option.map_some, Option.isSome_some, true_and, and_true, if_true, if_false, Bool.false_eq_true, reduceIte, Int.reduceBEq, Bool.not_true, Bool.not_false, List.nodup_cons, List.nodup_nil, List.not_mem_nil, not_false_eq_true, List.mem_cons, or_false, ↓opt_f, ↓optF_some, ↓ite_cd, ↓cd_true, ↓cd_false, ↓forL_f, ↓lcL_f, ↓dcL_f, ↓noEr_run, ↓w_frz, ↓getW_own, ↓dListRg1, ↓dIndex, ↓dCKw, ↓dMake, ↓dList, seq_lst, seq_tup, kwP1, kwP10, beq_self_eq_true, ↓dEqO, ↓dBinO, ↓dNev, tyV_dct, tyV_ins, kno_dct, clV_ptr, kit_sameR, nf_same, nf_none, nf_int, nf_bool, nf_str, nf_lst, nf_tup, nf_dct, ↓dLenO, eq_bl, ne_bl, ↓hot_run, ↓w_try, ↓w_try0, ↓erH_cons, ↓erH_nil, ↓shutD_mk, x1_mk, x2_mk, ↓w_rz, ↓dXf, ↓dIsX, ↓dBinS, true_or, or_true, or_self, Nat.reduceLT, Ads.cs_name, Ads.cs_value, Ads.cs_parent, Ads.cs_rank, Ads.cs_first, Ads.cs_last, hx, ht, ho, dd]
    exact h
  | 1, _ => 
    show dsp_Move_eq K A _ q er
    unfold dsp_Move_eq body_Move_eq
    have ho : PySem.W.kitOne K ty (.ref A.c_Move) = some false := ho
    simp -implicitDefEqProofs -dsimp only [idd_eq, Nat.reduceEqDiff, ↓w_seq, ↓w_if, ↓dTest, ↓dOp, ↓dUn, ↓w_var, ↓getS_val, ↓getS_own, ↓getS_par, ↓dC, rd_val, rd_bor, ownD_own, ownD_par, rds_nil, rds_cons, ↓w_asg, ↓dCB, ↓dCons, ↓dNil, ↓dgName, ↓dgTup, ↓dgCons, ↓dgNil, ↓w_setIx, ↓w_ret, ↓w_retF, ↓w_retN, ↓w_next, ↓w_drop, ↓w_own, ↓w_brk, ↓w_cnt, ↓w_setF, ↓w_dput, ↓w_body, ↓dN, ↓dCall, ↓dCallF, argsOf_nil, argsOf_val, argsOf_bor, bors, ↓dV, ↓dTup, ↓dLst, vals_nil, vals_val, ↓w_par, ↓w_par3, ↓w_parVO, ↓w_parOV, ↓w_parOO, ↓dTruth, ↓dIsi, ↓dIsiT, ↓dInO, insOf_ins, ↓dDNew, ↓dDGet, ↓dDIn, toTup_lst, toTup_tup, pf_nil, lk_self, key_str, key_int, isN_non, isNN_non, kno_int, kno_str, kno_lst, kno_tup, kno_bl, kno_non, tyV_int, tyV_bl, tyV_str, tyV_lst, tyV_tup, tyV_non, clV_ty, clVT_nil, clVT_val, kit_same, kit_int_bool, kit_bool_int, kits_list, kits_tuple, ↓dNot, ↓dAnd, ↓dOr, ↓dIf, ↓dAndV, ↓dOrV, ↓dNotV, ↓dChain, ↓dMeth, ↓dMethF, ↓dKw, ↓dSl, ↓dNoP, ↓dPart, ↓w_for, diRng1, diRng2, diRevR1, diEnumX, diAny, items_lst, items_tup, ↓dLc, ↓dDc, ↓dFld, ownAt_def, setD, Sl.setD, isPar0, isParS, isPN, isP_val, isP_own, isP_no, isP_par, ↓doF, outs_nil, outs_cons, parD_par, parIx, putOuts, wipeD, ↓dBodyF, ↓dAppend, D.isLst, cmp_int, bool_bl, toInt_int, toInt_bl, truth_bl, truth_int, truth_non, len_lst, len_tup, D_add, D_sub, D_mod, eq_int, ne_int, neg_int, ix0, ix1, ix2, ix3, ix4, tx0, tx1, tx2, sx0, sx1, sx2, List.length_cons, List.length_nil, List.cons_append, List.nil_append, List.replicate, Nat.reduceAdd, Nat.reduceSub, List.getElem?_cons_zero, List.getElem?_cons_succ, List.getElem?_nil, List.set_cons_zero, List.set_cons_succ, Option.bind_some, Option.map_some, Option.isSome_some, true_and, and_true, if_true, if_false, Bool.false_eq_true, reduceIte, Int.reduceBEq, Bool.not_true, Bool.not_false, List.nodup_cons, List.nodup_nil, List.not_mem_nil, not_false_eq_true, List.mem_cons, or_false, ↓opt_f, ↓optF_some, ↓ite_cd, ↓cd_true, ↓cd_false, ↓forL_f, ↓lcL_f, ↓dcL_f, ↓noEr_run, ↓w_frz, ↓getW_own, ↓dListRg1, ↓dIndex, ↓dCKw, ↓dMake, ↓dList, seq_lst, seq_tup, kwP1, kwP10, beq_self_eq_true, ↓dEqO, ↓dBinO, ↓dNev, tyV_dct, tyV_ins, kno_dct, clV_ptr, kit_sameR, nf_same, nf_none, nf_int, nf_bool, nf_str, nf_lst, nf_tup, nf_dct, ↓dLenO, eq_bl, ne_bl, ↓hot_run, ↓w_try, ↓w_try0, ↓erH_cons, ↓erH_nil, ↓shutD_mk, x1_mk, x2_mk, ↓w_rz, ↓dXf, ↓dIsX, ↓dBinS, true_or, or_true, or_self, Nat.reduceLT, Ads.cs_name, Ads.cs_value, Ads.cs_parent, Ads.cs_rank, Ads.cs_first, Ads.cs_last, hx, ht, ho, dd]
    exact h
  | 2, _ => 
    show dsp_Cut_eq K A _ q er
    unfold dsp_Cut_eq body_Cut_eq
    have ho : PySem.W.kitOne K ty (.ref A.c_Cut) = some false := ho
    simp -implicitDefEqProofs -dsimp only [idd_eq, Nat.reduceEqDiff, ↓w_seq, ↓w_if, ↓dTest, ↓dOp, ↓dUn, ↓w_var, ↓getS_val, ↓getS_own, ↓getS_par, ↓dC, rd_val, rd_bor, ownD_own, ownD_par, rds_nil, rds_cons, ↓w_asg, ↓dCB, ↓dCons, ↓dNil, ↓dgName, ↓dgTup, ↓dgCons, ↓dgNil, ↓w_setIx, ↓w_ret, ↓w_retF, ↓w_retN, ↓w_next, ↓w_drop, ↓w_own, ↓w_brk, ↓w_cnt, ↓w_setF, ↓w_dput, ↓w_body, ↓dN, ↓dCall, ↓dCallF, argsOf_nil, argsOf_val, argsOf_bor, bors, ↓dV, ↓dTup, ↓dLst, vals_nil, vals_val, ↓w_par, ↓w_par3, ↓w_parVO, ↓w_parOV, ↓w_parOO, ↓dTruth, ↓dIsi, ↓dIsiT, ↓dInO, insOf_ins, ↓dDNew, ↓dDGet, ↓dDIn, toTup_lst, toTup_tup, pf_nil, lk_self, key_str, key_int, isN_non, isNN_non, kno_int, kno_str, kno_lst, kno_tup, kno_bl, kno_non, tyV_int, tyV_bl, tyV_str, tyV_lst, tyV_tup, tyV_non, clV_ty, clVT_nil, clVT_val, kit_same, kit_int_bool, kit_bool_int, kits_list, kits_tuple, ↓dNot, ↓dAnd, ↓dOr, ↓dIf, ↓dAndV, ↓dOrV, ↓dNotV, ↓dChain, ↓dMeth, ↓dMethF, ↓dKw, ↓dSl, ↓dNoP, ↓dPart, ↓w_for, diRng1, diRng2, diRevR1, diEnumX, diAny, items_lst, items_tup, ↓dLc, ↓dDc, ↓dFld, ownAt_def, setD, Sl.setD, isPar0, isParS, isPN, isP_val, isP_own, isP_no, isP_par, ↓doF, outs_nil, outs_cons, parD_par, parIx, putOuts, wipeD, ↓dBodyF, ↓dAppend, D.isLst, cmp_int, bool_bl, toInt_int, toInt_bl, truth_bl, truth_int, truth_non, len_lst, len_tup, D_add, D_sub, D_mod, eq_int, ne_int, neg_int, ix0, ix1, ix2, ix3, ix4, tx0, tx1, tx2, sx0, sx1, sx2, List.length_cons, List.length_nil, List.cons_append, List.nil_append, List.replicate, Nat.reduceAdd, Nat.reduceSub, List.getElem?_cons_zero, List.getElem?_cons_succ, List.getElem?_nil, List.set_cons_zero, List.set_cons_succ, Option.bind_some, Option.map_some, Option.isSome_some, true_and, and_true, if_true, if_false, Bool.false_eq_true, reduceIte, Int.reduceBEq, Bool.not_true, Bool.not_false, List.nodup_cons, List.nodup_nil, List.not_mem_nil, not_false_eq_true, List.mem_cons, or_false, ↓opt_f, ↓optF_some, ↓ite_cd, ↓cd_true, ↓cd_false, ↓forL_f, ↓lcL_f, ↓dcL_f, ↓noEr_run, ↓w_frz, ↓getW_own, ↓dListRg1, ↓dIndex, ↓dCKw, ↓dMake, ↓dList, seq_lst, seq_tup, kwP1, kwP10, beq_self_eq_true, ↓dEqO, ↓dBinO, ↓dNev, tyV_dct, tyV_ins, kno_dct, clV_ptr, kit_sameR, nf_same, nf_none, nf_int, nf_bool, nf_str, nf_lst, nf_tup, nf_dct, ↓dLenO, eq_bl, ne_bl, ↓hot_run, ↓w_try, ↓w_try0, ↓erH_cons, ↓erH_nil, ↓shutD_mk, x1_mk, x2_mk, ↓w_rz, ↓dXf, ↓dIsX, ↓dBinS, true_or, or_true, or_self, Nat.reduceLT, Ads.cs_name, Ads.cs_value, Ads.cs_parent, Ads.cs_rank, Ads.cs_first, Ads.cs_last, hx, ht, ho, dd]
    exact h
  | 3, _ => 
    show dsp_Lift_eq K A _ q er
    unfold dsp_Lift_eq body_Lift_eq
    have ho : PySem.W.kitOne K ty (.ref A.c_Lift) = some false := ho
    simp -implicitDefEqProofs -dsimp only [idd_eq, Nat.reduceEqDiff, ↓w_seq, ↓w_if, ↓dTest, ↓dOp, ↓dUn, ↓w_var, ↓getS_val, ↓getS_own, ↓getS_par, ↓dC, rd_val, rd_bor, ownD_own, ownD_par, rds_nil, rds_cons, ↓w_asg, ↓dCB, ↓dCons, ↓dNil, ↓dgName, ↓dgTup, ↓dgCons, ↓dgNil, ↓w_setIx, ↓w_ret, ↓w_retF, ↓w_retN, ↓w_next, ↓w_drop, ↓w_own, ↓w_brk, ↓w_cnt, ↓w_setF, ↓w_dput, ↓w_body, ↓dN, ↓dCall, ↓dCallF, argsOf_nil, argsOf_val, argsOf_bor, bors, ↓dV, ↓dTup, ↓dLst, vals_nil, vals_val, ↓w_par, ↓w_par3, ↓w_parVO, ↓w_parOV, ↓w_parOO, ↓dTruth, ↓dIsi, ↓dIsiT, ↓dInO, insOf_ins, ↓dDNew, ↓dDGet, ↓dDIn, toTup_lst, toTup_tup, pf_nil, lk_self, key_str, key_int, isN_non, isNN_non, kno_int, kno_str, kno_lst, kno_tup, kno_bl, kno_non, tyV_int, tyV_bl, tyV_str, tyV_lst, tyV_tup, tyV_non, clV_ty, clVT_nil, clVT_val, kit_same, kit_int_bool, kit_bool_int, kits_list, kits_tuple, ↓dNot, ↓dAnd, ↓dOr, ↓dIf, ↓dAndV, ↓dOrV, ↓dNotV, ↓dChain, ↓dMeth, ↓dMethF, ↓dKw, ↓dSl, ↓dNoP, ↓dPart, ↓w_for, diRng1, diRng2, diRevR1, diEnumX, diAny, items_lst, items_tup, ↓dLc, ↓dDc, ↓dFld, ownAt_def, setD, Sl.setD, isPar0, isParS, isPN, isP_val, isP_own, isP_no, isP_par, ↓doF, outs_nil, outs_cons, parD_par, parIx, putOuts, wipeD, ↓dBodyF, ↓dAppend, D.isLst, cmp_int, bool_bl, toInt_int, toInt_bl, truth_bl, truth_int, truth_non, len_lst, len_tup, D_add, D_sub, D_mod, eq_int, ne_int, neg_int, ix0, ix1, ix2, ix3, ix4, tx0, tx1, tx2, sx0, sx1, sx2, List.length_cons, List.length_nil, List.cons_append, List.nil_append, List.replicate, Nat.reduceAdd, Nat.reduceSub, List.getElem?_cons_zero, List.getElem?_cons_succ, List.getElem?_nil, List.set_cons_zero, List.set_cons_succ, Option.bind_some, Option.map_some, Option.isSome_some, true_and, and_true, if_true, if_false, Bool.false_eq_true, reduceIte, Int.reduceBEq, Bool.not_true, Bool.not_false, List.nodup_cons, List.nodup_nil, List.not_mem_nil, not_false_eq_true, List.mem_cons, or_false, ↓opt_f, ↓optF_some, ↓ite_cd, ↓cd_true, ↓cd_false, ↓forL_f, ↓lcL_f, ↓dcL_f, ↓noEr_run, ↓w_frz, ↓getW_own, ↓dListRg1, ↓dIndex, ↓dCKw, ↓dMake, ↓dList, seq_lst, seq_tup, kwP1, kwP10, beq_self_eq_true, ↓dEqO, ↓dBinO, ↓dNev, tyV_dct, tyV_ins, kno_dct, clV_ptr, kit_sameR, nf_same, nf_none, nf_int, nf_bool, nf_str, nf_lst, nf_tup, nf_dct, ↓dLenO, eq_bl, ne_bl, ↓hot_run, ↓w_try, ↓w_try0, ↓erH_cons, ↓erH_nil, ↓shutD_mk, x1_mk, x2_mk, ↓w_rz, ↓dXf, ↓dIsX, ↓dBinS, true_or, or_true, or_self, Nat.reduceLT, Ads.cs_name, Ads.cs_value, Ads.cs_parent, Ads.cs_rank, Ads.cs_first, Ads.cs_last, hx, ht, ho, dd]
    exact h
  | 4, _ => 
    show dsp_Wrap_eq K A _ q er
    unfold dsp_Wrap_eq body_Wrap_eq
    have ho : PySem.W.kitOne K ty (.ref A.c_Wrap) = some false := ho
    simp -implicitDefEqProofs -dsimp only [idd_eq, Nat.reduceEqDiff, ↓w_seq, ↓w_if, ↓dTest, ↓dOp, ↓dUn, ↓w_var, ↓getS_val, ↓getS_own, ↓getS_par, ↓dC, rd_val, rd_bor, ownD_own, ownD_par, rds_nil, rds_cons, ↓w_asg, ↓dCB, ↓dCons, ↓dNil, ↓dgName, ↓dgTup, ↓dgCons, ↓dgNil, ↓w_setIx, ↓w_ret, ↓w_retF, ↓w_retN, ↓w_next, ↓w_drop, ↓w_own, ↓w_brk, ↓w_cnt, ↓w_setF, ↓w_dput, ↓w_body, ↓dN, ↓dCall, ↓dCallF, argsOf_nil, argsOf_val, argsOf_bor, bors, ↓dV, ↓dTup, ↓dLst, vals_nil, vals_val, ↓w_par, ↓w_par3, ↓w_parVO, ↓w_parOV, ↓w_parOO, ↓dTruth, ↓dIsi, ↓dIsiT, ↓dInO, insOf_ins, ↓dDNew, ↓dDGet, ↓dDIn, toTup_lst, toTup_tup, pf_nil, lk_self, key_str, key_int, isN_non, isNN_non, kno_int, kno_str, kno_lst, kno_tup, kno_bl, kno_non, tyV_int, tyV_bl, tyV_str, tyV_lst, tyV_tup, tyV_non, clV_ty, clVT_nil, clVT_val, kit_same, kit_int_bool, kit_bool_int, kits_list, kits_tuple, ↓dNot, ↓dAnd, ↓dOr, ↓dIf, ↓dAndV, ↓dOrV, ↓dNotV, ↓dChain, ↓dMeth, ↓dMethF, ↓dKw, ↓dSl, ↓dNoP, ↓dPart, ↓w_for, diRng1, diRng2, diRevR1, diEnumX, diAny, items_lst, items_tup, ↓dLc, ↓dDc, ↓dFld, ownAt_def, setD, Sl.setD, isPar0, isParS, isPN, isP_val, isP_own, isP_no, isP_par, ↓doF, outs_nil, outs_cons, parD_par, parIx, putOuts, wipeD, ↓dBodyF, ↓dAppend, D.isLst, cmp_int, bool_bl, toInt_int, toInt_bl, truth_bl, truth_int, truth_non, len_lst, len_tup, D_add, D_sub, D_mod, eq_int, ne_int, neg_int, ix0, ix1, ix2, ix3, ix4, tx0, tx1, tx2, sx0, sx1, sx2, List.length_cons, List.length_nil, List.cons_append, List.nil_append, List.replicate, Nat.reduceAdd, Nat.reduceSub, List.getElem?_cons_zero, List.getElem?_cons_succ, List.getElem?_nil, List.set_cons_zero, List.set_cons_succ, Option.bind_some, Option.map_some, Option.isSome_some, true_and, and_true, if_true, if_false, Bool.false_eq_true, reduceIte, Int.reduceBEq, Bool.not_true, Bool.not_false, List.nodup_cons, List.nodup_nil, List.not_mem_nil, not_false_eq_true, List.mem_cons, or_false, ↓opt_f, ↓optF_some, ↓ite_cd, ↓cd_true, ↓cd_false, ↓forL_f, ↓lcL_f, ↓dcL_f, ↓noEr_run, ↓w_frz, ↓getW_own, ↓dListRg1, ↓dIndex, ↓dCKw, ↓dMake, ↓dList, seq_lst, seq_tup, kwP1, kwP10, beq_self_eq_true, ↓dEqO, ↓dBinO, ↓dNev, tyV_dct, tyV_ins, kno_dct, clV_ptr, kit_sameR, nf_same, nf_none, nf_int, nf_bool, nf_str, nf_lst, nf_tup, nf_dct, ↓dLenO, eq_bl, ne_bl, ↓hot_run, ↓w_try, ↓w_try0, ↓erH_cons, ↓erH_nil, ↓shutD_mk, x1_mk, x2_mk, ↓w_rz, ↓dXf, ↓dIsX, ↓dBinS, true_or, or_true, or_self, Nat.reduceLT, Ads.cs_name, Ads.cs_value, Ads.cs_parent, Ads.cs_rank, Ads.cs_first, Ads.cs_last, hx, ht, ho, dd]
    exact h
  | 5, _ => 
    show dsp_Reverse_eq K A _ q er
    unfold dsp_Reverse_eq body_Reverse_eq
    have ho : PySem.W.kitOne K ty (.ref A.c_Reverse) = some false := ho
    simp -implicitDefEqProofs -dsimp only [idd_eq, Nat.reduceEqDiff, ↓w_seq, ↓w_if, ↓dTest, ↓dOp, ↓dUn, ↓w_var, ↓getS_val, ↓getS_own, ↓getS_par, ↓dC, rd_val, rd_bor, ownD_own, ownD_par, rds_nil, rds_cons, ↓w_asg, ↓dCB, ↓dCons, ↓dNil, ↓dgName, ↓dgTup, ↓dgCons, ↓dgNil, ↓w_setIx, ↓w_ret, ↓w_retF, ↓w_retN, ↓w_next, ↓w_drop, ↓w_own, ↓w_brk, ↓w_cnt, ↓w_setF, ↓w_dput, ↓w_body, ↓dN, ↓dCall, ↓dCallF, argsOf_nil, argsOf_val, argsOf_bor, bors, ↓dV, ↓dTup, ↓dLst, vals_nil, vals_val, ↓w_par, ↓w_par3, ↓w_parVO, ↓w_parOV, ↓w_parOO, ↓dTruth, ↓dIsi, ↓dIsiT, ↓dInO, insOf_ins, ↓dDNew, ↓dDGet, ↓dDIn, toTup_lst, toTup_tup, pf_nil, lk_self, key_str, key_int, isN_non, isNN_non, kno_int, kno_str, kno_lst, kno_tup, kno_bl, kno_non, tyV_int, tyV_bl, tyV_str, tyV_lst, tyV_tup, tyV_non, clV_ty, clVT_nil, clVT_val, kit_same, kit_int_bool, kit_bool_int, kits_list, kits_tuple, ↓dNot, ↓dAnd, ↓dOr, ↓dIf, ↓dAndV, ↓dOrV, ↓dNotV, ↓dChain, ↓dMeth, ↓dMethF, ↓dKw, ↓dSl, ↓dNoP, ↓dPart, ↓w_for, diRng1, diRng2, diRevR1, diEnumX, diAny, items_lst, items_tup, ↓dLc, ↓dDc, ↓dFld, ownAt_def, setD, Sl.setD, isPar0, isParS, isPN, isP_val, isP_own, isP_no, isP_par, ↓doF, outs_nil, outs_cons, parD_par, parIx, putOuts, wipeD, ↓dBodyF, ↓dAppend, D.isLst, cmp_int, bool_bl, toInt_int, toInt_bl, truth_bl, truth_int, truth_non, len_lst, len_tup, D_add, D_sub, D_mod, eq_int, ne_int, neg_int, ix0, ix1, ix2, ix3, ix4, tx0, tx1, tx2, sx0, sx1, sx2, List.length_cons, List.length_nil, List.cons_append, List.nil_append, List.replicate, Nat.reduceAdd, Nat.reduceSub, List.getElem?_cons_zero, List.getElem?_cons_succ, List.getElem?_nil, List.set_cons_zero, List.set_cons_succ, Option.bind_some, Option.map_some, Option.isSome_some, true_and, and_true, if_true, if_false, Bool.false_eq_true, reduceIte, Int.reduceBEq, Bool.not_true, Bool.not_false, List.nodup_cons, List.nodup_nil, List.not_mem_nil, not_false_eq_true, List.mem_cons, or_false, ↓opt_f, ↓optF_some, ↓ite_cd, ↓cd_true, ↓cd_false, ↓forL_f, ↓lcL_f, ↓dcL_f, ↓noEr_run, ↓w_frz, ↓getW_own, ↓dListRg1, ↓dIndex, ↓dCKw, ↓dMake, ↓dList, seq_lst, seq_tup, kwP1, kwP10, beq_self_eq_true, ↓dEqO, ↓dBinO, ↓dNev, tyV_dct, tyV_ins, kno_dct, clV_ptr, kit_sameR, nf_same, nf_none, nf_int, nf_bool, nf_str, nf_lst, nf_tup, nf_dct, ↓dLenO, eq_bl, ne_bl, ↓hot_run, ↓w_try, ↓w_try0, ↓erH_cons, ↓erH_nil, ↓shutD_mk, x1_mk, x2_mk, ↓w_rz, ↓dXf, ↓dIsX, ↓dBinS, true_or, or_true, or_self, Nat.reduceLT, Ads.cs_name, Ads.cs_value, Ads.cs_parent, Ads.cs_rank, Ads.cs_first, Ads.cs_last, hx, ht, ho, dd]
    exact h
  | 6, _ => 
    show dsp_SetValue_eq K A _ q er
    unfold dsp_SetValue_eq body_SetValue_eq
    have ho : PySem.W.kitOne K ty (.ref A.c_SetValue) = some false := ho
    simp -implicitDefEqProofs -dsimp only [idd_eq, Nat.reduceEqDiff, ↓w_seq, ↓w_if, ↓dTest, ↓dOp, ↓dUn, ↓w_var, ↓getS_val, ↓getS_own, ↓getS_par, ↓dC, rd_val, rd_bor, ownD_own, ownD_par, rds_nil, rds_cons, ↓w_asg, ↓dCB, ↓dCons, ↓dNil, ↓dgName, ↓dgTup, ↓dgCons, ↓dgNil, ↓w_setIx, ↓w_ret, ↓w_retF, ↓w_retN, ↓w_next, ↓w_drop, ↓w_own, ↓w_brk, ↓w_cnt, ↓w_setF, ↓w_dput, ↓w_body, ↓dN, ↓dCall, ↓dCallF, argsOf_nil, argsOf_val, argsOf_bor, bors, ↓dV, ↓dTup, ↓dLst, vals_nil, vals_val, ↓w_par, ↓w_par3, ↓w_parVO, ↓w_parOV, ↓w_parOO, ↓dTruth, ↓dIsi, ↓dIsiT, ↓dInO, insOf_ins, ↓dDNew, ↓dDGet, ↓dDIn, toTup_lst, toTup_tup, pf_nil, lk_self, key_str, key_int, isN_non, isNN_non, kno_int, kno_str, kno_lst, kno_tup, kno_bl, kno_non, tyV_int, tyV_bl, tyV_str, tyV_lst, tyV_tup, tyV_non, clV_ty, clVT_nil, clVT_val, kit_same, kit_int_bool, kit_bool_int, kits_list, kits_tuple, ↓dNot, ↓dAnd, ↓dOr, ↓dIf, ↓dAndV, ↓dOrV, ↓dNotV, ↓dChain, ↓dMeth, ↓dMethF, ↓dKw, ↓dSl, ↓dNoP, ↓dPart, ↓w_for, diRng1, diRng2, diRevR1, diEnumX, diAny, items_lst, items_tup, ↓dLc, ↓dDc, ↓dFld, ownAt_def, setD, Sl.setD, isPar0, isParS, isPN, isP_val, isP_own, isP_no, isP_par, ↓doF, outs_nil, outs_cons, parD_par, parIx, putOuts, wipeD, ↓dBodyF, ↓dAppend, D.isLst, cmp_int, bool_bl, toInt_int, toInt_bl, truth_bl, truth_int, truth_non, len_lst, len_tup, D_add, D_sub, D_mod, eq_int, ne_int, neg_int, ix0, ix1, ix2, ix3, ix4, tx0, tx1, tx2, sx0, sx1, sx2, List.length_cons, List.length_nil, List.cons_append, List.nil_append, List.replicate, Nat.reduceAdd, Nat.reduceSub, List.getElem?_cons_zero, List.getElem?_cons_succ, List.getElem?_nil, List.set_cons_zero, List.set_cons_succ, Option.bind_some, Option.map_some, Option.isSome_some, true_and, and_true, if_true, if_false, Bool.false_eq_true, reduceIte, Int.reduceBEq, Bool.not_true, Bool.not_false, List.nodup_cons, List.nodup_nil, List.not_mem_nil, not_false_eq_true, List.mem_cons, or_false, ↓opt_f, ↓optF_some, ↓ite_cd, ↓cd_true, ↓cd_false, ↓forL_f, ↓lcL_f, ↓dcL_f, ↓noEr_run, ↓w_frz, ↓getW_own, ↓dListRg1, ↓dIndex, ↓dCKw, ↓dMake, ↓dList, seq_lst, seq_tup, kwP1, kwP10, beq_self_eq_true, ↓dEqO, ↓dBinO, ↓dNev, tyV_dct, tyV_ins, kno_dct, clV_ptr, kit_sameR, nf_same, nf_none, nf_int, nf_bool, nf_str, nf_lst, nf_tup, nf_dct, ↓dLenO, eq_bl, ne_bl, ↓hot_run, ↓w_try, ↓w_try0, ↓erH_cons, ↓erH_nil, ↓shutD_mk, x1_mk, x2_mk, ↓w_rz, ↓dXf, ↓dIsX, ↓dBinS, true_or, or_true, or_self, Nat.reduceLT, Ads.cs_name, Ads.cs_value, Ads.cs_parent, Ads.cs_rank, Ads.cs_first, Ads.cs_last, hx, ht, ho, dd]
    exact h
theorem mem_dspq (k : Nat) (hk : k < 7) : (cls A k, dspq K A k) ∈ l_eqm K A := by
  match k, hk with
  | 0, _ => simp [l_eqm, cls, dspq]
  | 1, _ => simp [l_eqm, cls, dspq]
  | 2, _ => simp [l_eqm, cls, dspq]
  | 3, _ => simp [l_eqm, cls, dspq]
  | 4, _ => simp [l_eqm, cls, dspq]
  | 5, _ => simp [l_eqm, cls, dspq]
  | 6, _ => simp [l_eqm, cls, dspq]
theorem other (fx : Fax K A) (k j : Nat) (hk : k < 7) (hj : j < 7) (hne : ¬ j = k) : PySem.W.kitOne K (.ref (cls A j)) (.ref (cls A k)) = some false ∧ PySem.W.notFirst K (cls A k) (.ref (cls A j)) = true := by
  match k, hk, j, hj, hne with
  | 0, _, 0, _, h => exact absurd rfl h
  | 0, _, 1, _, h => exact ⟨fx.kp_Move_Put, fx.nf_Move_Put⟩
  | 0, _, 2, _, h => exact ⟨fx.kp_Cut_Put, fx.nf_Cut_Put⟩
  | 0, _, 3, _, h => exact ⟨fx.kp_Lift_Put, fx.nf_Lift_Put⟩
  | 0, _, 4, _, h => exact ⟨fx.kp_Wrap_Put, fx.nf_Wrap_Put⟩
  | 0, _, 5, _, h => exact ⟨fx.kp_Reverse_Put, fx.nf_Reverse_Put⟩
  | 0, _, 6, _, h => exact ⟨fx.kp_SetValue_Put, fx.nf_SetValue_Put⟩
  | 1, _, 0, _, h => exact ⟨fx.kp_Put_Move, fx.nf_Put_Move⟩
  | 1, _, 1, _, h => exact absurd rfl h
  | 1, _, 2, _, h => exact ⟨fx.kp_Cut_Move, fx.nf_Cut_Move⟩
  | 1, _, 3, _, h => exact ⟨fx.kp_Lift_Move, fx.nf_Lift_Move⟩
  | 1, _, 4, _, h => exact ⟨fx.kp_Wrap_Move, fx.nf_Wrap_Move⟩
  | 1, _, 5, _, h => exact ⟨fx.kp_Reverse_Move, fx.nf_Reverse_Move⟩
  | 1, _, 6, _, h => exact ⟨fx.kp_SetValue_Move, fx.nf_SetValue_Move⟩
  | 2, _, 0, _, h => exact ⟨fx.kp_Put_Cut, fx.nf_Put_Cut⟩
  | 2, _, 1, _, h => exact ⟨fx.kp_Move_Cut, fx.nf_Move_Cut⟩
  | 2, _, 2, _, h => exact absurd rfl h
  | 2, _, 3, _, h => exact ⟨fx.kp_Lift_Cut, fx.nf_Lift_Cut⟩
  | 2, _, 4, _, h => exact ⟨fx.kp_Wrap_Cut, fx.nf_Wrap_Cut⟩
  | 2, _, 5, _, h => exact ⟨fx.kp_Reverse_Cut, fx.nf_Reverse_Cut⟩
  | 2, _, 6, _, h => exact ⟨fx.kp_SetValue_Cut, fx.nf_SetValue_Cut⟩
  | 3, _, 0, _, h => exact ⟨fx.kp_Put_Lift, fx.nf_Put_Lift⟩
  | 3, _, 1, _, h => exact ⟨fx.kp_Move_Lift, fx.nf_Move_Lift⟩
  | 3, _, 2, _, h => exact ⟨fx.kp_Cut_Lift, fx.nf_Cut_Lift⟩
  | 3, _, 3, _, h => exact absurd rfl h
  | 3, _, 4, _, h => exact ⟨fx.kp_Wrap_Lift, fx.nf_Wrap_Lift⟩
  | 3, _, 5, _, h => exact ⟨fx.kp_Reverse_Lift, fx.nf_Reverse_Lift⟩
  | 3, _, 6, _, h => exact ⟨fx.kp_SetValue_Lift, fx.nf_SetValue_Lift⟩
  | 4, _, 0, _, h => exact ⟨fx.kp_Put_Wrap, fx.nf_Put_Wrap⟩
  | 4, _, 1, _, h => exact ⟨fx.kp_Move_Wrap, fx.nf_Move_Wrap⟩
  | 4, _, 2, _, h => exact ⟨fx.kp_Cut_Wrap, fx.nf_Cut_Wrap⟩
  | 4, _, 3, _, h => exact ⟨fx.kp_Lift_Wrap, fx.nf_Lift_Wrap⟩
  | 4, _, 4, _, h => exact absurd rfl h
  | 4, _, 5, _, h => exact ⟨fx.kp_Reverse_Wrap, fx.nf_Reverse_Wrap⟩
  | 4, _, 6, _, h => exact ⟨fx.kp_SetValue_Wrap, fx.nf_SetValue_Wrap⟩
  | 5, _, 0, _, h => exact ⟨fx.kp_Put_Reverse, fx.nf_Put_Reverse⟩
  | 5, _, 1, _, h => exact ⟨fx.kp_Move_Reverse, fx.nf_Move_Reverse⟩
  | 5, _, 2, _, h => exact ⟨fx.kp_Cut_Reverse, fx.nf_Cut_Reverse⟩
  | 5, _, 3, _, h => exact ⟨fx.kp_Lift_Reverse, fx.nf_Lift_Reverse⟩
  | 5, _, 4, _, h => exact ⟨fx.kp_Wrap_Reverse, fx.nf_Wrap_Reverse⟩
  | 5, _, 5, _, h => exact absurd rfl h
  | 5, _, 6, _, h => exact ⟨fx.kp_SetValue_Reverse, fx.nf_SetValue_Reverse⟩
  | 6, _, 0, _, h => exact ⟨fx.kp_Put_SetValue, fx.nf_Put_SetValue⟩
  | 6, _, 1, _, h => exact ⟨fx.kp_Move_SetValue, fx.nf_Move_SetValue⟩
  | 6, _, 2, _, h => exact ⟨fx.kp_Cut_SetValue, fx.nf_Cut_SetValue⟩
  | 6, _, 3, _, h => exact ⟨fx.kp_Lift_SetValue, fx.nf_Lift_SetValue⟩
  | 6, _, 4, _, h => exact ⟨fx.kp_Wrap_SetValue, fx.nf_Wrap_SetValue⟩
  | 6, _, 5, _, h => exact ⟨fx.kp_Reverse_SetValue, fx.nf_Reverse_SetValue⟩
  | 6, _, 6, _, h => exact absurd rfl h
theorem kn_dd (k : Nat) (hk : k < 7) : D.kno A.isis (dd A k f0 f1 f2 f3 f4) = true := by
  match k, hk with
  | 0, _ => exact kn_Put A _
  | 1, _ => exact kn_Move A _
  | 2, _ => exact kn_Cut A _
  | 3, _ => exact kn_Lift A _
  | 4, _ => exact kn_Wrap A _
  | 5, _ => exact kn_Reverse A _
  | 6, _ => exact kn_SetValue A _
theorem ty_dd (k : Nat) (hk : k < 7) : (dd A k f0 f1 f2 f3 f4).tyV = some (.ref (cls A k)) := by
  match k, hk with
  | 0, _ => rfl
  | 1, _ => rfl
  | 2, _ => rfl
  | 3, _ => rfl
  | 4, _ => rfl
  | 5, _ => rfl
  | 6, _ => rfl
theorem in_dd (k : Nat) (hk : k < 7) : ∃ es, dd A k f0 f1 f2 f3 f4 = .ins (cls A k) es := by
  match k, hk with
  | 0, _ => exact ⟨_, rfl⟩
  | 1, _ => exact ⟨_, rfl⟩
  | 2, _ => exact ⟨_, rfl⟩
  | 3, _ => exact ⟨_, rfl⟩
  | 4, _ => exact ⟨_, rfl⟩
  | 5, _ => exact ⟨_, rfl⟩
  | 6, _ => exact ⟨_, rfl⟩
theorem deq_refl (k : Nat) (hk : k < 7) (hf : ∀ x ∈ [f0, f1, f2, f3, f4], x ∈ FL) : deq k f0 f1 f2 f3 f4 f0 f1 f2 f3 f4 = true := by
  have e0 := bxr (hf f0 (by simp))
  have e1 := bxr (hf f1 (by simp))
  have e2 := bxr (hf f2 (by simp))
  have e3 := bxr (hf f3 (by simp))
  have e4 := bxr (hf f4 (by simp))
  match k, hk with
  | 0, _ => simp only [deq, e0, e1, e2, e3, e4, Bool.and_true]
  | 1, _ => simp only [deq, e0, e1, e2, e3, e4, Bool.and_true]
  | 2, _ => simp only [deq, e0, e1, e2, e3, e4, Bool.and_true]
  | 3, _ => simp only [deq, e0, e1, e2, e3, e4, Bool.and_true]
  | 4, _ => simp only [deq, e0, e1, e2, e3, e4, Bool.and_true]
  | 5, _ => simp only [deq, e0, e1, e2, e3, e4, Bool.and_true]
  | 6, _ => simp only [deq, e0, e1, e2, e3, e4, Bool.and_true]
theorem eqL (k : Nat) (hk : k < 7) (hf : ∀ x ∈ [f0, f1, f2, f3, f4], x ∈ FL) (hg : ∀ x ∈ [g0, g1, g2, g3, g4], x ∈ FL) : D.eqD (.lst (due k f0 f1 f2 f3 f4)) (.lst (due k g0 g1 g2 g3 g4)) = some (.bl (deq k f0 f1 f2 f3 f4 g0 g1 g2 g3 g4)) := by
  have e0 := eqx7 (hf f0 (by simp)) (hg g0 (by simp))
  have e1 := eqx7 (hf f1 (by simp)) (hg g1 (by simp))
  have e2 := eqx7 (hf f2 (by simp)) (hg g2 (by simp))
  have e3 := eqx7 (hf f3 (by simp)) (hg g3 (by simp))
  have e4 := eqx7 (hf f4 (by simp)) (hg g4 (by simp))
  match k, hk with
  | 0, _ => 
    show ((D.eqs (D.eqX 7) [f0, f1, f2, f3] [g0, g1, g2, g3]).map fun r => r.all id).map D.bl = _
    simp only [D.eqs, e0, e1, e2, e3, e4, deq, Option.bind_some, Option.map_some, List.all_cons, List.all_nil, Bool.and_true, id]
  | 1, _ => 
    show ((D.eqs (D.eqX 7) [f0, f1, f2] [g0, g1, g2]).map fun r => r.all id).map D.bl = _
    simp only [D.eqs, e0, e1, e2, e3, e4, deq, Option.bind_some, Option.map_some, List.all_cons, List.all_nil, Bool.and_true, id]
  | 2, _ => 
    show ((D.eqs (D.eqX 7) [f0] [g0]).map fun r => r.all id).map D.bl = _
    simp only [D.eqs, e0, e1, e2, e3, e4, deq, Option.bind_some, Option.map_some, List.all_cons, List.all_nil, Bool.and_true, id]
  | 3, _ => 
    show ((D.eqs (D.eqX 7) [f0] [g0]).map fun r => r.all id).map D.bl = _
    simp only [D.eqs, e0, e1, e2, e3, e4, deq, Option.bind_some, Option.map_some, List.all_cons, List.all_nil, Bool.and_true, id]
  | 4, _ => 
    show ((D.eqs (D.eqX 7) [f0, f1, f2, f3, f4] [g0, g1, g2, g3, g4]).map fun r => r.all id).map D.bl = _
    simp only [D.eqs, e0, e1, e2, e3, e4, deq, Option.bind_some, Option.map_some, List.all_cons, List.all_nil, Bool.and_true, id]
  | 5, _ => 
    show ((D.eqs (D.eqX 7) [f0] [g0]).map fun r => r.all id).map D.bl = _
    simp only [D.eqs, e0, e1, e2, e3, e4, deq, Option.bind_some, Option.map_some, List.all_cons, List.all_nil, Bool.and_true, id]
  | 6, _ => 
    show ((D.eqs (D.eqX 7) [f0, f1] [g0, g1]).map fun r => r.all id).map D.bl = _
    simp only [D.eqs, e0, e1, e2, e3, e4, deq, Option.bind_some, Option.map_some, List.all_cons, List.all_nil, Bool.and_true, id]
theorem neL (k : Nat) (hk : k < 7) (hf : ∀ x ∈ [f0, f1, f2, f3, f4], x ∈ FL) : D.neD (.lst (due k f0 f1 f2 f3 f4)) (.lst (due k f0 f1 f2 f3 f4)) = some (.bl false) := by
  have e0 := eqx8 (hf f0 (by simp))
  have e1 := eqx8 (hf f1 (by simp))
  have e2 := eqx8 (hf f2 (by simp))
  have e3 := eqx8 (hf f3 (by simp))
  have e4 := eqx8 (hf f4 (by simp))
  match k, hk with
  | 0, _ => 
    show ((D.eqs (D.eqX 8) [f0, f1, f2, f3] [f0, f1, f2, f3]).map fun r => D.bl (!(r.all id))) = _
    simp only [D.eqs, e0, e1, e2, e3, e4, Option.bind_some, Option.map_some, List.all_cons, List.all_nil, Bool.and_true, id, Bool.not_true]
  | 1, _ => 
    show ((D.eqs (D.eqX 8) [f0, f1, f2] [f0, f1, f2]).map fun r => D.bl (!(r.all id))) = _
    simp only [D.eqs, e0, e1, e2, e3, e4, Option.bind_some, Option.map_some, List.all_cons, List.all_nil, Bool.and_true, id, Bool.not_true]
  | 2, _ => 
    show ((D.eqs (D.eqX 8) [f0] [f0]).map fun r => D.bl (!(r.all id))) = _
    simp only [D.eqs, e0, e1, e2, e3, e4, Option.bind_some, Option.map_some, List.all_cons, List.all_nil, Bool.and_true, id, Bool.not_true]
  | 3, _ => 
    show ((D.eqs (D.eqX 8) [f0] [f0]).map fun r => D.bl (!(r.all id))) = _
    simp only [D.eqs, e0, e1, e2, e3, e4, Option.bind_some, Option.map_some, List.all_cons, List.all_nil, Bool.and_true, id, Bool.not_true]
  | 4, _ => 
    show ((D.eqs (D.eqX 8) [f0, f1, f2, f3, f4] [f0, f1, f2, f3, f4]).map fun r => D.bl (!(r.all id))) = _
    simp only [D.eqs, e0, e1, e2, e3, e4, Option.bind_some, Option.map_some, List.all_cons, List.all_nil, Bool.and_true, id, Bool.not_true]
  | 5, _ => 
    show ((D.eqs (D.eqX 8) [f0] [f0]).map fun r => D.bl (!(r.all id))) = _
    simp only [D.eqs, e0, e1, e2, e3, e4, Option.bind_some, Option.map_some, List.all_cons, List.all_nil, Bool.and_true, id, Bool.not_true]
  | 6, _ => 
    show ((D.eqs (D.eqX 8) [f0, f1] [f0, f1]).map fun r => D.bl (!(r.all id))) = _
    simp only [D.eqs, e0, e1, e2, e3, e4, Option.bind_some, Option.map_some, List.all_cons, List.all_nil, Bool.and_true, id, Bool.not_true]
theorem eqm_go {da db : DE} {ρ : Ro} {q : T → Ro → Prop} {er : ER} {g : Bool → Bool} {k : Nat} (hk : k < 7) {x : D} {ty : Value} (ha : ∀ Q : T → Ro → Prop, Q (.val (dd A k f0 f1 f2 f3 f4)) ρ → da ρ Q er) (hb : ∀ Q : T → Ro → Prop, Q (.val x) ρ → db ρ Q er)
    (hx : x.kno A.isis = true) (ht : x.tyV = some ty) (hn : PySem.W.notFirst K (cls A k) ty = true) (b : Bool) (h : ∀ Q : D → List D → Prop, Q (.bl b) [] → dspq K A k [.val (dd A k f0 f1 f2 f3 f4), .val x] Q (fun _ _ _ => False)) (hq : q (.val (.bl (g b))) ρ) : dEqM K g A.isis (l_eqm K A) da db ρ q er := by
  obtain ⟨es, he⟩ := in_dd A (f0 := f0) (f1 := f1) (f2 := f2) (f3 := f3) (f4 := f4) k hk
  refine ha _ (hb _ ⟨_, rfl, cls A k, by rw [he]; rfl, _, rfl, hx, _, ht, hn, _, rfl, List.nodup_nil, _, mem_dspq A k hk, ?_⟩)
  rw [noEr_run]
  exact h _ ⟨b, rfl, hq⟩
end
end My
set_option autoImplicit false
set_option Elab.async false
set_option maxRecDepth 100000
set_option maxHeartbeats 400000
set_option linter.all false
namespace My
open PySem L2 Evl ClX DL
section
variable {K : PySem.W.Frag} (A : Ads) {f0 f1 f2 f3 f4 : D}
abbrev SZ : List D := [.int 4, .int 3, .int 1, .int 1, .int 5, .int 1, .int 2]
theorem sz_ix (k : Nat) (hk : k < 7) : D.ix (.lst SZ) (.int (k : Int)) = some (.int (sz k)) := by
  match k, hk with
  | 0, _ => rfl
  | 1, _ => rfl
  | 2, _ => rfl
  | 3, _ => rfl
  | 4, _ => rfl
  | 5, _ => rfl
  | 6, _ => rfl
theorem due_cut (k : Nat) (hk : k < 7) : D.cut (.lst [f0, f1, f2, f3, f4]) none (some (sz k)) = some (.lst (due k f0 f1 f2 f3 f4)) := by
  match k, hk with
  | 0, _ => rfl
  | 1, _ => rfl
  | 2, _ => rfl
  | 3, _ => rfl
  | 4, _ => rfl
  | 5, _ => rfl
  | 6, _ => rfl
theorem dd_isN (k : Nat) (hk : k < 7) : D.isN (dd A k f0 f1 f2 f3 f4) .non = some (.bl false) := by
  match k, hk with
  | 0, _ => rfl
  | 1, _ => rfl
  | 2, _ => rfl
  | 3, _ => rfl
  | 4, _ => rfl
  | 5, _ => rfl
  | 6, _ => rfl
theorem kbk (fx : Fax K A) (k : Nat) (hk : k < 7) : KitB K (cls A k) := by
  match k, hk with
  | 0, _ => exact fx.kb_Put
  | 1, _ => exact fx.kb_Move
  | 2, _ => exact fx.kb_Cut
  | 3, _ => exact fx.kb_Lift
  | 4, _ => exact fx.kb_Wrap
  | 5, _ => exact fx.kb_Reverse
  | 6, _ => exact fx.kb_SetValue
end
theorem law_true {K : PySem.W.Frag} (A : Ads) (fx : Fax K A) (ns : List Int) (hl : ns.length ≤ 63) : dsp_law K A [.val (.lst (ns.map D.int))] (fun d _ => d = .bl true) (fun _ _ _ => False) := by
  unfold dsp_law body_law
  have h1 : 0 + 1 ≤ sizeLine := by decide
  have h7 : 0 + 1 + 1 + 1 + 1 + 1 + 1 + 1 ≤ sizeLine := by decide
  have ha : D.add (.lst (ns.map D.int)) (.lst [.int 0]) = some (.lst ((ns ++ [0]).map D.int)) := by
    rw [D_addL (by rw [List.length_map, List.length_singleton]; exact Nat.le_trans (by omega : _ ≤ 64) (by decide)), List.map_append]; rfl
  have hc : D.cut (.lst ((ns ++ [0]).map D.int)) none (some 5) = some (.lst (((ns ++ [0]).take 5).map D.int)) := by
    rw [show (5 : Int) = ((5 : Nat) : Int) from rfl, cutL_lo, List.map_take]
  simp -implicitDefEqProofs -dsimp only [idd_eq, Nat.reduceEqDiff, ↓w_seq, ↓w_if, ↓dTest, ↓dOp, ↓dUn, ↓w_var, ↓getS_val, ↓getS_own, ↓getS_par, ↓dC, rd_val, rd_bor, ownD_own, ownD_par, rds_nil, rds_cons, ↓w_asg, ↓dCB, ↓dCons, ↓dNil, ↓dgName, ↓dgTup, ↓dgCons, ↓dgNil, ↓w_setIx, ↓w_ret, ↓w_retF, ↓w_retN, ↓w_next, ↓w_drop, ↓w_own, ↓w_brk, ↓w_cnt, ↓w_setF, ↓w_dput, ↓w_body, ↓dN, ↓dCall, ↓dCallF, argsOf_nil, argsOf_val, argsOf_bor, bors, ↓dV, ↓dTup, ↓dLst, vals_nil, vals_val, ↓w_par, ↓w_par3, ↓w_parVO, ↓w_parOV, ↓w_parOO, ↓dTruth, ↓dIsi, ↓dIsiT, ↓dInO, insOf_ins, ↓dDNew, ↓dDGet, ↓dDIn, toTup_lst, toTup_tup, pf_nil, lk_self, key_str, key_int, isN_non, isNN_non, kno_int, kno_str, kno_lst, kno_tup, kno_bl, kno_non, tyV_int, tyV_bl, tyV_str, tyV_lst, tyV_tup, tyV_non, clV_ty, clVT_nil, clVT_val, kit_same, kit_int_bool, kit_bool_int, kits_list, kits_tuple, ↓dNot, ↓dAnd, ↓dOr, ↓dIf, ↓dAndV, ↓dOrV, ↓dNotV, ↓dChain, ↓dMeth, ↓dMethF, ↓dKw, ↓dSl, ↓dNoP, ↓dPart, ↓w_for, diRng1, diRng2, diRevR1, diEnumX, diAny, items_lst, items_tup, ↓dLc, ↓dDc, ↓dFld, ownAt_def, setD, Sl.setD, isPar0, isParS, isPN, isP_val, isP_own, isP_no, isP_par, ↓doF, outs_nil, outs_cons, parD_par, parIx, putOuts, wipeD, ↓dBodyF, ↓dAppend, D.isLst, cmp_int, bool_bl, toInt_int, toInt_bl, truth_bl, truth_int, truth_non, len_lst, len_tup, D_add, D_sub, D_mod, eq_int, ne_int, neg_int, ix0, ix1, ix2, ix3, ix4, tx0, tx1, tx2, sx0, sx1, sx2, List.length_cons, List.length_nil, List.cons_append, List.nil_append, List.replicate, Nat.reduceAdd, Nat.reduceSub, List.getElem?_cons_zero, List.getElem?_cons_succ, List.getElem?_nil, List.set_cons_zero, List.set_cons_succ, Option.bind_some, Option.map_some, Option.isSome_some, true_and, and_true, if_true, if_false, Bool.false_eq_true, reduceIte, Int.reduceBEq, Bool.not_true, Bool.not_false, List.nodup_cons, List.nodup_nil, List.not_mem_nil, not_false_eq_true, List.mem_cons, or_false, ↓opt_f, ↓optF_some, ↓ite_cd, ↓cd_true, ↓cd_false, ↓forL_f, ↓lcL_f, ↓dcL_f, ↓noEr_run, ↓w_frz, ↓getW_own, ↓dListRg1, ↓dIndex, ↓dCKw, ↓dMake, ↓dList, seq_lst, seq_tup, kwP1, kwP10, beq_self_eq_true, ↓dEqO, ↓dBinO, ↓dNev, tyV_dct, tyV_ins, kno_dct, clV_ptr, kit_sameR, nf_same, nf_none, nf_int, nf_bool, nf_str, nf_lst, nf_tup, nf_dct, ↓dLenO, eq_bl, ne_bl, ↓hot_run, ↓w_try, ↓w_try0, ↓erH_cons, ↓erH_nil, ↓shutD_mk, x1_mk, x2_mk, ↓w_rz, ↓dXf, ↓dIsX, ↓dBinS, Nat.reduceLT, h1, h7, ha, hc]
  refine forL_inv (fun i ρ => ∃ s2 s3 s4 s5 s6 s7 s8 s9 s10 s11 s12 s13 s14 s15, (s2.isP = false ∧ s3.isP = false ∧ s4.isP = false ∧ s5.isP = false ∧ s6.isP = false ∧ s7.isP = false ∧ s8.isP = false ∧ s9.isP = false ∧ s10.isP = false ∧ s11.isP = false ∧ s12.isP = false ∧ s13.isP = false ∧ s14.isP = false ∧ s15.isP = false) ∧ ρ = [.val (.lst (ns.map D.int)), .val (.lst SZ), s2, s3, s4, s5, s6, s7, s8, s9, s10, s11, s12, s13, s14, s15]) ⟨.no, .no, .no, .no, .no, .no, .no, .no, .no, .no, .no, .no, .no, .no, ⟨rfl, rfl, rfl, rfl, rfl, rfl, rfl, rfl, rfl, rfl, rfl, rfl, rfl, rfl⟩, rfl⟩ ?_ ?_
  · rintro i d ρ nx hd ⟨s2, s3, s4, s5, s6, s7, s8, s9, s10, s11, s12, s13, s14, s15, ⟨p2, p3, p4, p5, p6, p7, p8, p9, p10, p11, p12, p13, p14, p15⟩, rfl⟩ hnx
    obtain ⟨c, -, rfl⟩ := List.mem_map.mp (List.mem_of_getElem? hd)
    simp -implicitDefEqProofs -dsimp only [idd_eq, Nat.reduceEqDiff, ↓w_seq, ↓w_if, ↓dTest, ↓dOp, ↓dUn, ↓w_var, ↓getS_val, ↓getS_own, ↓getS_par, ↓dC, rd_val, rd_bor, ownD_own, ownD_par, rds_nil, rds_cons, ↓w_asg, ↓dCB, ↓dCons, ↓dNil, ↓dgName, ↓dgTup, ↓dgCons, ↓dgNil, ↓w_setIx, ↓w_ret, ↓w_retF, ↓w_retN, ↓w_next, ↓w_drop, ↓w_own, ↓w_brk, ↓w_cnt, ↓w_setF, ↓w_dput, ↓w_body, ↓dN, ↓dCall, ↓dCallF, argsOf_nil, argsOf_val, argsOf_bor, bors, ↓dV, ↓dTup, ↓dLst, vals_nil, vals_val, ↓w_par, ↓w_par3, ↓w_parVO, ↓w_parOV, ↓w_parOO, ↓dTruth, ↓dIsi, ↓dIsiT, ↓dInO, insOf_ins, ↓dDNew, ↓dDGet, ↓dDIn, toTup_lst, toTup_tup, pf_nil, lk_self, key_str, key_int, isN_non, isNN_non, kno_int, kno_str, kno_lst, kno_tup, kno_bl, kno_non, tyV_int, tyV_bl, tyV_str, tyV_lst, tyV_tup, tyV_non, clV_ty, clVT_nil, clVT_val, kit_same, kit_int_bool, kit_bool_int, kits_list, kits_tuple, ↓dNot, ↓dAnd, ↓dOr, ↓dIf, ↓dAndV, ↓dOrV, ↓dNotV, ↓dChain, ↓dMeth, ↓dMethF, ↓dKw, ↓dSl, ↓dNoP, ↓dPart, ↓w_for, diRng1, diRng2, diRevR1, diEnumX, diAny, items_lst, items_tup, ↓dLc, ↓dDc, ↓dFld, ownAt_def, setD, Sl.setD, isPar0, isParS, isPN, isP_val, isP_own, isP_no, isP_par, ↓doF, outs_nil, outs_cons, parD_par, parIx, putOuts, wipeD, ↓dBodyF, ↓dAppend, D.isLst, cmp_int, bool_bl, toInt_int, toInt_bl, truth_bl, truth_int, truth_non, len_lst, len_tup, D_add, D_sub, D_mod, eq_int, ne_int, neg_int, ix0, ix1, ix2, ix3, ix4, tx0, tx1, tx2, sx0, sx1, sx2, List.length_cons, List.length_nil, List.cons_append, List.nil_append, List.replicate, Nat.reduceAdd, Nat.reduceSub, List.getElem?_cons_zero, List.getElem?_cons_succ, List.getElem?_nil, List.set_cons_zero, List.set_cons_succ, Option.bind_some, Option.map_some, Option.isSome_some, true_and, and_true, if_true, if_false, Bool.false_eq_true, reduceIte, Int.reduceBEq, Bool.not_true, Bool.not_false, List.nodup_cons, List.nodup_nil, List.not_mem_nil, not_false_eq_true, List.mem_cons, or_false, ↓opt_f, ↓optF_some, ↓ite_cd, ↓cd_true, ↓cd_false, ↓forL_f, ↓lcL_f, ↓dcL_f, ↓noEr_run, ↓w_frz, ↓getW_own, ↓dListRg1, ↓dIndex, ↓dCKw, ↓dMake, ↓dList, seq_lst, seq_tup, kwP1, kwP10, beq_self_eq_true, ↓dEqO, ↓dBinO, ↓dNev, tyV_dct, tyV_ins, kno_dct, clV_ptr, kit_sameR, nf_same, nf_none, nf_int, nf_bool, nf_str, nf_lst, nf_tup, nf_dct, ↓dLenO, eq_bl, ne_bl, ↓hot_run, ↓w_try, ↓w_try0, ↓erH_cons, ↓erH_nil, ↓shutD_mk, x1_mk, x2_mk, ↓w_rz, ↓dXf, ↓dIsX, ↓dBinS, Nat.reduceLT, p2, p3, p4, p5, p6, p7, p8, p9, p10, p11, p12, p13, p14, p15]
    refine well_ok A c ?_
    intro w0 hw0
    simp -implicitDefEqProofs -dsimp only [idd_eq, Nat.reduceEqDiff, ↓w_seq, ↓w_if, ↓dTest, ↓dOp, ↓dUn, ↓w_var, ↓getS_val, ↓getS_own, ↓getS_par, ↓dC, rd_val, rd_bor, ownD_own, ownD_par, rds_nil, rds_cons, ↓w_asg, ↓dCB, ↓dCons, ↓dNil, ↓dgName, ↓dgTup, ↓dgCons, ↓dgNil, ↓w_setIx, ↓w_ret, ↓w_retF, ↓w_retN, ↓w_next, ↓w_drop, ↓w_own, ↓w_brk, ↓w_cnt, ↓w_setF, ↓w_dput, ↓w_body, ↓dN, ↓dCall, ↓dCallF, argsOf_nil, argsOf_val, argsOf_bor, bors, ↓dV, ↓dTup, ↓dLst, vals_nil, vals_val, ↓w_par, ↓w_par3, ↓w_parVO, ↓w_parOV, ↓w_parOO, ↓dTruth, ↓dIsi, ↓dIsiT, ↓dInO, insOf_ins, ↓dDNew, ↓dDGet, ↓dDIn, toTup_lst, toTup_tup, pf_nil, lk_self, key_str, key_int, isN_non, isNN_non, kno_int, kno_str, kno_lst, kno_tup, kno_bl, kno_non, tyV_int, tyV_bl, tyV_str, tyV_lst, tyV_tup, tyV_non, clV_ty, clVT_nil, clVT_val, kit_same, kit_int_bool, kit_bool_int, kits_list, kits_tuple, ↓dNot, ↓dAnd, ↓dOr, ↓dIf, ↓dAndV, ↓dOrV, ↓dNotV, ↓dChain, ↓dMeth, ↓dMethF, ↓dKw, ↓dSl, ↓dNoP, ↓dPart, ↓w_for, diRng1, diRng2, diRevR1, diEnumX, diAny, items_lst, items_tup, ↓dLc, ↓dDc, ↓dFld, ownAt_def, setD, Sl.setD, isPar0, isParS, isPN, isP_val, isP_own, isP_no, isP_par, ↓doF, outs_nil, outs_cons, parD_par, parIx, putOuts, wipeD, ↓dBodyF, ↓dAppend, D.isLst, cmp_int, bool_bl, toInt_int, toInt_bl, truth_bl, truth_int, truth_non, len_lst, len_tup, D_add, D_sub, D_mod, eq_int, ne_int, neg_int, ix0, ix1, ix2, ix3, ix4, tx0, tx1, tx2, sx0, sx1, sx2, List.length_cons, List.length_nil, List.cons_append, List.nil_append, List.replicate, Nat.reduceAdd, Nat.reduceSub, List.getElem?_cons_zero, List.getElem?_cons_succ, List.getElem?_nil, List.set_cons_zero, List.set_cons_succ, Option.bind_some, Option.map_some, Option.isSome_some, true_and, and_true, if_true, if_false, Bool.false_eq_true, reduceIte, Int.reduceBEq, Bool.not_true, Bool.not_false, List.nodup_cons, List.nodup_nil, List.not_mem_nil, not_false_eq_true, List.mem_cons, or_false, ↓opt_f, ↓optF_some, ↓ite_cd, ↓cd_true, ↓cd_false, ↓forL_f, ↓lcL_f, ↓dcL_f, ↓noEr_run, ↓w_frz, ↓getW_own, ↓dListRg1, ↓dIndex, ↓dCKw, ↓dMake, ↓dList, seq_lst, seq_tup, kwP1, kwP10, beq_self_eq_true, ↓dEqO, ↓dBinO, ↓dNev, tyV_dct, tyV_ins, kno_dct, clV_ptr, kit_sameR, nf_same, nf_none, nf_int, nf_bool, nf_str, nf_lst, nf_tup, nf_dct, ↓dLenO, eq_bl, ne_bl, ↓hot_run, ↓w_try, ↓w_try0, ↓erH_cons, ↓erH_nil, ↓shutD_mk, x1_mk, x2_mk, ↓w_rz, ↓dXf, ↓dIsX, ↓dBinS, Nat.reduceLT, p2, p3, p4, p5, p6, p7, p8, p9, p10, p11, p12, p13, p14, p15]
    refine ⟨⟨by omega, by omega⟩, ?_⟩
    refine forL_inv (fun j ρ => ∃ w s4 s5 s6 s7 s8 s9 s10 s11 s12 s13 s14 s15, (s4.isP = false ∧ s5.isP = false ∧ s6.isP = false ∧ s7.isP = false ∧ s8.isP = false ∧ s9.isP = false ∧ s10.isP = false ∧ s11.isP = false ∧ s12.isP = false ∧ s13.isP = false ∧ s14.isP = false ∧ s15.isP = false) ∧ Well (17 * j) w ∧ ρ = [.val (.lst (ns.map D.int)), .val (.lst SZ), .val (.int c), .own w, s4, s5, s6, s7, s8, s9, s10, s11, s12, s13, s14, s15]) ⟨w0, s4, s5, s6, s7, s8, s9, s10, s11, s12, s13, s14, s15, ⟨p4, p5, p6, p7, p8, p9, p10, p11, p12, p13, p14, p15⟩, hw0, rfl⟩ ?_ ?_
    · rintro j d ρ nx2 hd ⟨w, s4, s5, s6, s7, s8, s9, s10, s11, s12, s13, s14, s15, ⟨p4, p5, p6, p7, p8, p9, p10, p11, p12, p13, p14, p15⟩, hw, rfl⟩ hnx2
      have hj : j < 6 := by have := (List.getElem?_eq_some_iff.mp hd).1; simpa using this
      obtain ⟨z, rfl⟩ : ∃ z, d = .int z := by
        obtain ⟨z, -, e⟩ := List.mem_map.mp (List.mem_of_getElem? hd)
        exact ⟨_, e.symm⟩
      simp -implicitDefEqProofs -dsimp only [idd_eq, Nat.reduceEqDiff, ↓w_seq, ↓w_if, ↓dTest, ↓dOp, ↓dUn, ↓w_var, ↓getS_val, ↓getS_own, ↓getS_par, ↓dC, rd_val, rd_bor, ownD_own, ownD_par, rds_nil, rds_cons, ↓w_asg, ↓dCB, ↓dCons, ↓dNil, ↓dgName, ↓dgTup, ↓dgCons, ↓dgNil, ↓w_setIx, ↓w_ret, ↓w_retF, ↓w_retN, ↓w_next, ↓w_drop, ↓w_own, ↓w_brk, ↓w_cnt, ↓w_setF, ↓w_dput, ↓w_body, ↓dN, ↓dCall, ↓dCallF, argsOf_nil, argsOf_val, argsOf_bor, bors, ↓dV, ↓dTup, ↓dLst, vals_nil, vals_val, ↓w_par, ↓w_par3, ↓w_parVO, ↓w_parOV, ↓w_parOO, ↓dTruth, ↓dIsi, ↓dIsiT, ↓dInO, insOf_ins, ↓dDNew, ↓dDGet, ↓dDIn, toTup_lst, toTup_tup, pf_nil, lk_self, key_str, key_int, isN_non, isNN_non, kno_int, kno_str, kno_lst, kno_tup, kno_bl, kno_non, tyV_int, tyV_bl, tyV_str, tyV_lst, tyV_tup, tyV_non, clV_ty, clVT_nil, clVT_val, kit_same, kit_int_bool, kit_bool_int, kits_list, kits_tuple, ↓dNot, ↓dAnd, ↓dOr, ↓dIf, ↓dAndV, ↓dOrV, ↓dNotV, ↓dChain, ↓dMeth, ↓dMethF, ↓dKw, ↓dSl, ↓dNoP, ↓dPart, ↓w_for, diRng1, diRng2, diRevR1, diEnumX, diAny, items_lst, items_tup, ↓dLc, ↓dDc, ↓dFld, ownAt_def, setD, Sl.setD, isPar0, isParS, isPN, isP_val, isP_own, isP_no, isP_par, ↓doF, outs_nil, outs_cons, parD_par, parIx, putOuts, wipeD, ↓dBodyF, ↓dAppend, D.isLst, cmp_int, bool_bl, toInt_int, toInt_bl, truth_bl, truth_int, truth_non, len_lst, len_tup, D_add, D_sub, D_mod, eq_int, ne_int, neg_int, ix0, ix1, ix2, ix3, ix4, tx0, tx1, tx2, sx0, sx1, sx2, List.length_cons, List.length_nil, List.cons_append, List.nil_append, List.replicate, Nat.reduceAdd, Nat.reduceSub, List.getElem?_cons_zero, List.getElem?_cons_succ, List.getElem?_nil, List.set_cons_zero, List.set_cons_succ, Option.bind_some, Option.map_some, Option.isSome_some, true_and, and_true, if_true, if_false, Bool.false_eq_true, reduceIte, Int.reduceBEq, Bool.not_true, Bool.not_false, List.nodup_cons, List.nodup_nil, List.not_mem_nil, not_false_eq_true, List.mem_cons, or_false, ↓opt_f, ↓optF_some, ↓ite_cd, ↓cd_true, ↓cd_false, ↓forL_f, ↓lcL_f, ↓dcL_f, ↓noEr_run, ↓w_frz, ↓getW_own, ↓dListRg1, ↓dIndex, ↓dCKw, ↓dMake, ↓dList, seq_lst, seq_tup, kwP1, kwP10, beq_self_eq_true, ↓dEqO, ↓dBinO, ↓dNev, tyV_dct, tyV_ins, kno_dct, clV_ptr, kit_sameR, nf_same, nf_none, nf_int, nf_bool, nf_str, nf_lst, nf_tup, nf_dct, ↓dLenO, eq_bl, ne_bl, ↓hot_run, ↓w_try, ↓w_try0, ↓erH_cons, ↓erH_nil, ↓shutD_mk, x1_mk, x2_mk, ↓w_rz, ↓dXf, ↓dIsX, ↓dBinS, Nat.reduceLT, p4, p5, p6, p7, p8, p9, p10, p11, p12, p13, p14, p15]
      refine draw_ok A (n := 17 * j) (by omega) hw (by decide) (by decide) fun x w1 x0 x1 hw1 => ?_
      obtain ⟨k, rfl⟩ := Int.eq_ofNat_of_zero_le x0
      have hk : k < 7 := by omega
      simp -implicitDefEqProofs -dsimp only [idd_eq, Nat.reduceEqDiff, ↓w_seq, ↓w_if, ↓dTest, ↓dOp, ↓dUn, ↓w_var, ↓getS_val, ↓getS_own, ↓getS_par, ↓dC, rd_val, rd_bor, ownD_own, ownD_par, rds_nil, rds_cons, ↓w_asg, ↓dCB, ↓dCons, ↓dNil, ↓dgName, ↓dgTup, ↓dgCons, ↓dgNil, ↓w_setIx, ↓w_ret, ↓w_retF, ↓w_retN, ↓w_next, ↓w_drop, ↓w_own, ↓w_brk, ↓w_cnt, ↓w_setF, ↓w_dput, ↓w_body, ↓dN, ↓dCall, ↓dCallF, argsOf_nil, argsOf_val, argsOf_bor, bors, ↓dV, ↓dTup, ↓dLst, vals_nil, vals_val, ↓w_par, ↓w_par3, ↓w_parVO, ↓w_parOV, ↓w_parOO, ↓dTruth, ↓dIsi, ↓dIsiT, ↓dInO, insOf_ins, ↓dDNew, ↓dDGet, ↓dDIn, toTup_lst, toTup_tup, pf_nil, lk_self, key_str, key_int, isN_non, isNN_non, kno_int, kno_str, kno_lst, kno_tup, kno_bl, kno_non, tyV_int, tyV_bl, tyV_str, tyV_lst, tyV_tup, tyV_non, clV_ty, clVT_nil, clVT_val, kit_same, kit_int_bool, kit_bool_int, kits_list, kits_tuple, ↓dNot, ↓dAnd, ↓dOr, ↓dIf, ↓dAndV, ↓dOrV, ↓dNotV, ↓dChain, ↓dMeth, ↓dMethF, ↓dKw, ↓dSl, ↓dNoP, ↓dPart, ↓w_for, diRng1, diRng2, diRevR1, diEnumX, diAny, items_lst, items_tup, ↓dLc, ↓dDc, ↓dFld, ownAt_def, setD, Sl.setD, isPar0, isParS, isPN, isP_val, isP_own, isP_no, isP_par, ↓doF, outs_nil, outs_cons, parD_par, parIx, putOuts, wipeD, ↓dBodyF, ↓dAppend, D.isLst, cmp_int, bool_bl, toInt_int, toInt_bl, truth_bl, truth_int, truth_non, len_lst, len_tup, D_add, D_sub, D_mod, eq_int, ne_int, neg_int, ix0, ix1, ix2, ix3, ix4, tx0, tx1, tx2, sx0, sx1, sx2, List.length_cons, List.length_nil, List.cons_append, List.nil_append, List.replicate, Nat.reduceAdd, Nat.reduceSub, List.getElem?_cons_zero, List.getElem?_cons_succ, List.getElem?_nil, List.set_cons_zero, List.set_cons_succ, Option.bind_some, Option.map_some, Option.isSome_some, true_and, and_true, if_true, if_false, Bool.false_eq_true, reduceIte, Int.reduceBEq, Bool.not_true, Bool.not_false, List.nodup_cons, List.nodup_nil, List.not_mem_nil, not_false_eq_true, List.mem_cons, or_false, ↓opt_f, ↓optF_some, ↓ite_cd, ↓cd_true, ↓cd_false, ↓forL_f, ↓lcL_f, ↓dcL_f, ↓noEr_run, ↓w_frz, ↓getW_own, ↓dListRg1, ↓dIndex, ↓dCKw, ↓dMake, ↓dList, seq_lst, seq_tup, kwP1, kwP10, beq_self_eq_true, ↓dEqO, ↓dBinO, ↓dNev, tyV_dct, tyV_ins, kno_dct, clV_ptr, kit_sameR, nf_same, nf_none, nf_int, nf_bool, nf_str, nf_lst, nf_tup, nf_dct, ↓dLenO, eq_bl, ne_bl, ↓hot_run, ↓w_try, ↓w_try0, ↓erH_cons, ↓erH_nil, ↓shutD_mk, x1_mk, x2_mk, ↓w_rz, ↓dXf, ↓dIsX, ↓dBinS, Nat.reduceLT, p4, p5, p6, p7, p8, p9, p10, p11, p12, p13, p14, p15]
      refine ⟨⟨by omega, by omega⟩, ?_⟩
      refine lcL_inv (fun i acc ρ => ∃ (w : D) (xs : List D) (s14 : Sl), acc = xs ∧ xs.length = i ∧ (∀ x ∈ xs, x ∈ FL) ∧ Well (17 * j + 1 + i) w ∧ s14.isP = false ∧ ρ = [.val (.lst (ns.map D.int)), .val (.lst SZ), .val (.int c), .own w, .val (.int z), .val (.int (k : Int)), s6, s7, s8, s9, s10, s11, s12, s13, s14, s15]) ⟨w1, [], s14, rfl, rfl, by simp, hw1, p14, rfl⟩ ?_ ?_
      · rintro i d acc ρ nx hd ⟨w', xs, s14, rfl, hl, hf, hw', p14, rfl⟩ hnx
        have hi : i < 5 := by
          have := (List.getElem?_eq_some_iff.mp hd).1
          simpa using this
        have hz : acc.length < sizeLine := Nat.lt_of_le_of_lt (by omega : acc.length ≤ 5) (by decide)
        simp -implicitDefEqProofs -dsimp only [idd_eq, Nat.reduceEqDiff, ↓w_seq, ↓w_if, ↓dTest, ↓dOp, ↓dUn, ↓w_var, ↓getS_val, ↓getS_own, ↓getS_par, ↓dC, rd_val, rd_bor, ownD_own, ownD_par, rds_nil, rds_cons, ↓w_asg, ↓dCB, ↓dCons, ↓dNil, ↓dgName, ↓dgTup, ↓dgCons, ↓dgNil, ↓w_setIx, ↓w_ret, ↓w_retF, ↓w_retN, ↓w_next, ↓w_drop, ↓w_own, ↓w_brk, ↓w_cnt, ↓w_setF, ↓w_dput, ↓w_body, ↓dN, ↓dCall, ↓dCallF, argsOf_nil, argsOf_val, argsOf_bor, bors, ↓dV, ↓dTup, ↓dLst, vals_nil, vals_val, ↓w_par, ↓w_par3, ↓w_parVO, ↓w_parOV, ↓w_parOO, ↓dTruth, ↓dIsi, ↓dIsiT, ↓dInO, insOf_ins, ↓dDNew, ↓dDGet, ↓dDIn, toTup_lst, toTup_tup, pf_nil, lk_self, key_str, key_int, isN_non, isNN_non, kno_int, kno_str, kno_lst, kno_tup, kno_bl, kno_non, tyV_int, tyV_bl, tyV_str, tyV_lst, tyV_tup, tyV_non, clV_ty, clVT_nil, clVT_val, kit_same, kit_int_bool, kit_bool_int, kits_list, kits_tuple, ↓dNot, ↓dAnd, ↓dOr, ↓dIf, ↓dAndV, ↓dOrV, ↓dNotV, ↓dChain, ↓dMeth, ↓dMethF, ↓dKw, ↓dSl, ↓dNoP, ↓dPart, ↓w_for, diRng1, diRng2, diRevR1, diEnumX, diAny, items_lst, items_tup, ↓dLc, ↓dDc, ↓dFld, ownAt_def, setD, Sl.setD, isPar0, isParS, isPN, isP_val, isP_own, isP_no, isP_par, ↓doF, outs_nil, outs_cons, parD_par, parIx, putOuts, wipeD, ↓dBodyF, ↓dAppend, D.isLst, cmp_int, bool_bl, toInt_int, toInt_bl, truth_bl, truth_int, truth_non, len_lst, len_tup, D_add, D_sub, D_mod, eq_int, ne_int, neg_int, ix0, ix1, ix2, ix3, ix4, tx0, tx1, tx2, sx0, sx1, sx2, List.length_cons, List.length_nil, List.cons_append, List.nil_append, List.replicate, Nat.reduceAdd, Nat.reduceSub, List.getElem?_cons_zero, List.getElem?_cons_succ, List.getElem?_nil, List.set_cons_zero, List.set_cons_succ, Option.bind_some, Option.map_some, Option.isSome_some, true_and, and_true, if_true, if_false, Bool.false_eq_true, reduceIte, Int.reduceBEq, Bool.not_true, Bool.not_false, List.nodup_cons, List.nodup_nil, List.not_mem_nil, not_false_eq_true, List.mem_cons, or_false, ↓opt_f, ↓optF_some, ↓ite_cd, ↓cd_true, ↓cd_false, ↓forL_f, ↓lcL_f, ↓dcL_f, ↓noEr_run, ↓w_frz, ↓getW_own, ↓dListRg1, ↓dIndex, ↓dCKw, ↓dMake, ↓dList, seq_lst, seq_tup, kwP1, kwP10, beq_self_eq_true, ↓dEqO, ↓dBinO, ↓dNev, tyV_dct, tyV_ins, kno_dct, clV_ptr, kit_sameR, nf_same, nf_none, nf_int, nf_bool, nf_str, nf_lst, nf_tup, nf_dct, ↓dLenO, eq_bl, ne_bl, ↓hot_run, ↓w_try, ↓w_try0, ↓erH_cons, ↓erH_nil, ↓shutD_mk, x1_mk, x2_mk, ↓w_rz, ↓dXf, ↓dIsX, ↓dBinS, Nat.reduceLT, p4, p5, p6, p7, p8, p9, p10, p11, p12, p13, p14, p15]
        refine field_ok A (n := 17 * j + 1 + i) (by omega) hw' fun x w2 hx hw2 => ?_
        simp -implicitDefEqProofs -dsimp only [idd_eq, Nat.reduceEqDiff, ↓w_seq, ↓w_if, ↓dTest, ↓dOp, ↓dUn, ↓w_var, ↓getS_val, ↓getS_own, ↓getS_par, ↓dC, rd_val, rd_bor, ownD_own, ownD_par, rds_nil, rds_cons, ↓w_asg, ↓dCB, ↓dCons, ↓dNil, ↓dgName, ↓dgTup, ↓dgCons, ↓dgNil, ↓w_setIx, ↓w_ret, ↓w_retF, ↓w_retN, ↓w_next, ↓w_drop, ↓w_own, ↓w_brk, ↓w_cnt, ↓w_setF, ↓w_dput, ↓w_body, ↓dN, ↓dCall, ↓dCallF, argsOf_nil, argsOf_val, argsOf_bor, bors, ↓dV, ↓dTup, ↓dLst, vals_nil, vals_val, ↓w_par, ↓w_par3, ↓w_parVO, ↓w_parOV, ↓w_parOO, ↓dTruth, ↓dIsi, ↓dIsiT, ↓dInO, insOf_ins, ↓dDNew, ↓dDGet, ↓dDIn, toTup_lst, toTup_tup, pf_nil, lk_self, key_str, key_int, isN_non, isNN_non, kno_int, kno_str, kno_lst, kno_tup, kno_bl, kno_non, tyV_int, tyV_bl, tyV_str, tyV_lst, tyV_tup, tyV_non, clV_ty, clVT_nil, clVT_val, kit_same, kit_int_bool, kit_bool_int, kits_list, kits_tuple, ↓dNot, ↓dAnd, ↓dOr, ↓dIf, ↓dAndV, ↓dOrV, ↓dNotV, ↓dChain, ↓dMeth, ↓dMethF, ↓dKw, ↓dSl, ↓dNoP, ↓dPart, ↓w_for, diRng1, diRng2, diRevR1, diEnumX, diAny, items_lst, items_tup, ↓dLc, ↓dDc, ↓dFld, ownAt_def, setD, Sl.setD, isPar0, isParS, isPN, isP_val, isP_own, isP_no, isP_par, ↓doF, outs_nil, outs_cons, parD_par, parIx, putOuts, wipeD, ↓dBodyF, ↓dAppend, D.isLst, cmp_int, bool_bl, toInt_int, toInt_bl, truth_bl, truth_int, truth_non, len_lst, len_tup, D_add, D_sub, D_mod, eq_int, ne_int, neg_int, ix0, ix1, ix2, ix3, ix4, tx0, tx1, tx2, sx0, sx1, sx2, List.length_cons, List.length_nil, List.cons_append, List.nil_append, List.replicate, Nat.reduceAdd, Nat.reduceSub, List.getElem?_cons_zero, List.getElem?_cons_succ, List.getElem?_nil, List.set_cons_zero, List.set_cons_succ, Option.bind_some, Option.map_some, Option.isSome_some, true_and, and_true, if_true, if_false, Bool.false_eq_true, reduceIte, Int.reduceBEq, Bool.not_true, Bool.not_false, List.nodup_cons, List.nodup_nil, List.not_mem_nil, not_false_eq_true, List.mem_cons, or_false, ↓opt_f, ↓optF_some, ↓ite_cd, ↓cd_true, ↓cd_false, ↓forL_f, ↓lcL_f, ↓dcL_f, ↓noEr_run, ↓w_frz, ↓getW_own, ↓dListRg1, ↓dIndex, ↓dCKw, ↓dMake, ↓dList, seq_lst, seq_tup, kwP1, kwP10, beq_self_eq_true, ↓dEqO, ↓dBinO, ↓dNev, tyV_dct, tyV_ins, kno_dct, clV_ptr, kit_sameR, nf_same, nf_none, nf_int, nf_bool, nf_str, nf_lst, nf_tup, nf_dct, ↓dLenO, eq_bl, ne_bl, ↓hot_run, ↓w_try, ↓w_try0, ↓erH_cons, ↓erH_nil, ↓shutD_mk, x1_mk, x2_mk, ↓w_rz, ↓dXf, ↓dIsX, ↓dBinS, Nat.reduceLT, hz, p4, p5, p6, p7, p8, p9, p10, p11, p12, p13, p14, p15]
        refine hnx _ _ ⟨w2, acc ++ [x], _, rfl, by simp [hl], ?_, hw2, rfl, rfl⟩
        intro y hy
        rcases List.mem_append.mp hy with h | h
        · exact hf y h
        · rw [List.mem_singleton.mp h]; exact hx
      · rintro acc ρ ⟨w, xs, s14, rfl, hl, hf, hw, p14, rfl⟩
        have hl : acc.length = 5 := hl
        match acc, hl, hf with
        | [f0, f1, f2, f3, f4], _, hf =>
        have hw : Well (17 * j + 6) w := hw
        simp -implicitDefEqProofs -dsimp only [idd_eq, Nat.reduceEqDiff, ↓w_seq, ↓w_if, ↓dTest, ↓dOp, ↓dUn, ↓w_var, ↓getS_val, ↓getS_own, ↓getS_par, ↓dC, rd_val, rd_bor, ownD_own, ownD_par, rds_nil, rds_cons, ↓w_asg, ↓dCB, ↓dCons, ↓dNil, ↓dgName, ↓dgTup, ↓dgCons, ↓dgNil, ↓w_setIx, ↓w_ret, ↓w_retF, ↓w_retN, ↓w_next, ↓w_drop, ↓w_own, ↓w_brk, ↓w_cnt, ↓w_setF, ↓w_dput, ↓w_body, ↓dN, ↓dCall, ↓dCallF, argsOf_nil, argsOf_val, argsOf_bor, bors, ↓dV, ↓dTup, ↓dLst, vals_nil, vals_val, ↓w_par, ↓w_par3, ↓w_parVO, ↓w_parOV, ↓w_parOO, ↓dTruth, ↓dIsi, ↓dIsiT, ↓dInO, insOf_ins, ↓dDNew, ↓dDGet, ↓dDIn, toTup_lst, toTup_tup, pf_nil, lk_self, key_str, key_int, isN_non, isNN_non, kno_int, kno_str, kno_lst, kno_tup, kno_bl, kno_non, tyV_int, tyV_bl, tyV_str, tyV_lst, tyV_tup, tyV_non, clV_ty, clVT_nil, clVT_val, kit_same, kit_int_bool, kit_bool_int, kits_list, kits_tuple, ↓dNot, ↓dAnd, ↓dOr, ↓dIf, ↓dAndV, ↓dOrV, ↓dNotV, ↓dChain, ↓dMeth, ↓dMethF, ↓dKw, ↓dSl, ↓dNoP, ↓dPart, ↓w_for, diRng1, diRng2, diRevR1, diEnumX, diAny, items_lst, items_tup, ↓dLc, ↓dDc, ↓dFld, ownAt_def, setD, Sl.setD, isPar0, isParS, isPN, isP_val, isP_own, isP_no, isP_par, ↓doF, outs_nil, outs_cons, parD_par, parIx, putOuts, wipeD, ↓dBodyF, ↓dAppend, D.isLst, cmp_int, bool_bl, toInt_int, toInt_bl, truth_bl, truth_int, truth_non, len_lst, len_tup, D_add, D_sub, D_mod, eq_int, ne_int, neg_int, ix0, ix1, ix2, ix3, ix4, tx0, tx1, tx2, sx0, sx1, sx2, List.length_cons, List.length_nil, List.cons_append, List.nil_append, List.replicate, Nat.reduceAdd, Nat.reduceSub, List.getElem?_cons_zero, List.getElem?_cons_succ, List.getElem?_nil, List.set_cons_zero, List.set_cons_succ, Option.bind_some, Option.map_some, Option.isSome_some, true_and, and_true, if_true, if_false, Bool.false_eq_true, reduceIte, Int.reduceBEq, Bool.not_true, Bool.not_false, List.nodup_cons, List.nodup_nil, List.not_mem_nil, not_false_eq_true, List.mem_cons, or_false, ↓opt_f, ↓optF_some, ↓ite_cd, ↓cd_true, ↓cd_false, ↓forL_f, ↓lcL_f, ↓dcL_f, ↓noEr_run, ↓w_frz, ↓getW_own, ↓dListRg1, ↓dIndex, ↓dCKw, ↓dMake, ↓dList, seq_lst, seq_tup, kwP1, kwP10, beq_self_eq_true, ↓dEqO, ↓dBinO, ↓dNev, tyV_dct, tyV_ins, kno_dct, clV_ptr, kit_sameR, nf_same, nf_none, nf_int, nf_bool, nf_str, nf_lst, nf_tup, nf_dct, ↓dLenO, eq_bl, ne_bl, ↓hot_run, ↓w_try, ↓w_try0, ↓erH_cons, ↓erH_nil, ↓shutD_mk, x1_mk, x2_mk, ↓w_rz, ↓dXf, ↓dIsX, ↓dBinS, Nat.reduceLT, p4, p5, p6, p7, p8, p9, p10, p11, p12, p13, p14, p15]
        refine lcL_inv (fun i acc ρ => ∃ (w : D) (xs : List D) (s15 : Sl), acc = xs ∧ xs.length = i ∧ (∀ x ∈ xs, x ∈ FL) ∧ Well (17 * j + 6 + 2 * i) w ∧ s15.isP = false ∧ ρ = [.val (.lst (ns.map D.int)), .val (.lst SZ), .val (.int c), .own w, .val (.int z), .val (.int (k : Int)), .val (.lst [f0, f1, f2, f3, f4]), s7, s8, s9, s10, s11, s12, s13, s14, s15]) ⟨w, [], s15, rfl, rfl, by simp, hw, p15, rfl⟩ ?_ ?_
        · rintro i d acc ρ nx hd ⟨w', xs, s15, rfl, hl, hg, hw', p15, rfl⟩ hnx
          have hi : i < 5 := (List.getElem?_eq_some_iff.mp hd).1
          have hdf : d ∈ FL := hf d (List.mem_of_getElem? hd)
          have hz : acc.length < sizeLine := Nat.lt_of_le_of_lt (by omega : acc.length ≤ 5) (by decide)
          have fin : ∀ (y : D) (w2 : D) (s : Sl), s.isP = false → y ∈ FL → Well (17 * j + 6 + 2 * i + 2) w2 → nx (acc ++ [y]) [.val (.lst (ns.map D.int)), .val (.lst SZ), .val (.int c), .own w2, .val (.int z), .val (.int (k : Int)), .val (.lst [f0, f1, f2, f3, f4]), s7, s8, s9, s10, s11, s12, s13, s14, s] := fun y w2 s hs hy h2 =>
            hnx _ _ ⟨w2, acc ++ [y], s, rfl, by simp [hl], fun u hu => by
              rcases List.mem_append.mp hu with h | h
              · exact hg u h
              · rw [List.mem_singleton.mp h]; exact hy, h2, hs, rfl⟩
          simp -implicitDefEqProofs -dsimp only [idd_eq, Nat.reduceEqDiff, ↓w_seq, ↓w_if, ↓dTest, ↓dOp, ↓dUn, ↓w_var, ↓getS_val, ↓getS_own, ↓getS_par, ↓dC, rd_val, rd_bor, ownD_own, ownD_par, rds_nil, rds_cons, ↓w_asg, ↓dCB, ↓dCons, ↓dNil, ↓dgName, ↓dgTup, ↓dgCons, ↓dgNil, ↓w_setIx, ↓w_ret, ↓w_retF, ↓w_retN, ↓w_next, ↓w_drop, ↓w_own, ↓w_brk, ↓w_cnt, ↓w_setF, ↓w_dput, ↓w_body, ↓dN, ↓dCall, ↓dCallF, argsOf_nil, argsOf_val, argsOf_bor, bors, ↓dV, ↓dTup, ↓dLst, vals_nil, vals_val, ↓w_par, ↓w_par3, ↓w_parVO, ↓w_parOV, ↓w_parOO, ↓dTruth, ↓dIsi, ↓dIsiT, ↓dInO, insOf_ins, ↓dDNew, ↓dDGet, ↓dDIn, toTup_lst, toTup_tup, pf_nil, lk_self, key_str, key_int, isN_non, isNN_non, kno_int, kno_str, kno_lst, kno_tup, kno_bl, kno_non, tyV_int, tyV_bl, tyV_str, tyV_lst, tyV_tup, tyV_non, clV_ty, clVT_nil, clVT_val, kit_same, kit_int_bool, kit_bool_int, kits_list, kits_tuple, ↓dNot, ↓dAnd, ↓dOr, ↓dIf, ↓dAndV, ↓dOrV, ↓dNotV, ↓dChain, ↓dMeth, ↓dMethF, ↓dKw, ↓dSl, ↓dNoP, ↓dPart, ↓w_for, diRng1, diRng2, diRevR1, diEnumX, diAny, items_lst, items_tup, ↓dLc, ↓dDc, ↓dFld, ownAt_def, setD, Sl.setD, isPar0, isParS, isPN, isP_val, isP_own, isP_no, isP_par, ↓doF, outs_nil, outs_cons, parD_par, parIx, putOuts, wipeD, ↓dBodyF, ↓dAppend, D.isLst, cmp_int, bool_bl, toInt_int, toInt_bl, truth_bl, truth_int, truth_non, len_lst, len_tup, D_add, D_sub, D_mod, eq_int, ne_int, neg_int, ix0, ix1, ix2, ix3, ix4, tx0, tx1, tx2, sx0, sx1, sx2, List.length_cons, List.length_nil, List.cons_append, List.nil_append, List.replicate, Nat.reduceAdd, Nat.reduceSub, List.getElem?_cons_zero, List.getElem?_cons_succ, List.getElem?_nil, List.set_cons_zero, List.set_cons_succ, Option.bind_some, Option.map_some, Option.isSome_some, true_and, and_true, if_true, if_false, Bool.false_eq_true, reduceIte, Int.reduceBEq, Bool.not_true, Bool.not_false, List.nodup_cons, List.nodup_nil, List.not_mem_nil, not_false_eq_true, List.mem_cons, or_false, ↓opt_f, ↓optF_some, ↓ite_cd, ↓cd_true, ↓cd_false, ↓forL_f, ↓lcL_f, ↓dcL_f, ↓noEr_run, ↓w_frz, ↓getW_own, ↓dListRg1, ↓dIndex, ↓dCKw, ↓dMake, ↓dList, seq_lst, seq_tup, kwP1, kwP10, beq_self_eq_true, ↓dEqO, ↓dBinO, ↓dNev, tyV_dct, tyV_ins, kno_dct, clV_ptr, kit_sameR, nf_same, nf_none, nf_int, nf_bool, nf_str, nf_lst, nf_tup, nf_dct, ↓dLenO, eq_bl, ne_bl, ↓hot_run, ↓w_try, ↓w_try0, ↓erH_cons, ↓erH_nil, ↓shutD_mk, x1_mk, x2_mk, ↓w_rz, ↓dXf, ↓dIsX, ↓dBinS, Nat.reduceLT, p4, p5, p6, p7, p8, p9, p10, p11, p12, p13, p14, p15]
          refine draw_ok A (n := 17 * j + 6 + 2 * i) (by omega) hw' (by decide) (by decide) fun x w2 x0 x1 hw2 => ?_
          by_cases hx0 : x = 0
          · subst hx0
            simp -implicitDefEqProofs -dsimp only [idd_eq, Nat.reduceEqDiff, ↓w_seq, ↓w_if, ↓dTest, ↓dOp, ↓dUn, ↓w_var, ↓getS_val, ↓getS_own, ↓getS_par, ↓dC, rd_val, rd_bor, ownD_own, ownD_par, rds_nil, rds_cons, ↓w_asg, ↓dCB, ↓dCons, ↓dNil, ↓dgName, ↓dgTup, ↓dgCons, ↓dgNil, ↓w_setIx, ↓w_ret, ↓w_retF, ↓w_retN, ↓w_next, ↓w_drop, ↓w_own, ↓w_brk, ↓w_cnt, ↓w_setF, ↓w_dput, ↓w_body, ↓dN, ↓dCall, ↓dCallF, argsOf_nil, argsOf_val, argsOf_bor, bors, ↓dV, ↓dTup, ↓dLst, vals_nil, vals_val, ↓w_par, ↓w_par3, ↓w_parVO, ↓w_parOV, ↓w_parOO, ↓dTruth, ↓dIsi, ↓dIsiT, ↓dInO, insOf_ins, ↓dDNew, ↓dDGet, ↓dDIn, toTup_lst, toTup_tup, pf_nil, lk_self, key_str, key_int, isN_non, isNN_non, kno_int, kno_str, kno_lst, kno_tup, kno_bl, kno_non, tyV_int, tyV_bl, tyV_str, tyV_lst, tyV_tup, tyV_non, clV_ty, clVT_nil, clVT_val, kit_same, kit_int_bool, kit_bool_int, kits_list, kits_tuple, ↓dNot, ↓dAnd, ↓dOr, ↓dIf, ↓dAndV, ↓dOrV, ↓dNotV, ↓dChain, ↓dMeth, ↓dMethF, ↓dKw, ↓dSl, ↓dNoP, ↓dPart, ↓w_for, diRng1, diRng2, diRevR1, diEnumX, diAny, items_lst, items_tup, ↓dLc, ↓dDc, ↓dFld, ownAt_def, setD, Sl.setD, isPar0, isParS, isPN, isP_val, isP_own, isP_no, isP_par, ↓doF, outs_nil, outs_cons, parD_par, parIx, putOuts, wipeD, ↓dBodyF, ↓dAppend, D.isLst, cmp_int, bool_bl, toInt_int, toInt_bl, truth_bl, truth_int, truth_non, len_lst, len_tup, D_add, D_sub, D_mod, eq_int, ne_int, neg_int, ix0, ix1, ix2, ix3, ix4, tx0, tx1, tx2, sx0, sx1, sx2, List.length_cons, List.length_nil, List.cons_append, List.nil_append, List.replicate, Nat.reduceAdd, Nat.reduceSub, List.getElem?_cons_zero, List.getElem?_cons_succ, List.getElem?_nil, List.set_cons_zero, List.set_cons_succ, Option.bind_some, Option.map_some, Option.isSome_some, true_and, and_true, if_true, if_false, Bool.false_eq_true, reduceIte, Int.reduceBEq, Bool.not_true, Bool.not_false, List.nodup_cons, List.nodup_nil, List.not_mem_nil, not_false_eq_true, List.mem_cons, or_false, ↓opt_f, ↓optF_some, ↓ite_cd, ↓cd_true, ↓cd_false, ↓forL_f, ↓lcL_f, ↓dcL_f, ↓noEr_run, ↓w_frz, ↓getW_own, ↓dListRg1, ↓dIndex, ↓dCKw, ↓dMake, ↓dList, seq_lst, seq_tup, kwP1, kwP10, beq_self_eq_true, ↓dEqO, ↓dBinO, ↓dNev, tyV_dct, tyV_ins, kno_dct, clV_ptr, kit_sameR, nf_same, nf_none, nf_int, nf_bool, nf_str, nf_lst, nf_tup, nf_dct, ↓dLenO, eq_bl, ne_bl, ↓hot_run, ↓w_try, ↓w_try0, ↓erH_cons, ↓erH_nil, ↓shutD_mk, x1_mk, x2_mk, ↓w_rz, ↓dXf, ↓dIsX, ↓dBinS, Nat.reduceLT, hz, p4, p5, p6, p7, p8, p9, p10, p11, p12, p13, p14, p15]
            refine field_ok A (n := 17 * j + 6 + 2 * i + 1) (by omega) hw2 fun y w3 hy hw3 => ?_
            simp -implicitDefEqProofs -dsimp only [idd_eq, Nat.reduceEqDiff, ↓w_seq, ↓w_if, ↓dTest, ↓dOp, ↓dUn, ↓w_var, ↓getS_val, ↓getS_own, ↓getS_par, ↓dC, rd_val, rd_bor, ownD_own, ownD_par, rds_nil, rds_cons, ↓w_asg, ↓dCB, ↓dCons, ↓dNil, ↓dgName, ↓dgTup, ↓dgCons, ↓dgNil, ↓w_setIx, ↓w_ret, ↓w_retF, ↓w_retN, ↓w_next, ↓w_drop, ↓w_own, ↓w_brk, ↓w_cnt, ↓w_setF, ↓w_dput, ↓w_body, ↓dN, ↓dCall, ↓dCallF, argsOf_nil, argsOf_val, argsOf_bor, bors, ↓dV, ↓dTup, ↓dLst, vals_nil, vals_val, ↓w_par, ↓w_par3, ↓w_parVO, ↓w_parOV, ↓w_parOO, ↓dTruth, ↓dIsi, ↓dIsiT, ↓dInO, insOf_ins, ↓dDNew, ↓dDGet, ↓dDIn, toTup_lst, toTup_tup, pf_nil, lk_self, key_str, key_int, isN_non, isNN_non, kno_int, kno_str, kno_lst, kno_tup, kno_bl, kno_non, tyV_int, tyV_bl, tyV_str, tyV_lst, tyV_tup, tyV_non, clV_ty, clVT_nil, clVT_val, kit_same, kit_int_bool, kit_bool_int, kits_list, kits_tuple, ↓dNot, ↓dAnd, ↓dOr, ↓dIf, ↓dAndV, ↓dOrV, ↓dNotV, ↓dChain, ↓dMeth, ↓dMethF, ↓dKw, ↓dSl, ↓dNoP, ↓dPart, ↓w_for, diRng1, diRng2, diRevR1, diEnumX, diAny, items_lst, items_tup, ↓dLc, ↓dDc, ↓dFld, ownAt_def, setD, Sl.setD, isPar0, isParS, isPN, isP_val, isP_own, isP_no, isP_par, ↓doF, outs_nil, outs_cons, parD_par, parIx, putOuts, wipeD, ↓dBodyF, ↓dAppend, D.isLst, cmp_int, bool_bl, toInt_int, toInt_bl, truth_bl, truth_int, truth_non, len_lst, len_tup, D_add, D_sub, D_mod, eq_int, ne_int, neg_int, ix0, ix1, ix2, ix3, ix4, tx0, tx1, tx2, sx0, sx1, sx2, List.length_cons, List.length_nil, List.cons_append, List.nil_append, List.replicate, Nat.reduceAdd, Nat.reduceSub, List.getElem?_cons_zero, List.getElem?_cons_succ, List.getElem?_nil, List.set_cons_zero, List.set_cons_succ, Option.bind_some, Option.map_some, Option.isSome_some, true_and, and_true, if_true, if_false, Bool.false_eq_true, reduceIte, Int.reduceBEq, Bool.not_true, Bool.not_false, List.nodup_cons, List.nodup_nil, List.not_mem_nil, not_false_eq_true, List.mem_cons, or_false, ↓opt_f, ↓optF_some, ↓ite_cd, ↓cd_true, ↓cd_false, ↓forL_f, ↓lcL_f, ↓dcL_f, ↓noEr_run, ↓w_frz, ↓getW_own, ↓dListRg1, ↓dIndex, ↓dCKw, ↓dMake, ↓dList, seq_lst, seq_tup, kwP1, kwP10, beq_self_eq_true, ↓dEqO, ↓dBinO, ↓dNev, tyV_dct, tyV_ins, kno_dct, clV_ptr, kit_sameR, nf_same, nf_none, nf_int, nf_bool, nf_str, nf_lst, nf_tup, nf_dct, ↓dLenO, eq_bl, ne_bl, ↓hot_run, ↓w_try, ↓w_try0, ↓erH_cons, ↓erH_nil, ↓shutD_mk, x1_mk, x2_mk, ↓w_rz, ↓dXf, ↓dIsX, ↓dBinS, Nat.reduceLT, hz, p4, p5, p6, p7, p8, p9, p10, p11, p12, p13, p14, p15]
            exact fin y w3 _ rfl hy hw3
          · have hb : (x == 0) = false := by simpa using hx0
            simp -implicitDefEqProofs -dsimp only [idd_eq, Nat.reduceEqDiff, ↓w_seq, ↓w_if, ↓dTest, ↓dOp, ↓dUn, ↓w_var, ↓getS_val, ↓getS_own, ↓getS_par, ↓dC, rd_val, rd_bor, ownD_own, ownD_par, rds_nil, rds_cons, ↓w_asg, ↓dCB, ↓dCons, ↓dNil, ↓dgName, ↓dgTup, ↓dgCons, ↓dgNil, ↓w_setIx, ↓w_ret, ↓w_retF, ↓w_retN, ↓w_next, ↓w_drop, ↓w_own, ↓w_brk, ↓w_cnt, ↓w_setF, ↓w_dput, ↓w_body, ↓dN, ↓dCall, ↓dCallF, argsOf_nil, argsOf_val, argsOf_bor, bors, ↓dV, ↓dTup, ↓dLst, vals_nil, vals_val, ↓w_par, ↓w_par3, ↓w_parVO, ↓w_parOV, ↓w_parOO, ↓dTruth, ↓dIsi, ↓dIsiT, ↓dInO, insOf_ins, ↓dDNew, ↓dDGet, ↓dDIn, toTup_lst, toTup_tup, pf_nil, lk_self, key_str, key_int, isN_non, isNN_non, kno_int, kno_str, kno_lst, kno_tup, kno_bl, kno_non, tyV_int, tyV_bl, tyV_str, tyV_lst, tyV_tup, tyV_non, clV_ty, clVT_nil, clVT_val, kit_same, kit_int_bool, kit_bool_int, kits_list, kits_tuple, ↓dNot, ↓dAnd, ↓dOr, ↓dIf, ↓dAndV, ↓dOrV, ↓dNotV, ↓dChain, ↓dMeth, ↓dMethF, ↓dKw, ↓dSl, ↓dNoP, ↓dPart, ↓w_for, diRng1, diRng2, diRevR1, diEnumX, diAny, items_lst, items_tup, ↓dLc, ↓dDc, ↓dFld, ownAt_def, setD, Sl.setD, isPar0, isParS, isPN, isP_val, isP_own, isP_no, isP_par, ↓doF, outs_nil, outs_cons, parD_par, parIx, putOuts, wipeD, ↓dBodyF, ↓dAppend, D.isLst, cmp_int, bool_bl, toInt_int, toInt_bl, truth_bl, truth_int, truth_non, len_lst, len_tup, D_add, D_sub, D_mod, eq_int, ne_int, neg_int, ix0, ix1, ix2, ix3, ix4, tx0, tx1, tx2, sx0, sx1, sx2, List.length_cons, List.length_nil, List.cons_append, List.nil_append, List.replicate, Nat.reduceAdd, Nat.reduceSub, List.getElem?_cons_zero, List.getElem?_cons_succ, List.getElem?_nil, List.set_cons_zero, List.set_cons_succ, Option.bind_some, Option.map_some, Option.isSome_some, true_and, and_true, if_true, if_false, Bool.false_eq_true, reduceIte, Int.reduceBEq, Bool.not_true, Bool.not_false, List.nodup_cons, List.nodup_nil, List.not_mem_nil, not_false_eq_true, List.mem_cons, or_false, ↓opt_f, ↓optF_some, ↓ite_cd, ↓cd_true, ↓cd_false, ↓forL_f, ↓lcL_f, ↓dcL_f, ↓noEr_run, ↓w_frz, ↓getW_own, ↓dListRg1, ↓dIndex, ↓dCKw, ↓dMake, ↓dList, seq_lst, seq_tup, kwP1, kwP10, beq_self_eq_true, ↓dEqO, ↓dBinO, ↓dNev, tyV_dct, tyV_ins, kno_dct, clV_ptr, kit_sameR, nf_same, nf_none, nf_int, nf_bool, nf_str, nf_lst, nf_tup, nf_dct, ↓dLenO, eq_bl, ne_bl, ↓hot_run, ↓w_try, ↓w_try0, ↓erH_cons, ↓erH_nil, ↓shutD_mk, x1_mk, x2_mk, ↓w_rz, ↓dXf, ↓dIsX, ↓dBinS, Nat.reduceLT, hb, hz, p4, p5, p6, p7, p8, p9, p10, p11, p12, p13, p14, p15]
            exact fin d w2 _ rfl hdf (hw2.mono (by omega))
        · rintro acc ρ ⟨w, xs, s15, rfl, hl, hg, hw, p15, rfl⟩
          have hl : acc.length = 5 := hl
          match acc, hl, hg with
          | [g0, g1, g2, g3, g4], _, hg =>
          have hw : Well (17 * j + 16) w := hw
          have c1 := due_cut (f0 := f0) (f1 := f1) (f2 := f2) (f3 := f3) (f4 := f4) k hk
          have c2 := due_cut (f0 := g0) (f1 := g1) (f2 := g2) (f3 := g3) (f4 := g4) k hk
          have n1 := neL (f0 := f0) (f1 := f1) (f2 := f2) (f3 := f3) (f4 := f4) k hk hf
          have r1 := deq_refl k hk hf
          have q1 := eqL k hk hf hg
          have zi := sz_ix k hk
          have isn := dd_isN A (f0 := f0) (f1 := f1) (f2 := f2) (f3 := f3) (f4 := f4) k hk
          simp -implicitDefEqProofs -dsimp only [idd_eq, Nat.reduceEqDiff, ↓w_seq, ↓w_if, ↓dTest, ↓dOp, ↓dUn, ↓w_var, ↓getS_val, ↓getS_own, ↓getS_par, ↓dC, rd_val, rd_bor, ownD_own, ownD_par, rds_nil, rds_cons, ↓w_asg, ↓dCB, ↓dCons, ↓dNil, ↓dgName, ↓dgTup, ↓dgCons, ↓dgNil, ↓w_setIx, ↓w_ret, ↓w_retF, ↓w_retN, ↓w_next, ↓w_drop, ↓w_own, ↓w_brk, ↓w_cnt, ↓w_setF, ↓w_dput, ↓w_body, ↓dN, ↓dCall, ↓dCallF, argsOf_nil, argsOf_val, argsOf_bor, bors, ↓dV, ↓dTup, ↓dLst, vals_nil, vals_val, ↓w_par, ↓w_par3, ↓w_parVO, ↓w_parOV, ↓w_parOO, ↓dTruth, ↓dIsi, ↓dIsiT, ↓dInO, insOf_ins, ↓dDNew, ↓dDGet, ↓dDIn, toTup_lst, toTup_tup, pf_nil, lk_self, key_str, key_int, isN_non, isNN_non, kno_int, kno_str, kno_lst, kno_tup, kno_bl, kno_non, tyV_int, tyV_bl, tyV_str, tyV_lst, tyV_tup, tyV_non, clV_ty, clVT_nil, clVT_val, kit_same, kit_int_bool, kit_bool_int, kits_list, kits_tuple, ↓dNot, ↓dAnd, ↓dOr, ↓dIf, ↓dAndV, ↓dOrV, ↓dNotV, ↓dChain, ↓dMeth, ↓dMethF, ↓dKw, ↓dSl, ↓dNoP, ↓dPart, ↓w_for, diRng1, diRng2, diRevR1, diEnumX, diAny, items_lst, items_tup, ↓dLc, ↓dDc, ↓dFld, ownAt_def, setD, Sl.setD, isPar0, isParS, isPN, isP_val, isP_own, isP_no, isP_par, ↓doF, outs_nil, outs_cons, parD_par, parIx, putOuts, wipeD, ↓dBodyF, ↓dAppend, D.isLst, cmp_int, bool_bl, toInt_int, toInt_bl, truth_bl, truth_int, truth_non, len_lst, len_tup, D_add, D_sub, D_mod, eq_int, ne_int, neg_int, ix0, ix1, ix2, ix3, ix4, tx0, tx1, tx2, sx0, sx1, sx2, List.length_cons, List.length_nil, List.cons_append, List.nil_append, List.replicate, Nat.reduceAdd, Nat.reduceSub, List.getElem?_cons_zero, List.getElem?_cons_succ, List.getElem?_nil, List.set_cons_zero, List.set_cons_succ, Option.bind_some, Option.map_some, Option.isSome_some, true_and, and_true, if_true, if_false, Bool.false_eq_true, reduceIte, Int.reduceBEq, Bool.not_true, Bool.not_false, List.nodup_cons, List.nodup_nil, List.not_mem_nil, not_false_eq_true, List.mem_cons, or_false, ↓opt_f, ↓optF_some, ↓ite_cd, ↓cd_true, ↓cd_false, ↓forL_f, ↓lcL_f, ↓dcL_f, ↓noEr_run, ↓w_frz, ↓getW_own, ↓dListRg1, ↓dIndex, ↓dCKw, ↓dMake, ↓dList, seq_lst, seq_tup, kwP1, kwP10, beq_self_eq_true, ↓dEqO, ↓dBinO, ↓dNev, tyV_dct, tyV_ins, kno_dct, clV_ptr, kit_sameR, nf_same, nf_none, nf_int, nf_bool, nf_str, nf_lst, nf_tup, nf_dct, ↓dLenO, eq_bl, ne_bl, ↓hot_run, ↓w_try, ↓w_try0, ↓erH_cons, ↓erH_nil, ↓shutD_mk, x1_mk, x2_mk, ↓w_rz, ↓dXf, ↓dIsX, ↓dBinS, Nat.reduceLT, p4, p5, p6, p7, p8, p9, p10, p11, p12, p13, p14, p15]
          refine deed_ok A k hk ?_
          simp -implicitDefEqProofs -dsimp only [idd_eq, Nat.reduceEqDiff, ↓w_seq, ↓w_if, ↓dTest, ↓dOp, ↓dUn, ↓w_var, ↓getS_val, ↓getS_own, ↓getS_par, ↓dC, rd_val, rd_bor, ownD_own, ownD_par, rds_nil, rds_cons, ↓w_asg, ↓dCB, ↓dCons, ↓dNil, ↓dgName, ↓dgTup, ↓dgCons, ↓dgNil, ↓w_setIx, ↓w_ret, ↓w_retF, ↓w_retN, ↓w_next, ↓w_drop, ↓w_own, ↓w_brk, ↓w_cnt, ↓w_setF, ↓w_dput, ↓w_body, ↓dN, ↓dCall, ↓dCallF, argsOf_nil, argsOf_val, argsOf_bor, bors, ↓dV, ↓dTup, ↓dLst, vals_nil, vals_val, ↓w_par, ↓w_par3, ↓w_parVO, ↓w_parOV, ↓w_parOO, ↓dTruth, ↓dIsi, ↓dIsiT, ↓dInO, insOf_ins, ↓dDNew, ↓dDGet, ↓dDIn, toTup_lst, toTup_tup, pf_nil, lk_self, key_str, key_int, isN_non, isNN_non, kno_int, kno_str, kno_lst, kno_tup, kno_bl, kno_non, tyV_int, tyV_bl, tyV_str, tyV_lst, tyV_tup, tyV_non, clV_ty, clVT_nil, clVT_val, kit_same, kit_int_bool, kit_bool_int, kits_list, kits_tuple, ↓dNot, ↓dAnd, ↓dOr, ↓dIf, ↓dAndV, ↓dOrV, ↓dNotV, ↓dChain, ↓dMeth, ↓dMethF, ↓dKw, ↓dSl, ↓dNoP, ↓dPart, ↓w_for, diRng1, diRng2, diRevR1, diEnumX, diAny, items_lst, items_tup, ↓dLc, ↓dDc, ↓dFld, ownAt_def, setD, Sl.setD, isPar0, isParS, isPN, isP_val, isP_own, isP_no, isP_par, ↓doF, outs_nil, outs_cons, parD_par, parIx, putOuts, wipeD, ↓dBodyF, ↓dAppend, D.isLst, cmp_int, bool_bl, toInt_int, toInt_bl, truth_bl, truth_int, truth_non, len_lst, len_tup, D_add, D_sub, D_mod, eq_int, ne_int, neg_int, ix0, ix1, ix2, ix3, ix4, tx0, tx1, tx2, sx0, sx1, sx2, List.length_cons, List.length_nil, List.cons_append, List.nil_append, List.replicate, Nat.reduceAdd, Nat.reduceSub, List.getElem?_cons_zero, List.getElem?_cons_succ, List.getElem?_nil, List.set_cons_zero, List.set_cons_succ, Option.bind_some, Option.map_some, Option.isSome_some, true_and, and_true, if_true, if_false, Bool.false_eq_true, reduceIte, Int.reduceBEq, Bool.not_true, Bool.not_false, List.nodup_cons, List.nodup_nil, List.not_mem_nil, not_false_eq_true, List.mem_cons, or_false, ↓opt_f, ↓optF_some, ↓ite_cd, ↓cd_true, ↓cd_false, ↓forL_f, ↓lcL_f, ↓dcL_f, ↓noEr_run, ↓w_frz, ↓getW_own, ↓dListRg1, ↓dIndex, ↓dCKw, ↓dMake, ↓dList, seq_lst, seq_tup, kwP1, kwP10, beq_self_eq_true, ↓dEqO, ↓dBinO, ↓dNev, tyV_dct, tyV_ins, kno_dct, clV_ptr, kit_sameR, nf_same, nf_none, nf_int, nf_bool, nf_str, nf_lst, nf_tup, nf_dct, ↓dLenO, eq_bl, ne_bl, ↓hot_run, ↓w_try, ↓w_try0, ↓erH_cons, ↓erH_nil, ↓shutD_mk, x1_mk, x2_mk, ↓w_rz, ↓dXf, ↓dIsX, ↓dBinS, Nat.reduceLT, p4, p5, p6, p7, p8, p9, p10, p11, p12, p13, p14, p15]
          refine named_ok A k hk ?_
          simp -implicitDefEqProofs -dsimp only [idd_eq, Nat.reduceEqDiff, ↓w_seq, ↓w_if, ↓dTest, ↓dOp, ↓dUn, ↓w_var, ↓getS_val, ↓getS_own, ↓getS_par, ↓dC, rd_val, rd_bor, ownD_own, ownD_par, rds_nil, rds_cons, ↓w_asg, ↓dCB, ↓dCons, ↓dNil, ↓dgName, ↓dgTup, ↓dgCons, ↓dgNil, ↓w_setIx, ↓w_ret, ↓w_retF, ↓w_retN, ↓w_next, ↓w_drop, ↓w_own, ↓w_brk, ↓w_cnt, ↓w_setF, ↓w_dput, ↓w_body, ↓dN, ↓dCall, ↓dCallF, argsOf_nil, argsOf_val, argsOf_bor, bors, ↓dV, ↓dTup, ↓dLst, vals_nil, vals_val, ↓w_par, ↓w_par3, ↓w_parVO, ↓w_parOV, ↓w_parOO, ↓dTruth, ↓dIsi, ↓dIsiT, ↓dInO, insOf_ins, ↓dDNew, ↓dDGet, ↓dDIn, toTup_lst, toTup_tup, pf_nil, lk_self, key_str, key_int, isN_non, isNN_non, kno_int, kno_str, kno_lst, kno_tup, kno_bl, kno_non, tyV_int, tyV_bl, tyV_str, tyV_lst, tyV_tup, tyV_non, clV_ty, clVT_nil, clVT_val, kit_same, kit_int_bool, kit_bool_int, kits_list, kits_tuple, ↓dNot, ↓dAnd, ↓dOr, ↓dIf, ↓dAndV, ↓dOrV, ↓dNotV, ↓dChain, ↓dMeth, ↓dMethF, ↓dKw, ↓dSl, ↓dNoP, ↓dPart, ↓w_for, diRng1, diRng2, diRevR1, diEnumX, diAny, items_lst, items_tup, ↓dLc, ↓dDc, ↓dFld, ownAt_def, setD, Sl.setD, isPar0, isParS, isPN, isP_val, isP_own, isP_no, isP_par, ↓doF, outs_nil, outs_cons, parD_par, parIx, putOuts, wipeD, ↓dBodyF, ↓dAppend, D.isLst, cmp_int, bool_bl, toInt_int, toInt_bl, truth_bl, truth_int, truth_non, len_lst, len_tup, D_add, D_sub, D_mod, eq_int, ne_int, neg_int, ix0, ix1, ix2, ix3, ix4, tx0, tx1, tx2, sx0, sx1, sx2, List.length_cons, List.length_nil, List.cons_append, List.nil_append, List.replicate, Nat.reduceAdd, Nat.reduceSub, List.getElem?_cons_zero, List.getElem?_cons_succ, List.getElem?_nil, List.set_cons_zero, List.set_cons_succ, Option.bind_some, Option.map_some, Option.isSome_some, true_and, and_true, if_true, if_false, Bool.false_eq_true, reduceIte, Int.reduceBEq, Bool.not_true, Bool.not_false, List.nodup_cons, List.nodup_nil, List.not_mem_nil, not_false_eq_true, List.mem_cons, or_false, ↓opt_f, ↓optF_some, ↓ite_cd, ↓cd_true, ↓cd_false, ↓forL_f, ↓lcL_f, ↓dcL_f, ↓noEr_run, ↓w_frz, ↓getW_own, ↓dListRg1, ↓dIndex, ↓dCKw, ↓dMake, ↓dList, seq_lst, seq_tup, kwP1, kwP10, beq_self_eq_true, ↓dEqO, ↓dBinO, ↓dNev, tyV_dct, tyV_ins, kno_dct, clV_ptr, kit_sameR, nf_same, nf_none, nf_int, nf_bool, nf_str, nf_lst, nf_tup, nf_dct, ↓dLenO, eq_bl, ne_bl, ↓hot_run, ↓w_try, ↓w_try0, ↓erH_cons, ↓erH_nil, ↓shutD_mk, x1_mk, x2_mk, ↓w_rz, ↓dXf, ↓dIsX, ↓dBinS, Nat.reduceLT, p4, p5, p6, p7, p8, p9, p10, p11, p12, p13, p14, p15]
          refine deed_ok A k hk ?_
          simp -implicitDefEqProofs -dsimp only [idd_eq, Nat.reduceEqDiff, ↓w_seq, ↓w_if, ↓dTest, ↓dOp, ↓dUn, ↓w_var, ↓getS_val, ↓getS_own, ↓getS_par, ↓dC, rd_val, rd_bor, ownD_own, ownD_par, rds_nil, rds_cons, ↓w_asg, ↓dCB, ↓dCons, ↓dNil, ↓dgName, ↓dgTup, ↓dgCons, ↓dgNil, ↓w_setIx, ↓w_ret, ↓w_retF, ↓w_retN, ↓w_next, ↓w_drop, ↓w_own, ↓w_brk, ↓w_cnt, ↓w_setF, ↓w_dput, ↓w_body, ↓dN, ↓dCall, ↓dCallF, argsOf_nil, argsOf_val, argsOf_bor, bors, ↓dV, ↓dTup, ↓dLst, vals_nil, vals_val, ↓w_par, ↓w_par3, ↓w_parVO, ↓w_parOV, ↓w_parOO, ↓dTruth, ↓dIsi, ↓dIsiT, ↓dInO, insOf_ins, ↓dDNew, ↓dDGet, ↓dDIn, toTup_lst, toTup_tup, pf_nil, lk_self, key_str, key_int, isN_non, isNN_non, kno_int, kno_str, kno_lst, kno_tup, kno_bl, kno_non, tyV_int, tyV_bl, tyV_str, tyV_lst, tyV_tup, tyV_non, clV_ty, clVT_nil, clVT_val, kit_same, kit_int_bool, kit_bool_int, kits_list, kits_tuple, ↓dNot, ↓dAnd, ↓dOr, ↓dIf, ↓dAndV, ↓dOrV, ↓dNotV, ↓dChain, ↓dMeth, ↓dMethF, ↓dKw, ↓dSl, ↓dNoP, ↓dPart, ↓w_for, diRng1, diRng2, diRevR1, diEnumX, diAny, items_lst, items_tup, ↓dLc, ↓dDc, ↓dFld, ownAt_def, setD, Sl.setD, isPar0, isParS, isPN, isP_val, isP_own, isP_no, isP_par, ↓doF, outs_nil, outs_cons, parD_par, parIx, putOuts, wipeD, ↓dBodyF, ↓dAppend, D.isLst, cmp_int, bool_bl, toInt_int, toInt_bl, truth_bl, truth_int, truth_non, len_lst, len_tup, D_add, D_sub, D_mod, eq_int, ne_int, neg_int, ix0, ix1, ix2, ix3, ix4, tx0, tx1, tx2, sx0, sx1, sx2, List.length_cons, List.length_nil, List.cons_append, List.nil_append, List.replicate, Nat.reduceAdd, Nat.reduceSub, List.getElem?_cons_zero, List.getElem?_cons_succ, List.getElem?_nil, List.set_cons_zero, List.set_cons_succ, Option.bind_some, Option.map_some, Option.isSome_some, true_and, and_true, if_true, if_false, Bool.false_eq_true, reduceIte, Int.reduceBEq, Bool.not_true, Bool.not_false, List.nodup_cons, List.nodup_nil, List.not_mem_nil, not_false_eq_true, List.mem_cons, or_false, ↓opt_f, ↓optF_some, ↓ite_cd, ↓cd_true, ↓cd_false, ↓forL_f, ↓lcL_f, ↓dcL_f, ↓noEr_run, ↓w_frz, ↓getW_own, ↓dListRg1, ↓dIndex, ↓dCKw, ↓dMake, ↓dList, seq_lst, seq_tup, kwP1, kwP10, beq_self_eq_true, ↓dEqO, ↓dBinO, ↓dNev, tyV_dct, tyV_ins, kno_dct, clV_ptr, kit_sameR, nf_same, nf_none, nf_int, nf_bool, nf_str, nf_lst, nf_tup, nf_dct, ↓dLenO, eq_bl, ne_bl, ↓hot_run, ↓w_try, ↓w_try0, ↓erH_cons, ↓erH_nil, ↓shutD_mk, x1_mk, x2_mk, ↓w_rz, ↓dXf, ↓dIsX, ↓dBinS, Nat.reduceLT, zi, c1, p4, p5, p6, p7, p8, p9, p10, p11, p12, p13, p14, p15]
          refine told_ok A k hk ?_
          simp -implicitDefEqProofs -dsimp only [idd_eq, Nat.reduceEqDiff, ↓w_seq, ↓w_if, ↓dTest, ↓dOp, ↓dUn, ↓w_var, ↓getS_val, ↓getS_own, ↓getS_par, ↓dC, rd_val, rd_bor, ownD_own, ownD_par, rds_nil, rds_cons, ↓w_asg, ↓dCB, ↓dCons, ↓dNil, ↓dgName, ↓dgTup, ↓dgCons, ↓dgNil, ↓w_setIx, ↓w_ret, ↓w_retF, ↓w_retN, ↓w_next, ↓w_drop, ↓w_own, ↓w_brk, ↓w_cnt, ↓w_setF, ↓w_dput, ↓w_body, ↓dN, ↓dCall, ↓dCallF, argsOf_nil, argsOf_val, argsOf_bor, bors, ↓dV, ↓dTup, ↓dLst, vals_nil, vals_val, ↓w_par, ↓w_par3, ↓w_parVO, ↓w_parOV, ↓w_parOO, ↓dTruth, ↓dIsi, ↓dIsiT, ↓dInO, insOf_ins, ↓dDNew, ↓dDGet, ↓dDIn, toTup_lst, toTup_tup, pf_nil, lk_self, key_str, key_int, isN_non, isNN_non, kno_int, kno_str, kno_lst, kno_tup, kno_bl, kno_non, tyV_int, tyV_bl, tyV_str, tyV_lst, tyV_tup, tyV_non, clV_ty, clVT_nil, clVT_val, kit_same, kit_int_bool, kit_bool_int, kits_list, kits_tuple, ↓dNot, ↓dAnd, ↓dOr, ↓dIf, ↓dAndV, ↓dOrV, ↓dNotV, ↓dChain, ↓dMeth, ↓dMethF, ↓dKw, ↓dSl, ↓dNoP, ↓dPart, ↓w_for, diRng1, diRng2, diRevR1, diEnumX, diAny, items_lst, items_tup, ↓dLc, ↓dDc, ↓dFld, ownAt_def, setD, Sl.setD, isPar0, isParS, isPN, isP_val, isP_own, isP_no, isP_par, ↓doF, outs_nil, outs_cons, parD_par, parIx, putOuts, wipeD, ↓dBodyF, ↓dAppend, D.isLst, cmp_int, bool_bl, toInt_int, toInt_bl, truth_bl, truth_int, truth_non, len_lst, len_tup, D_add, D_sub, D_mod, eq_int, ne_int, neg_int, ix0, ix1, ix2, ix3, ix4, tx0, tx1, tx2, sx0, sx1, sx2, List.length_cons, List.length_nil, List.cons_append, List.nil_append, List.replicate, Nat.reduceAdd, Nat.reduceSub, List.getElem?_cons_zero, List.getElem?_cons_succ, List.getElem?_nil, List.set_cons_zero, List.set_cons_succ, Option.bind_some, Option.map_some, Option.isSome_some, true_and, and_true, if_true, if_false, Bool.false_eq_true, reduceIte, Int.reduceBEq, Bool.not_true, Bool.not_false, List.nodup_cons, List.nodup_nil, List.not_mem_nil, not_false_eq_true, List.mem_cons, or_false, ↓opt_f, ↓optF_some, ↓ite_cd, ↓cd_true, ↓cd_false, ↓forL_f, ↓lcL_f, ↓dcL_f, ↓noEr_run, ↓w_frz, ↓getW_own, ↓dListRg1, ↓dIndex, ↓dCKw, ↓dMake, ↓dList, seq_lst, seq_tup, kwP1, kwP10, beq_self_eq_true, ↓dEqO, ↓dBinO, ↓dNev, tyV_dct, tyV_ins, kno_dct, clV_ptr, kit_sameR, nf_same, nf_none, nf_int, nf_bool, nf_str, nf_lst, nf_tup, nf_dct, ↓dLenO, eq_bl, ne_bl, ↓hot_run, ↓w_try, ↓w_try0, ↓erH_cons, ↓erH_nil, ↓shutD_mk, x1_mk, x2_mk, ↓w_rz, ↓dXf, ↓dIsX, ↓dBinS, Nat.reduceLT, n1, p4, p5, p6, p7, p8, p9, p10, p11, p12, p13, p14, p15]
          refine told_ok A k hk ?_
          simp -implicitDefEqProofs -dsimp only [idd_eq, Nat.reduceEqDiff, ↓w_seq, ↓w_if, ↓dTest, ↓dOp, ↓dUn, ↓w_var, ↓getS_val, ↓getS_own, ↓getS_par, ↓dC, rd_val, rd_bor, ownD_own, ownD_par, rds_nil, rds_cons, ↓w_asg, ↓dCB, ↓dCons, ↓dNil, ↓dgName, ↓dgTup, ↓dgCons, ↓dgNil, ↓w_setIx, ↓w_ret, ↓w_retF, ↓w_retN, ↓w_next, ↓w_drop, ↓w_own, ↓w_brk, ↓w_cnt, ↓w_setF, ↓w_dput, ↓w_body, ↓dN, ↓dCall, ↓dCallF, argsOf_nil, argsOf_val, argsOf_bor, bors, ↓dV, ↓dTup, ↓dLst, vals_nil, vals_val, ↓w_par, ↓w_par3, ↓w_parVO, ↓w_parOV, ↓w_parOO, ↓dTruth, ↓dIsi, ↓dIsiT, ↓dInO, insOf_ins, ↓dDNew, ↓dDGet, ↓dDIn, toTup_lst, toTup_tup, pf_nil, lk_self, key_str, key_int, isN_non, isNN_non, kno_int, kno_str, kno_lst, kno_tup, kno_bl, kno_non, tyV_int, tyV_bl, tyV_str, tyV_lst, tyV_tup, tyV_non, clV_ty, clVT_nil, clVT_val, kit_same, kit_int_bool, kit_bool_int, kits_list, kits_tuple, ↓dNot, ↓dAnd, ↓dOr, ↓dIf, ↓dAndV, ↓dOrV, ↓dNotV, ↓dChain, ↓dMeth, ↓dMethF, ↓dKw, ↓dSl, ↓dNoP, ↓dPart, ↓w_for, diRng1, diRng2, diRevR1, diEnumX, diAny, items_lst, items_tup, ↓dLc, ↓dDc, ↓dFld, ownAt_def, setD, Sl.setD, isPar0, isParS, isPN, isP_val, isP_own, isP_no, isP_par, ↓doF, outs_nil, outs_cons, parD_par, parIx, putOuts, wipeD, ↓dBodyF, ↓dAppend, D.isLst, cmp_int, bool_bl, toInt_int, toInt_bl, truth_bl, truth_int, truth_non, len_lst, len_tup, D_add, D_sub, D_mod, eq_int, ne_int, neg_int, ix0, ix1, ix2, ix3, ix4, tx0, tx1, tx2, sx0, sx1, sx2, List.length_cons, List.length_nil, List.cons_append, List.nil_append, List.replicate, Nat.reduceAdd, Nat.reduceSub, List.getElem?_cons_zero, List.getElem?_cons_succ, List.getElem?_nil, List.set_cons_zero, List.set_cons_succ, Option.bind_some, Option.map_some, Option.isSome_some, true_and, and_true, if_true, if_false, Bool.false_eq_true, reduceIte, Int.reduceBEq, Bool.not_true, Bool.not_false, List.nodup_cons, List.nodup_nil, List.not_mem_nil, not_false_eq_true, List.mem_cons, or_false, ↓opt_f, ↓optF_some, ↓ite_cd, ↓cd_true, ↓cd_false, ↓forL_f, ↓lcL_f, ↓dcL_f, ↓noEr_run, ↓w_frz, ↓getW_own, ↓dListRg1, ↓dIndex, ↓dCKw, ↓dMake, ↓dList, seq_lst, seq_tup, kwP1, kwP10, beq_self_eq_true, ↓dEqO, ↓dBinO, ↓dNev, tyV_dct, tyV_ins, kno_dct, clV_ptr, kit_sameR, nf_same, nf_none, nf_int, nf_bool, nf_str, nf_lst, nf_tup, nf_dct, ↓dLenO, eq_bl, ne_bl, ↓hot_run, ↓w_try, ↓w_try0, ↓erH_cons, ↓erH_nil, ↓shutD_mk, x1_mk, x2_mk, ↓w_rz, ↓dXf, ↓dIsX, ↓dBinS, Nat.reduceLT, n1, p4, p5, p6, p7, p8, p9, p10, p11, p12, p13, p14, p15]
          refine eqm_go A (f0 := f0) (f1 := f1) (f2 := f2) (f3 := f3) (f4 := f4) hk (x := dd A k f0 f1 f2 f3 f4) (fun Q h => h) (fun Q h => h) (kn_dd A k hk) (ty_dd A k hk) (nf_same _ _) (deq k f0 f1 f2 f3 f4 f0 f1 f2 f3 f4) (fun Q h => eq_same A k hk hf hf h) ?_
          rw [r1]
          simp -implicitDefEqProofs -dsimp only [idd_eq, Nat.reduceEqDiff, ↓w_seq, ↓w_if, ↓dTest, ↓dOp, ↓dUn, ↓w_var, ↓getS_val, ↓getS_own, ↓getS_par, ↓dC, rd_val, rd_bor, ownD_own, ownD_par, rds_nil, rds_cons, ↓w_asg, ↓dCB, ↓dCons, ↓dNil, ↓dgName, ↓dgTup, ↓dgCons, ↓dgNil, ↓w_setIx, ↓w_ret, ↓w_retF, ↓w_retN, ↓w_next, ↓w_drop, ↓w_own, ↓w_brk, ↓w_cnt, ↓w_setF, ↓w_dput, ↓w_body, ↓dN, ↓dCall, ↓dCallF, argsOf_nil, argsOf_val, argsOf_bor, bors, ↓dV, ↓dTup, ↓dLst, vals_nil, vals_val, ↓w_par, ↓w_par3, ↓w_parVO, ↓w_parOV, ↓w_parOO, ↓dTruth, ↓dIsi, ↓dIsiT, ↓dInO, insOf_ins, ↓dDNew, ↓dDGet, ↓dDIn, toTup_lst, toTup_tup, pf_nil, lk_self, key_str, key_int, isN_non, isNN_non, kno_int, kno_str, kno_lst, kno_tup, kno_bl, kno_non, tyV_int, tyV_bl, tyV_str, tyV_lst, tyV_tup, tyV_non, clV_ty, clVT_nil, clVT_val, kit_same, kit_int_bool, kit_bool_int, kits_list, kits_tuple, ↓dNot, ↓dAnd, ↓dOr, ↓dIf, ↓dAndV, ↓dOrV, ↓dNotV, ↓dChain, ↓dMeth, ↓dMethF, ↓dKw, ↓dSl, ↓dNoP, ↓dPart, ↓w_for, diRng1, diRng2, diRevR1, diEnumX, diAny, items_lst, items_tup, ↓dLc, ↓dDc, ↓dFld, ownAt_def, setD, Sl.setD, isPar0, isParS, isPN, isP_val, isP_own, isP_no, isP_par, ↓doF, outs_nil, outs_cons, parD_par, parIx, putOuts, wipeD, ↓dBodyF, ↓dAppend, D.isLst, cmp_int, bool_bl, toInt_int, toInt_bl, truth_bl, truth_int, truth_non, len_lst, len_tup, D_add, D_sub, D_mod, eq_int, ne_int, neg_int, ix0, ix1, ix2, ix3, ix4, tx0, tx1, tx2, sx0, sx1, sx2, List.length_cons, List.length_nil, List.cons_append, List.nil_append, List.replicate, Nat.reduceAdd, Nat.reduceSub, List.getElem?_cons_zero, List.getElem?_cons_succ, List.getElem?_nil, List.set_cons_zero, List.set_cons_succ, Option.bind_some, Option.map_some, Option.isSome_some, true_and, and_true, if_true, if_false, Bool.false_eq_true, reduceIte, Int.reduceBEq, Bool.not_true, Bool.not_false, List.nodup_cons, List.nodup_nil, List.not_mem_nil, not_false_eq_true, List.mem_cons, or_false, ↓opt_f, ↓optF_some, ↓ite_cd, ↓cd_true, ↓cd_false, ↓forL_f, ↓lcL_f, ↓dcL_f, ↓noEr_run, ↓w_frz, ↓getW_own, ↓dListRg1, ↓dIndex, ↓dCKw, ↓dMake, ↓dList, seq_lst, seq_tup, kwP1, kwP10, beq_self_eq_true, ↓dEqO, ↓dBinO, ↓dNev, tyV_dct, tyV_ins, kno_dct, clV_ptr, kit_sameR, nf_same, nf_none, nf_int, nf_bool, nf_str, nf_lst, nf_tup, nf_dct, ↓dLenO, eq_bl, ne_bl, ↓hot_run, ↓w_try, ↓w_try0, ↓erH_cons, ↓erH_nil, ↓shutD_mk, x1_mk, x2_mk, ↓w_rz, ↓dXf, ↓dIsX, ↓dBinS, Nat.reduceLT, p4, p5, p6, p7, p8, p9, p10, p11, p12, p13, p14, p15]
          refine eqm_go A (f0 := f0) (f1 := f1) (f2 := f2) (f3 := f3) (f4 := f4) hk (x := dd A k f0 f1 f2 f3 f4) (fun Q h => h) (fun Q h => h) (kn_dd A k hk) (ty_dd A k hk) (nf_same _ _) (deq k f0 f1 f2 f3 f4 f0 f1 f2 f3 f4) (fun Q h => eq_same A k hk hf hf h) ?_
          rw [r1]
          simp -implicitDefEqProofs -dsimp only [idd_eq, Nat.reduceEqDiff, ↓w_seq, ↓w_if, ↓dTest, ↓dOp, ↓dUn, ↓w_var, ↓getS_val, ↓getS_own, ↓getS_par, ↓dC, rd_val, rd_bor, ownD_own, ownD_par, rds_nil, rds_cons, ↓w_asg, ↓dCB, ↓dCons, ↓dNil, ↓dgName, ↓dgTup, ↓dgCons, ↓dgNil, ↓w_setIx, ↓w_ret, ↓w_retF, ↓w_retN, ↓w_next, ↓w_drop, ↓w_own, ↓w_brk, ↓w_cnt, ↓w_setF, ↓w_dput, ↓w_body, ↓dN, ↓dCall, ↓dCallF, argsOf_nil, argsOf_val, argsOf_bor, bors, ↓dV, ↓dTup, ↓dLst, vals_nil, vals_val, ↓w_par, ↓w_par3, ↓w_parVO, ↓w_parOV, ↓w_parOO, ↓dTruth, ↓dIsi, ↓dIsiT, ↓dInO, insOf_ins, ↓dDNew, ↓dDGet, ↓dDIn, toTup_lst, toTup_tup, pf_nil, lk_self, key_str, key_int, isN_non, isNN_non, kno_int, kno_str, kno_lst, kno_tup, kno_bl, kno_non, tyV_int, tyV_bl, tyV_str, tyV_lst, tyV_tup, tyV_non, clV_ty, clVT_nil, clVT_val, kit_same, kit_int_bool, kit_bool_int, kits_list, kits_tuple, ↓dNot, ↓dAnd, ↓dOr, ↓dIf, ↓dAndV, ↓dOrV, ↓dNotV, ↓dChain, ↓dMeth, ↓dMethF, ↓dKw, ↓dSl, ↓dNoP, ↓dPart, ↓w_for, diRng1, diRng2, diRevR1, diEnumX, diAny, items_lst, items_tup, ↓dLc, ↓dDc, ↓dFld, ownAt_def, setD, Sl.setD, isPar0, isParS, isPN, isP_val, isP_own, isP_no, isP_par, ↓doF, outs_nil, outs_cons, parD_par, parIx, putOuts, wipeD, ↓dBodyF, ↓dAppend, D.isLst, cmp_int, bool_bl, toInt_int, toInt_bl, truth_bl, truth_int, truth_non, len_lst, len_tup, D_add, D_sub, D_mod, eq_int, ne_int, neg_int, ix0, ix1, ix2, ix3, ix4, tx0, tx1, tx2, sx0, sx1, sx2, List.length_cons, List.length_nil, List.cons_append, List.nil_append, List.replicate, Nat.reduceAdd, Nat.reduceSub, List.getElem?_cons_zero, List.getElem?_cons_succ, List.getElem?_nil, List.set_cons_zero, List.set_cons_succ, Option.bind_some, Option.map_some, Option.isSome_some, true_and, and_true, if_true, if_false, Bool.false_eq_true, reduceIte, Int.reduceBEq, Bool.not_true, Bool.not_false, List.nodup_cons, List.nodup_nil, List.not_mem_nil, not_false_eq_true, List.mem_cons, or_false, ↓opt_f, ↓optF_some, ↓ite_cd, ↓cd_true, ↓cd_false, ↓forL_f, ↓lcL_f, ↓dcL_f, ↓noEr_run, ↓w_frz, ↓getW_own, ↓dListRg1, ↓dIndex, ↓dCKw, ↓dMake, ↓dList, seq_lst, seq_tup, kwP1, kwP10, beq_self_eq_true, ↓dEqO, ↓dBinO, ↓dNev, tyV_dct, tyV_ins, kno_dct, clV_ptr, kit_sameR, nf_same, nf_none, nf_int, nf_bool, nf_str, nf_lst, nf_tup, nf_dct, ↓dLenO, eq_bl, ne_bl, ↓hot_run, ↓w_try, ↓w_try0, ↓erH_cons, ↓erH_nil, ↓shutD_mk, x1_mk, x2_mk, ↓w_rz, ↓dXf, ↓dIsX, ↓dBinS, Nat.reduceLT, p4, p5, p6, p7, p8, p9, p10, p11, p12, p13, p14, p15]
          refine eqm_go A (f0 := f0) (f1 := f1) (f2 := f2) (f3 := f3) (f4 := f4) hk (x := dd A k g0 g1 g2 g3 g4) (fun Q h => h) (fun Q h => h) (kn_dd A k hk) (ty_dd A k hk) (nf_same _ _) (deq k f0 f1 f2 f3 f4 g0 g1 g2 g3 g4) (fun Q h => eq_same A k hk hf hg h) ?_
          simp -implicitDefEqProofs -dsimp only [idd_eq, Nat.reduceEqDiff, ↓w_seq, ↓w_if, ↓dTest, ↓dOp, ↓dUn, ↓w_var, ↓getS_val, ↓getS_own, ↓getS_par, ↓dC, rd_val, rd_bor, ownD_own, ownD_par, rds_nil, rds_cons, ↓w_asg, ↓dCB, ↓dCons, ↓dNil, ↓dgName, ↓dgTup, ↓dgCons, ↓dgNil, ↓w_setIx, ↓w_ret, ↓w_retF, ↓w_retN, ↓w_next, ↓w_drop, ↓w_own, ↓w_brk, ↓w_cnt, ↓w_setF, ↓w_dput, ↓w_body, ↓dN, ↓dCall, ↓dCallF, argsOf_nil, argsOf_val, argsOf_bor, bors, ↓dV, ↓dTup, ↓dLst, vals_nil, vals_val, ↓w_par, ↓w_par3, ↓w_parVO, ↓w_parOV, ↓w_parOO, ↓dTruth, ↓dIsi, ↓dIsiT, ↓dInO, insOf_ins, ↓dDNew, ↓dDGet, ↓dDIn, toTup_lst, toTup_tup, pf_nil, lk_self, key_str, key_int, isN_non, isNN_non, kno_int, kno_str, kno_lst, kno_tup, kno_bl, kno_non, tyV_int, tyV_bl, tyV_str, tyV_lst, tyV_tup, tyV_non, clV_ty, clVT_nil, clVT_val, kit_same, kit_int_bool, kit_bool_int, kits_list, kits_tuple, ↓dNot, ↓dAnd, ↓dOr, ↓dIf, ↓dAndV, ↓dOrV, ↓dNotV, ↓dChain, ↓dMeth, ↓dMethF, ↓dKw, ↓dSl, ↓dNoP, ↓dPart, ↓w_for, diRng1, diRng2, diRevR1, diEnumX, diAny, items_lst, items_tup, ↓dLc, ↓dDc, ↓dFld, ownAt_def, setD, Sl.setD, isPar0, isParS, isPN, isP_val, isP_own, isP_no, isP_par, ↓doF, outs_nil, outs_cons, parD_par, parIx, putOuts, wipeD, ↓dBodyF, ↓dAppend, D.isLst, cmp_int, bool_bl, toInt_int, toInt_bl, truth_bl, truth_int, truth_non, len_lst, len_tup, D_add, D_sub, D_mod, eq_int, ne_int, neg_int, ix0, ix1, ix2, ix3, ix4, tx0, tx1, tx2, sx0, sx1, sx2, List.length_cons, List.length_nil, List.cons_append, List.nil_append, List.replicate, Nat.reduceAdd, Nat.reduceSub, List.getElem?_cons_zero, List.getElem?_cons_succ, List.getElem?_nil, List.set_cons_zero, List.set_cons_succ, Option.bind_some, Option.map_some, Option.isSome_some, true_and, and_true, if_true, if_false, Bool.false_eq_true, reduceIte, Int.reduceBEq, Bool.not_true, Bool.not_false, List.nodup_cons, List.nodup_nil, List.not_mem_nil, not_false_eq_true, List.mem_cons, or_false, ↓opt_f, ↓optF_some, ↓ite_cd, ↓cd_true, ↓cd_false, ↓forL_f, ↓lcL_f, ↓dcL_f, ↓noEr_run, ↓w_frz, ↓getW_own, ↓dListRg1, ↓dIndex, ↓dCKw, ↓dMake, ↓dList, seq_lst, seq_tup, kwP1, kwP10, beq_self_eq_true, ↓dEqO, ↓dBinO, ↓dNev, tyV_dct, tyV_ins, kno_dct, clV_ptr, kit_sameR, nf_same, nf_none, nf_int, nf_bool, nf_str, nf_lst, nf_tup, nf_dct, ↓dLenO, eq_bl, ne_bl, ↓hot_run, ↓w_try, ↓w_try0, ↓erH_cons, ↓erH_nil, ↓shutD_mk, x1_mk, x2_mk, ↓w_rz, ↓dXf, ↓dIsX, ↓dBinS, Nat.reduceLT, p4, p5, p6, p7, p8, p9, p10, p11, p12, p13, p14, p15]
          refine eqm_go A (f0 := f0) (f1 := f1) (f2 := f2) (f3 := f3) (f4 := f4) hk (x := dd A k g0 g1 g2 g3 g4) (fun Q h => h) (fun Q h => h) (kn_dd A k hk) (ty_dd A k hk) (nf_same _ _) (deq k f0 f1 f2 f3 f4 g0 g1 g2 g3 g4) (fun Q h => eq_same A k hk hf hg h) ?_
          have eqn : ∀ b : Bool, ((!b) == b) = false := fun b => by cases b <;> rfl
          simp -implicitDefEqProofs -dsimp only [idd_eq, Nat.reduceEqDiff, ↓w_seq, ↓w_if, ↓dTest, ↓dOp, ↓dUn, ↓w_var, ↓getS_val, ↓getS_own, ↓getS_par, ↓dC, rd_val, rd_bor, ownD_own, ownD_par, rds_nil, rds_cons, ↓w_asg, ↓dCB, ↓dCons, ↓dNil, ↓dgName, ↓dgTup, ↓dgCons, ↓dgNil, ↓w_setIx, ↓w_ret, ↓w_retF, ↓w_retN, ↓w_next, ↓w_drop, ↓w_own, ↓w_brk, ↓w_cnt, ↓w_setF, ↓w_dput, ↓w_body, ↓dN, ↓dCall, ↓dCallF, argsOf_nil, argsOf_val, argsOf_bor, bors, ↓dV, ↓dTup, ↓dLst, vals_nil, vals_val, ↓w_par, ↓w_par3, ↓w_parVO, ↓w_parOV, ↓w_parOO, ↓dTruth, ↓dIsi, ↓dIsiT, ↓dInO, insOf_ins, ↓dDNew, ↓dDGet, ↓dDIn, toTup_lst, toTup_tup, pf_nil, lk_self, key_str, key_int, isN_non, isNN_non, kno_int, kno_str, kno_lst, kno_tup, kno_bl, kno_non, tyV_int, tyV_bl, tyV_str, tyV_lst, tyV_tup, tyV_non, clV_ty, clVT_nil, clVT_val, kit_same, kit_int_bool, kit_bool_int, kits_list, kits_tuple, ↓dNot, ↓dAnd, ↓dOr, ↓dIf, ↓dAndV, ↓dOrV, ↓dNotV, ↓dChain, ↓dMeth, ↓dMethF, ↓dKw, ↓dSl, ↓dNoP, ↓dPart, ↓w_for, diRng1, diRng2, diRevR1, diEnumX, diAny, items_lst, items_tup, ↓dLc, ↓dDc, ↓dFld, ownAt_def, setD, Sl.setD, isPar0, isParS, isPN, isP_val, isP_own, isP_no, isP_par, ↓doF, outs_nil, outs_cons, parD_par, parIx, putOuts, wipeD, ↓dBodyF, ↓dAppend, D.isLst, cmp_int, bool_bl, toInt_int, toInt_bl, truth_bl, truth_int, truth_non, len_lst, len_tup, D_add, D_sub, D_mod, eq_int, ne_int, neg_int, ix0, ix1, ix2, ix3, ix4, tx0, tx1, tx2, sx0, sx1, sx2, List.length_cons, List.length_nil, List.cons_append, List.nil_append, List.replicate, Nat.reduceAdd, Nat.reduceSub, List.getElem?_cons_zero, List.getElem?_cons_succ, List.getElem?_nil, List.set_cons_zero, List.set_cons_succ, Option.bind_some, Option.map_some, Option.isSome_some, true_and, and_true, if_true, if_false, Bool.false_eq_true, reduceIte, Int.reduceBEq, Bool.not_true, Bool.not_false, List.nodup_cons, List.nodup_nil, List.not_mem_nil, not_false_eq_true, List.mem_cons, or_false, ↓opt_f, ↓optF_some, ↓ite_cd, ↓cd_true, ↓cd_false, ↓forL_f, ↓lcL_f, ↓dcL_f, ↓noEr_run, ↓w_frz, ↓getW_own, ↓dListRg1, ↓dIndex, ↓dCKw, ↓dMake, ↓dList, seq_lst, seq_tup, kwP1, kwP10, beq_self_eq_true, ↓dEqO, ↓dBinO, ↓dNev, tyV_dct, tyV_ins, kno_dct, clV_ptr, kit_sameR, nf_same, nf_none, nf_int, nf_bool, nf_str, nf_lst, nf_tup, nf_dct, ↓dLenO, eq_bl, ne_bl, ↓hot_run, ↓w_try, ↓w_try0, ↓erH_cons, ↓erH_nil, ↓shutD_mk, x1_mk, x2_mk, ↓w_rz, ↓dXf, ↓dIsX, ↓dBinS, Nat.reduceLT, eqn, p4, p5, p6, p7, p8, p9, p10, p11, p12, p13, p14, p15]
          refine eqm_go A (f0 := f0) (f1 := f1) (f2 := f2) (f3 := f3) (f4 := f4) hk (x := dd A k g0 g1 g2 g3 g4) (fun Q h => h) (fun Q h => h) (kn_dd A k hk) (ty_dd A k hk) (nf_same _ _) (deq k f0 f1 f2 f3 f4 g0 g1 g2 g3 g4) (fun Q h => eq_same A k hk hf hg h) ?_
          have eqb : ∀ b : Bool, (b == b) = true := fun b => by cases b <;> rfl
          simp -implicitDefEqProofs -dsimp only [idd_eq, Nat.reduceEqDiff, ↓w_seq, ↓w_if, ↓dTest, ↓dOp, ↓dUn, ↓w_var, ↓getS_val, ↓getS_own, ↓getS_par, ↓dC, rd_val, rd_bor, ownD_own, ownD_par, rds_nil, rds_cons, ↓w_asg, ↓dCB, ↓dCons, ↓dNil, ↓dgName, ↓dgTup, ↓dgCons, ↓dgNil, ↓w_setIx, ↓w_ret, ↓w_retF, ↓w_retN, ↓w_next, ↓w_drop, ↓w_own, ↓w_brk, ↓w_cnt, ↓w_setF, ↓w_dput, ↓w_body, ↓dN, ↓dCall, ↓dCallF, argsOf_nil, argsOf_val, argsOf_bor, bors, ↓dV, ↓dTup, ↓dLst, vals_nil, vals_val, ↓w_par, ↓w_par3, ↓w_parVO, ↓w_parOV, ↓w_parOO, ↓dTruth, ↓dIsi, ↓dIsiT, ↓dInO, insOf_ins, ↓dDNew, ↓dDGet, ↓dDIn, toTup_lst, toTup_tup, pf_nil, lk_self, key_str, key_int, isN_non, isNN_non, kno_int, kno_str, kno_lst, kno_tup, kno_bl, kno_non, tyV_int, tyV_bl, tyV_str, tyV_lst, tyV_tup, tyV_non, clV_ty, clVT_nil, clVT_val, kit_same, kit_int_bool, kit_bool_int, kits_list, kits_tuple, ↓dNot, ↓dAnd, ↓dOr, ↓dIf, ↓dAndV, ↓dOrV, ↓dNotV, ↓dChain, ↓dMeth, ↓dMethF, ↓dKw, ↓dSl, ↓dNoP, ↓dPart, ↓w_for, diRng1, diRng2, diRevR1, diEnumX, diAny, items_lst, items_tup, ↓dLc, ↓dDc, ↓dFld, ownAt_def, setD, Sl.setD, isPar0, isParS, isPN, isP_val, isP_own, isP_no, isP_par, ↓doF, outs_nil, outs_cons, parD_par, parIx, putOuts, wipeD, ↓dBodyF, ↓dAppend, D.isLst, cmp_int, bool_bl, toInt_int, toInt_bl, truth_bl, truth_int, truth_non, len_lst, len_tup, D_add, D_sub, D_mod, eq_int, ne_int, neg_int, ix0, ix1, ix2, ix3, ix4, tx0, tx1, tx2, sx0, sx1, sx2, List.length_cons, List.length_nil, List.cons_append, List.nil_append, List.replicate, Nat.reduceAdd, Nat.reduceSub, List.getElem?_cons_zero, List.getElem?_cons_succ, List.getElem?_nil, List.set_cons_zero, List.set_cons_succ, Option.bind_some, Option.map_some, Option.isSome_some, true_and, and_true, if_true, if_false, Bool.false_eq_true, reduceIte, Int.reduceBEq, Bool.not_true, Bool.not_false, List.nodup_cons, List.nodup_nil, List.not_mem_nil, not_false_eq_true, List.mem_cons, or_false, ↓opt_f, ↓optF_some, ↓ite_cd, ↓cd_true, ↓cd_false, ↓forL_f, ↓lcL_f, ↓dcL_f, ↓noEr_run, ↓w_frz, ↓getW_own, ↓dListRg1, ↓dIndex, ↓dCKw, ↓dMake, ↓dList, seq_lst, seq_tup, kwP1, kwP10, beq_self_eq_true, ↓dEqO, ↓dBinO, ↓dNev, tyV_dct, tyV_ins, kno_dct, clV_ptr, kit_sameR, nf_same, nf_none, nf_int, nf_bool, nf_str, nf_lst, nf_tup, nf_dct, ↓dLenO, eq_bl, ne_bl, ↓hot_run, ↓w_try, ↓w_try0, ↓erH_cons, ↓erH_nil, ↓shutD_mk, x1_mk, x2_mk, ↓w_rz, ↓dXf, ↓dIsX, ↓dBinS, Nat.reduceLT, zi, c2, q1, eqb, p4, p5, p6, p7, p8, p9, p10, p11, p12, p13, p14, p15]
          refine draw_ok A (n := 17 * j + 16) (m := 7) (by omega) hw (by decide) (by decide) fun x w3 x0 x1 hw3 => ?_
          obtain ⟨k', rfl⟩ := Int.eq_ofNat_of_zero_le x0
          have hk' : k' < 7 := by omega
          simp -implicitDefEqProofs -dsimp only [idd_eq, Nat.reduceEqDiff, ↓w_seq, ↓w_if, ↓dTest, ↓dOp, ↓dUn, ↓w_var, ↓getS_val, ↓getS_own, ↓getS_par, ↓dC, rd_val, rd_bor, ownD_own, ownD_par, rds_nil, rds_cons, ↓w_asg, ↓dCB, ↓dCons, ↓dNil, ↓dgName, ↓dgTup, ↓dgCons, ↓dgNil, ↓w_setIx, ↓w_ret, ↓w_retF, ↓w_retN, ↓w_next, ↓w_drop, ↓w_own, ↓w_brk, ↓w_cnt, ↓w_setF, ↓w_dput, ↓w_body, ↓dN, ↓dCall, ↓dCallF, argsOf_nil, argsOf_val, argsOf_bor, bors, ↓dV, ↓dTup, ↓dLst, vals_nil, vals_val, ↓w_par, ↓w_par3, ↓w_parVO, ↓w_parOV, ↓w_parOO, ↓dTruth, ↓dIsi, ↓dIsiT, ↓dInO, insOf_ins, ↓dDNew, ↓dDGet, ↓dDIn, toTup_lst, toTup_tup, pf_nil, lk_self, key_str, key_int, isN_non, isNN_non, kno_int, kno_str, kno_lst, kno_tup, kno_bl, kno_non, tyV_int, tyV_bl, tyV_str, tyV_lst, tyV_tup, tyV_non, clV_ty, clVT_nil, clVT_val, kit_same, kit_int_bool, kit_bool_int, kits_list, kits_tuple, ↓dNot, ↓dAnd, ↓dOr, ↓dIf, ↓dAndV, ↓dOrV, ↓dNotV, ↓dChain, ↓dMeth, ↓dMethF, ↓dKw, ↓dSl, ↓dNoP, ↓dPart, ↓w_for, diRng1, diRng2, diRevR1, diEnumX, diAny, items_lst, items_tup, ↓dLc, ↓dDc, ↓dFld, ownAt_def, setD, Sl.setD, isPar0, isParS, isPN, isP_val, isP_own, isP_no, isP_par, ↓doF, outs_nil, outs_cons, parD_par, parIx, putOuts, wipeD, ↓dBodyF, ↓dAppend, D.isLst, cmp_int, bool_bl, toInt_int, toInt_bl, truth_bl, truth_int, truth_non, len_lst, len_tup, D_add, D_sub, D_mod, eq_int, ne_int, neg_int, ix0, ix1, ix2, ix3, ix4, tx0, tx1, tx2, sx0, sx1, sx2, List.length_cons, List.length_nil, List.cons_append, List.nil_append, List.replicate, Nat.reduceAdd, Nat.reduceSub, List.getElem?_cons_zero, List.getElem?_cons_succ, List.getElem?_nil, List.set_cons_zero, List.set_cons_succ, Option.bind_some, Option.map_some, Option.isSome_some, true_and, and_true, if_true, if_false, Bool.false_eq_true, reduceIte, Int.reduceBEq, Bool.not_true, Bool.not_false, List.nodup_cons, List.nodup_nil, List.not_mem_nil, not_false_eq_true, List.mem_cons, or_false, ↓opt_f, ↓optF_some, ↓ite_cd, ↓cd_true, ↓cd_false, ↓forL_f, ↓lcL_f, ↓dcL_f, ↓noEr_run, ↓w_frz, ↓getW_own, ↓dListRg1, ↓dIndex, ↓dCKw, ↓dMake, ↓dList, seq_lst, seq_tup, kwP1, kwP10, beq_self_eq_true, ↓dEqO, ↓dBinO, ↓dNev, tyV_dct, tyV_ins, kno_dct, clV_ptr, kit_sameR, nf_same, nf_none, nf_int, nf_bool, nf_str, nf_lst, nf_tup, nf_dct, ↓dLenO, eq_bl, ne_bl, ↓hot_run, ↓w_try, ↓w_try0, ↓erH_cons, ↓erH_nil, ↓shutD_mk, x1_mk, x2_mk, ↓w_rz, ↓dXf, ↓dIsX, ↓dBinS, Nat.reduceLT, p4, p5, p6, p7, p8, p9, p10, p11, p12, p13, p14, p15]
          refine deed_ok A k' hk' ?_
          have odd : ∀ {db : DE} {ρ : Ro} {q : T → Ro → Prop} {er : ER} {g : Bool → Bool} {x : D} {ty : Value} (ha : ∀ Q : T → Ro → Prop, Q (.val (dd A k f0 f1 f2 f3 f4)) ρ → dVar 8 ρ Q er) (hb : ∀ Q : T → Ro → Prop, Q (.val x) ρ → db ρ Q er) (hx : x.kno A.isis = true) (ht : x.tyV = some ty) (hn : PySem.W.notFirst K (cls A k) ty = true) (ho : PySem.W.kitOne K ty (.ref (cls A k)) = some false) (hq : q (.val (.bl (g false))) ρ), dEqM K g A.isis (l_eqm K A) (dVar 8) db ρ q er := fun ha hb hx ht hn ho hq =>
            eqm_go A (f0 := f0) (f1 := f1) (f2 := f2) (f3 := f3) (f4 := f4) hk ha hb hx ht hn false (fun Q h => eq_odd A k hk hx ht ho h) hq
          have tb := kbk A fx k hk
          by_cases hkk : k' = k
          · have hkk2 := hkk.symm
            subst hkk2
            simp -implicitDefEqProofs -dsimp only [idd_eq, Nat.reduceEqDiff, ↓w_seq, ↓w_if, ↓dTest, ↓dOp, ↓dUn, ↓w_var, ↓getS_val, ↓getS_own, ↓getS_par, ↓dC, rd_val, rd_bor, ownD_own, ownD_par, rds_nil, rds_cons, ↓w_asg, ↓dCB, ↓dCons, ↓dNil, ↓dgName, ↓dgTup, ↓dgCons, ↓dgNil, ↓w_setIx, ↓w_ret, ↓w_retF, ↓w_retN, ↓w_next, ↓w_drop, ↓w_own, ↓w_brk, ↓w_cnt, ↓w_setF, ↓w_dput, ↓w_body, ↓dN, ↓dCall, ↓dCallF, argsOf_nil, argsOf_val, argsOf_bor, bors, ↓dV, ↓dTup, ↓dLst, vals_nil, vals_val, ↓w_par, ↓w_par3, ↓w_parVO, ↓w_parOV, ↓w_parOO, ↓dTruth, ↓dIsi, ↓dIsiT, ↓dInO, insOf_ins, ↓dDNew, ↓dDGet, ↓dDIn, toTup_lst, toTup_tup, pf_nil, lk_self, key_str, key_int, isN_non, isNN_non, kno_int, kno_str, kno_lst, kno_tup, kno_bl, kno_non, tyV_int, tyV_bl, tyV_str, tyV_lst, tyV_tup, tyV_non, clV_ty, clVT_nil, clVT_val, kit_same, kit_int_bool, kit_bool_int, kits_list, kits_tuple, ↓dNot, ↓dAnd, ↓dOr, ↓dIf, ↓dAndV, ↓dOrV, ↓dNotV, ↓dChain, ↓dMeth, ↓dMethF, ↓dKw, ↓dSl, ↓dNoP, ↓dPart, ↓w_for, diRng1, diRng2, diRevR1, diEnumX, diAny, items_lst, items_tup, ↓dLc, ↓dDc, ↓dFld, ownAt_def, setD, Sl.setD, isPar0, isParS, isPN, isP_val, isP_own, isP_no, isP_par, ↓doF, outs_nil, outs_cons, parD_par, parIx, putOuts, wipeD, ↓dBodyF, ↓dAppend, D.isLst, cmp_int, bool_bl, toInt_int, toInt_bl, truth_bl, truth_int, truth_non, len_lst, len_tup, D_add, D_sub, D_mod, eq_int, ne_int, neg_int, ix0, ix1, ix2, ix3, ix4, tx0, tx1, tx2, sx0, sx1, sx2, List.length_cons, List.length_nil, List.cons_append, List.nil_append, List.replicate, Nat.reduceAdd, Nat.reduceSub, List.getElem?_cons_zero, List.getElem?_cons_succ, List.getElem?_nil, List.set_cons_zero, List.set_cons_succ, Option.bind_some, Option.map_some, Option.isSome_some, true_and, and_true, if_true, if_false, Bool.false_eq_true, reduceIte, Int.reduceBEq, Bool.not_true, Bool.not_false, List.nodup_cons, List.nodup_nil, List.not_mem_nil, not_false_eq_true, List.mem_cons, or_false, ↓opt_f, ↓optF_some, ↓ite_cd, ↓cd_true, ↓cd_false, ↓forL_f, ↓lcL_f, ↓dcL_f, ↓noEr_run, ↓w_frz, ↓getW_own, ↓dListRg1, ↓dIndex, ↓dCKw, ↓dMake, ↓dList, seq_lst, seq_tup, kwP1, kwP10, beq_self_eq_true, ↓dEqO, ↓dBinO, ↓dNev, tyV_dct, tyV_ins, kno_dct, clV_ptr, kit_sameR, nf_same, nf_none, nf_int, nf_bool, nf_str, nf_lst, nf_tup, nf_dct, ↓dLenO, eq_bl, ne_bl, ↓hot_run, ↓w_try, ↓w_try0, ↓erH_cons, ↓erH_nil, ↓shutD_mk, x1_mk, x2_mk, ↓w_rz, ↓dXf, ↓dIsX, ↓dBinS, Nat.reduceLT, eqb, p4, p5, p6, p7, p8, p9, p10, p11, p12, p13, p14, p15]
            refine odd (fun Q h => h) (x := .tup (due k f0 f1 f2 f3 f4)) (fun Q h => by simp -implicitDefEqProofs -dsimp only [idd_eq, Nat.reduceEqDiff, ↓w_seq, ↓w_if, ↓dTest, ↓dOp, ↓dUn, ↓w_var, ↓getS_val, ↓getS_own, ↓getS_par, ↓dC, rd_val, rd_bor, ownD_own, ownD_par, rds_nil, rds_cons, ↓w_asg, ↓dCB, ↓dCons, ↓dNil, ↓dgName, ↓dgTup, ↓dgCons, ↓dgNil, ↓w_setIx, ↓w_ret, ↓w_retF, ↓w_retN, ↓w_next, ↓w_drop, ↓w_own, ↓w_brk, ↓w_cnt, ↓w_setF, ↓w_dput, ↓w_body, ↓dN, ↓dCall, ↓dCallF, argsOf_nil, argsOf_val, argsOf_bor, bors, ↓dV, ↓dTup, ↓dLst, vals_nil, vals_val, ↓w_par, ↓w_par3, ↓w_parVO, ↓w_parOV, ↓w_parOO, ↓dTruth, ↓dIsi, ↓dIsiT, ↓dInO, insOf_ins, ↓dDNew, ↓dDGet, ↓dDIn, toTup_lst, toTup_tup, pf_nil, lk_self, key_str, key_int, isN_non, isNN_non, kno_int, kno_str, kno_lst, kno_tup, kno_bl, kno_non, tyV_int, tyV_bl, tyV_str, tyV_lst, tyV_tup, tyV_non, clV_ty, clVT_nil, clVT_val, kit_same, kit_int_bool, kit_bool_int, kits_list, kits_tuple, ↓dNot, ↓dAnd, ↓dOr, ↓dIf, ↓dAndV, ↓dOrV, ↓dNotV, ↓dChain, ↓dMeth, ↓dMethF, ↓dKw, ↓dSl, ↓dNoP, ↓dPart, ↓w_for, diRng1, diRng2, diRevR1, diEnumX, diAny, items_lst, items_tup, ↓dLc, ↓dDc, ↓dFld, ownAt_def, setD, Sl.setD, isPar0, isParS, isPN, isP_val, isP_own, isP_no, isP_par, ↓doF, outs_nil, outs_cons, parD_par, parIx, putOuts, wipeD, ↓dBodyF, ↓dAppend, D.isLst, cmp_int, bool_bl, toInt_int, toInt_bl, truth_bl, truth_int, truth_non, len_lst, len_tup, D_add, D_sub, D_mod, eq_int, ne_int, neg_int, ix0, ix1, ix2, ix3, ix4, tx0, tx1, tx2, sx0, sx1, sx2, List.length_cons, List.length_nil, List.cons_append, List.nil_append, List.replicate, Nat.reduceAdd, Nat.reduceSub, List.getElem?_cons_zero, List.getElem?_cons_succ, List.getElem?_nil, List.set_cons_zero, List.set_cons_succ, Option.bind_some, Option.map_some, Option.isSome_some, true_and, and_true, if_true, if_false, Bool.false_eq_true, reduceIte, Int.reduceBEq, Bool.not_true, Bool.not_false, List.nodup_cons, List.nodup_nil, List.not_mem_nil, not_false_eq_true, List.mem_cons, or_false, ↓opt_f, ↓optF_some, ↓ite_cd, ↓cd_true, ↓cd_false, ↓forL_f, ↓lcL_f, ↓dcL_f, ↓noEr_run, ↓w_frz, ↓getW_own, ↓dListRg1, ↓dIndex, ↓dCKw, ↓dMake, ↓dList, seq_lst, seq_tup, kwP1, kwP10, beq_self_eq_true, ↓dEqO, ↓dBinO, ↓dNev, tyV_dct, tyV_ins, kno_dct, clV_ptr, kit_sameR, nf_same, nf_none, nf_int, nf_bool, nf_str, nf_lst, nf_tup, nf_dct, ↓dLenO, eq_bl, ne_bl, ↓hot_run, ↓w_try, ↓w_try0, ↓erH_cons, ↓erH_nil, ↓shutD_mk, x1_mk, x2_mk, ↓w_rz, ↓dXf, ↓dIsX, ↓dBinS, Nat.reduceLT]; exact h) rfl rfl (nf_tup _ _) tb.tup ?_
            simp -implicitDefEqProofs -dsimp only [idd_eq, Nat.reduceEqDiff, ↓w_seq, ↓w_if, ↓dTest, ↓dOp, ↓dUn, ↓w_var, ↓getS_val, ↓getS_own, ↓getS_par, ↓dC, rd_val, rd_bor, ownD_own, ownD_par, rds_nil, rds_cons, ↓w_asg, ↓dCB, ↓dCons, ↓dNil, ↓dgName, ↓dgTup, ↓dgCons, ↓dgNil, ↓w_setIx, ↓w_ret, ↓w_retF, ↓w_retN, ↓w_next, ↓w_drop, ↓w_own, ↓w_brk, ↓w_cnt, ↓w_setF, ↓w_dput, ↓w_body, ↓dN, ↓dCall, ↓dCallF, argsOf_nil, argsOf_val, argsOf_bor, bors, ↓dV, ↓dTup, ↓dLst, vals_nil, vals_val, ↓w_par, ↓w_par3, ↓w_parVO, ↓w_parOV, ↓w_parOO, ↓dTruth, ↓dIsi, ↓dIsiT, ↓dInO, insOf_ins, ↓dDNew, ↓dDGet, ↓dDIn, toTup_lst, toTup_tup, pf_nil, lk_self, key_str, key_int, isN_non, isNN_non, kno_int, kno_str, kno_lst, kno_tup, kno_bl, kno_non, tyV_int, tyV_bl, tyV_str, tyV_lst, tyV_tup, tyV_non, clV_ty, clVT_nil, clVT_val, kit_same, kit_int_bool, kit_bool_int, kits_list, kits_tuple, ↓dNot, ↓dAnd, ↓dOr, ↓dIf, ↓dAndV, ↓dOrV, ↓dNotV, ↓dChain, ↓dMeth, ↓dMethF, ↓dKw, ↓dSl, ↓dNoP, ↓dPart, ↓w_for, diRng1, diRng2, diRevR1, diEnumX, diAny, items_lst, items_tup, ↓dLc, ↓dDc, ↓dFld, ownAt_def, setD, Sl.setD, isPar0, isParS, isPN, isP_val, isP_own, isP_no, isP_par, ↓doF, outs_nil, outs_cons, parD_par, parIx, putOuts, wipeD, ↓dBodyF, ↓dAppend, D.isLst, cmp_int, bool_bl, toInt_int, toInt_bl, truth_bl, truth_int, truth_non, len_lst, len_tup, D_add, D_sub, D_mod, eq_int, ne_int, neg_int, ix0, ix1, ix2, ix3, ix4, tx0, tx1, tx2, sx0, sx1, sx2, List.length_cons, List.length_nil, List.cons_append, List.nil_append, List.replicate, Nat.reduceAdd, Nat.reduceSub, List.getElem?_cons_zero, List.getElem?_cons_succ, List.getElem?_nil, List.set_cons_zero, List.set_cons_succ, Option.bind_some, Option.map_some, Option.isSome_some, true_and, and_true, if_true, if_false, Bool.false_eq_true, reduceIte, Int.reduceBEq, Bool.not_true, Bool.not_false, List.nodup_cons, List.nodup_nil, List.not_mem_nil, not_false_eq_true, List.mem_cons, or_false, ↓opt_f, ↓optF_some, ↓ite_cd, ↓cd_true, ↓cd_false, ↓forL_f, ↓lcL_f, ↓dcL_f, ↓noEr_run, ↓w_frz, ↓getW_own, ↓dListRg1, ↓dIndex, ↓dCKw, ↓dMake, ↓dList, seq_lst, seq_tup, kwP1, kwP10, beq_self_eq_true, ↓dEqO, ↓dBinO, ↓dNev, tyV_dct, tyV_ins, kno_dct, clV_ptr, kit_sameR, nf_same, nf_none, nf_int, nf_bool, nf_str, nf_lst, nf_tup, nf_dct, ↓dLenO, eq_bl, ne_bl, ↓hot_run, ↓w_try, ↓w_try0, ↓erH_cons, ↓erH_nil, ↓shutD_mk, x1_mk, x2_mk, ↓w_rz, ↓dXf, ↓dIsX, ↓dBinS, Nat.reduceLT, p4, p5, p6, p7, p8, p9, p10, p11, p12, p13, p14, p15]
            refine odd (fun Q h => h) (x := .lst (due k f0 f1 f2 f3 f4)) (fun Q h => h) rfl rfl (nf_lst _ _) tb.lst ?_
            simp -implicitDefEqProofs -dsimp only [idd_eq, Nat.reduceEqDiff, ↓w_seq, ↓w_if, ↓dTest, ↓dOp, ↓dUn, ↓w_var, ↓getS_val, ↓getS_own, ↓getS_par, ↓dC, rd_val, rd_bor, ownD_own, ownD_par, rds_nil, rds_cons, ↓w_asg, ↓dCB, ↓dCons, ↓dNil, ↓dgName, ↓dgTup, ↓dgCons, ↓dgNil, ↓w_setIx, ↓w_ret, ↓w_retF, ↓w_retN, ↓w_next, ↓w_drop, ↓w_own, ↓w_brk, ↓w_cnt, ↓w_setF, ↓w_dput, ↓w_body, ↓dN, ↓dCall, ↓dCallF, argsOf_nil, argsOf_val, argsOf_bor, bors, ↓dV, ↓dTup, ↓dLst, vals_nil, vals_val, ↓w_par, ↓w_par3, ↓w_parVO, ↓w_parOV, ↓w_parOO, ↓dTruth, ↓dIsi, ↓dIsiT, ↓dInO, insOf_ins, ↓dDNew, ↓dDGet, ↓dDIn, toTup_lst, toTup_tup, pf_nil, lk_self, key_str, key_int, isN_non, isNN_non, kno_int, kno_str, kno_lst, kno_tup, kno_bl, kno_non, tyV_int, tyV_bl, tyV_str, tyV_lst, tyV_tup, tyV_non, clV_ty, clVT_nil, clVT_val, kit_same, kit_int_bool, kit_bool_int, kits_list, kits_tuple, ↓dNot, ↓dAnd, ↓dOr, ↓dIf, ↓dAndV, ↓dOrV, ↓dNotV, ↓dChain, ↓dMeth, ↓dMethF, ↓dKw, ↓dSl, ↓dNoP, ↓dPart, ↓w_for, diRng1, diRng2, diRevR1, diEnumX, diAny, items_lst, items_tup, ↓dLc, ↓dDc, ↓dFld, ownAt_def, setD, Sl.setD, isPar0, isParS, isPN, isP_val, isP_own, isP_no, isP_par, ↓doF, outs_nil, outs_cons, parD_par, parIx, putOuts, wipeD, ↓dBodyF, ↓dAppend, D.isLst, cmp_int, bool_bl, toInt_int, toInt_bl, truth_bl, truth_int, truth_non, len_lst, len_tup, D_add, D_sub, D_mod, eq_int, ne_int, neg_int, ix0, ix1, ix2, ix3, ix4, tx0, tx1, tx2, sx0, sx1, sx2, List.length_cons, List.length_nil, List.cons_append, List.nil_append, List.replicate, Nat.reduceAdd, Nat.reduceSub, List.getElem?_cons_zero, List.getElem?_cons_succ, List.getElem?_nil, List.set_cons_zero, List.set_cons_succ, Option.bind_some, Option.map_some, Option.isSome_some, true_and, and_true, if_true, if_false, Bool.false_eq_true, reduceIte, Int.reduceBEq, Bool.not_true, Bool.not_false, List.nodup_cons, List.nodup_nil, List.not_mem_nil, not_false_eq_true, List.mem_cons, or_false, ↓opt_f, ↓optF_some, ↓ite_cd, ↓cd_true, ↓cd_false, ↓forL_f, ↓lcL_f, ↓dcL_f, ↓noEr_run, ↓w_frz, ↓getW_own, ↓dListRg1, ↓dIndex, ↓dCKw, ↓dMake, ↓dList, seq_lst, seq_tup, kwP1, kwP10, beq_self_eq_true, ↓dEqO, ↓dBinO, ↓dNev, tyV_dct, tyV_ins, kno_dct, clV_ptr, kit_sameR, nf_same, nf_none, nf_int, nf_bool, nf_str, nf_lst, nf_tup, nf_dct, ↓dLenO, eq_bl, ne_bl, ↓hot_run, ↓w_try, ↓w_try0, ↓erH_cons, ↓erH_nil, ↓shutD_mk, x1_mk, x2_mk, ↓w_rz, ↓dXf, ↓dIsX, ↓dBinS, Nat.reduceLT, isn, p4, p5, p6, p7, p8, p9, p10, p11, p12, p13, p14, p15]
            refine odd (fun Q h => h) (x := .int 5) (fun Q h => h) rfl rfl (nf_int _ _) tb.int ?_
            simp -implicitDefEqProofs -dsimp only [idd_eq, Nat.reduceEqDiff, ↓w_seq, ↓w_if, ↓dTest, ↓dOp, ↓dUn, ↓w_var, ↓getS_val, ↓getS_own, ↓getS_par, ↓dC, rd_val, rd_bor, ownD_own, ownD_par, rds_nil, rds_cons, ↓w_asg, ↓dCB, ↓dCons, ↓dNil, ↓dgName, ↓dgTup, ↓dgCons, ↓dgNil, ↓w_setIx, ↓w_ret, ↓w_retF, ↓w_retN, ↓w_next, ↓w_drop, ↓w_own, ↓w_brk, ↓w_cnt, ↓w_setF, ↓w_dput, ↓w_body, ↓dN, ↓dCall, ↓dCallF, argsOf_nil, argsOf_val, argsOf_bor, bors, ↓dV, ↓dTup, ↓dLst, vals_nil, vals_val, ↓w_par, ↓w_par3, ↓w_parVO, ↓w_parOV, ↓w_parOO, ↓dTruth, ↓dIsi, ↓dIsiT, ↓dInO, insOf_ins, ↓dDNew, ↓dDGet, ↓dDIn, toTup_lst, toTup_tup, pf_nil, lk_self, key_str, key_int, isN_non, isNN_non, kno_int, kno_str, kno_lst, kno_tup, kno_bl, kno_non, tyV_int, tyV_bl, tyV_str, tyV_lst, tyV_tup, tyV_non, clV_ty, clVT_nil, clVT_val, kit_same, kit_int_bool, kit_bool_int, kits_list, kits_tuple, ↓dNot, ↓dAnd, ↓dOr, ↓dIf, ↓dAndV, ↓dOrV, ↓dNotV, ↓dChain, ↓dMeth, ↓dMethF, ↓dKw, ↓dSl, ↓dNoP, ↓dPart, ↓w_for, diRng1, diRng2, diRevR1, diEnumX, diAny, items_lst, items_tup, ↓dLc, ↓dDc, ↓dFld, ownAt_def, setD, Sl.setD, isPar0, isParS, isPN, isP_val, isP_own, isP_no, isP_par, ↓doF, outs_nil, outs_cons, parD_par, parIx, putOuts, wipeD, ↓dBodyF, ↓dAppend, D.isLst, cmp_int, bool_bl, toInt_int, toInt_bl, truth_bl, truth_int, truth_non, len_lst, len_tup, D_add, D_sub, D_mod, eq_int, ne_int, neg_int, ix0, ix1, ix2, ix3, ix4, tx0, tx1, tx2, sx0, sx1, sx2, List.length_cons, List.length_nil, List.cons_append, List.nil_append, List.replicate, Nat.reduceAdd, Nat.reduceSub, List.getElem?_cons_zero, List.getElem?_cons_succ, List.getElem?_nil, List.set_cons_zero, List.set_cons_succ, Option.bind_some, Option.map_some, Option.isSome_some, true_and, and_true, if_true, if_false, Bool.false_eq_true, reduceIte, Int.reduceBEq, Bool.not_true, Bool.not_false, List.nodup_cons, List.nodup_nil, List.not_mem_nil, not_false_eq_true, List.mem_cons, or_false, ↓opt_f, ↓optF_some, ↓ite_cd, ↓cd_true, ↓cd_false, ↓forL_f, ↓lcL_f, ↓dcL_f, ↓noEr_run, ↓w_frz, ↓getW_own, ↓dListRg1, ↓dIndex, ↓dCKw, ↓dMake, ↓dList, seq_lst, seq_tup, kwP1, kwP10, beq_self_eq_true, ↓dEqO, ↓dBinO, ↓dNev, tyV_dct, tyV_ins, kno_dct, clV_ptr, kit_sameR, nf_same, nf_none, nf_int, nf_bool, nf_str, nf_lst, nf_tup, nf_dct, ↓dLenO, eq_bl, ne_bl, ↓hot_run, ↓w_try, ↓w_try0, ↓erH_cons, ↓erH_nil, ↓shutD_mk, x1_mk, x2_mk, ↓w_rz, ↓dXf, ↓dIsX, ↓dBinS, Nat.reduceLT, p4, p5, p6, p7, p8, p9, p10, p11, p12, p13, p14, p15]
            exact hnx2 _ ⟨w3, _, _, _, _, _, _, _, _, _, _, _, _, ⟨rfl, rfl, rfl, rfl, rfl, rfl, rfl, rfl, rfl, rfl, p14, p15⟩, hw3, rfl⟩
          · have hb : (((k' : Nat) : Int) == ((k : Nat) : Int)) = false := by
              apply beq_false_of_ne
              omega
            obtain ⟨o1, o2⟩ := other A fx k k' hk hk' hkk
            simp -implicitDefEqProofs -dsimp only [idd_eq, Nat.reduceEqDiff, ↓w_seq, ↓w_if, ↓dTest, ↓dOp, ↓dUn, ↓w_var, ↓getS_val, ↓getS_own, ↓getS_par, ↓dC, rd_val, rd_bor, ownD_own, ownD_par, rds_nil, rds_cons, ↓w_asg, ↓dCB, ↓dCons, ↓dNil, ↓dgName, ↓dgTup, ↓dgCons, ↓dgNil, ↓w_setIx, ↓w_ret, ↓w_retF, ↓w_retN, ↓w_next, ↓w_drop, ↓w_own, ↓w_brk, ↓w_cnt, ↓w_setF, ↓w_dput, ↓w_body, ↓dN, ↓dCall, ↓dCallF, argsOf_nil, argsOf_val, argsOf_bor, bors, ↓dV, ↓dTup, ↓dLst, vals_nil, vals_val, ↓w_par, ↓w_par3, ↓w_parVO, ↓w_parOV, ↓w_parOO, ↓dTruth, ↓dIsi, ↓dIsiT, ↓dInO, insOf_ins, ↓dDNew, ↓dDGet, ↓dDIn, toTup_lst, toTup_tup, pf_nil, lk_self, key_str, key_int, isN_non, isNN_non, kno_int, kno_str, kno_lst, kno_tup, kno_bl, kno_non, tyV_int, tyV_bl, tyV_str, tyV_lst, tyV_tup, tyV_non, clV_ty, clVT_nil, clVT_val, kit_same, kit_int_bool, kit_bool_int, kits_list, kits_tuple, ↓dNot, ↓dAnd, ↓dOr, ↓dIf, ↓dAndV, ↓dOrV, ↓dNotV, ↓dChain, ↓dMeth, ↓dMethF, ↓dKw, ↓dSl, ↓dNoP, ↓dPart, ↓w_for, diRng1, diRng2, diRevR1, diEnumX, diAny, items_lst, items_tup, ↓dLc, ↓dDc, ↓dFld, ownAt_def, setD, Sl.setD, isPar0, isParS, isPN, isP_val, isP_own, isP_no, isP_par, ↓doF, outs_nil, outs_cons, parD_par, parIx, putOuts, wipeD, ↓dBodyF, ↓dAppend, D.isLst, cmp_int, bool_bl, toInt_int, toInt_bl, truth_bl, truth_int, truth_non, len_lst, len_tup, D_add, D_sub, D_mod, eq_int, ne_int, neg_int, ix0, ix1, ix2, ix3, ix4, tx0, tx1, tx2, sx0, sx1, sx2, List.length_cons, List.length_nil, List.cons_append, List.nil_append, List.replicate, Nat.reduceAdd, Nat.reduceSub, List.getElem?_cons_zero, List.getElem?_cons_succ, List.getElem?_nil, List.set_cons_zero, List.set_cons_succ, Option.bind_some, Option.map_some, Option.isSome_some, true_and, and_true, if_true, if_false, Bool.false_eq_true, reduceIte, Int.reduceBEq, Bool.not_true, Bool.not_false, List.nodup_cons, List.nodup_nil, List.not_mem_nil, not_false_eq_true, List.mem_cons, or_false, ↓opt_f, ↓optF_some, ↓ite_cd, ↓cd_true, ↓cd_false, ↓forL_f, ↓lcL_f, ↓dcL_f, ↓noEr_run, ↓w_frz, ↓getW_own, ↓dListRg1, ↓dIndex, ↓dCKw, ↓dMake, ↓dList, seq_lst, seq_tup, kwP1, kwP10, beq_self_eq_true, ↓dEqO, ↓dBinO, ↓dNev, tyV_dct, tyV_ins, kno_dct, clV_ptr, kit_sameR, nf_same, nf_none, nf_int, nf_bool, nf_str, nf_lst, nf_tup, nf_dct, ↓dLenO, eq_bl, ne_bl, ↓hot_run, ↓w_try, ↓w_try0, ↓erH_cons, ↓erH_nil, ↓shutD_mk, x1_mk, x2_mk, ↓w_rz, ↓dXf, ↓dIsX, ↓dBinS, Nat.reduceLT, hb, p4, p5, p6, p7, p8, p9, p10, p11, p12, p13, p14, p15]
            refine odd (fun Q h => h) (x := dd A k' f0 f1 f2 f3 f4) (fun Q h => h) (kn_dd A k' hk') (ty_dd A k' hk') o2 o1 ?_
            simp -implicitDefEqProofs -dsimp only [idd_eq, Nat.reduceEqDiff, ↓w_seq, ↓w_if, ↓dTest, ↓dOp, ↓dUn, ↓w_var, ↓getS_val, ↓getS_own, ↓getS_par, ↓dC, rd_val, rd_bor, ownD_own, ownD_par, rds_nil, rds_cons, ↓w_asg, ↓dCB, ↓dCons, ↓dNil, ↓dgName, ↓dgTup, ↓dgCons, ↓dgNil, ↓w_setIx, ↓w_ret, ↓w_retF, ↓w_retN, ↓w_next, ↓w_drop, ↓w_own, ↓w_brk, ↓w_cnt, ↓w_setF, ↓w_dput, ↓w_body, ↓dN, ↓dCall, ↓dCallF, argsOf_nil, argsOf_val, argsOf_bor, bors, ↓dV, ↓dTup, ↓dLst, vals_nil, vals_val, ↓w_par, ↓w_par3, ↓w_parVO, ↓w_parOV, ↓w_parOO, ↓dTruth, ↓dIsi, ↓dIsiT, ↓dInO, insOf_ins, ↓dDNew, ↓dDGet, ↓dDIn, toTup_lst, toTup_tup, pf_nil, lk_self, key_str, key_int, isN_non, isNN_non, kno_int, kno_str, kno_lst, kno_tup, kno_bl, kno_non, tyV_int, tyV_bl, tyV_str, tyV_lst, tyV_tup, tyV_non, clV_ty, clVT_nil, clVT_val, kit_same, kit_int_bool, kit_bool_int, kits_list, kits_tuple, ↓dNot, ↓dAnd, ↓dOr, ↓dIf, ↓dAndV, ↓dOrV, ↓dNotV, ↓dChain, ↓dMeth, ↓dMethF, ↓dKw, ↓dSl, ↓dNoP, ↓dPart, ↓w_for, diRng1, diRng2, diRevR1, diEnumX, diAny, items_lst, items_tup, ↓dLc, ↓dDc, ↓dFld, ownAt_def, setD, Sl.setD, isPar0, isParS, isPN, isP_val, isP_own, isP_no, isP_par, ↓doF, outs_nil, outs_cons, parD_par, parIx, putOuts, wipeD, ↓dBodyF, ↓dAppend, D.isLst, cmp_int, bool_bl, toInt_int, toInt_bl, truth_bl, truth_int, truth_non, len_lst, len_tup, D_add, D_sub, D_mod, eq_int, ne_int, neg_int, ix0, ix1, ix2, ix3, ix4, tx0, tx1, tx2, sx0, sx1, sx2, List.length_cons, List.length_nil, List.cons_append, List.nil_append, List.replicate, Nat.reduceAdd, Nat.reduceSub, List.getElem?_cons_zero, List.getElem?_cons_succ, List.getElem?_nil, List.set_cons_zero, List.set_cons_succ, Option.bind_some, Option.map_some, Option.isSome_some, true_and, and_true, if_true, if_false, Bool.false_eq_true, reduceIte, Int.reduceBEq, Bool.not_true, Bool.not_false, List.nodup_cons, List.nodup_nil, List.not_mem_nil, not_false_eq_true, List.mem_cons, or_false, ↓opt_f, ↓optF_some, ↓ite_cd, ↓cd_true, ↓cd_false, ↓forL_f, ↓lcL_f, ↓dcL_f, ↓noEr_run, ↓w_frz, ↓getW_own, ↓dListRg1, ↓dIndex, ↓dCKw, ↓dMake, ↓dList, seq_lst, seq_tup, kwP1, kwP10, beq_self_eq_true, ↓dEqO, ↓dBinO, ↓dNev, tyV_dct, tyV_ins, kno_dct, clV_ptr, kit_sameR, nf_same, nf_none, nf_int, nf_bool, nf_str, nf_lst, nf_tup, nf_dct, ↓dLenO, eq_bl, ne_bl, ↓hot_run, ↓w_try, ↓w_try0, ↓erH_cons, ↓erH_nil, ↓shutD_mk, x1_mk, x2_mk, ↓w_rz, ↓dXf, ↓dIsX, ↓dBinS, Nat.reduceLT, p4, p5, p6, p7, p8, p9, p10, p11, p12, p13, p14, p15]
            refine odd (fun Q h => h) (x := dd A k' f0 f1 f2 f3 f4) (fun Q h => h) (kn_dd A k' hk') (ty_dd A k' hk') o2 o1 ?_
            simp -implicitDefEqProofs -dsimp only [idd_eq, Nat.reduceEqDiff, ↓w_seq, ↓w_if, ↓dTest, ↓dOp, ↓dUn, ↓w_var, ↓getS_val, ↓getS_own, ↓getS_par, ↓dC, rd_val, rd_bor, ownD_own, ownD_par, rds_nil, rds_cons, ↓w_asg, ↓dCB, ↓dCons, ↓dNil, ↓dgName, ↓dgTup, ↓dgCons, ↓dgNil, ↓w_setIx, ↓w_ret, ↓w_retF, ↓w_retN, ↓w_next, ↓w_drop, ↓w_own, ↓w_brk, ↓w_cnt, ↓w_setF, ↓w_dput, ↓w_body, ↓dN, ↓dCall, ↓dCallF, argsOf_nil, argsOf_val, argsOf_bor, bors, ↓dV, ↓dTup, ↓dLst, vals_nil, vals_val, ↓w_par, ↓w_par3, ↓w_parVO, ↓w_parOV, ↓w_parOO, ↓dTruth, ↓dIsi, ↓dIsiT, ↓dInO, insOf_ins, ↓dDNew, ↓dDGet, ↓dDIn, toTup_lst, toTup_tup, pf_nil, lk_self, key_str, key_int, isN_non, isNN_non, kno_int, kno_str, kno_lst, kno_tup, kno_bl, kno_non, tyV_int, tyV_bl, tyV_str, tyV_lst, tyV_tup, tyV_non, clV_ty, clVT_nil, clVT_val, kit_same, kit_int_bool, kit_bool_int, kits_list, kits_tuple, ↓dNot, ↓dAnd, ↓dOr, ↓dIf, ↓dAndV, ↓dOrV, ↓dNotV, ↓dChain, ↓dMeth, ↓dMethF, ↓dKw, ↓dSl, ↓dNoP, ↓dPart, ↓w_for, diRng1, diRng2, diRevR1, diEnumX, diAny, items_lst, items_tup, ↓dLc, ↓dDc, ↓dFld, ownAt_def, setD, Sl.setD, isPar0, isParS, isPN, isP_val, isP_own, isP_no, isP_par, ↓doF, outs_nil, outs_cons, parD_par, parIx, putOuts, wipeD, ↓dBodyF, ↓dAppend, D.isLst, cmp_int, bool_bl, toInt_int, toInt_bl, truth_bl, truth_int, truth_non, len_lst, len_tup, D_add, D_sub, D_mod, eq_int, ne_int, neg_int, ix0, ix1, ix2, ix3, ix4, tx0, tx1, tx2, sx0, sx1, sx2, List.length_cons, List.length_nil, List.cons_append, List.nil_append, List.replicate, Nat.reduceAdd, Nat.reduceSub, List.getElem?_cons_zero, List.getElem?_cons_succ, List.getElem?_nil, List.set_cons_zero, List.set_cons_succ, Option.bind_some, Option.map_some, Option.isSome_some, true_and, and_true, if_true, if_false, Bool.false_eq_true, reduceIte, Int.reduceBEq, Bool.not_true, Bool.not_false, List.nodup_cons, List.nodup_nil, List.not_mem_nil, not_false_eq_true, List.mem_cons, or_false, ↓opt_f, ↓optF_some, ↓ite_cd, ↓cd_true, ↓cd_false, ↓forL_f, ↓lcL_f, ↓dcL_f, ↓noEr_run, ↓w_frz, ↓getW_own, ↓dListRg1, ↓dIndex, ↓dCKw, ↓dMake, ↓dList, seq_lst, seq_tup, kwP1, kwP10, beq_self_eq_true, ↓dEqO, ↓dBinO, ↓dNev, tyV_dct, tyV_ins, kno_dct, clV_ptr, kit_sameR, nf_same, nf_none, nf_int, nf_bool, nf_str, nf_lst, nf_tup, nf_dct, ↓dLenO, eq_bl, ne_bl, ↓hot_run, ↓w_try, ↓w_try0, ↓erH_cons, ↓erH_nil, ↓shutD_mk, x1_mk, x2_mk, ↓w_rz, ↓dXf, ↓dIsX, ↓dBinS, Nat.reduceLT, p4, p5, p6, p7, p8, p9, p10, p11, p12, p13, p14, p15]
            refine odd (fun Q h => h) (x := .tup (due k f0 f1 f2 f3 f4)) (fun Q h => by simp -implicitDefEqProofs -dsimp only [idd_eq, Nat.reduceEqDiff, ↓w_seq, ↓w_if, ↓dTest, ↓dOp, ↓dUn, ↓w_var, ↓getS_val, ↓getS_own, ↓getS_par, ↓dC, rd_val, rd_bor, ownD_own, ownD_par, rds_nil, rds_cons, ↓w_asg, ↓dCB, ↓dCons, ↓dNil, ↓dgName, ↓dgTup, ↓dgCons, ↓dgNil, ↓w_setIx, ↓w_ret, ↓w_retF, ↓w_retN, ↓w_next, ↓w_drop, ↓w_own, ↓w_brk, ↓w_cnt, ↓w_setF, ↓w_dput, ↓w_body, ↓dN, ↓dCall, ↓dCallF, argsOf_nil, argsOf_val, argsOf_bor, bors, ↓dV, ↓dTup, ↓dLst, vals_nil, vals_val, ↓w_par, ↓w_par3, ↓w_parVO, ↓w_parOV, ↓w_parOO, ↓dTruth, ↓dIsi, ↓dIsiT, ↓dInO, insOf_ins, ↓dDNew, ↓dDGet, ↓dDIn, toTup_lst, toTup_tup, pf_nil, lk_self, key_str, key_int, isN_non, isNN_non, kno_int, kno_str, kno_lst, kno_tup, kno_bl, kno_non, tyV_int, tyV_bl, tyV_str, tyV_lst, tyV_tup, tyV_non, clV_ty, clVT_nil, clVT_val, kit_same, kit_int_bool, kit_bool_int, kits_list, kits_tuple, ↓dNot, ↓dAnd, ↓dOr, ↓dIf, ↓dAndV, ↓dOrV, ↓dNotV, ↓dChain, ↓dMeth, ↓dMethF, ↓dKw, ↓dSl, ↓dNoP, ↓dPart, ↓w_for, diRng1, diRng2, diRevR1, diEnumX, diAny, items_lst, items_tup, ↓dLc, ↓dDc, ↓dFld, ownAt_def, setD, Sl.setD, isPar0, isParS, isPN, isP_val, isP_own, isP_no, isP_par, ↓doF, outs_nil, outs_cons, parD_par, parIx, putOuts, wipeD, ↓dBodyF, ↓dAppend, D.isLst, cmp_int, bool_bl, toInt_int, toInt_bl, truth_bl, truth_int, truth_non, len_lst, len_tup, D_add, D_sub, D_mod, eq_int, ne_int, neg_int, ix0, ix1, ix2, ix3, ix4, tx0, tx1, tx2, sx0, sx1, sx2, List.length_cons, List.length_nil, List.cons_append, List.nil_append, List.replicate, Nat.reduceAdd, Nat.reduceSub, List.getElem?_cons_zero, List.getElem?_cons_succ, List.getElem?_nil, List.set_cons_zero, List.set_cons_succ, Option.bind_some, Option.map_some, Option.isSome_some, true_and, and_true, if_true, if_false, Bool.false_eq_true, reduceIte, Int.reduceBEq, Bool.not_true, Bool.not_false, List.nodup_cons, List.nodup_nil, List.not_mem_nil, not_false_eq_true, List.mem_cons, or_false, ↓opt_f, ↓optF_some, ↓ite_cd, ↓cd_true, ↓cd_false, ↓forL_f, ↓lcL_f, ↓dcL_f, ↓noEr_run, ↓w_frz, ↓getW_own, ↓dListRg1, ↓dIndex, ↓dCKw, ↓dMake, ↓dList, seq_lst, seq_tup, kwP1, kwP10, beq_self_eq_true, ↓dEqO, ↓dBinO, ↓dNev, tyV_dct, tyV_ins, kno_dct, clV_ptr, kit_sameR, nf_same, nf_none, nf_int, nf_bool, nf_str, nf_lst, nf_tup, nf_dct, ↓dLenO, eq_bl, ne_bl, ↓hot_run, ↓w_try, ↓w_try0, ↓erH_cons, ↓erH_nil, ↓shutD_mk, x1_mk, x2_mk, ↓w_rz, ↓dXf, ↓dIsX, ↓dBinS, Nat.reduceLT]; exact h) rfl rfl (nf_tup _ _) tb.tup ?_
            simp -implicitDefEqProofs -dsimp only [idd_eq, Nat.reduceEqDiff, ↓w_seq, ↓w_if, ↓dTest, ↓dOp, ↓dUn, ↓w_var, ↓getS_val, ↓getS_own, ↓getS_par, ↓dC, rd_val, rd_bor, ownD_own, ownD_par, rds_nil, rds_cons, ↓w_asg, ↓dCB, ↓dCons, ↓dNil, ↓dgName, ↓dgTup, ↓dgCons, ↓dgNil, ↓w_setIx, ↓w_ret, ↓w_retF, ↓w_retN, ↓w_next, ↓w_drop, ↓w_own, ↓w_brk, ↓w_cnt, ↓w_setF, ↓w_dput, ↓w_body, ↓dN, ↓dCall, ↓dCallF, argsOf_nil, argsOf_val, argsOf_bor, bors, ↓dV, ↓dTup, ↓dLst, vals_nil, vals_val, ↓w_par, ↓w_par3, ↓w_parVO, ↓w_parOV, ↓w_parOO, ↓dTruth, ↓dIsi, ↓dIsiT, ↓dInO, insOf_ins, ↓dDNew, ↓dDGet, ↓dDIn, toTup_lst, toTup_tup, pf_nil, lk_self, key_str, key_int, isN_non, isNN_non, kno_int, kno_str, kno_lst, kno_tup, kno_bl, kno_non, tyV_int, tyV_bl, tyV_str, tyV_lst, tyV_tup, tyV_non, clV_ty, clVT_nil, clVT_val, kit_same, kit_int_bool, kit_bool_int, kits_list, kits_tuple, ↓dNot, ↓dAnd, ↓dOr, ↓dIf, ↓dAndV, ↓dOrV, ↓dNotV, ↓dChain, ↓dMeth, ↓dMethF, ↓dKw, ↓dSl, ↓dNoP, ↓dPart, ↓w_for, diRng1, diRng2, diRevR1, diEnumX, diAny, items_lst, items_tup, ↓dLc, ↓dDc, ↓dFld, ownAt_def, setD, Sl.setD, isPar0, isParS, isPN, isP_val, isP_own, isP_no, isP_par, ↓doF, outs_nil, outs_cons, parD_par, parIx, putOuts, wipeD, ↓dBodyF, ↓dAppend, D.isLst, cmp_int, bool_bl, toInt_int, toInt_bl, truth_bl, truth_int, truth_non, len_lst, len_tup, D_add, D_sub, D_mod, eq_int, ne_int, neg_int, ix0, ix1, ix2, ix3, ix4, tx0, tx1, tx2, sx0, sx1, sx2, List.length_cons, List.length_nil, List.cons_append, List.nil_append, List.replicate, Nat.reduceAdd, Nat.reduceSub, List.getElem?_cons_zero, List.getElem?_cons_succ, List.getElem?_nil, List.set_cons_zero, List.set_cons_succ, Option.bind_some, Option.map_some, Option.isSome_some, true_and, and_true, if_true, if_false, Bool.false_eq_true, reduceIte, Int.reduceBEq, Bool.not_true, Bool.not_false, List.nodup_cons, List.nodup_nil, List.not_mem_nil, not_false_eq_true, List.mem_cons, or_false, ↓opt_f, ↓optF_some, ↓ite_cd, ↓cd_true, ↓cd_false, ↓forL_f, ↓lcL_f, ↓dcL_f, ↓noEr_run, ↓w_frz, ↓getW_own, ↓dListRg1, ↓dIndex, ↓dCKw, ↓dMake, ↓dList, seq_lst, seq_tup, kwP1, kwP10, beq_self_eq_true, ↓dEqO, ↓dBinO, ↓dNev, tyV_dct, tyV_ins, kno_dct, clV_ptr, kit_sameR, nf_same, nf_none, nf_int, nf_bool, nf_str, nf_lst, nf_tup, nf_dct, ↓dLenO, eq_bl, ne_bl, ↓hot_run, ↓w_try, ↓w_try0, ↓erH_cons, ↓erH_nil, ↓shutD_mk, x1_mk, x2_mk, ↓w_rz, ↓dXf, ↓dIsX, ↓dBinS, Nat.reduceLT, p4, p5, p6, p7, p8, p9, p10, p11, p12, p13, p14, p15]
            refine odd (fun Q h => h) (x := .lst (due k f0 f1 f2 f3 f4)) (fun Q h => h) rfl rfl (nf_lst _ _) tb.lst ?_
            simp -implicitDefEqProofs -dsimp only [idd_eq, Nat.reduceEqDiff, ↓w_seq, ↓w_if, ↓dTest, ↓dOp, ↓dUn, ↓w_var, ↓getS_val, ↓getS_own, ↓getS_par, ↓dC, rd_val, rd_bor, ownD_own, ownD_par, rds_nil, rds_cons, ↓w_asg, ↓dCB, ↓dCons, ↓dNil, ↓dgName, ↓dgTup, ↓dgCons, ↓dgNil, ↓w_setIx, ↓w_ret, ↓w_retF, ↓w_retN, ↓w_next, ↓w_drop, ↓w_own, ↓w_brk, ↓w_cnt, ↓w_setF, ↓w_dput, ↓w_body, ↓dN, ↓dCall, ↓dCallF, argsOf_nil, argsOf_val, argsOf_bor, bors, ↓dV, ↓dTup, ↓dLst, vals_nil, vals_val, ↓w_par, ↓w_par3, ↓w_parVO, ↓w_parOV, ↓w_parOO, ↓dTruth, ↓dIsi, ↓dIsiT, ↓dInO, insOf_ins, ↓dDNew, ↓dDGet, ↓dDIn, toTup_lst, toTup_tup, pf_nil, lk_self, key_str, key_int, isN_non, isNN_non, kno_int, kno_str, kno_lst, kno_tup, kno_bl, kno_non, tyV_int, tyV_bl, tyV_str, tyV_lst, tyV_tup, tyV_non, clV_ty, clVT_nil, clVT_val, kit_same, kit_int_bool, kit_bool_int, kits_list, kits_tuple, ↓dNot, ↓dAnd, ↓dOr, ↓dIf, ↓dAndV, ↓dOrV, ↓dNotV, ↓dChain, ↓dMeth, ↓dMethF, ↓dKw, ↓dSl, ↓dNoP, ↓dPart, ↓w_for, diRng1, diRng2, diRevR1, diEnumX, diAny, items_lst, items_tup, ↓dLc, ↓dDc, ↓dFld, ownAt_def, setD, Sl.setD, isPar0, isParS, isPN, isP_val, isP_own, isP_no, isP_par, ↓doF, outs_nil, outs_cons, parD_par, parIx, putOuts, wipeD, ↓dBodyF, ↓dAppend, D.isLst, cmp_int, bool_bl, toInt_int, toInt_bl, truth_bl, truth_int, truth_non, len_lst, len_tup, D_add, D_sub, D_mod, eq_int, ne_int, neg_int, ix0, ix1, ix2, ix3, ix4, tx0, tx1, tx2, sx0, sx1, sx2, List.length_cons, List.length_nil, List.cons_append, List.nil_append, List.replicate, Nat.reduceAdd, Nat.reduceSub, List.getElem?_cons_zero, List.getElem?_cons_succ, List.getElem?_nil, List.set_cons_zero, List.set_cons_succ, Option.bind_some, Option.map_some, Option.isSome_some, true_and, and_true, if_true, if_false, Bool.false_eq_true, reduceIte, Int.reduceBEq, Bool.not_true, Bool.not_false, List.nodup_cons, List.nodup_nil, List.not_mem_nil, not_false_eq_true, List.mem_cons, or_false, ↓opt_f, ↓optF_some, ↓ite_cd, ↓cd_true, ↓cd_false, ↓forL_f, ↓lcL_f, ↓dcL_f, ↓noEr_run, ↓w_frz, ↓getW_own, ↓dListRg1, ↓dIndex, ↓dCKw, ↓dMake, ↓dList, seq_lst, seq_tup, kwP1, kwP10, beq_self_eq_true, ↓dEqO, ↓dBinO, ↓dNev, tyV_dct, tyV_ins, kno_dct, clV_ptr, kit_sameR, nf_same, nf_none, nf_int, nf_bool, nf_str, nf_lst, nf_tup, nf_dct, ↓dLenO, eq_bl, ne_bl, ↓hot_run, ↓w_try, ↓w_try0, ↓erH_cons, ↓erH_nil, ↓shutD_mk, x1_mk, x2_mk, ↓w_rz, ↓dXf, ↓dIsX, ↓dBinS, Nat.reduceLT, isn, p4, p5, p6, p7, p8, p9, p10, p11, p12, p13, p14, p15]
            refine odd (fun Q h => h) (x := .int 5) (fun Q h => h) rfl rfl (nf_int _ _) tb.int ?_
            simp -implicitDefEqProofs -dsimp only [idd_eq, Nat.reduceEqDiff, ↓w_seq, ↓w_if, ↓dTest, ↓dOp, ↓dUn, ↓w_var, ↓getS_val, ↓getS_own, ↓getS_par, ↓dC, rd_val, rd_bor, ownD_own, ownD_par, rds_nil, rds_cons, ↓w_asg, ↓dCB, ↓dCons, ↓dNil, ↓dgName, ↓dgTup, ↓dgCons, ↓dgNil, ↓w_setIx, ↓w_ret, ↓w_retF, ↓w_retN, ↓w_next, ↓w_drop, ↓w_own, ↓w_brk, ↓w_cnt, ↓w_setF, ↓w_dput, ↓w_body, ↓dN, ↓dCall, ↓dCallF, argsOf_nil, argsOf_val, argsOf_bor, bors, ↓dV, ↓dTup, ↓dLst, vals_nil, vals_val, ↓w_par, ↓w_par3, ↓w_parVO, ↓w_parOV, ↓w_parOO, ↓dTruth, ↓dIsi, ↓dIsiT, ↓dInO, insOf_ins, ↓dDNew, ↓dDGet, ↓dDIn, toTup_lst, toTup_tup, pf_nil, lk_self, key_str, key_int, isN_non, isNN_non, kno_int, kno_str, kno_lst, kno_tup, kno_bl, kno_non, tyV_int, tyV_bl, tyV_str, tyV_lst, tyV_tup, tyV_non, clV_ty, clVT_nil, clVT_val, kit_same, kit_int_bool, kit_bool_int, kits_list, kits_tuple, ↓dNot, ↓dAnd, ↓dOr, ↓dIf, ↓dAndV, ↓dOrV, ↓dNotV, ↓dChain, ↓dMeth, ↓dMethF, ↓dKw, ↓dSl, ↓dNoP, ↓dPart, ↓w_for, diRng1, diRng2, diRevR1, diEnumX, diAny, items_lst, items_tup, ↓dLc, ↓dDc, ↓dFld, ownAt_def, setD, Sl.setD, isPar0, isParS, isPN, isP_val, isP_own, isP_no, isP_par, ↓doF, outs_nil, outs_cons, parD_par, parIx, putOuts, wipeD, ↓dBodyF, ↓dAppend, D.isLst, cmp_int, bool_bl, toInt_int, toInt_bl, truth_bl, truth_int, truth_non, len_lst, len_tup, D_add, D_sub, D_mod, eq_int, ne_int, neg_int, ix0, ix1, ix2, ix3, ix4, tx0, tx1, tx2, sx0, sx1, sx2, List.length_cons, List.length_nil, List.cons_append, List.nil_append, List.replicate, Nat.reduceAdd, Nat.reduceSub, List.getElem?_cons_zero, List.getElem?_cons_succ, List.getElem?_nil, List.set_cons_zero, List.set_cons_succ, Option.bind_some, Option.map_some, Option.isSome_some, true_and, and_true, if_true, if_false, Bool.false_eq_true, reduceIte, Int.reduceBEq, Bool.not_true, Bool.not_false, List.nodup_cons, List.nodup_nil, List.not_mem_nil, not_false_eq_true, List.mem_cons, or_false, ↓opt_f, ↓optF_some, ↓ite_cd, ↓cd_true, ↓cd_false, ↓forL_f, ↓lcL_f, ↓dcL_f, ↓noEr_run, ↓w_frz, ↓getW_own, ↓dListRg1, ↓dIndex, ↓dCKw, ↓dMake, ↓dList, seq_lst, seq_tup, kwP1, kwP10, beq_self_eq_true, ↓dEqO, ↓dBinO, ↓dNev, tyV_dct, tyV_ins, kno_dct, clV_ptr, kit_sameR, nf_same, nf_none, nf_int, nf_bool, nf_str, nf_lst, nf_tup, nf_dct, ↓dLenO, eq_bl, ne_bl, ↓hot_run, ↓w_try, ↓w_try0, ↓erH_cons, ↓erH_nil, ↓shutD_mk, x1_mk, x2_mk, ↓w_rz, ↓dXf, ↓dIsX, ↓dBinS, Nat.reduceLT, p4, p5, p6, p7, p8, p9, p10, p11, p12, p13, p14, p15]
            exact hnx2 _ ⟨w3, _, _, _, _, _, _, _, _, _, _, _, _, ⟨rfl, rfl, rfl, rfl, rfl, rfl, rfl, rfl, rfl, rfl, p14, p15⟩, hw3, rfl⟩
    · rintro ρ ⟨w, s4, s5, s6, s7, s8, s9, s10, s11, s12, s13, s14, s15, ⟨p4, p5, p6, p7, p8, p9, p10, p11, p12, p13, p14, p15⟩, hw, rfl⟩
      exact hnx _ ⟨_, _, _, _, _, _, _, _, _, _, _, _, _, _, ⟨rfl, rfl, p4, p5, p6, p7, p8, p9, p10, p11, p12, p13, p14, p15⟩, rfl⟩
  · rintro ρ ⟨s2, s3, s4, s5, s6, s7, s8, s9, s10, s11, s12, s13, s14, s15, ⟨p2, p3, p4, p5, p6, p7, p8, p9, p10, p11, p12, p13, p14, p15⟩, rfl⟩
    have fa : ∀ x ∈ [D.str (PySem.Str.ofString "a"), D.str (PySem.Str.ofString "a"), D.str (PySem.Str.ofString "a"), D.str (PySem.Str.ofString "a"), D.str (PySem.Str.ofString "a")], x ∈ FL := by
      intro x hx
      simp only [List.mem_cons, List.not_mem_nil, or_false, or_self] at hx
      subst hx
      exact List.mem_cons_self
    have r1 := deq_refl 2 (by decide) fa
    simp -implicitDefEqProofs -dsimp only [idd_eq, Nat.reduceEqDiff, ↓w_seq, ↓w_if, ↓dTest, ↓dOp, ↓dUn, ↓w_var, ↓getS_val, ↓getS_own, ↓getS_par, ↓dC, rd_val, rd_bor, ownD_own, ownD_par, rds_nil, rds_cons, ↓w_asg, ↓dCB, ↓dCons, ↓dNil, ↓dgName, ↓dgTup, ↓dgCons, ↓dgNil, ↓w_setIx, ↓w_ret, ↓w_retF, ↓w_retN, ↓w_next, ↓w_drop, ↓w_own, ↓w_brk, ↓w_cnt, ↓w_setF, ↓w_dput, ↓w_body, ↓dN, ↓dCall, ↓dCallF, argsOf_nil, argsOf_val, argsOf_bor, bors, ↓dV, ↓dTup, ↓dLst, vals_nil, vals_val, ↓w_par, ↓w_par3, ↓w_parVO, ↓w_parOV, ↓w_parOO, ↓dTruth, ↓dIsi, ↓dIsiT, ↓dInO, insOf_ins, ↓dDNew, ↓dDGet, ↓dDIn, toTup_lst, toTup_tup, pf_nil, lk_self, key_str, key_int, isN_non, isNN_non, kno_int, kno_str, kno_lst, kno_tup, kno_bl, kno_non, tyV_int, tyV_bl, tyV_str, tyV_lst, tyV_tup, tyV_non, clV_ty, clVT_nil, clVT_val, kit_same, kit_int_bool, kit_bool_int, kits_list, kits_tuple, ↓dNot, ↓dAnd, ↓dOr, ↓dIf, ↓dAndV, ↓dOrV, ↓dNotV, ↓dChain, ↓dMeth, ↓dMethF, ↓dKw, ↓dSl, ↓dNoP, ↓dPart, ↓w_for, diRng1, diRng2, diRevR1, diEnumX, diAny, items_lst, items_tup, ↓dLc, ↓dDc, ↓dFld, ownAt_def, setD, Sl.setD, isPar0, isParS, isPN, isP_val, isP_own, isP_no, isP_par, ↓doF, outs_nil, outs_cons, parD_par, parIx, putOuts, wipeD, ↓dBodyF, ↓dAppend, D.isLst, cmp_int, bool_bl, toInt_int, toInt_bl, truth_bl, truth_int, truth_non, len_lst, len_tup, D_add, D_sub, D_mod, eq_int, ne_int, neg_int, ix0, ix1, ix2, ix3, ix4, tx0, tx1, tx2, sx0, sx1, sx2, List.length_cons, List.length_nil, List.cons_append, List.nil_append, List.replicate, Nat.reduceAdd, Nat.reduceSub, List.getElem?_cons_zero, List.getElem?_cons_succ, List.getElem?_nil, List.set_cons_zero, List.set_cons_succ, Option.bind_some, Option.map_some, Option.isSome_some, true_and, and_true, if_true, if_false, Bool.false_eq_true, reduceIte, Int.reduceBEq, Bool.not_true, Bool.not_false, List.nodup_cons, List.nodup_nil, List.not_mem_nil, not_false_eq_true, List.mem_cons, or_false, ↓opt_f, ↓optF_some, ↓ite_cd, ↓cd_true, ↓cd_false, ↓forL_f, ↓lcL_f, ↓dcL_f, ↓noEr_run, ↓w_frz, ↓getW_own, ↓dListRg1, ↓dIndex, ↓dCKw, ↓dMake, ↓dList, seq_lst, seq_tup, kwP1, kwP10, beq_self_eq_true, ↓dEqO, ↓dBinO, ↓dNev, tyV_dct, tyV_ins, kno_dct, clV_ptr, kit_sameR, nf_same, nf_none, nf_int, nf_bool, nf_str, nf_lst, nf_tup, nf_dct, ↓dLenO, eq_bl, ne_bl, ↓hot_run, ↓w_try, ↓w_try0, ↓erH_cons, ↓erH_nil, ↓shutD_mk, x1_mk, x2_mk, ↓w_rz, ↓dXf, ↓dIsX, ↓dBinS, Nat.reduceLT, p2, p3, p4, p5, p6, p7, p8, p9, p10, p11, p12, p13, p14, p15]
    refine eqm_go A (k := 2) (f0 := .str (PySem.Str.ofString "a")) (f1 := .str (PySem.Str.ofString "a")) (f2 := .str (PySem.Str.ofString "a")) (f3 := .str (PySem.Str.ofString "a")) (f4 := .str (PySem.Str.ofString "a")) (by decide) (x := dd A 3 (.str (PySem.Str.ofString "a")) (.str (PySem.Str.ofString "a")) (.str (PySem.Str.ofString "a")) (.str (PySem.Str.ofString "a")) (.str (PySem.Str.ofString "a"))) (fun Q h => by simp -implicitDefEqProofs -dsimp only [idd_eq, Nat.reduceEqDiff, ↓w_seq, ↓w_if, ↓dTest, ↓dOp, ↓dUn, ↓w_var, ↓getS_val, ↓getS_own, ↓getS_par, ↓dC, rd_val, rd_bor, ownD_own, ownD_par, rds_nil, rds_cons, ↓w_asg, ↓dCB, ↓dCons, ↓dNil, ↓dgName, ↓dgTup, ↓dgCons, ↓dgNil, ↓w_setIx, ↓w_ret, ↓w_retF, ↓w_retN, ↓w_next, ↓w_drop, ↓w_own, ↓w_brk, ↓w_cnt, ↓w_setF, ↓w_dput, ↓w_body, ↓dN, ↓dCall, ↓dCallF, argsOf_nil, argsOf_val, argsOf_bor, bors, ↓dV, ↓dTup, ↓dLst, vals_nil, vals_val, ↓w_par, ↓w_par3, ↓w_parVO, ↓w_parOV, ↓w_parOO, ↓dTruth, ↓dIsi, ↓dIsiT, ↓dInO, insOf_ins, ↓dDNew, ↓dDGet, ↓dDIn, toTup_lst, toTup_tup, pf_nil, lk_self, key_str, key_int, isN_non, isNN_non, kno_int, kno_str, kno_lst, kno_tup, kno_bl, kno_non, tyV_int, tyV_bl, tyV_str, tyV_lst, tyV_tup, tyV_non, clV_ty, clVT_nil, clVT_val, kit_same, kit_int_bool, kit_bool_int, kits_list, kits_tuple, ↓dNot, ↓dAnd, ↓dOr, ↓dIf, ↓dAndV, ↓dOrV, ↓dNotV, ↓dChain, ↓dMeth, ↓dMethF, ↓dKw, ↓dSl, ↓dNoP, ↓dPart, ↓w_for, diRng1, diRng2, diRevR1, diEnumX, diAny, items_lst, items_tup, ↓dLc, ↓dDc, ↓dFld, ownAt_def, setD, Sl.setD, isPar0, isParS, isPN, isP_val, isP_own, isP_no, isP_par, ↓doF, outs_nil, outs_cons, parD_par, parIx, putOuts, wipeD, ↓dBodyF, ↓dAppend, D.isLst, cmp_int, bool_bl, toInt_int, toInt_bl, truth_bl, truth_int, truth_non, len_lst, len_tup, D_add, D_sub, D_mod, eq_int, ne_int, neg_int, ix0, ix1, ix2, ix3, ix4, tx0, tx1, tx2, sx0, sx1, sx2, List.length_cons, List.length_nil, List.cons_append, List.nil_append, List.replicate, Nat.reduceAdd, Nat.reduceSub, List.getElem?_cons_zero, List.getElem?_cons_succ, List.getElem?_nil, List.set_cons_zero, List.set_cons_succ, Option.bind_some, Option.map_some, Option.isSome_some, true_and, and_true, if_true, if_false, Bool.false_eq_true, reduceIte, Int.reduceBEq, Bool.not_true, Bool.not_false, List.nodup_cons, List.nodup_nil, List.not_mem_nil, not_false_eq_true, List.mem_cons, or_false, ↓opt_f, ↓optF_some, ↓ite_cd, ↓cd_true, ↓cd_false, ↓forL_f, ↓lcL_f, ↓dcL_f, ↓noEr_run, ↓w_frz, ↓getW_own, ↓dListRg1, ↓dIndex, ↓dCKw, ↓dMake, ↓dList, seq_lst, seq_tup, kwP1, kwP10, beq_self_eq_true, ↓dEqO, ↓dBinO, ↓dNev, tyV_dct, tyV_ins, kno_dct, clV_ptr, kit_sameR, nf_same, nf_none, nf_int, nf_bool, nf_str, nf_lst, nf_tup, nf_dct, ↓dLenO, eq_bl, ne_bl, ↓hot_run, ↓w_try, ↓w_try0, ↓erH_cons, ↓erH_nil, ↓shutD_mk, x1_mk, x2_mk, ↓w_rz, ↓dXf, ↓dIsX, ↓dBinS, Nat.reduceLT, io_Cut]; refine mk_Cut A ?_; simp -implicitDefEqProofs -dsimp only [idd_eq, Nat.reduceEqDiff, ↓w_seq, ↓w_if, ↓dTest, ↓dOp, ↓dUn, ↓w_var, ↓getS_val, ↓getS_own, ↓getS_par, ↓dC, rd_val, rd_bor, ownD_own, ownD_par, rds_nil, rds_cons, ↓w_asg, ↓dCB, ↓dCons, ↓dNil, ↓dgName, ↓dgTup, ↓dgCons, ↓dgNil, ↓w_setIx, ↓w_ret, ↓w_retF, ↓w_retN, ↓w_next, ↓w_drop, ↓w_own, ↓w_brk, ↓w_cnt, ↓w_setF, ↓w_dput, ↓w_body, ↓dN, ↓dCall, ↓dCallF, argsOf_nil, argsOf_val, argsOf_bor, bors, ↓dV, ↓dTup, ↓dLst, vals_nil, vals_val, ↓w_par, ↓w_par3, ↓w_parVO, ↓w_parOV, ↓w_parOO, ↓dTruth, ↓dIsi, ↓dIsiT, ↓dInO, insOf_ins, ↓dDNew, ↓dDGet, ↓dDIn, toTup_lst, toTup_tup, pf_nil, lk_self, key_str, key_int, isN_non, isNN_non, kno_int, kno_str, kno_lst, kno_tup, kno_bl, kno_non, tyV_int, tyV_bl, tyV_str, tyV_lst, tyV_tup, tyV_non, clV_ty, clVT_nil, clVT_val, kit_same, kit_int_bool, kit_bool_int, kits_list, kits_tuple, ↓dNot, ↓dAnd, ↓dOr, ↓dIf, ↓dAndV, ↓dOrV, ↓dNotV, ↓dChain, ↓dMeth, ↓dMethF, ↓dKw, ↓dSl, ↓dNoP, ↓dPart, ↓w_for, diRng1, diRng2, diRevR1, diEnumX, diAny, items_lst, items_tup, ↓dLc, ↓dDc, ↓dFld, ownAt_def, setD, Sl.setD, isPar0, isParS, isPN, isP_val, isP_own, isP_no, isP_par, ↓doF, outs_nil, outs_cons, parD_par, parIx, putOuts, wipeD, ↓dBodyF, ↓dAppend, D.isLst, cmp_int, bool_bl, toInt_int, toInt_bl, truth_bl, truth_int, truth_non, len_lst, len_tup, D_add, D_sub, D_mod, eq_int, ne_int, neg_int, ix0, ix1, ix2, ix3, ix4, tx0, tx1, tx2, sx0, sx1, sx2, List.length_cons, List.length_nil, List.cons_append, List.nil_append, List.replicate, Nat.reduceAdd, Nat.reduceSub, List.getElem?_cons_zero, List.getElem?_cons_succ, List.getElem?_nil, List.set_cons_zero, List.set_cons_succ, Option.bind_some, Option.map_some, Option.isSome_some, true_and, and_true, if_true, if_false, Bool.false_eq_true, reduceIte, Int.reduceBEq, Bool.not_true, Bool.not_false, List.nodup_cons, List.nodup_nil, List.not_mem_nil, not_false_eq_true, List.mem_cons, or_false, ↓opt_f, ↓optF_some, ↓ite_cd, ↓cd_true, ↓cd_false, ↓forL_f, ↓lcL_f, ↓dcL_f, ↓noEr_run, ↓w_frz, ↓getW_own, ↓dListRg1, ↓dIndex, ↓dCKw, ↓dMake, ↓dList, seq_lst, seq_tup, kwP1, kwP10, beq_self_eq_true, ↓dEqO, ↓dBinO, ↓dNev, tyV_dct, tyV_ins, kno_dct, clV_ptr, kit_sameR, nf_same, nf_none, nf_int, nf_bool, nf_str, nf_lst, nf_tup, nf_dct, ↓dLenO, eq_bl, ne_bl, ↓hot_run, ↓w_try, ↓w_try0, ↓erH_cons, ↓erH_nil, ↓shutD_mk, x1_mk, x2_mk, ↓w_rz, ↓dXf, ↓dIsX, ↓dBinS, Nat.reduceLT, io_Cut]; exact h) (fun Q h => by simp -implicitDefEqProofs -dsimp only [idd_eq, Nat.reduceEqDiff, ↓w_seq, ↓w_if, ↓dTest, ↓dOp, ↓dUn, ↓w_var, ↓getS_val, ↓getS_own, ↓getS_par, ↓dC, rd_val, rd_bor, ownD_own, ownD_par, rds_nil, rds_cons, ↓w_asg, ↓dCB, ↓dCons, ↓dNil, ↓dgName, ↓dgTup, ↓dgCons, ↓dgNil, ↓w_setIx, ↓w_ret, ↓w_retF, ↓w_retN, ↓w_next, ↓w_drop, ↓w_own, ↓w_brk, ↓w_cnt, ↓w_setF, ↓w_dput, ↓w_body, ↓dN, ↓dCall, ↓dCallF, argsOf_nil, argsOf_val, argsOf_bor, bors, ↓dV, ↓dTup, ↓dLst, vals_nil, vals_val, ↓w_par, ↓w_par3, ↓w_parVO, ↓w_parOV, ↓w_parOO, ↓dTruth, ↓dIsi, ↓dIsiT, ↓dInO, insOf_ins, ↓dDNew, ↓dDGet, ↓dDIn, toTup_lst, toTup_tup, pf_nil, lk_self, key_str, key_int, isN_non, isNN_non, kno_int, kno_str, kno_lst, kno_tup, kno_bl, kno_non, tyV_int, tyV_bl, tyV_str, tyV_lst, tyV_tup, tyV_non, clV_ty, clVT_nil, clVT_val, kit_same, kit_int_bool, kit_bool_int, kits_list, kits_tuple, ↓dNot, ↓dAnd, ↓dOr, ↓dIf, ↓dAndV, ↓dOrV, ↓dNotV, ↓dChain, ↓dMeth, ↓dMethF, ↓dKw, ↓dSl, ↓dNoP, ↓dPart, ↓w_for, diRng1, diRng2, diRevR1, diEnumX, diAny, items_lst, items_tup, ↓dLc, ↓dDc, ↓dFld, ownAt_def, setD, Sl.setD, isPar0, isParS, isPN, isP_val, isP_own, isP_no, isP_par, ↓doF, outs_nil, outs_cons, parD_par, parIx, putOuts, wipeD, ↓dBodyF, ↓dAppend, D.isLst, cmp_int, bool_bl, toInt_int, toInt_bl, truth_bl, truth_int, truth_non, len_lst, len_tup, D_add, D_sub, D_mod, eq_int, ne_int, neg_int, ix0, ix1, ix2, ix3, ix4, tx0, tx1, tx2, sx0, sx1, sx2, List.length_cons, List.length_nil, List.cons_append, List.nil_append, List.replicate, Nat.reduceAdd, Nat.reduceSub, List.getElem?_cons_zero, List.getElem?_cons_succ, List.getElem?_nil, List.set_cons_zero, List.set_cons_succ, Option.bind_some, Option.map_some, Option.isSome_some, true_and, and_true, if_true, if_false, Bool.false_eq_true, reduceIte, Int.reduceBEq, Bool.not_true, Bool.not_false, List.nodup_cons, List.nodup_nil, List.not_mem_nil, not_false_eq_true, List.mem_cons, or_false, ↓opt_f, ↓optF_some, ↓ite_cd, ↓cd_true, ↓cd_false, ↓forL_f, ↓lcL_f, ↓dcL_f, ↓noEr_run, ↓w_frz, ↓getW_own, ↓dListRg1, ↓dIndex, ↓dCKw, ↓dMake, ↓dList, seq_lst, seq_tup, kwP1, kwP10, beq_self_eq_true, ↓dEqO, ↓dBinO, ↓dNev, tyV_dct, tyV_ins, kno_dct, clV_ptr, kit_sameR, nf_same, nf_none, nf_int, nf_bool, nf_str, nf_lst, nf_tup, nf_dct, ↓dLenO, eq_bl, ne_bl, ↓hot_run, ↓w_try, ↓w_try0, ↓erH_cons, ↓erH_nil, ↓shutD_mk, x1_mk, x2_mk, ↓w_rz, ↓dXf, ↓dIsX, ↓dBinS, Nat.reduceLT, io_Lift]; refine mk_Lift A ?_; simp -implicitDefEqProofs -dsimp only [idd_eq, Nat.reduceEqDiff, ↓w_seq, ↓w_if, ↓dTest, ↓dOp, ↓dUn, ↓w_var, ↓getS_val, ↓getS_own, ↓getS_par, ↓dC, rd_val, rd_bor, ownD_own, ownD_par, rds_nil, rds_cons, ↓w_asg, ↓dCB, ↓dCons, ↓dNil, ↓dgName, ↓dgTup, ↓dgCons, ↓dgNil, ↓w_setIx, ↓w_ret, ↓w_retF, ↓w_retN, ↓w_next, ↓w_drop, ↓w_own, ↓w_brk, ↓w_cnt, ↓w_setF, ↓w_dput, ↓w_body, ↓dN, ↓dCall, ↓dCallF, argsOf_nil, argsOf_val, argsOf_bor, bors, ↓dV, ↓dTup, ↓dLst, vals_nil, vals_val, ↓w_par, ↓w_par3, ↓w_parVO, ↓w_parOV, ↓w_parOO, ↓dTruth, ↓dIsi, ↓dIsiT, ↓dInO, insOf_ins, ↓dDNew, ↓dDGet, ↓dDIn, toTup_lst, toTup_tup, pf_nil, lk_self, key_str, key_int, isN_non, isNN_non, kno_int, kno_str, kno_lst, kno_tup, kno_bl, kno_non, tyV_int, tyV_bl, tyV_str, tyV_lst, tyV_tup, tyV_non, clV_ty, clVT_nil, clVT_val, kit_same, kit_int_bool, kit_bool_int, kits_list, kits_tuple, ↓dNot, ↓dAnd, ↓dOr, ↓dIf, ↓dAndV, ↓dOrV, ↓dNotV, ↓dChain, ↓dMeth, ↓dMethF, ↓dKw, ↓dSl, ↓dNoP, ↓dPart, ↓w_for, diRng1, diRng2, diRevR1, diEnumX, diAny, items_lst, items_tup, ↓dLc, ↓dDc, ↓dFld, ownAt_def, setD, Sl.setD, isPar0, isParS, isPN, isP_val, isP_own, isP_no, isP_par, ↓doF, outs_nil, outs_cons, parD_par, parIx, putOuts, wipeD, ↓dBodyF, ↓dAppend, D.isLst, cmp_int, bool_bl, toInt_int, toInt_bl, truth_bl, truth_int, truth_non, len_lst, len_tup, D_add, D_sub, D_mod, eq_int, ne_int, neg_int, ix0, ix1, ix2, ix3, ix4, tx0, tx1, tx2, sx0, sx1, sx2, List.length_cons, List.length_nil, List.cons_append, List.nil_append, List.replicate, Nat.reduceAdd, Nat.reduceSub, List.getElem?_cons_zero, List.getElem?_cons_succ, List.getElem?_nil, List.set_cons_zero, List.set_cons_succ, Option.bind_some, Option.map_some, Option.isSome_some, true_and, and_true, if_true, if_false, Bool.false_eq_true, reduceIte, Int.reduceBEq, Bool.not_true, Bool.not_false, List.nodup_cons, List.nodup_nil, List.not_mem_nil, not_false_eq_true, List.mem_cons, or_false, ↓opt_f, ↓optF_some, ↓ite_cd, ↓cd_true, ↓cd_false, ↓forL_f, ↓lcL_f, ↓dcL_f, ↓noEr_run, ↓w_frz, ↓getW_own, ↓dListRg1, ↓dIndex, ↓dCKw, ↓dMake, ↓dList, seq_lst, seq_tup, kwP1, kwP10, beq_self_eq_true, ↓dEqO, ↓dBinO, ↓dNev, tyV_dct, tyV_ins, kno_dct, clV_ptr, kit_sameR, nf_same, nf_none, nf_int, nf_bool, nf_str, nf_lst, nf_tup, nf_dct, ↓dLenO, eq_bl, ne_bl, ↓hot_run, ↓w_try, ↓w_try0, ↓erH_cons, ↓erH_nil, ↓shutD_mk, x1_mk, x2_mk, ↓w_rz, ↓dXf, ↓dIsX, ↓dBinS, Nat.reduceLT, io_Lift]; exact h) (kn_dd A 3 (by decide)) (ty_dd A 3 (by decide)) (other A fx 2 3 (by decide) (by decide) (by decide)).2 false (fun Q h => eq_odd A 2 (by decide) (kn_dd A 3 (by decide)) (ty_dd A 3 (by decide)) (other A fx 2 3 (by decide) (by decide) (by decide)).1 h) ?_
    simp -implicitDefEqProofs -dsimp only [idd_eq, Nat.reduceEqDiff, ↓w_seq, ↓w_if, ↓dTest, ↓dOp, ↓dUn, ↓w_var, ↓getS_val, ↓getS_own, ↓getS_par, ↓dC, rd_val, rd_bor, ownD_own, ownD_par, rds_nil, rds_cons, ↓w_asg, ↓dCB, ↓dCons, ↓dNil, ↓dgName, ↓dgTup, ↓dgCons, ↓dgNil, ↓w_setIx, ↓w_ret, ↓w_retF, ↓w_retN, ↓w_next, ↓w_drop, ↓w_own, ↓w_brk, ↓w_cnt, ↓w_setF, ↓w_dput, ↓w_body, ↓dN, ↓dCall, ↓dCallF, argsOf_nil, argsOf_val, argsOf_bor, bors, ↓dV, ↓dTup, ↓dLst, vals_nil, vals_val, ↓w_par, ↓w_par3, ↓w_parVO, ↓w_parOV, ↓w_parOO, ↓dTruth, ↓dIsi, ↓dIsiT, ↓dInO, insOf_ins, ↓dDNew, ↓dDGet, ↓dDIn, toTup_lst, toTup_tup, pf_nil, lk_self, key_str, key_int, isN_non, isNN_non, kno_int, kno_str, kno_lst, kno_tup, kno_bl, kno_non, tyV_int, tyV_bl, tyV_str, tyV_lst, tyV_tup, tyV_non, clV_ty, clVT_nil, clVT_val, kit_same, kit_int_bool, kit_bool_int, kits_list, kits_tuple, ↓dNot, ↓dAnd, ↓dOr, ↓dIf, ↓dAndV, ↓dOrV, ↓dNotV, ↓dChain, ↓dMeth, ↓dMethF, ↓dKw, ↓dSl, ↓dNoP, ↓dPart, ↓w_for, diRng1, diRng2, diRevR1, diEnumX, diAny, items_lst, items_tup, ↓dLc, ↓dDc, ↓dFld, ownAt_def, setD, Sl.setD, isPar0, isParS, isPN, isP_val, isP_own, isP_no, isP_par, ↓doF, outs_nil, outs_cons, parD_par, parIx, putOuts, wipeD, ↓dBodyF, ↓dAppend, D.isLst, cmp_int, bool_bl, toInt_int, toInt_bl, truth_bl, truth_int, truth_non, len_lst, len_tup, D_add, D_sub, D_mod, eq_int, ne_int, neg_int, ix0, ix1, ix2, ix3, ix4, tx0, tx1, tx2, sx0, sx1, sx2, List.length_cons, List.length_nil, List.cons_append, List.nil_append, List.replicate, Nat.reduceAdd, Nat.reduceSub, List.getElem?_cons_zero, List.getElem?_cons_succ, List.getElem?_nil, List.set_cons_zero, List.set_cons_succ, Option.bind_some, Option.map_some, Option.isSome_some, true_and, and_true, if_true, if_false, Bool.false_eq_true, reduceIte, Int.reduceBEq, Bool.not_true, Bool.not_false, List.nodup_cons, List.nodup_nil, List.not_mem_nil, not_false_eq_true, List.mem_cons, or_false, ↓opt_f, ↓optF_some, ↓ite_cd, ↓cd_true, ↓cd_false, ↓forL_f, ↓lcL_f, ↓dcL_f, ↓noEr_run, ↓w_frz, ↓getW_own, ↓dListRg1, ↓dIndex, ↓dCKw, ↓dMake, ↓dList, seq_lst, seq_tup, kwP1, kwP10, beq_self_eq_true, ↓dEqO, ↓dBinO, ↓dNev, tyV_dct, tyV_ins, kno_dct, clV_ptr, kit_sameR, nf_same, nf_none, nf_int, nf_bool, nf_str, nf_lst, nf_tup, nf_dct, ↓dLenO, eq_bl, ne_bl, ↓hot_run, ↓w_try, ↓w_try0, ↓erH_cons, ↓erH_nil, ↓shutD_mk, x1_mk, x2_mk, ↓w_rz, ↓dXf, ↓dIsX, ↓dBinS, Nat.reduceLT, p2, p3, p4, p5, p6, p7, p8, p9, p10, p11, p12, p13, p14, p15]
    refine eqm_go A (k := 2) (f0 := .str (PySem.Str.ofString "a")) (f1 := .str (PySem.Str.ofString "a")) (f2 := .str (PySem.Str.ofString "a")) (f3 := .str (PySem.Str.ofString "a")) (f4 := .str (PySem.Str.ofString "a")) (by decide) (x := dd A 2 (.str (PySem.Str.ofString "a")) (.str (PySem.Str.ofString "a")) (.str (PySem.Str.ofString "a")) (.str (PySem.Str.ofString "a")) (.str (PySem.Str.ofString "a"))) (fun Q h => by simp -implicitDefEqProofs -dsimp only [idd_eq, Nat.reduceEqDiff, ↓w_seq, ↓w_if, ↓dTest, ↓dOp, ↓dUn, ↓w_var, ↓getS_val, ↓getS_own, ↓getS_par, ↓dC, rd_val, rd_bor, ownD_own, ownD_par, rds_nil, rds_cons, ↓w_asg, ↓dCB, ↓dCons, ↓dNil, ↓dgName, ↓dgTup, ↓dgCons, ↓dgNil, ↓w_setIx, ↓w_ret, ↓w_retF, ↓w_retN, ↓w_next, ↓w_drop, ↓w_own, ↓w_brk, ↓w_cnt, ↓w_setF, ↓w_dput, ↓w_body, ↓dN, ↓dCall, ↓dCallF, argsOf_nil, argsOf_val, argsOf_bor, bors, ↓dV, ↓dTup, ↓dLst, vals_nil, vals_val, ↓w_par, ↓w_par3, ↓w_parVO, ↓w_parOV, ↓w_parOO, ↓dTruth, ↓dIsi, ↓dIsiT, ↓dInO, insOf_ins, ↓dDNew, ↓dDGet, ↓dDIn, toTup_lst, toTup_tup, pf_nil, lk_self, key_str, key_int, isN_non, isNN_non, kno_int, kno_str, kno_lst, kno_tup, kno_bl, kno_non, tyV_int, tyV_bl, tyV_str, tyV_lst, tyV_tup, tyV_non, clV_ty, clVT_nil, clVT_val, kit_same, kit_int_bool, kit_bool_int, kits_list, kits_tuple, ↓dNot, ↓dAnd, ↓dOr, ↓dIf, ↓dAndV, ↓dOrV, ↓dNotV, ↓dChain, ↓dMeth, ↓dMethF, ↓dKw, ↓dSl, ↓dNoP, ↓dPart, ↓w_for, diRng1, diRng2, diRevR1, diEnumX, diAny, items_lst, items_tup, ↓dLc, ↓dDc, ↓dFld, ownAt_def, setD, Sl.setD, isPar0, isParS, isPN, isP_val, isP_own, isP_no, isP_par, ↓doF, outs_nil, outs_cons, parD_par, parIx, putOuts, wipeD, ↓dBodyF, ↓dAppend, D.isLst, cmp_int, bool_bl, toInt_int, toInt_bl, truth_bl, truth_int, truth_non, len_lst, len_tup, D_add, D_sub, D_mod, eq_int, ne_int, neg_int, ix0, ix1, ix2, ix3, ix4, tx0, tx1, tx2, sx0, sx1, sx2, List.length_cons, List.length_nil, List.cons_append, List.nil_append, List.replicate, Nat.reduceAdd, Nat.reduceSub, List.getElem?_cons_zero, List.getElem?_cons_succ, List.getElem?_nil, List.set_cons_zero, List.set_cons_succ, Option.bind_some, Option.map_some, Option.isSome_some, true_and, and_true, if_true, if_false, Bool.false_eq_true, reduceIte, Int.reduceBEq, Bool.not_true, Bool.not_false, List.nodup_cons, List.nodup_nil, List.not_mem_nil, not_false_eq_true, List.mem_cons, or_false, ↓opt_f, ↓optF_some, ↓ite_cd, ↓cd_true, ↓cd_false, ↓forL_f, ↓lcL_f, ↓dcL_f, ↓noEr_run, ↓w_frz, ↓getW_own, ↓dListRg1, ↓dIndex, ↓dCKw, ↓dMake, ↓dList, seq_lst, seq_tup, kwP1, kwP10, beq_self_eq_true, ↓dEqO, ↓dBinO, ↓dNev, tyV_dct, tyV_ins, kno_dct, clV_ptr, kit_sameR, nf_same, nf_none, nf_int, nf_bool, nf_str, nf_lst, nf_tup, nf_dct, ↓dLenO, eq_bl, ne_bl, ↓hot_run, ↓w_try, ↓w_try0, ↓erH_cons, ↓erH_nil, ↓shutD_mk, x1_mk, x2_mk, ↓w_rz, ↓dXf, ↓dIsX, ↓dBinS, Nat.reduceLT, io_Cut]; refine mk_Cut A ?_; simp -implicitDefEqProofs -dsimp only [idd_eq, Nat.reduceEqDiff, ↓w_seq, ↓w_if, ↓dTest, ↓dOp, ↓dUn, ↓w_var, ↓getS_val, ↓getS_own, ↓getS_par, ↓dC, rd_val, rd_bor, ownD_own, ownD_par, rds_nil, rds_cons, ↓w_asg, ↓dCB, ↓dCons, ↓dNil, ↓dgName, ↓dgTup, ↓dgCons, ↓dgNil, ↓w_setIx, ↓w_ret, ↓w_retF, ↓w_retN, ↓w_next, ↓w_drop, ↓w_own, ↓w_brk, ↓w_cnt, ↓w_setF, ↓w_dput, ↓w_body, ↓dN, ↓dCall, ↓dCallF, argsOf_nil, argsOf_val, argsOf_bor, bors, ↓dV, ↓dTup, ↓dLst, vals_nil, vals_val, ↓w_par, ↓w_par3, ↓w_parVO, ↓w_parOV, ↓w_parOO, ↓dTruth, ↓dIsi, ↓dIsiT, ↓dInO, insOf_ins, ↓dDNew, ↓dDGet, ↓dDIn, toTup_lst, toTup_tup, pf_nil, lk_self, key_str, key_int, isN_non, isNN_non, kno_int, kno_str, kno_lst, kno_tup, kno_bl, kno_non, tyV_int, tyV_bl, tyV_str, tyV_lst, tyV_tup, tyV_non, clV_ty, clVT_nil, clVT_val, kit_same, kit_int_bool, kit_bool_int, kits_list, kits_tuple, ↓dNot, ↓dAnd, ↓dOr, ↓dIf, ↓dAndV, ↓dOrV, ↓dNotV, ↓dChain, ↓dMeth, ↓dMethF, ↓dKw, ↓dSl, ↓dNoP, ↓dPart, ↓w_for, diRng1, diRng2, diRevR1, diEnumX, diAny, items_lst, items_tup, ↓dLc, ↓dDc, ↓dFld, ownAt_def, setD, Sl.setD, isPar0, isParS, isPN, isP_val, isP_own, isP_no, isP_par, ↓doF, outs_nil, outs_cons, parD_par, parIx, putOuts, wipeD, ↓dBodyF, ↓dAppend, D.isLst, cmp_int, bool_bl, toInt_int, toInt_bl, truth_bl, truth_int, truth_non, len_lst, len_tup, D_add, D_sub, D_mod, eq_int, ne_int, neg_int, ix0, ix1, ix2, ix3, ix4, tx0, tx1, tx2, sx0, sx1, sx2, List.length_cons, List.length_nil, List.cons_append, List.nil_append, List.replicate, Nat.reduceAdd, Nat.reduceSub, List.getElem?_cons_zero, List.getElem?_cons_succ, List.getElem?_nil, List.set_cons_zero, List.set_cons_succ, Option.bind_some, Option.map_some, Option.isSome_some, true_and, and_true, if_true, if_false, Bool.false_eq_true, reduceIte, Int.reduceBEq, Bool.not_true, Bool.not_false, List.nodup_cons, List.nodup_nil, List.not_mem_nil, not_false_eq_true, List.mem_cons, or_false, ↓opt_f, ↓optF_some, ↓ite_cd, ↓cd_true, ↓cd_false, ↓forL_f, ↓lcL_f, ↓dcL_f, ↓noEr_run, ↓w_frz, ↓getW_own, ↓dListRg1, ↓dIndex, ↓dCKw, ↓dMake, ↓dList, seq_lst, seq_tup, kwP1, kwP10, beq_self_eq_true, ↓dEqO, ↓dBinO, ↓dNev, tyV_dct, tyV_ins, kno_dct, clV_ptr, kit_sameR, nf_same, nf_none, nf_int, nf_bool, nf_str, nf_lst, nf_tup, nf_dct, ↓dLenO, eq_bl, ne_bl, ↓hot_run, ↓w_try, ↓w_try0, ↓erH_cons, ↓erH_nil, ↓shutD_mk, x1_mk, x2_mk, ↓w_rz, ↓dXf, ↓dIsX, ↓dBinS, Nat.reduceLT, io_Cut]; exact h) (fun Q h => by simp -implicitDefEqProofs -dsimp only [idd_eq, Nat.reduceEqDiff, ↓w_seq, ↓w_if, ↓dTest, ↓dOp, ↓dUn, ↓w_var, ↓getS_val, ↓getS_own, ↓getS_par, ↓dC, rd_val, rd_bor, ownD_own, ownD_par, rds_nil, rds_cons, ↓w_asg, ↓dCB, ↓dCons, ↓dNil, ↓dgName, ↓dgTup, ↓dgCons, ↓dgNil, ↓w_setIx, ↓w_ret, ↓w_retF, ↓w_retN, ↓w_next, ↓w_drop, ↓w_own, ↓w_brk, ↓w_cnt, ↓w_setF, ↓w_dput, ↓w_body, ↓dN, ↓dCall, ↓dCallF, argsOf_nil, argsOf_val, argsOf_bor, bors, ↓dV, ↓dTup, ↓dLst, vals_nil, vals_val, ↓w_par, ↓w_par3, ↓w_parVO, ↓w_parOV, ↓w_parOO, ↓dTruth, ↓dIsi, ↓dIsiT, ↓dInO, insOf_ins, ↓dDNew, ↓dDGet, ↓dDIn, toTup_lst, toTup_tup, pf_nil, lk_self, key_str, key_int, isN_non, isNN_non, kno_int, kno_str, kno_lst, kno_tup, kno_bl, kno_non, tyV_int, tyV_bl, tyV_str, tyV_lst, tyV_tup, tyV_non, clV_ty, clVT_nil, clVT_val, kit_same, kit_int_bool, kit_bool_int, kits_list, kits_tuple, ↓dNot, ↓dAnd, ↓dOr, ↓dIf, ↓dAndV, ↓dOrV, ↓dNotV, ↓dChain, ↓dMeth, ↓dMethF, ↓dKw, ↓dSl, ↓dNoP, ↓dPart, ↓w_for, diRng1, diRng2, diRevR1, diEnumX, diAny, items_lst, items_tup, ↓dLc, ↓dDc, ↓dFld, ownAt_def, setD, Sl.setD, isPar0, isParS, isPN, isP_val, isP_own, isP_no, isP_par, ↓doF, outs_nil, outs_cons, parD_par, parIx, putOuts, wipeD, ↓dBodyF, ↓dAppend, D.isLst, cmp_int, bool_bl, toInt_int, toInt_bl, truth_bl, truth_int, truth_non, len_lst, len_tup, D_add, D_sub, D_mod, eq_int, ne_int, neg_int, ix0, ix1, ix2, ix3, ix4, tx0, tx1, tx2, sx0, sx1, sx2, List.length_cons, List.length_nil, List.cons_append, List.nil_append, List.replicate, Nat.reduceAdd, Nat.reduceSub, List.getElem?_cons_zero, List.getElem?_cons_succ, List.getElem?_nil, List.set_cons_zero, List.set_cons_succ, Option.bind_some, Option.map_some, Option.isSome_some, true_and, and_true, if_true, if_false, Bool.false_eq_true, reduceIte, Int.reduceBEq, Bool.not_true, Bool.not_false, List.nodup_cons, List.nodup_nil, List.not_mem_nil, not_false_eq_true, List.mem_cons, or_false, ↓opt_f, ↓optF_some, ↓ite_cd, ↓cd_true, ↓cd_false, ↓forL_f, ↓lcL_f, ↓dcL_f, ↓noEr_run, ↓w_frz, ↓getW_own, ↓dListRg1, ↓dIndex, ↓dCKw, ↓dMake, ↓dList, seq_lst, seq_tup, kwP1, kwP10, beq_self_eq_true, ↓dEqO, ↓dBinO, ↓dNev, tyV_dct, tyV_ins, kno_dct, clV_ptr, kit_sameR, nf_same, nf_none, nf_int, nf_bool, nf_str, nf_lst, nf_tup, nf_dct, ↓dLenO, eq_bl, ne_bl, ↓hot_run, ↓w_try, ↓w_try0, ↓erH_cons, ↓erH_nil, ↓shutD_mk, x1_mk, x2_mk, ↓w_rz, ↓dXf, ↓dIsX, ↓dBinS, Nat.reduceLT, io_Cut]; refine mk_Cut A ?_; simp -implicitDefEqProofs -dsimp only [idd_eq, Nat.reduceEqDiff, ↓w_seq, ↓w_if, ↓dTest, ↓dOp, ↓dUn, ↓w_var, ↓getS_val, ↓getS_own, ↓getS_par, ↓dC, rd_val, rd_bor, ownD_own, ownD_par, rds_nil, rds_cons, ↓w_asg, ↓dCB, ↓dCons, ↓dNil, ↓dgName, ↓dgTup, ↓dgCons, ↓dgNil, ↓w_setIx, ↓w_ret, ↓w_retF, ↓w_retN, ↓w_next, ↓w_drop, ↓w_own, ↓w_brk, ↓w_cnt, ↓w_setF, ↓w_dput, ↓w_body, ↓dN, ↓dCall, ↓dCallF, argsOf_nil, argsOf_val, argsOf_bor, bors, ↓dV, ↓dTup, ↓dLst, vals_nil, vals_val, ↓w_par, ↓w_par3, ↓w_parVO, ↓w_parOV, ↓w_parOO, ↓dTruth, ↓dIsi, ↓dIsiT, ↓dInO, insOf_ins, ↓dDNew, ↓dDGet, ↓dDIn, toTup_lst, toTup_tup, pf_nil, lk_self, key_str, key_int, isN_non, isNN_non, kno_int, kno_str, kno_lst, kno_tup, kno_bl, kno_non, tyV_int, tyV_bl, tyV_str, tyV_lst, tyV_tup, tyV_non, clV_ty, clVT_nil, clVT_val, kit_same, kit_int_bool, kit_bool_int, kits_list, kits_tuple, ↓dNot, ↓dAnd, ↓dOr, ↓dIf, ↓dAndV, ↓dOrV, ↓dNotV, ↓dChain, ↓dMeth, ↓dMethF, ↓dKw, ↓dSl, ↓dNoP, ↓dPart, ↓w_for, diRng1, diRng2, diRevR1, diEnumX, diAny, items_lst, items_tup, ↓dLc, ↓dDc, ↓dFld, ownAt_def, setD, Sl.setD, isPar0, isParS, isPN, isP_val, isP_own, isP_no, isP_par, ↓doF, outs_nil, outs_cons, parD_par, parIx, putOuts, wipeD, ↓dBodyF, ↓dAppend, D.isLst, cmp_int, bool_bl, toInt_int, toInt_bl, truth_bl, truth_int, truth_non, len_lst, len_tup, D_add, D_sub, D_mod, eq_int, ne_int, neg_int, ix0, ix1, ix2, ix3, ix4, tx0, tx1, tx2, sx0, sx1, sx2, List.length_cons, List.length_nil, List.cons_append, List.nil_append, List.replicate, Nat.reduceAdd, Nat.reduceSub, List.getElem?_cons_zero, List.getElem?_cons_succ, List.getElem?_nil, List.set_cons_zero, List.set_cons_succ, Option.bind_some, Option.map_some, Option.isSome_some, true_and, and_true, if_true, if_false, Bool.false_eq_true, reduceIte, Int.reduceBEq, Bool.not_true, Bool.not_false, List.nodup_cons, List.nodup_nil, List.not_mem_nil, not_false_eq_true, List.mem_cons, or_false, ↓opt_f, ↓optF_some, ↓ite_cd, ↓cd_true, ↓cd_false, ↓forL_f, ↓lcL_f, ↓dcL_f, ↓noEr_run, ↓w_frz, ↓getW_own, ↓dListRg1, ↓dIndex, ↓dCKw, ↓dMake, ↓dList, seq_lst, seq_tup, kwP1, kwP10, beq_self_eq_true, ↓dEqO, ↓dBinO, ↓dNev, tyV_dct, tyV_ins, kno_dct, clV_ptr, kit_sameR, nf_same, nf_none, nf_int, nf_bool, nf_str, nf_lst, nf_tup, nf_dct, ↓dLenO, eq_bl, ne_bl, ↓hot_run, ↓w_try, ↓w_try0, ↓erH_cons, ↓erH_nil, ↓shutD_mk, x1_mk, x2_mk, ↓w_rz, ↓dXf, ↓dIsX, ↓dBinS, Nat.reduceLT, io_Cut]; exact h) (kn_dd A 2 (by decide)) (ty_dd A 2 (by decide)) (nf_same _ _) (deq 2 (.str (PySem.Str.ofString "a")) (.str (PySem.Str.ofString "a")) (.str (PySem.Str.ofString "a")) (.str (PySem.Str.ofString "a")) (.str (PySem.Str.ofString "a")) (.str (PySem.Str.ofString "a")) (.str (PySem.Str.ofString "a")) (.str (PySem.Str.ofString "a")) (.str (PySem.Str.ofString "a")) (.str (PySem.Str.ofString "a"))) (fun Q h => eq_same A 2 (by decide) fa fa h) ?_
    rw [r1]
    simp -implicitDefEqProofs -dsimp only [idd_eq, Nat.reduceEqDiff, ↓w_seq, ↓w_if, ↓dTest, ↓dOp, ↓dUn, ↓w_var, ↓getS_val, ↓getS_own, ↓getS_par, ↓dC, rd_val, rd_bor, ownD_own, ownD_par, rds_nil, rds_cons, ↓w_asg, ↓dCB, ↓dCons, ↓dNil, ↓dgName, ↓dgTup, ↓dgCons, ↓dgNil, ↓w_setIx, ↓w_ret, ↓w_retF, ↓w_retN, ↓w_next, ↓w_drop, ↓w_own, ↓w_brk, ↓w_cnt, ↓w_setF, ↓w_dput, ↓w_body, ↓dN, ↓dCall, ↓dCallF, argsOf_nil, argsOf_val, argsOf_bor, bors, ↓dV, ↓dTup, ↓dLst, vals_nil, vals_val, ↓w_par, ↓w_par3, ↓w_parVO, ↓w_parOV, ↓w_parOO, ↓dTruth, ↓dIsi, ↓dIsiT, ↓dInO, insOf_ins, ↓dDNew, ↓dDGet, ↓dDIn, toTup_lst, toTup_tup, pf_nil, lk_self, key_str, key_int, isN_non, isNN_non, kno_int, kno_str, kno_lst, kno_tup, kno_bl, kno_non, tyV_int, tyV_bl, tyV_str, tyV_lst, tyV_tup, tyV_non, clV_ty, clVT_nil, clVT_val, kit_same, kit_int_bool, kit_bool_int, kits_list, kits_tuple, ↓dNot, ↓dAnd, ↓dOr, ↓dIf, ↓dAndV, ↓dOrV, ↓dNotV, ↓dChain, ↓dMeth, ↓dMethF, ↓dKw, ↓dSl, ↓dNoP, ↓dPart, ↓w_for, diRng1, diRng2, diRevR1, diEnumX, diAny, items_lst, items_tup, ↓dLc, ↓dDc, ↓dFld, ownAt_def, setD, Sl.setD, isPar0, isParS, isPN, isP_val, isP_own, isP_no, isP_par, ↓doF, outs_nil, outs_cons, parD_par, parIx, putOuts, wipeD, ↓dBodyF, ↓dAppend, D.isLst, cmp_int, bool_bl, toInt_int, toInt_bl, truth_bl, truth_int, truth_non, len_lst, len_tup, D_add, D_sub, D_mod, eq_int, ne_int, neg_int, ix0, ix1, ix2, ix3, ix4, tx0, tx1, tx2, sx0, sx1, sx2, List.length_cons, List.length_nil, List.cons_append, List.nil_append, List.replicate, Nat.reduceAdd, Nat.reduceSub, List.getElem?_cons_zero, List.getElem?_cons_succ, List.getElem?_nil, List.set_cons_zero, List.set_cons_succ, Option.bind_some, Option.map_some, Option.isSome_some, true_and, and_true, if_true, if_false, Bool.false_eq_true, reduceIte, Int.reduceBEq, Bool.not_true, Bool.not_false, List.nodup_cons, List.nodup_nil, List.not_mem_nil, not_false_eq_true, List.mem_cons, or_false, ↓opt_f, ↓optF_some, ↓ite_cd, ↓cd_true, ↓cd_false, ↓forL_f, ↓lcL_f, ↓dcL_f, ↓noEr_run, ↓w_frz, ↓getW_own, ↓dListRg1, ↓dIndex, ↓dCKw, ↓dMake, ↓dList, seq_lst, seq_tup, kwP1, kwP10, beq_self_eq_true, ↓dEqO, ↓dBinO, ↓dNev, tyV_dct, tyV_ins, kno_dct, clV_ptr, kit_sameR, nf_same, nf_none, nf_int, nf_bool, nf_str, nf_lst, nf_tup, nf_dct, ↓dLenO, eq_bl, ne_bl, ↓hot_run, ↓w_try, ↓w_try0, ↓erH_cons, ↓erH_nil, ↓shutD_mk, x1_mk, x2_mk, ↓w_rz, ↓dXf, ↓dIsX, ↓dBinS, Nat.reduceLT, p2, p3, p4, p5, p6, p7, p8, p9, p10, p11, p12, p13, p14, p15]
    refine eqm_go A (k := 2) (f0 := .str (PySem.Str.ofString "a")) (f1 := .str (PySem.Str.ofString "a")) (f2 := .str (PySem.Str.ofString "a")) (f3 := .str (PySem.Str.ofString "a")) (f4 := .str (PySem.Str.ofString "a")) (by decide) (x := dd A 5 (.str (PySem.Str.ofString "a")) (.str (PySem.Str.ofString "a")) (.str (PySem.Str.ofString "a")) (.str (PySem.Str.ofString "a")) (.str (PySem.Str.ofString "a"))) (fun Q h => by simp -implicitDefEqProofs -dsimp only [idd_eq, Nat.reduceEqDiff, ↓w_seq, ↓w_if, ↓dTest, ↓dOp, ↓dUn, ↓w_var, ↓getS_val, ↓getS_own, ↓getS_par, ↓dC, rd_val, rd_bor, ownD_own, ownD_par, rds_nil, rds_cons, ↓w_asg, ↓dCB, ↓dCons, ↓dNil, ↓dgName, ↓dgTup, ↓dgCons, ↓dgNil, ↓w_setIx, ↓w_ret, ↓w_retF, ↓w_retN, ↓w_next, ↓w_drop, ↓w_own, ↓w_brk, ↓w_cnt, ↓w_setF, ↓w_dput, ↓w_body, ↓dN, ↓dCall, ↓dCallF, argsOf_nil, argsOf_val, argsOf_bor, bors, ↓dV, ↓dTup, ↓dLst, vals_nil, vals_val, ↓w_par, ↓w_par3, ↓w_parVO, ↓w_parOV, ↓w_parOO, ↓dTruth, ↓dIsi, ↓dIsiT, ↓dInO, insOf_ins, ↓dDNew, ↓dDGet, ↓dDIn, toTup_lst, toTup_tup, pf_nil, lk_self, key_str, key_int, isN_non, isNN_non, kno_int, kno_str, kno_lst, kno_tup, kno_bl, kno_non, tyV_int, tyV_bl, tyV_str, tyV_lst, tyV_tup, tyV_non, clV_ty, clVT_nil, clVT_val, kit_same, kit_int_bool, kit_bool_int, kits_list, kits_tuple, ↓dNot, ↓dAnd, ↓dOr, ↓dIf, ↓dAndV, ↓dOrV, ↓dNotV, ↓dChain, ↓dMeth, ↓dMethF, ↓dKw, ↓dSl, ↓dNoP, ↓dPart, ↓w_for, diRng1, diRng2, diRevR1, diEnumX, diAny, items_lst, items_tup, ↓dLc, ↓dDc, ↓dFld, ownAt_def, setD, Sl.setD, isPar0, isParS, isPN, isP_val, isP_own, isP_no, isP_par, ↓doF, outs_nil, outs_cons, parD_par, parIx, putOuts, wipeD, ↓dBodyF, ↓dAppend, D.isLst, cmp_int, bool_bl, toInt_int, toInt_bl, truth_bl, truth_int, truth_non, len_lst, len_tup, D_add, D_sub, D_mod, eq_int, ne_int, neg_int, ix0, ix1, ix2, ix3, ix4, tx0, tx1, tx2, sx0, sx1, sx2, List.length_cons, List.length_nil, List.cons_append, List.nil_append, List.replicate, Nat.reduceAdd, Nat.reduceSub, List.getElem?_cons_zero, List.getElem?_cons_succ, List.getElem?_nil, List.set_cons_zero, List.set_cons_succ, Option.bind_some, Option.map_some, Option.isSome_some, true_and, and_true, if_true, if_false, Bool.false_eq_true, reduceIte, Int.reduceBEq, Bool.not_true, Bool.not_false, List.nodup_cons, List.nodup_nil, List.not_mem_nil, not_false_eq_true, List.mem_cons, or_false, ↓opt_f, ↓optF_some, ↓ite_cd, ↓cd_true, ↓cd_false, ↓forL_f, ↓lcL_f, ↓dcL_f, ↓noEr_run, ↓w_frz, ↓getW_own, ↓dListRg1, ↓dIndex, ↓dCKw, ↓dMake, ↓dList, seq_lst, seq_tup, kwP1, kwP10, beq_self_eq_true, ↓dEqO, ↓dBinO, ↓dNev, tyV_dct, tyV_ins, kno_dct, clV_ptr, kit_sameR, nf_same, nf_none, nf_int, nf_bool, nf_str, nf_lst, nf_tup, nf_dct, ↓dLenO, eq_bl, ne_bl, ↓hot_run, ↓w_try, ↓w_try0, ↓erH_cons, ↓erH_nil, ↓shutD_mk, x1_mk, x2_mk, ↓w_rz, ↓dXf, ↓dIsX, ↓dBinS, Nat.reduceLT, io_Cut]; refine mk_Cut A ?_; simp -implicitDefEqProofs -dsimp only [idd_eq, Nat.reduceEqDiff, ↓w_seq, ↓w_if, ↓dTest, ↓dOp, ↓dUn, ↓w_var, ↓getS_val, ↓getS_own, ↓getS_par, ↓dC, rd_val, rd_bor, ownD_own, ownD_par, rds_nil, rds_cons, ↓w_asg, ↓dCB, ↓dCons, ↓dNil, ↓dgName, ↓dgTup, ↓dgCons, ↓dgNil, ↓w_setIx, ↓w_ret, ↓w_retF, ↓w_retN, ↓w_next, ↓w_drop, ↓w_own, ↓w_brk, ↓w_cnt, ↓w_setF, ↓w_dput, ↓w_body, ↓dN, ↓dCall, ↓dCallF, argsOf_nil, argsOf_val, argsOf_bor, bors, ↓dV, ↓dTup, ↓dLst, vals_nil, vals_val, ↓w_par, ↓w_par3, ↓w_parVO, ↓w_parOV, ↓w_parOO, ↓dTruth, ↓dIsi, ↓dIsiT, ↓dInO, insOf_ins, ↓dDNew, ↓dDGet, ↓dDIn, toTup_lst, toTup_tup, pf_nil, lk_self, key_str, key_int, isN_non, isNN_non, kno_int, kno_str, kno_lst, kno_tup, kno_bl, kno_non, tyV_int, tyV_bl, tyV_str, tyV_lst, tyV_tup, tyV_non, clV_ty, clVT_nil, clVT_val, kit_same, kit_int_bool, kit_bool_int, kits_list, kits_tuple, ↓dNot, ↓dAnd, ↓dOr, ↓dIf, ↓dAndV, ↓dOrV, ↓dNotV, ↓dChain, ↓dMeth, ↓dMethF, ↓dKw, ↓dSl, ↓dNoP, ↓dPart, ↓w_for, diRng1, diRng2, diRevR1, diEnumX, diAny, items_lst, items_tup, ↓dLc, ↓dDc, ↓dFld, ownAt_def, setD, Sl.setD, isPar0, isParS, isPN, isP_val, isP_own, isP_no, isP_par, ↓doF, outs_nil, outs_cons, parD_par, parIx, putOuts, wipeD, ↓dBodyF, ↓dAppend, D.isLst, cmp_int, bool_bl, toInt_int, toInt_bl, truth_bl, truth_int, truth_non, len_lst, len_tup, D_add, D_sub, D_mod, eq_int, ne_int, neg_int, ix0, ix1, ix2, ix3, ix4, tx0, tx1, tx2, sx0, sx1, sx2, List.length_cons, List.length_nil, List.cons_append, List.nil_append, List.replicate, Nat.reduceAdd, Nat.reduceSub, List.getElem?_cons_zero, List.getElem?_cons_succ, List.getElem?_nil, List.set_cons_zero, List.set_cons_succ, Option.bind_some, Option.map_some, Option.isSome_some, true_and, and_true, if_true, if_false, Bool.false_eq_true, reduceIte, Int.reduceBEq, Bool.not_true, Bool.not_false, List.nodup_cons, List.nodup_nil, List.not_mem_nil, not_false_eq_true, List.mem_cons, or_false, ↓opt_f, ↓optF_some, ↓ite_cd, ↓cd_true, ↓cd_false, ↓forL_f, ↓lcL_f, ↓dcL_f, ↓noEr_run, ↓w_frz, ↓getW_own, ↓dListRg1, ↓dIndex, ↓dCKw, ↓dMake, ↓dList, seq_lst, seq_tup, kwP1, kwP10, beq_self_eq_true, ↓dEqO, ↓dBinO, ↓dNev, tyV_dct, tyV_ins, kno_dct, clV_ptr, kit_sameR, nf_same, nf_none, nf_int, nf_bool, nf_str, nf_lst, nf_tup, nf_dct, ↓dLenO, eq_bl, ne_bl, ↓hot_run, ↓w_try, ↓w_try0, ↓erH_cons, ↓erH_nil, ↓shutD_mk, x1_mk, x2_mk, ↓w_rz, ↓dXf, ↓dIsX, ↓dBinS, Nat.reduceLT, io_Cut]; exact h) (fun Q h => by simp -implicitDefEqProofs -dsimp only [idd_eq, Nat.reduceEqDiff, ↓w_seq, ↓w_if, ↓dTest, ↓dOp, ↓dUn, ↓w_var, ↓getS_val, ↓getS_own, ↓getS_par, ↓dC, rd_val, rd_bor, ownD_own, ownD_par, rds_nil, rds_cons, ↓w_asg, ↓dCB, ↓dCons, ↓dNil, ↓dgName, ↓dgTup, ↓dgCons, ↓dgNil, ↓w_setIx, ↓w_ret, ↓w_retF, ↓w_retN, ↓w_next, ↓w_drop, ↓w_own, ↓w_brk, ↓w_cnt, ↓w_setF, ↓w_dput, ↓w_body, ↓dN, ↓dCall, ↓dCallF, argsOf_nil, argsOf_val, argsOf_bor, bors, ↓dV, ↓dTup, ↓dLst, vals_nil, vals_val, ↓w_par, ↓w_par3, ↓w_parVO, ↓w_parOV, ↓w_parOO, ↓dTruth, ↓dIsi, ↓dIsiT, ↓dInO, insOf_ins, ↓dDNew, ↓dDGet, ↓dDIn, toTup_lst, toTup_tup, pf_nil, lk_self, key_str, key_int, isN_non, isNN_non, kno_int, kno_str, kno_lst, kno_tup, kno_bl, kno_non, tyV_int, tyV_bl, tyV_str, tyV_lst, tyV_tup, tyV_non, clV_ty, clVT_nil, clVT_val, kit_same, kit_int_bool, kit_bool_int, kits_list, kits_tuple, ↓dNot, ↓dAnd, ↓dOr, ↓dIf, ↓dAndV, ↓dOrV, ↓dNotV, ↓dChain, ↓dMeth, ↓dMethF, ↓dKw, ↓dSl, ↓dNoP, ↓dPart, ↓w_for, diRng1, diRng2, diRevR1, diEnumX, diAny, items_lst, items_tup, ↓dLc, ↓dDc, ↓dFld, ownAt_def, setD, Sl.setD, isPar0, isParS, isPN, isP_val, isP_own, isP_no, isP_par, ↓doF, outs_nil, outs_cons, parD_par, parIx, putOuts, wipeD, ↓dBodyF, ↓dAppend, D.isLst, cmp_int, bool_bl, toInt_int, toInt_bl, truth_bl, truth_int, truth_non, len_lst, len_tup, D_add, D_sub, D_mod, eq_int, ne_int, neg_int, ix0, ix1, ix2, ix3, ix4, tx0, tx1, tx2, sx0, sx1, sx2, List.length_cons, List.length_nil, List.cons_append, List.nil_append, List.replicate, Nat.reduceAdd, Nat.reduceSub, List.getElem?_cons_zero, List.getElem?_cons_succ, List.getElem?_nil, List.set_cons_zero, List.set_cons_succ, Option.bind_some, Option.map_some, Option.isSome_some, true_and, and_true, if_true, if_false, Bool.false_eq_true, reduceIte, Int.reduceBEq, Bool.not_true, Bool.not_false, List.nodup_cons, List.nodup_nil, List.not_mem_nil, not_false_eq_true, List.mem_cons, or_false, ↓opt_f, ↓optF_some, ↓ite_cd, ↓cd_true, ↓cd_false, ↓forL_f, ↓lcL_f, ↓dcL_f, ↓noEr_run, ↓w_frz, ↓getW_own, ↓dListRg1, ↓dIndex, ↓dCKw, ↓dMake, ↓dList, seq_lst, seq_tup, kwP1, kwP10, beq_self_eq_true, ↓dEqO, ↓dBinO, ↓dNev, tyV_dct, tyV_ins, kno_dct, clV_ptr, kit_sameR, nf_same, nf_none, nf_int, nf_bool, nf_str, nf_lst, nf_tup, nf_dct, ↓dLenO, eq_bl, ne_bl, ↓hot_run, ↓w_try, ↓w_try0, ↓erH_cons, ↓erH_nil, ↓shutD_mk, x1_mk, x2_mk, ↓w_rz, ↓dXf, ↓dIsX, ↓dBinS, Nat.reduceLT, io_Reverse]; refine mk_Reverse A ?_; simp -implicitDefEqProofs -dsimp only [idd_eq, Nat.reduceEqDiff, ↓w_seq, ↓w_if, ↓dTest, ↓dOp, ↓dUn, ↓w_var, ↓getS_val, ↓getS_own, ↓getS_par, ↓dC, rd_val, rd_bor, ownD_own, ownD_par, rds_nil, rds_cons, ↓w_asg, ↓dCB, ↓dCons, ↓dNil, ↓dgName, ↓dgTup, ↓dgCons, ↓dgNil, ↓w_setIx, ↓w_ret, ↓w_retF, ↓w_retN, ↓w_next, ↓w_drop, ↓w_own, ↓w_brk, ↓w_cnt, ↓w_setF, ↓w_dput, ↓w_body, ↓dN, ↓dCall, ↓dCallF, argsOf_nil, argsOf_val, argsOf_bor, bors, ↓dV, ↓dTup, ↓dLst, vals_nil, vals_val, ↓w_par, ↓w_par3, ↓w_parVO, ↓w_parOV, ↓w_parOO, ↓dTruth, ↓dIsi, ↓dIsiT, ↓dInO, insOf_ins, ↓dDNew, ↓dDGet, ↓dDIn, toTup_lst, toTup_tup, pf_nil, lk_self, key_str, key_int, isN_non, isNN_non, kno_int, kno_str, kno_lst, kno_tup, kno_bl, kno_non, tyV_int, tyV_bl, tyV_str, tyV_lst, tyV_tup, tyV_non, clV_ty, clVT_nil, clVT_val, kit_same, kit_int_bool, kit_bool_int, kits_list, kits_tuple, ↓dNot, ↓dAnd, ↓dOr, ↓dIf, ↓dAndV, ↓dOrV, ↓dNotV, ↓dChain, ↓dMeth, ↓dMethF, ↓dKw, ↓dSl, ↓dNoP, ↓dPart, ↓w_for, diRng1, diRng2, diRevR1, diEnumX, diAny, items_lst, items_tup, ↓dLc, ↓dDc, ↓dFld, ownAt_def, setD, Sl.setD, isPar0, isParS, isPN, isP_val, isP_own, isP_no, isP_par, ↓doF, outs_nil, outs_cons, parD_par, parIx, putOuts, wipeD, ↓dBodyF, ↓dAppend, D.isLst, cmp_int, bool_bl, toInt_int, toInt_bl, truth_bl, truth_int, truth_non, len_lst, len_tup, D_add, D_sub, D_mod, eq_int, ne_int, neg_int, ix0, ix1, ix2, ix3, ix4, tx0, tx1, tx2, sx0, sx1, sx2, List.length_cons, List.length_nil, List.cons_append, List.nil_append, List.replicate, Nat.reduceAdd, Nat.reduceSub, List.getElem?_cons_zero, List.getElem?_cons_succ, List.getElem?_nil, List.set_cons_zero, List.set_cons_succ, Option.bind_some, Option.map_some, Option.isSome_some, true_and, and_true, if_true, if_false, Bool.false_eq_true, reduceIte, Int.reduceBEq, Bool.not_true, Bool.not_false, List.nodup_cons, List.nodup_nil, List.not_mem_nil, not_false_eq_true, List.mem_cons, or_false, ↓opt_f, ↓optF_some, ↓ite_cd, ↓cd_true, ↓cd_false, ↓forL_f, ↓lcL_f, ↓dcL_f, ↓noEr_run, ↓w_frz, ↓getW_own, ↓dListRg1, ↓dIndex, ↓dCKw, ↓dMake, ↓dList, seq_lst, seq_tup, kwP1, kwP10, beq_self_eq_true, ↓dEqO, ↓dBinO, ↓dNev, tyV_dct, tyV_ins, kno_dct, clV_ptr, kit_sameR, nf_same, nf_none, nf_int, nf_bool, nf_str, nf_lst, nf_tup, nf_dct, ↓dLenO, eq_bl, ne_bl, ↓hot_run, ↓w_try, ↓w_try0, ↓erH_cons, ↓erH_nil, ↓shutD_mk, x1_mk, x2_mk, ↓w_rz, ↓dXf, ↓dIsX, ↓dBinS, Nat.reduceLT, io_Reverse]; exact h) (kn_dd A 5 (by decide)) (ty_dd A 5 (by decide)) (other A fx 2 5 (by decide) (by decide) (by decide)).2 false (fun Q h => eq_odd A 2 (by decide) (kn_dd A 5 (by decide)) (ty_dd A 5 (by decide)) (other A fx 2 5 (by decide) (by decide) (by decide)).1 h) ?_
    simp -implicitDefEqProofs -dsimp only [idd_eq, Nat.reduceEqDiff, ↓w_seq, ↓w_if, ↓dTest, ↓dOp, ↓dUn, ↓w_var, ↓getS_val, ↓getS_own, ↓getS_par, ↓dC, rd_val, rd_bor, ownD_own, ownD_par, rds_nil, rds_cons, ↓w_asg, ↓dCB, ↓dCons, ↓dNil, ↓dgName, ↓dgTup, ↓dgCons, ↓dgNil, ↓w_setIx, ↓w_ret, ↓w_retF, ↓w_retN, ↓w_next, ↓w_drop, ↓w_own, ↓w_brk, ↓w_cnt, ↓w_setF, ↓w_dput, ↓w_body, ↓dN, ↓dCall, ↓dCallF, argsOf_nil, argsOf_val, argsOf_bor, bors, ↓dV, ↓dTup, ↓dLst, vals_nil, vals_val, ↓w_par, ↓w_par3, ↓w_parVO, ↓w_parOV, ↓w_parOO, ↓dTruth, ↓dIsi, ↓dIsiT, ↓dInO, insOf_ins, ↓dDNew, ↓dDGet, ↓dDIn, toTup_lst, toTup_tup, pf_nil, lk_self, key_str, key_int, isN_non, isNN_non, kno_int, kno_str, kno_lst, kno_tup, kno_bl, kno_non, tyV_int, tyV_bl, tyV_str, tyV_lst, tyV_tup, tyV_non, clV_ty, clVT_nil, clVT_val, kit_same, kit_int_bool, kit_bool_int, kits_list, kits_tuple, ↓dNot, ↓dAnd, ↓dOr, ↓dIf, ↓dAndV, ↓dOrV, ↓dNotV, ↓dChain, ↓dMeth, ↓dMethF, ↓dKw, ↓dSl, ↓dNoP, ↓dPart, ↓w_for, diRng1, diRng2, diRevR1, diEnumX, diAny, items_lst, items_tup, ↓dLc, ↓dDc, ↓dFld, ownAt_def, setD, Sl.setD, isPar0, isParS, isPN, isP_val, isP_own, isP_no, isP_par, ↓doF, outs_nil, outs_cons, parD_par, parIx, putOuts, wipeD, ↓dBodyF, ↓dAppend, D.isLst, cmp_int, bool_bl, toInt_int, toInt_bl, truth_bl, truth_int, truth_non, len_lst, len_tup, D_add, D_sub, D_mod, eq_int, ne_int, neg_int, ix0, ix1, ix2, ix3, ix4, tx0, tx1, tx2, sx0, sx1, sx2, List.length_cons, List.length_nil, List.cons_append, List.nil_append, List.replicate, Nat.reduceAdd, Nat.reduceSub, List.getElem?_cons_zero, List.getElem?_cons_succ, List.getElem?_nil, List.set_cons_zero, List.set_cons_succ, Option.bind_some, Option.map_some, Option.isSome_some, true_and, and_true, if_true, if_false, Bool.false_eq_true, reduceIte, Int.reduceBEq, Bool.not_true, Bool.not_false, List.nodup_cons, List.nodup_nil, List.not_mem_nil, not_false_eq_true, List.mem_cons, or_false, ↓opt_f, ↓optF_some, ↓ite_cd, ↓cd_true, ↓cd_false, ↓forL_f, ↓lcL_f, ↓dcL_f, ↓noEr_run, ↓w_frz, ↓getW_own, ↓dListRg1, ↓dIndex, ↓dCKw, ↓dMake, ↓dList, seq_lst, seq_tup, kwP1, kwP10, beq_self_eq_true, ↓dEqO, ↓dBinO, ↓dNev, tyV_dct, tyV_ins, kno_dct, clV_ptr, kit_sameR, nf_same, nf_none, nf_int, nf_bool, nf_str, nf_lst, nf_tup, nf_dct, ↓dLenO, eq_bl, ne_bl, ↓hot_run, ↓w_try, ↓w_try0, ↓erH_cons, ↓erH_nil, ↓shutD_mk, x1_mk, x2_mk, ↓w_rz, ↓dXf, ↓dIsX, ↓dBinS, Nat.reduceLT, p2, p3, p4, p5, p6, p7, p8, p9, p10, p11, p12, p13, p14, p15]
end My
set_option autoImplicit false
set_option Elab.async false
set_option linter.all false
set_option maxRecDepth 100000
set_option maxHeartbeats 2000000
namespace My
open PySem L2 Evl ClX DL
section
variable {w : World} {K : PySem.W.Frag} {h : Heap} {mg : Str → Option Value}
theorem all_mk {fa : Addr} (X : K.In h) (G : h.Ns mainGlobals mg) (hfa : mg "law" = some (.ref fa)) {c_Cut c_Lift c_Move c_Put c_Reverse c_SetValue c_Wrap a_Put_init a_Put_eq a_Move_init a_Move_eq a_Cut_init a_Cut_eq a_Lift_init a_Lift_eq a_Wrap_init a_Wrap_eq a_Reverse_init a_Reverse_eq a_SetValue_init a_SetValue_eq a_p_law_well a_p_law_draw a_p_law_one a_p_law_field a_p_law_deed a_p_law_named a_p_law_told a_law : Addr} {od_Put_init an_Put_init od_Put_eq an_Put_eq od_Move_init an_Move_init od_Move_eq an_Move_eq od_Cut_init an_Cut_init od_Cut_eq an_Cut_eq od_Lift_init an_Lift_init od_Lift_eq an_Lift_eq od_Wrap_init an_Wrap_init od_Wrap_eq an_Wrap_eq od_Reverse_init an_Reverse_init od_Reverse_eq an_Reverse_eq od_SetValue_init an_SetValue_init od_SetValue_eq an_SetValue_eq od_p_law_well an_p_law_well od_p_law_draw an_p_law_draw od_p_law_one an_p_law_one od_p_law_field an_p_law_field od_p_law_deed an_p_law_deed od_p_law_named an_p_law_named od_p_law_told an_p_law_told od_law an_law : Option Addr} {sl_Put_init sl_Put_eq sl_Move_init sl_Move_eq sl_Cut_init sl_Cut_eq sl_Lift_init sl_Lift_eq sl_Wrap_init sl_Wrap_eq sl_Reverse_init sl_Reverse_eq sl_SetValue_init sl_SetValue_eq sl_p_law_well sl_p_law_draw sl_p_law_one sl_p_law_field sl_p_law_deed sl_p_law_named sl_p_law_told sl_law : Array (Option Value)} {oc_Put_init kV_Put_init dc_Put_init pm_Put_init cd_Put_init ct_Put_init oc_Put_eq kV_Put_eq dc_Put_eq pm_Put_eq cd_Put_eq ct_Put_eq oc_Move_init kV_Move_init dc_Move_init pm_Move_init cd_Move_init ct_Move_init oc_Move_eq kV_Move_eq dc_Move_eq pm_Move_eq cd_Move_eq ct_Move_eq oc_Cut_init kV_Cut_init dc_Cut_init pm_Cut_init cd_Cut_init ct_Cut_init oc_Cut_eq kV_Cut_eq dc_Cut_eq pm_Cut_eq cd_Cut_eq ct_Cut_eq oc_Lift_init kV_Lift_init dc_Lift_init pm_Lift_init cd_Lift_init ct_Lift_init oc_Lift_eq kV_Lift_eq dc_Lift_eq pm_Lift_eq cd_Lift_eq ct_Lift_eq oc_Wrap_init kV_Wrap_init dc_Wrap_init pm_Wrap_init cd_Wrap_init ct_Wrap_init oc_Wrap_eq kV_Wrap_eq dc_Wrap_eq pm_Wrap_eq cd_Wrap_eq ct_Wrap_eq oc_Reverse_init kV_Reverse_init dc_Reverse_init pm_Reverse_init cd_Reverse_init ct_Reverse_init oc_Reverse_eq kV_Reverse_eq dc_Reverse_eq pm_Reverse_eq cd_Reverse_eq ct_Reverse_eq oc_SetValue_init kV_SetValue_init dc_SetValue_init pm_SetValue_init cd_SetValue_init ct_SetValue_init oc_SetValue_eq kV_SetValue_eq dc_SetValue_eq pm_SetValue_eq cd_SetValue_eq ct_SetValue_eq oc_p_law_well kV_p_law_well dc_p_law_well pm_p_law_well cd_p_law_well ct_p_law_well oc_p_law_draw kV_p_law_draw dc_p_law_draw pm_p_law_draw cd_p_law_draw ct_p_law_draw oc_p_law_one kV_p_law_one dc_p_law_one pm_p_law_one cd_p_law_one ct_p_law_one oc_p_law_field kV_p_law_field dc_p_law_field pm_p_law_field cd_p_law_field ct_p_law_field oc_p_law_deed kV_p_law_deed dc_p_law_deed pm_p_law_deed cd_p_law_deed ct_p_law_deed oc_p_law_named kV_p_law_named dc_p_law_named pm_p_law_named cd_p_law_named ct_p_law_named oc_p_law_told kV_p_law_told dc_p_law_told pm_p_law_told cd_p_law_told ct_p_law_told oc_law kV_law dc_law pm_law cd_law ct_law : Value}
    (nC_Cut : PySem.W.nsIn K mainGlobals "Cut" = some (some (.ref c_Cut)))
    (nC_Lift : PySem.W.nsIn K mainGlobals "Lift" = some (some (.ref c_Lift)))
    (nC_Move : PySem.W.nsIn K mainGlobals "Move" = some (some (.ref c_Move)))
    (nC_Put : PySem.W.nsIn K mainGlobals "Put" = some (some (.ref c_Put)))
    (nC_Reverse : PySem.W.nsIn K mainGlobals "Reverse" = some (some (.ref c_Reverse)))
    (nC_SetValue : PySem.W.nsIn K mainGlobals "SetValue" = some (some (.ref c_SetValue)))
    (nC_Wrap : PySem.W.nsIn K mainGlobals "Wrap" = some (some (.ref c_Wrap)))
    (n_Put_init : PySem.W.findIn K (.ref c_Put) "__init__" = some (some (.ref a_Put_init)))
    (i_Put_init : PySem.W.isFn K (.ref a_Put_init) = true)
    (l_Put_init : K.lookup a_Put_init = some ⟨oc_Put_init, od_Put_init, .func (PySem.W.fnOf "__init__" "Put.__init__" (defArgs s_Put_init) (defBody s_Put_init) (defScope s_Put_init) .none kV_Put_init dc_Put_init pm_Put_init an_Put_init cd_Put_init ct_Put_init), sl_Put_init⟩)
    (c2_Put_init : PySem.W.codeIn K cd_Put_init "Put.__init__" = true)
    (k2_Put_init : PySem.W.keepIn K (.ref a_Put_init) = true)
    (n_Put_eq : PySem.W.findIn K (.ref c_Put) "__eq__" = some (some (.ref a_Put_eq)))
    (i_Put_eq : PySem.W.isFn K (.ref a_Put_eq) = true)
    (l_Put_eq : K.lookup a_Put_eq = some ⟨oc_Put_eq, od_Put_eq, .func (PySem.W.fnOf "__eq__" "Put.__eq__" (defArgs s_Put_eq) (defBody s_Put_eq) (defScope s_Put_eq) .none kV_Put_eq dc_Put_eq pm_Put_eq an_Put_eq cd_Put_eq ct_Put_eq), sl_Put_eq⟩)
    (c2_Put_eq : PySem.W.codeIn K cd_Put_eq "Put.__eq__" = true)
    (k2_Put_eq : PySem.W.keepIn K (.ref a_Put_eq) = true)
    (n_Move_init : PySem.W.findIn K (.ref c_Move) "__init__" = some (some (.ref a_Move_init)))
    (i_Move_init : PySem.W.isFn K (.ref a_Move_init) = true)
    (l_Move_init : K.lookup a_Move_init = some ⟨oc_Move_init, od_Move_init, .func (PySem.W.fnOf "__init__" "Move.__init__" (defArgs s_Move_init) (defBody s_Move_init) (defScope s_Move_init) .none kV_Move_init dc_Move_init pm_Move_init an_Move_init cd_Move_init ct_Move_init), sl_Move_init⟩)
    (c2_Move_init : PySem.W.codeIn K cd_Move_init "Move.__init__" = true)
    (k2_Move_init : PySem.W.keepIn K (.ref a_Move_init) = true)
    (n_Move_eq : PySem.W.findIn K (.ref c_Move) "__eq__" = some (some (.ref a_Move_eq)))
    (i_Move_eq : PySem.W.isFn K (.ref a_Move_eq) = true)
    (l_Move_eq : K.lookup a_Move_eq = some ⟨oc_Move_eq, od_Move_eq, .func (PySem.W.fnOf "__eq__" "Move.__eq__" (defArgs s_Move_eq) (defBody s_Move_eq) (defScope s_Move_eq) .none kV_Move_eq dc_Move_eq pm_Move_eq an_Move_eq cd_Move_eq ct_Move_eq), sl_Move_eq⟩)
    (c2_Move_eq : PySem.W.codeIn K cd_Move_eq "Move.__eq__" = true)
    (k2_Move_eq : PySem.W.keepIn K (.ref a_Move_eq) = true)
    (n_Cut_init : PySem.W.findIn K (.ref c_Cut) "__init__" = some (some (.ref a_Cut_init)))
    (i_Cut_init : PySem.W.isFn K (.ref a_Cut_init) = true)
    (l_Cut_init : K.lookup a_Cut_init = some ⟨oc_Cut_init, od_Cut_init, .func (PySem.W.fnOf "__init__" "Cut.__init__" (defArgs s_Cut_init) (defBody s_Cut_init) (defScope s_Cut_init) .none kV_Cut_init dc_Cut_init pm_Cut_init an_Cut_init cd_Cut_init ct_Cut_init), sl_Cut_init⟩)
    (c2_Cut_init : PySem.W.codeIn K cd_Cut_init "Cut.__init__" = true)
    (k2_Cut_init : PySem.W.keepIn K (.ref a_Cut_init) = true)
    (n_Cut_eq : PySem.W.findIn K (.ref c_Cut) "__eq__" = some (some (.ref a_Cut_eq)))
    (i_Cut_eq : PySem.W.isFn K (.ref a_Cut_eq) = true)
    (l_Cut_eq : K.lookup a_Cut_eq = some ⟨oc_Cut_eq, od_Cut_eq, .func (PySem.W.fnOf "__eq__" "Cut.__eq__" (defArgs s_Cut_eq) (defBody s_Cut_eq) (defScope s_Cut_eq) .none kV_Cut_eq dc_Cut_eq pm_Cut_eq an_Cut_eq cd_Cut_eq ct_Cut_eq), sl_Cut_eq⟩)
    (c2_Cut_eq : PySem.W.codeIn K cd_Cut_eq "Cut.__eq__" = true)
    (k2_Cut_eq : PySem.W.keepIn K (.ref a_Cut_eq) = true)
    (n_Lift_init : PySem.W.findIn K (.ref c_Lift) "__init__" = some (some (.ref a_Lift_init)))
    (i_Lift_init : PySem.W.isFn K (.ref a_Lift_init) = true)
    (l_Lift_init : K.lookup a_Lift_init = some ⟨oc_Lift_init, od_Lift_init, .func (PySem.W.fnOf "__init__" "Lift.__init__" (defArgs s_Lift_init) (defBody s_Lift_init) (defScope s_Lift_init) .none kV_Lift_init dc_Lift_init pm_Lift_init an_Lift_init cd_Lift_init ct_Lift_init), sl_Lift_init⟩)
    (c2_Lift_init : PySem.W.codeIn K cd_Lift_init "Lift.__init__" = true)
    (k2_Lift_init : PySem.W.keepIn K (.ref a_Lift_init) = true)
    (n_Lift_eq : PySem.W.findIn K (.ref c_Lift) "__eq__" = some (some (.ref a_Lift_eq)))
    (i_Lift_eq : PySem.W.isFn K (.ref a_Lift_eq) = true)
    (l_Lift_eq : K.lookup a_Lift_eq = some ⟨oc_Lift_eq, od_Lift_eq, .func (PySem.W.fnOf "__eq__" "Lift.__eq__" (defArgs s_Lift_eq) (defBody s_Lift_eq) (defScope s_Lift_eq) .none kV_Lift_eq dc_Lift_eq pm_Lift_eq an_Lift_eq cd_Lift_eq ct_Lift_eq), sl_Lift_eq⟩)
    (c2_Lift_eq : PySem.W.codeIn K cd_Lift_eq "Lift.__eq__" = true)
    (k2_Lift_eq : PySem.W.keepIn K (.ref a_Lift_eq) = true)
    (n_Wrap_init : PySem.W.findIn K (.ref c_Wrap) "__init__" = some (some (.ref a_Wrap_init)))
    (i_Wrap_init : PySem.W.isFn K (.ref a_Wrap_init) = true)
    (l_Wrap_init : K.lookup a_Wrap_init = some ⟨oc_Wrap_init, od_Wrap_init, .func (PySem.W.fnOf "__init__" "Wrap.__init__" (defArgs s_Wrap_init) (defBody s_Wrap_init) (defScope s_Wrap_init) .none kV_Wrap_init dc_Wrap_init pm_Wrap_init an_Wrap_init cd_Wrap_init ct_Wrap_init), sl_Wrap_init⟩)
    (c2_Wrap_init : PySem.W.codeIn K cd_Wrap_init "Wrap.__init__" = true)
    (k2_Wrap_init : PySem.W.keepIn K (.ref a_Wrap_init) = true)
    (n_Wrap_eq : PySem.W.findIn K (.ref c_Wrap) "__eq__" = some (some (.ref a_Wrap_eq)))
    (i_Wrap_eq : PySem.W.isFn K (.ref a_Wrap_eq) = true)
    (l_Wrap_eq : K.lookup a_Wrap_eq = some ⟨oc_Wrap_eq, od_Wrap_eq, .func (PySem.W.fnOf "__eq__" "Wrap.__eq__" (defArgs s_Wrap_eq) (defBody s_Wrap_eq) (defScope s_Wrap_eq) .none kV_Wrap_eq dc_Wrap_eq pm_Wrap_eq an_Wrap_eq cd_Wrap_eq ct_Wrap_eq), sl_Wrap_eq⟩)
    (c2_Wrap_eq : PySem.W.codeIn K cd_Wrap_eq "Wrap.__eq__" = true)
    (k2_Wrap_eq : PySem.W.keepIn K (.ref a_Wrap_eq) = true)
    (n_Reverse_init : PySem.W.findIn K (.ref c_Reverse) "__init__" = some (some (.ref a_Reverse_init)))
    (i_Reverse_init : PySem.W.isFn K (.ref a_Reverse_init) = true)
    (l_Reverse_init : K.lookup a_Reverse_init = some ⟨oc_Reverse_init, od_Reverse_init, .func (PySem.W.fnOf "__init__" "Reverse.__init__" (defArgs s_Reverse_init) (defBody s_Reverse_init) (defScope s_Reverse_init) .none kV_Reverse_init dc_Reverse_init pm_Reverse_init an_Reverse_init cd_Reverse_init ct_Reverse_init), sl_Reverse_init⟩)
    (c2_Reverse_init : PySem.W.codeIn K cd_Reverse_init "Reverse.__init__" = true)
    (k2_Reverse_init : PySem.W.keepIn K (.ref a_Reverse_init) = true)
    (n_Reverse_eq : PySem.W.findIn K (.ref c_Reverse) "__eq__" = some (some (.ref a_Reverse_eq)))
    (i_Reverse_eq : PySem.W.isFn K (.ref a_Reverse_eq) = true)
    (l_Reverse_eq : K.lookup a_Reverse_eq = some ⟨oc_Reverse_eq, od_Reverse_eq, .func (PySem.W.fnOf "__eq__" "Reverse.__eq__" (defArgs s_Reverse_eq) (defBody s_Reverse_eq) (defScope s_Reverse_eq) .none kV_Reverse_eq dc_Reverse_eq pm_Reverse_eq an_Reverse_eq cd_Reverse_eq ct_Reverse_eq), sl_Reverse_eq⟩)
    (c2_Reverse_eq : PySem.W.codeIn K cd_Reverse_eq "Reverse.__eq__" = true)
    (k2_Reverse_eq : PySem.W.keepIn K (.ref a_Reverse_eq) = true)
    (n_SetValue_init : PySem.W.findIn K (.ref c_SetValue) "__init__" = some (some (.ref a_SetValue_init)))
    (i_SetValue_init : PySem.W.isFn K (.ref a_SetValue_init) = true)
    (l_SetValue_init : K.lookup a_SetValue_init = some ⟨oc_SetValue_init, od_SetValue_init, .func (PySem.W.fnOf "__init__" "SetValue.__init__" (defArgs s_SetValue_init) (defBody s_SetValue_init) (defScope s_SetValue_init) .none kV_SetValue_init dc_SetValue_init pm_SetValue_init an_SetValue_init cd_SetValue_init ct_SetValue_init), sl_SetValue_init⟩)
    (c2_SetValue_init : PySem.W.codeIn K cd_SetValue_init "SetValue.__init__" = true)
    (k2_SetValue_init : PySem.W.keepIn K (.ref a_SetValue_init) = true)
    (n_SetValue_eq : PySem.W.findIn K (.ref c_SetValue) "__eq__" = some (some (.ref a_SetValue_eq)))
    (i_SetValue_eq : PySem.W.isFn K (.ref a_SetValue_eq) = true)
    (l_SetValue_eq : K.lookup a_SetValue_eq = some ⟨oc_SetValue_eq, od_SetValue_eq, .func (PySem.W.fnOf "__eq__" "SetValue.__eq__" (defArgs s_SetValue_eq) (defBody s_SetValue_eq) (defScope s_SetValue_eq) .none kV_SetValue_eq dc_SetValue_eq pm_SetValue_eq an_SetValue_eq cd_SetValue_eq ct_SetValue_eq), sl_SetValue_eq⟩)
    (c2_SetValue_eq : PySem.W.codeIn K cd_SetValue_eq "SetValue.__eq__" = true)
    (k2_SetValue_eq : PySem.W.keepIn K (.ref a_SetValue_eq) = true)
    (n_p_law_well : PySem.W.nsIn K mainGlobals "_law_well" = some (some (.ref a_p_law_well)))
    (l_p_law_well : K.lookup a_p_law_well = some ⟨oc_p_law_well, od_p_law_well, .func (PySem.W.fnOf "_law_well" "_law_well" (defArgs s_p_law_well) (defBody s_p_law_well) (defScope s_p_law_well) .none kV_p_law_well dc_p_law_well pm_p_law_well an_p_law_well cd_p_law_well ct_p_law_well), sl_p_law_well⟩)
    (c2_p_law_well : PySem.W.codeIn K cd_p_law_well "_law_well" = true)
    (k2_p_law_well : PySem.W.keepIn K (.ref a_p_law_well) = true)
    (n_p_law_draw : PySem.W.nsIn K mainGlobals "_law_draw" = some (some (.ref a_p_law_draw)))
    (l_p_law_draw : K.lookup a_p_law_draw = some ⟨oc_p_law_draw, od_p_law_draw, .func (PySem.W.fnOf "_law_draw" "_law_draw" (defArgs s_p_law_draw) (defBody s_p_law_draw) (defScope s_p_law_draw) .none kV_p_law_draw dc_p_law_draw pm_p_law_draw an_p_law_draw cd_p_law_draw ct_p_law_draw), sl_p_law_draw⟩)
    (c2_p_law_draw : PySem.W.codeIn K cd_p_law_draw "_law_draw" = true)
    (k2_p_law_draw : PySem.W.keepIn K (.ref a_p_law_draw) = true)
    (n_p_law_one : PySem.W.nsIn K mainGlobals "_law_one" = some (some (.ref a_p_law_one)))
    (l_p_law_one : K.lookup a_p_law_one = some ⟨oc_p_law_one, od_p_law_one, .func (PySem.W.fnOf "_law_one" "_law_one" (defArgs s_p_law_one) (defBody s_p_law_one) (defScope s_p_law_one) .none kV_p_law_one dc_p_law_one pm_p_law_one an_p_law_one cd_p_law_one ct_p_law_one), sl_p_law_one⟩)
    (c2_p_law_one : PySem.W.codeIn K cd_p_law_one "_law_one" = true)
    (k2_p_law_one : PySem.W.keepIn K (.ref a_p_law_one) = true)
    (n_p_law_field : PySem.W.nsIn K mainGlobals "_law_field" = some (some (.ref a_p_law_field)))
    (l_p_law_field : K.lookup a_p_law_field = some ⟨oc_p_law_field, od_p_law_field, .func (PySem.W.fnOf "_law_field" "_law_field" (defArgs s_p_law_field) (defBody s_p_law_field) (defScope s_p_law_field) .none kV_p_law_field dc_p_law_field pm_p_law_field an_p_law_field cd_p_law_field ct_p_law_field), sl_p_law_field⟩)
    (c2_p_law_field : PySem.W.codeIn K cd_p_law_field "_law_field" = true)
    (k2_p_law_field : PySem.W.keepIn K (.ref a_p_law_field) = true)
    (n_p_law_deed : PySem.W.nsIn K mainGlobals "_law_deed" = some (some (.ref a_p_law_deed)))
    (l_p_law_deed : K.lookup a_p_law_deed = some ⟨oc_p_law_deed, od_p_law_deed, .func (PySem.W.fnOf "_law_deed" "_law_deed" (defArgs s_p_law_deed) (defBody s_p_law_deed) (defScope s_p_law_deed) .none kV_p_law_deed dc_p_law_deed pm_p_law_deed an_p_law_deed cd_p_law_deed ct_p_law_deed), sl_p_law_deed⟩)
    (c2_p_law_deed : PySem.W.codeIn K cd_p_law_deed "_law_deed" = true)
    (k2_p_law_deed : PySem.W.keepIn K (.ref a_p_law_deed) = true)
    (n_p_law_named : PySem.W.nsIn K mainGlobals "_law_named" = some (some (.ref a_p_law_named)))
    (l_p_law_named : K.lookup a_p_law_named = some ⟨oc_p_law_named, od_p_law_named, .func (PySem.W.fnOf "_law_named" "_law_named" (defArgs s_p_law_named) (defBody s_p_law_named) (defScope s_p_law_named) .none kV_p_law_named dc_p_law_named pm_p_law_named an_p_law_named cd_p_law_named ct_p_law_named), sl_p_law_named⟩)
    (c2_p_law_named : PySem.W.codeIn K cd_p_law_named "_law_named" = true)
    (k2_p_law_named : PySem.W.keepIn K (.ref a_p_law_named) = true)
    (n_p_law_told : PySem.W.nsIn K mainGlobals "_law_told" = some (some (.ref a_p_law_told)))
    (l_p_law_told : K.lookup a_p_law_told = some ⟨oc_p_law_told, od_p_law_told, .func (PySem.W.fnOf "_law_told" "_law_told" (defArgs s_p_law_told) (defBody s_p_law_told) (defScope s_p_law_told) .none kV_p_law_told dc_p_law_told pm_p_law_told an_p_law_told cd_p_law_told ct_p_law_told), sl_p_law_told⟩)
    (c2_p_law_told : PySem.W.codeIn K cd_p_law_told "_law_told" = true)
    (k2_p_law_told : PySem.W.keepIn K (.ref a_p_law_told) = true)
    (n_law : PySem.W.nsIn K mainGlobals "law" = some (some (.ref a_law)))
    (l_law : K.lookup a_law = some ⟨oc_law, od_law, .func (PySem.W.fnOf "law" "law" (defArgs s_law) (defBody s_law) (defScope s_law) .none kV_law dc_law pm_law an_law cd_law ct_law), sl_law⟩)
    (c2_law : PySem.W.codeIn K cd_law "law" = true)
    (k2_law : PySem.W.keepIn K (.ref a_law) = true)
    (pg_Cut : PySem.W.plainGet K c_Cut Str.empty = true)
    (hd_Cut : PySem.W.hasDictIn K c_Cut = true)
    (po_Cut : PySem.W.plainOver K c_Cut = true)
    (sa_Cut : PySem.W.findIn K (.ref c_Cut) "__setattr__" = some (some (.builtin "object.__setattr__")))
    (pg_Lift : PySem.W.plainGet K c_Lift Str.empty = true)
    (hd_Lift : PySem.W.hasDictIn K c_Lift = true)
    (po_Lift : PySem.W.plainOver K c_Lift = true)
    (sa_Lift : PySem.W.findIn K (.ref c_Lift) "__setattr__" = some (some (.builtin "object.__setattr__")))
    (pg_Move : PySem.W.plainGet K c_Move Str.empty = true)
    (hd_Move : PySem.W.hasDictIn K c_Move = true)
    (po_Move : PySem.W.plainOver K c_Move = true)
    (sa_Move : PySem.W.findIn K (.ref c_Move) "__setattr__" = some (some (.builtin "object.__setattr__")))
    (pg_Put : PySem.W.plainGet K c_Put Str.empty = true)
    (hd_Put : PySem.W.hasDictIn K c_Put = true)
    (po_Put : PySem.W.plainOver K c_Put = true)
    (sa_Put : PySem.W.findIn K (.ref c_Put) "__setattr__" = some (some (.builtin "object.__setattr__")))
    (pg_Reverse : PySem.W.plainGet K c_Reverse Str.empty = true)
    (hd_Reverse : PySem.W.hasDictIn K c_Reverse = true)
    (po_Reverse : PySem.W.plainOver K c_Reverse = true)
    (sa_Reverse : PySem.W.findIn K (.ref c_Reverse) "__setattr__" = some (some (.builtin "object.__setattr__")))
    (pg_SetValue : PySem.W.plainGet K c_SetValue Str.empty = true)
    (hd_SetValue : PySem.W.hasDictIn K c_SetValue = true)
    (po_SetValue : PySem.W.plainOver K c_SetValue = true)
    (sa_SetValue : PySem.W.findIn K (.ref c_SetValue) "__setattr__" = some (some (.builtin "object.__setattr__")))
    (pg_Wrap : PySem.W.plainGet K c_Wrap Str.empty = true)
    (hd_Wrap : PySem.W.hasDictIn K c_Wrap = true)
    (po_Wrap : PySem.W.plainOver K c_Wrap = true)
    (sa_Wrap : PySem.W.findIn K (.ref c_Wrap) "__setattr__" = some (some (.builtin "object.__setattr__")))
    (nf_Wrap_first : PySem.W.findIn K (.ref c_Wrap) "first" = some none)
    (nf_Wrap_last : PySem.W.findIn K (.ref c_Wrap) "last" = some none)
    (nf_Put_name : PySem.W.findIn K (.ref c_Put) "name" = some none)
    (nf_Move_name : PySem.W.findIn K (.ref c_Move) "name" = some none)
    (nf_Cut_name : PySem.W.findIn K (.ref c_Cut) "name" = some none)
    (nf_Lift_name : PySem.W.findIn K (.ref c_Lift) "name" = some none)
    (nf_Wrap_name : PySem.W.findIn K (.ref c_Wrap) "name" = some none)
    (nf_SetValue_name : PySem.W.findIn K (.ref c_SetValue) "name" = some none)
    (nf_Put_parent : PySem.W.findIn K (.ref c_Put) "parent" = some none)
    (nf_Move_parent : PySem.W.findIn K (.ref c_Move) "parent" = some none)
    (nf_Wrap_parent : PySem.W.findIn K (.ref c_Wrap) "parent" = some none)
    (nf_Reverse_parent : PySem.W.findIn K (.ref c_Reverse) "parent" = some none)
    (nf_Put_rank : PySem.W.findIn K (.ref c_Put) "rank" = some none)
    (nf_Move_rank : PySem.W.findIn K (.ref c_Move) "rank" = some none)
    (nf_Put_value : PySem.W.findIn K (.ref c_Put) "value" = some none)
    (nf_Wrap_value : PySem.W.findIn K (.ref c_Wrap) "value" = some none)
    (nf_SetValue_value : PySem.W.findIn K (.ref c_SetValue) "value" = some none)
    (ha_Put : PySem.W.findIn K (.ref c_Put) "__class__" = some (some (.builtin "object.__class__")))
    (hm_Put : PySem.W.mroIn K c_Put (.type "object") = some true)
    (ha_Move : PySem.W.findIn K (.ref c_Move) "__class__" = some (some (.builtin "object.__class__")))
    (hm_Move : PySem.W.mroIn K c_Move (.type "object") = some true)
    (ha_Cut : PySem.W.findIn K (.ref c_Cut) "__class__" = some (some (.builtin "object.__class__")))
    (hm_Cut : PySem.W.mroIn K c_Cut (.type "object") = some true)
    (ha_Lift : PySem.W.findIn K (.ref c_Lift) "__class__" = some (some (.builtin "object.__class__")))
    (hm_Lift : PySem.W.mroIn K c_Lift (.type "object") = some true)
    (ha_Wrap : PySem.W.findIn K (.ref c_Wrap) "__class__" = some (some (.builtin "object.__class__")))
    (hm_Wrap : PySem.W.mroIn K c_Wrap (.type "object") = some true)
    (ha_Reverse : PySem.W.findIn K (.ref c_Reverse) "__class__" = some (some (.builtin "object.__class__")))
    (hm_Reverse : PySem.W.mroIn K c_Reverse (.type "object") = some true)
    (ha_SetValue : PySem.W.findIn K (.ref c_SetValue) "__class__" = some (some (.builtin "object.__class__")))
    (hm_SetValue : PySem.W.mroIn K c_SetValue (.type "object") = some true)
    (isi_n : PySem.W.specialIn K (.builtin "object.__class__") "__get__" = some (some (.builtin "getset_descriptor.__get__")))
    (isi_t : PySem.W.takesIn K (.builtin "object.__class__") = some true)
    (mk2_Cut : PySem.W.makesIn K c_Cut = true)
    (kc_Cut : PySem.W.keepIn K (.ref c_Cut) = true)
    (mk2_Lift : PySem.W.makesIn K c_Lift = true)
    (kc_Lift : PySem.W.keepIn K (.ref c_Lift) = true)
    (mk2_Move : PySem.W.makesIn K c_Move = true)
    (kc_Move : PySem.W.keepIn K (.ref c_Move) = true)
    (mk2_Put : PySem.W.makesIn K c_Put = true)
    (kc_Put : PySem.W.keepIn K (.ref c_Put) = true)
    (mk2_Reverse : PySem.W.makesIn K c_Reverse = true)
    (kc_Reverse : PySem.W.keepIn K (.ref c_Reverse) = true)
    (mk2_SetValue : PySem.W.makesIn K c_SetValue = true)
    (kc_SetValue : PySem.W.keepIn K (.ref c_SetValue) = true)
    (mk2_Wrap : PySem.W.makesIn K c_Wrap = true)
    (kc_Wrap : PySem.W.keepIn K (.ref c_Wrap) = true)
    (ne_Cut : PySem.W.findIn K (.ref c_Cut) "__ne__" = some (some (.builtin "object.__ne__")))
    (ne_Lift : PySem.W.findIn K (.ref c_Lift) "__ne__" = some (some (.builtin "object.__ne__")))
    (ne_Move : PySem.W.findIn K (.ref c_Move) "__ne__" = some (some (.builtin "object.__ne__")))
    (ne_Put : PySem.W.findIn K (.ref c_Put) "__ne__" = some (some (.builtin "object.__ne__")))
    (ne_Reverse : PySem.W.findIn K (.ref c_Reverse) "__ne__" = some (some (.builtin "object.__ne__")))
    (ne_SetValue : PySem.W.findIn K (.ref c_SetValue) "__ne__" = some (some (.builtin "object.__ne__")))
    (ne_Wrap : PySem.W.findIn K (.ref c_Wrap) "__ne__" = some (some (.builtin "object.__ne__")))
    (z_int : PySem.W.nsIn K mainGlobals "int" = some none)
    (z_isinstance : PySem.W.nsIn K mainGlobals "isinstance" = some none)
    (z_len : PySem.W.nsIn K mainGlobals "len" = some none)
    (z_range : PySem.W.nsIn K mainGlobals "range" = some none)
    (z_tuple : PySem.W.nsIn K mainGlobals "tuple" = some none)
    (ik_Put : PySem.W.isClsIn K c_Put = true)
    (tk_Put : PySem.W.typeIn K (.ref c_Put) = some (.type "type"))
    (ik_Move : PySem.W.isClsIn K c_Move = true)
    (tk_Move : PySem.W.typeIn K (.ref c_Move) = some (.type "type"))
    (ik_Cut : PySem.W.isClsIn K c_Cut = true)
    (tk_Cut : PySem.W.typeIn K (.ref c_Cut) = some (.type "type"))
    (ik_Lift : PySem.W.isClsIn K c_Lift = true)
    (tk_Lift : PySem.W.typeIn K (.ref c_Lift) = some (.type "type"))
    (ik_Wrap : PySem.W.isClsIn K c_Wrap = true)
    (tk_Wrap : PySem.W.typeIn K (.ref c_Wrap) = some (.type "type"))
    (ik_Reverse : PySem.W.isClsIn K c_Reverse = true)
    (tk_Reverse : PySem.W.typeIn K (.ref c_Reverse) = some (.type "type"))
    (ik_SetValue : PySem.W.isClsIn K c_SetValue = true)
    (tk_SetValue : PySem.W.typeIn K (.ref c_SetValue) = some (.type "type"))
    (sb_Put_Move : PySem.W.subIn K (.ref c_Put) (.ref c_Move) = some false)
    (dn_Put_Move : c_Put ≠ c_Move)
    (fx_nf_Put_Move : PySem.W.notFirst K c_Move (.ref c_Put) = true)
    (sb_Put_Cut : PySem.W.subIn K (.ref c_Put) (.ref c_Cut) = some false)
    (dn_Put_Cut : c_Put ≠ c_Cut)
    (fx_nf_Put_Cut : PySem.W.notFirst K c_Cut (.ref c_Put) = true)
    (sb_Put_Lift : PySem.W.subIn K (.ref c_Put) (.ref c_Lift) = some false)
    (dn_Put_Lift : c_Put ≠ c_Lift)
    (fx_nf_Put_Lift : PySem.W.notFirst K c_Lift (.ref c_Put) = true)
    (sb_Put_Wrap : PySem.W.subIn K (.ref c_Put) (.ref c_Wrap) = some false)
    (dn_Put_Wrap : c_Put ≠ c_Wrap)
    (fx_nf_Put_Wrap : PySem.W.notFirst K c_Wrap (.ref c_Put) = true)
    (sb_Put_Reverse : PySem.W.subIn K (.ref c_Put) (.ref c_Reverse) = some false)
    (dn_Put_Reverse : c_Put ≠ c_Reverse)
    (fx_nf_Put_Reverse : PySem.W.notFirst K c_Reverse (.ref c_Put) = true)
    (sb_Put_SetValue : PySem.W.subIn K (.ref c_Put) (.ref c_SetValue) = some false)
    (dn_Put_SetValue : c_Put ≠ c_SetValue)
    (fx_nf_Put_SetValue : PySem.W.notFirst K c_SetValue (.ref c_Put) = true)
    (sb_Move_Put : PySem.W.subIn K (.ref c_Move) (.ref c_Put) = some false)
    (dn_Move_Put : c_Move ≠ c_Put)
    (fx_nf_Move_Put : PySem.W.notFirst K c_Put (.ref c_Move) = true)
    (sb_Move_Cut : PySem.W.subIn K (.ref c_Move) (.ref c_Cut) = some false)
    (dn_Move_Cut : c_Move ≠ c_Cut)
    (fx_nf_Move_Cut : PySem.W.notFirst K c_Cut (.ref c_Move) = true)
    (sb_Move_Lift : PySem.W.subIn K (.ref c_Move) (.ref c_Lift) = some false)
    (dn_Move_Lift : c_Move ≠ c_Lift)
    (fx_nf_Move_Lift : PySem.W.notFirst K c_Lift (.ref c_Move) = true)
    (sb_Move_Wrap : PySem.W.subIn K (.ref c_Move) (.ref c_Wrap) = some false)
    (dn_Move_Wrap : c_Move ≠ c_Wrap)
    (fx_nf_Move_Wrap : PySem.W.notFirst K c_Wrap (.ref c_Move) = true)
    (sb_Move_Reverse : PySem.W.subIn K (.ref c_Move) (.ref c_Reverse) = some false)
    (dn_Move_Reverse : c_Move ≠ c_Reverse)
    (fx_nf_Move_Reverse : PySem.W.notFirst K c_Reverse (.ref c_Move) = true)
    (sb_Move_SetValue : PySem.W.subIn K (.ref c_Move) (.ref c_SetValue) = some false)
    (dn_Move_SetValue : c_Move ≠ c_SetValue)
    (fx_nf_Move_SetValue : PySem.W.notFirst K c_SetValue (.ref c_Move) = true)
    (sb_Cut_Put : PySem.W.subIn K (.ref c_Cut) (.ref c_Put) = some false)
    (dn_Cut_Put : c_Cut ≠ c_Put)
    (fx_nf_Cut_Put : PySem.W.notFirst K c_Put (.ref c_Cut) = true)
    (sb_Cut_Move : PySem.W.subIn K (.ref c_Cut) (.ref c_Move) = some false)
    (dn_Cut_Move : c_Cut ≠ c_Move)
    (fx_nf_Cut_Move : PySem.W.notFirst K c_Move (.ref c_Cut) = true)
    (sb_Cut_Lift : PySem.W.subIn K (.ref c_Cut) (.ref c_Lift) = some false)
    (dn_Cut_Lift : c_Cut ≠ c_Lift)
    (fx_nf_Cut_Lift : PySem.W.notFirst K c_Lift (.ref c_Cut) = true)
    (sb_Cut_Wrap : PySem.W.subIn K (.ref c_Cut) (.ref c_Wrap) = some false)
    (dn_Cut_Wrap : c_Cut ≠ c_Wrap)
    (fx_nf_Cut_Wrap : PySem.W.notFirst K c_Wrap (.ref c_Cut) = true)
    (sb_Cut_Reverse : PySem.W.subIn K (.ref c_Cut) (.ref c_Reverse) = some false)
    (dn_Cut_Reverse : c_Cut ≠ c_Reverse)
    (fx_nf_Cut_Reverse : PySem.W.notFirst K c_Reverse (.ref c_Cut) = true)
    (sb_Cut_SetValue : PySem.W.subIn K (.ref c_Cut) (.ref c_SetValue) = some false)
    (dn_Cut_SetValue : c_Cut ≠ c_SetValue)
    (fx_nf_Cut_SetValue : PySem.W.notFirst K c_SetValue (.ref c_Cut) = true)
    (sb_Lift_Put : PySem.W.subIn K (.ref c_Lift) (.ref c_Put) = some false)
    (dn_Lift_Put : c_Lift ≠ c_Put)
    (fx_nf_Lift_Put : PySem.W.notFirst K c_Put (.ref c_Lift) = true)
    (sb_Lift_Move : PySem.W.subIn K (.ref c_Lift) (.ref c_Move) = some false)
    (dn_Lift_Move : c_Lift ≠ c_Move)
    (fx_nf_Lift_Move : PySem.W.notFirst K c_Move (.ref c_Lift) = true)
    (sb_Lift_Cut : PySem.W.subIn K (.ref c_Lift) (.ref c_Cut) = some false)
    (dn_Lift_Cut : c_Lift ≠ c_Cut)
    (fx_nf_Lift_Cut : PySem.W.notFirst K c_Cut (.ref c_Lift) = true)
    (sb_Lift_Wrap : PySem.W.subIn K (.ref c_Lift) (.ref c_Wrap) = some false)
    (dn_Lift_Wrap : c_Lift ≠ c_Wrap)
    (fx_nf_Lift_Wrap : PySem.W.notFirst K c_Wrap (.ref c_Lift) = true)
    (sb_Lift_Reverse : PySem.W.subIn K (.ref c_Lift) (.ref c_Reverse) = some false)
    (dn_Lift_Reverse : c_Lift ≠ c_Reverse)
    (fx_nf_Lift_Reverse : PySem.W.notFirst K c_Reverse (.ref c_Lift) = true)
    (sb_Lift_SetValue : PySem.W.subIn K (.ref c_Lift) (.ref c_SetValue) = some false)
    (dn_Lift_SetValue : c_Lift ≠ c_SetValue)
    (fx_nf_Lift_SetValue : PySem.W.notFirst K c_SetValue (.ref c_Lift) = true)
    (sb_Wrap_Put : PySem.W.subIn K (.ref c_Wrap) (.ref c_Put) = some false)
    (dn_Wrap_Put : c_Wrap ≠ c_Put)
    (fx_nf_Wrap_Put : PySem.W.notFirst K c_Put (.ref c_Wrap) = true)
    (sb_Wrap_Move : PySem.W.subIn K (.ref c_Wrap) (.ref c_Move) = some false)
    (dn_Wrap_Move : c_Wrap ≠ c_Move)
    (fx_nf_Wrap_Move : PySem.W.notFirst K c_Move (.ref c_Wrap) = true)
    (sb_Wrap_Cut : PySem.W.subIn K (.ref c_Wrap) (.ref c_Cut) = some false)
    (dn_Wrap_Cut : c_Wrap ≠ c_Cut)
    (fx_nf_Wrap_Cut : PySem.W.notFirst K c_Cut (.ref c_Wrap) = true)
    (sb_Wrap_Lift : PySem.W.subIn K (.ref c_Wrap) (.ref c_Lift) = some false)
    (dn_Wrap_Lift : c_Wrap ≠ c_Lift)
    (fx_nf_Wrap_Lift : PySem.W.notFirst K c_Lift (.ref c_Wrap) = true)
    (sb_Wrap_Reverse : PySem.W.subIn K (.ref c_Wrap) (.ref c_Reverse) = some false)
    (dn_Wrap_Reverse : c_Wrap ≠ c_Reverse)
    (fx_nf_Wrap_Reverse : PySem.W.notFirst K c_Reverse (.ref c_Wrap) = true)
    (sb_Wrap_SetValue : PySem.W.subIn K (.ref c_Wrap) (.ref c_SetValue) = some false)
    (dn_Wrap_SetValue : c_Wrap ≠ c_SetValue)
    (fx_nf_Wrap_SetValue : PySem.W.notFirst K c_SetValue (.ref c_Wrap) = true)
    (sb_Reverse_Put : PySem.W.subIn K (.ref c_Reverse) (.ref c_Put) = some false)
    (dn_Reverse_Put : c_Reverse ≠ c_Put)
    (fx_nf_Reverse_Put : PySem.W.notFirst K c_Put (.ref c_Reverse) = true)
    (sb_Reverse_Move : PySem.W.subIn K (.ref c_Reverse) (.ref c_Move) = some false)
    (dn_Reverse_Move : c_Reverse ≠ c_Move)
    (fx_nf_Reverse_Move : PySem.W.notFirst K c_Move (.ref c_Reverse) = true)
    (sb_Reverse_Cut : PySem.W.subIn K (.ref c_Reverse) (.ref c_Cut) = some false)
    (dn_Reverse_Cut : c_Reverse ≠ c_Cut)
    (fx_nf_Reverse_Cut : PySem.W.notFirst K c_Cut (.ref c_Reverse) = true)
    (sb_Reverse_Lift : PySem.W.subIn K (.ref c_Reverse) (.ref c_Lift) = some false)
    (dn_Reverse_Lift : c_Reverse ≠ c_Lift)
    (fx_nf_Reverse_Lift : PySem.W.notFirst K c_Lift (.ref c_Reverse) = true)
    (sb_Reverse_Wrap : PySem.W.subIn K (.ref c_Reverse) (.ref c_Wrap) = some false)
    (dn_Reverse_Wrap : c_Reverse ≠ c_Wrap)
    (fx_nf_Reverse_Wrap : PySem.W.notFirst K c_Wrap (.ref c_Reverse) = true)
    (sb_Reverse_SetValue : PySem.W.subIn K (.ref c_Reverse) (.ref c_SetValue) = some false)
    (dn_Reverse_SetValue : c_Reverse ≠ c_SetValue)
    (fx_nf_Reverse_SetValue : PySem.W.notFirst K c_SetValue (.ref c_Reverse) = true)
    (sb_SetValue_Put : PySem.W.subIn K (.ref c_SetValue) (.ref c_Put) = some false)
    (dn_SetValue_Put : c_SetValue ≠ c_Put)
    (fx_nf_SetValue_Put : PySem.W.notFirst K c_Put (.ref c_SetValue) = true)
    (sb_SetValue_Move : PySem.W.subIn K (.ref c_SetValue) (.ref c_Move) = some false)
    (dn_SetValue_Move : c_SetValue ≠ c_Move)
    (fx_nf_SetValue_Move : PySem.W.notFirst K c_Move (.ref c_SetValue) = true)
    (sb_SetValue_Cut : PySem.W.subIn K (.ref c_SetValue) (.ref c_Cut) = some false)
    (dn_SetValue_Cut : c_SetValue ≠ c_Cut)
    (fx_nf_SetValue_Cut : PySem.W.notFirst K c_Cut (.ref c_SetValue) = true)
    (sb_SetValue_Lift : PySem.W.subIn K (.ref c_SetValue) (.ref c_Lift) = some false)
    (dn_SetValue_Lift : c_SetValue ≠ c_Lift)
    (fx_nf_SetValue_Lift : PySem.W.notFirst K c_Lift (.ref c_SetValue) = true)
    (sb_SetValue_Wrap : PySem.W.subIn K (.ref c_SetValue) (.ref c_Wrap) = some false)
    (dn_SetValue_Wrap : c_SetValue ≠ c_Wrap)
    (fx_nf_SetValue_Wrap : PySem.W.notFirst K c_Wrap (.ref c_SetValue) = true)
    (sb_SetValue_Reverse : PySem.W.subIn K (.ref c_SetValue) (.ref c_Reverse) = some false)
    (dn_SetValue_Reverse : c_SetValue ≠ c_Reverse)
    (fx_nf_SetValue_Reverse : PySem.W.notFirst K c_Reverse (.ref c_SetValue) = true)
    (main : ∀ A : Ads, Fax K A → ∀ ns : List Int, ns.length ≤ 63 → dsp_law K A [.val (.lst (ns.map D.int))] (fun d _ => d = .bl true) (fun _ _ _ => False))
    : ∃ fd : FuncData, (∀ (s : Shared) (v : Value), BindsTo s fd ⟨[v], []⟩ [("_law_script", v)]) ∧ ∀ base : Heap, K.In base → base.Ns mainGlobals mg → FnOk (PySem.Challenge.rw_forestrows_k07_deeds_as_things).prog w K mg base CX0 4 fa fd ["_law_script"] (spTrue K) := by
  have e := hfa.symm.trans (PySem.W.mg_of X G n_law)
  cases e
  have F_Put_init := fun_mk (st := s_Put_init) l_Put_init c2_Put_init k2_Put_init
  have b_Put_init := F_Put_init.binds (ps := ["self", "name", "value", "parent", "rank"]) fun _ _ _ _ _ _ us hl => match us, hl with | [_, _, _, _, _], _ => rfl
  have F_Put_eq := fun_mk (st := s_Put_eq) l_Put_eq c2_Put_eq k2_Put_eq
  have b_Put_eq := F_Put_eq.binds (ps := ["self", "other"]) fun _ _ _ _ _ _ us hl => match us, hl with | [_, _], _ => rfl
  have F_Move_init := fun_mk (st := s_Move_init) l_Move_init c2_Move_init k2_Move_init
  have b_Move_init := F_Move_init.binds (ps := ["self", "name", "parent", "rank"]) fun _ _ _ _ _ _ us hl => match us, hl with | [_, _, _, _], _ => rfl
  have F_Move_eq := fun_mk (st := s_Move_eq) l_Move_eq c2_Move_eq k2_Move_eq
  have b_Move_eq := F_Move_eq.binds (ps := ["self", "other"]) fun _ _ _ _ _ _ us hl => match us, hl with | [_, _], _ => rfl
  have F_Cut_init := fun_mk (st := s_Cut_init) l_Cut_init c2_Cut_init k2_Cut_init
  have b_Cut_init := F_Cut_init.binds (ps := ["self", "name"]) fun _ _ _ _ _ _ us hl => match us, hl with | [_, _], _ => rfl
  have F_Cut_eq := fun_mk (st := s_Cut_eq) l_Cut_eq c2_Cut_eq k2_Cut_eq
  have b_Cut_eq := F_Cut_eq.binds (ps := ["self", "other"]) fun _ _ _ _ _ _ us hl => match us, hl with | [_, _], _ => rfl
  have F_Lift_init := fun_mk (st := s_Lift_init) l_Lift_init c2_Lift_init k2_Lift_init
  have b_Lift_init := F_Lift_init.binds (ps := ["self", "name"]) fun _ _ _ _ _ _ us hl => match us, hl with | [_, _], _ => rfl
  have F_Lift_eq := fun_mk (st := s_Lift_eq) l_Lift_eq c2_Lift_eq k2_Lift_eq
  have b_Lift_eq := F_Lift_eq.binds (ps := ["self", "other"]) fun _ _ _ _ _ _ us hl => match us, hl with | [_, _], _ => rfl
  have F_Wrap_init := fun_mk (st := s_Wrap_init) l_Wrap_init c2_Wrap_init k2_Wrap_init
  have b_Wrap_init := F_Wrap_init.binds (ps := ["self", "name", "value", "parent", "first", "last"]) fun _ _ _ _ _ _ us hl => match us, hl with | [_, _, _, _, _, _], _ => rfl
  have F_Wrap_eq := fun_mk (st := s_Wrap_eq) l_Wrap_eq c2_Wrap_eq k2_Wrap_eq
  have b_Wrap_eq := F_Wrap_eq.binds (ps := ["self", "other"]) fun _ _ _ _ _ _ us hl => match us, hl with | [_, _], _ => rfl
  have F_Reverse_init := fun_mk (st := s_Reverse_init) l_Reverse_init c2_Reverse_init k2_Reverse_init
  have b_Reverse_init := F_Reverse_init.binds (ps := ["self", "parent"]) fun _ _ _ _ _ _ us hl => match us, hl with | [_, _], _ => rfl
  have F_Reverse_eq := fun_mk (st := s_Reverse_eq) l_Reverse_eq c2_Reverse_eq k2_Reverse_eq
  have b_Reverse_eq := F_Reverse_eq.binds (ps := ["self", "other"]) fun _ _ _ _ _ _ us hl => match us, hl with | [_, _], _ => rfl
  have F_SetValue_init := fun_mk (st := s_SetValue_init) l_SetValue_init c2_SetValue_init k2_SetValue_init
  have b_SetValue_init := F_SetValue_init.binds (ps := ["self", "name", "value"]) fun _ _ _ _ _ _ us hl => match us, hl with | [_, _, _], _ => rfl
  have F_SetValue_eq := fun_mk (st := s_SetValue_eq) l_SetValue_eq c2_SetValue_eq k2_SetValue_eq
  have b_SetValue_eq := F_SetValue_eq.binds (ps := ["self", "other"]) fun _ _ _ _ _ _ us hl => match us, hl with | [_, _], _ => rfl
  have F_p_law_well := fun_mk (st := s_p_law_well) l_p_law_well c2_p_law_well k2_p_law_well
  have b_p_law_well := F_p_law_well.binds (ps := ["_law_cell"]) fun _ _ _ _ _ _ us hl => match us, hl with | [_], _ => rfl
  have F_p_law_draw := fun_mk (st := s_p_law_draw) l_p_law_draw c2_p_law_draw k2_p_law_draw
  have b_p_law_draw := F_p_law_draw.binds (ps := ["_law_well_here", "_law_many"]) fun _ _ _ _ _ _ us hl => match us, hl with | [_, _], _ => rfl
  have F_p_law_one := fun_mk (st := s_p_law_one) l_p_law_one c2_p_law_one k2_p_law_one
  have b_p_law_one := F_p_law_one.binds (ps := ["_law_well_here", "_law_some"]) fun _ _ _ _ _ _ us hl => match us, hl with | [_, _], _ => rfl
  have F_p_law_field := fun_mk (st := s_p_law_field) l_p_law_field c2_p_law_field k2_p_law_field
  have b_p_law_field := F_p_law_field.binds (ps := ["_law_well_here"]) fun _ _ _ _ _ _ us hl => match us, hl with | [_], _ => rfl
  have F_p_law_deed := fun_mk (st := s_p_law_deed) l_p_law_deed c2_p_law_deed k2_p_law_deed
  have b_p_law_deed := F_p_law_deed.binds (ps := ["_law_kind", "_law_fields"]) fun _ _ _ _ _ _ us hl => match us, hl with | [_, _], _ => rfl
  have F_p_law_named := fun_mk (st := s_p_law_named) l_p_law_named c2_p_law_named k2_p_law_named
  have b_p_law_named := F_p_law_named.binds (ps := ["_law_kind", "_law_fields"]) fun _ _ _ _ _ _ us hl => match us, hl with | [_, _], _ => rfl
  have F_p_law_told := fun_mk (st := s_p_law_told) l_p_law_told c2_p_law_told k2_p_law_told
  have b_p_law_told := F_p_law_told.binds (ps := ["_law_kind", "_law_deed_here"]) fun _ _ _ _ _ _ us hl => match us, hl with | [_, _], _ => rfl
  have F_law := fun_mk (st := s_law) l_law c2_law k2_law
  have b_law := F_law.binds (ps := ["_law_script"]) fun _ _ _ _ _ _ us hl => match us, hl with | [_], _ => rfl
  let A : Ads := { a_Put_init := a_Put_init, d_Put_init := (PySem.W.fnOf "__init__" "Put.__init__" (defArgs s_Put_init) (defBody s_Put_init) (defScope s_Put_init) .none kV_Put_init dc_Put_init pm_Put_init an_Put_init cd_Put_init ct_Put_init), a_Put_eq := a_Put_eq, d_Put_eq := (PySem.W.fnOf "__eq__" "Put.__eq__" (defArgs s_Put_eq) (defBody s_Put_eq) (defScope s_Put_eq) .none kV_Put_eq dc_Put_eq pm_Put_eq an_Put_eq cd_Put_eq ct_Put_eq), a_Move_init := a_Move_init, d_Move_init := (PySem.W.fnOf "__init__" "Move.__init__" (defArgs s_Move_init) (defBody s_Move_init) (defScope s_Move_init) .none kV_Move_init dc_Move_init pm_Move_init an_Move_init cd_Move_init ct_Move_init), a_Move_eq := a_Move_eq, d_Move_eq := (PySem.W.fnOf "__eq__" "Move.__eq__" (defArgs s_Move_eq) (defBody s_Move_eq) (defScope s_Move_eq) .none kV_Move_eq dc_Move_eq pm_Move_eq an_Move_eq cd_Move_eq ct_Move_eq), a_Cut_init := a_Cut_init, d_Cut_init := (PySem.W.fnOf "__init__" "Cut.__init__" (defArgs s_Cut_init) (defBody s_Cut_init) (defScope s_Cut_init) .none kV_Cut_init dc_Cut_init pm_Cut_init an_Cut_init cd_Cut_init ct_Cut_init), a_Cut_eq := a_Cut_eq, d_Cut_eq := (PySem.W.fnOf "__eq__" "Cut.__eq__" (defArgs s_Cut_eq) (defBody s_Cut_eq) (defScope s_Cut_eq) .none kV_Cut_eq dc_Cut_eq pm_Cut_eq an_Cut_eq cd_Cut_eq ct_Cut_eq), a_Lift_init := a_Lift_init, d_Lift_init := (PySem.W.fnOf "__init__" "Lift.__init__" (defArgs s_Lift_init) (defBody s_Lift_init) (defScope s_Lift_init) .none kV_Lift_init dc_Lift_init pm_Lift_init an_Lift_init cd_Lift_init ct_Lift_init), a_Lift_eq := a_Lift_eq, d_Lift_eq := (PySem.W.fnOf "__eq__" "Lift.__eq__" (defArgs s_Lift_eq) (defBody s_Lift_eq) (defScope s_Lift_eq) .none kV_Lift_eq dc_Lift_eq pm_Lift_eq an_Lift_eq cd_Lift_eq ct_Lift_eq), a_Wrap_init := a_Wrap_init, d_Wrap_init := (PySem.W.fnOf "__init__" "Wrap.__init__" (defArgs s_Wrap_init) (defBody s_Wrap_init) (defScope s_Wrap_init) .none kV_Wrap_init dc_Wrap_init pm_Wrap_init an_Wrap_init cd_Wrap_init ct_Wrap_init), a_Wrap_eq := a_Wrap_eq, d_Wrap_eq := (PySem.W.fnOf "__eq__" "Wrap.__eq__" (defArgs s_Wrap_eq) (defBody s_Wrap_eq) (defScope s_Wrap_eq) .none kV_Wrap_eq dc_Wrap_eq pm_Wrap_eq an_Wrap_eq cd_Wrap_eq ct_Wrap_eq), a_Reverse_init := a_Reverse_init, d_Reverse_init := (PySem.W.fnOf "__init__" "Reverse.__init__" (defArgs s_Reverse_init) (defBody s_Reverse_init) (defScope s_Reverse_init) .none kV_Reverse_init dc_Reverse_init pm_Reverse_init an_Reverse_init cd_Reverse_init ct_Reverse_init), a_Reverse_eq := a_Reverse_eq, d_Reverse_eq := (PySem.W.fnOf "__eq__" "Reverse.__eq__" (defArgs s_Reverse_eq) (defBody s_Reverse_eq) (defScope s_Reverse_eq) .none kV_Reverse_eq dc_Reverse_eq pm_Reverse_eq an_Reverse_eq cd_Reverse_eq ct_Reverse_eq), a_SetValue_init := a_SetValue_init, d_SetValue_init := (PySem.W.fnOf "__init__" "SetValue.__init__" (defArgs s_SetValue_init) (defBody s_SetValue_init) (defScope s_SetValue_init) .none kV_SetValue_init dc_SetValue_init pm_SetValue_init an_SetValue_init cd_SetValue_init ct_SetValue_init), a_SetValue_eq := a_SetValue_eq, d_SetValue_eq := (PySem.W.fnOf "__eq__" "SetValue.__eq__" (defArgs s_SetValue_eq) (defBody s_SetValue_eq) (defScope s_SetValue_eq) .none kV_SetValue_eq dc_SetValue_eq pm_SetValue_eq an_SetValue_eq cd_SetValue_eq ct_SetValue_eq), a_p_law_well := a_p_law_well, d_p_law_well := (PySem.W.fnOf "_law_well" "_law_well" (defArgs s_p_law_well) (defBody s_p_law_well) (defScope s_p_law_well) .none kV_p_law_well dc_p_law_well pm_p_law_well an_p_law_well cd_p_law_well ct_p_law_well), a_p_law_draw := a_p_law_draw, d_p_law_draw := (PySem.W.fnOf "_law_draw" "_law_draw" (defArgs s_p_law_draw) (defBody s_p_law_draw) (defScope s_p_law_draw) .none kV_p_law_draw dc_p_law_draw pm_p_law_draw an_p_law_draw cd_p_law_draw ct_p_law_draw), a_p_law_one := a_p_law_one, d_p_law_one := (PySem.W.fnOf "_law_one" "_law_one" (defArgs s_p_law_one) (defBody s_p_law_one) (defScope s_p_law_one) .none kV_p_law_one dc_p_law_one pm_p_law_one an_p_law_one cd_p_law_one ct_p_law_one), a_p_law_field := a_p_law_field, d_p_law_field := (PySem.W.fnOf "_law_field" "_law_field" (defArgs s_p_law_field) (defBody s_p_law_field) (defScope s_p_law_field) .none kV_p_law_field dc_p_law_field pm_p_law_field an_p_law_field cd_p_law_field ct_p_law_field), a_p_law_deed := a_p_law_deed, d_p_law_deed := (PySem.W.fnOf "_law_deed" "_law_deed" (defArgs s_p_law_deed) (defBody s_p_law_deed) (defScope s_p_law_deed) .none kV_p_law_deed dc_p_law_deed pm_p_law_deed an_p_law_deed cd_p_law_deed ct_p_law_deed), a_p_law_named := a_p_law_named, d_p_law_named := (PySem.W.fnOf "_law_named" "_law_named" (defArgs s_p_law_named) (defBody s_p_law_named) (defScope s_p_law_named) .none kV_p_law_named dc_p_law_named pm_p_law_named an_p_law_named cd_p_law_named ct_p_law_named), a_p_law_told := a_p_law_told, d_p_law_told := (PySem.W.fnOf "_law_told" "_law_told" (defArgs s_p_law_told) (defBody s_p_law_told) (defScope s_p_law_told) .none kV_p_law_told dc_p_law_told pm_p_law_told an_p_law_told cd_p_law_told ct_p_law_told), a_law := fa, d_law := (PySem.W.fnOf "law" "law" (defArgs s_law) (defBody s_law) (defScope s_law) .none kV_law dc_law pm_law an_law cd_law ct_law), c_Cut := c_Cut, c_Lift := c_Lift, c_Move := c_Move, c_Put := c_Put, c_Reverse := c_Reverse, c_SetValue := c_SetValue, c_Wrap := c_Wrap }
  have T : Txt K mg A := {
    F_Put_init := F_Put_init,
    b_Put_init := b_Put_init,
    F_Put_eq := F_Put_eq,
    b_Put_eq := b_Put_eq,
    F_Move_init := F_Move_init,
    b_Move_init := b_Move_init,
    F_Move_eq := F_Move_eq,
    b_Move_eq := b_Move_eq,
    F_Cut_init := F_Cut_init,
    b_Cut_init := b_Cut_init,
    F_Cut_eq := F_Cut_eq,
    b_Cut_eq := b_Cut_eq,
    F_Lift_init := F_Lift_init,
    b_Lift_init := b_Lift_init,
    F_Lift_eq := F_Lift_eq,
    b_Lift_eq := b_Lift_eq,
    F_Wrap_init := F_Wrap_init,
    b_Wrap_init := b_Wrap_init,
    F_Wrap_eq := F_Wrap_eq,
    b_Wrap_eq := b_Wrap_eq,
    F_Reverse_init := F_Reverse_init,
    b_Reverse_init := b_Reverse_init,
    F_Reverse_eq := F_Reverse_eq,
    b_Reverse_eq := b_Reverse_eq,
    F_SetValue_init := F_SetValue_init,
    b_SetValue_init := b_SetValue_init,
    F_SetValue_eq := F_SetValue_eq,
    b_SetValue_eq := b_SetValue_eq,
    F_p_law_well := F_p_law_well,
    b_p_law_well := b_p_law_well,
    g_p_law_well := PySem.W.mg_of X G n_p_law_well,
    F_p_law_draw := F_p_law_draw,
    b_p_law_draw := b_p_law_draw,
    g_p_law_draw := PySem.W.mg_of X G n_p_law_draw,
    F_p_law_one := F_p_law_one,
    b_p_law_one := b_p_law_one,
    g_p_law_one := PySem.W.mg_of X G n_p_law_one,
    F_p_law_field := F_p_law_field,
    b_p_law_field := b_p_law_field,
    g_p_law_field := PySem.W.mg_of X G n_p_law_field,
    F_p_law_deed := F_p_law_deed,
    b_p_law_deed := b_p_law_deed,
    g_p_law_deed := PySem.W.mg_of X G n_p_law_deed,
    F_p_law_named := F_p_law_named,
    b_p_law_named := b_p_law_named,
    g_p_law_named := PySem.W.mg_of X G n_p_law_named,
    F_p_law_told := F_p_law_told,
    b_p_law_told := b_p_law_told,
    g_p_law_told := PySem.W.mg_of X G n_p_law_told,
    F_law := F_law,
    b_law := b_law,
    g_law := PySem.W.mg_of X G n_law,
    f_first := by intro C hC; simp only [Ads.cs_first, List.mem_cons, List.not_mem_nil, or_false] at hC; subst hC; exact ⟨⟨pg_Wrap, hd_Wrap, po_Wrap, sa_Wrap⟩, nf_Wrap_first⟩,
    f_last := by intro C hC; simp only [Ads.cs_last, List.mem_cons, List.not_mem_nil, or_false] at hC; subst hC; exact ⟨⟨pg_Wrap, hd_Wrap, po_Wrap, sa_Wrap⟩, nf_Wrap_last⟩,
    f_name := by intro C hC; simp only [Ads.cs_name, List.mem_cons, List.not_mem_nil, or_false] at hC; rcases hC with rfl | rfl | rfl | rfl | rfl | rfl; (exact ⟨⟨pg_Put, hd_Put, po_Put, sa_Put⟩, nf_Put_name⟩); (exact ⟨⟨pg_Move, hd_Move, po_Move, sa_Move⟩, nf_Move_name⟩); (exact ⟨⟨pg_Cut, hd_Cut, po_Cut, sa_Cut⟩, nf_Cut_name⟩); (exact ⟨⟨pg_Lift, hd_Lift, po_Lift, sa_Lift⟩, nf_Lift_name⟩); (exact ⟨⟨pg_Wrap, hd_Wrap, po_Wrap, sa_Wrap⟩, nf_Wrap_name⟩); (exact ⟨⟨pg_SetValue, hd_SetValue, po_SetValue, sa_SetValue⟩, nf_SetValue_name⟩),
    f_parent := by intro C hC; simp only [Ads.cs_parent, List.mem_cons, List.not_mem_nil, or_false] at hC; rcases hC with rfl | rfl | rfl | rfl; (exact ⟨⟨pg_Put, hd_Put, po_Put, sa_Put⟩, nf_Put_parent⟩); (exact ⟨⟨pg_Move, hd_Move, po_Move, sa_Move⟩, nf_Move_parent⟩); (exact ⟨⟨pg_Wrap, hd_Wrap, po_Wrap, sa_Wrap⟩, nf_Wrap_parent⟩); (exact ⟨⟨pg_Reverse, hd_Reverse, po_Reverse, sa_Reverse⟩, nf_Reverse_parent⟩),
    f_rank := by intro C hC; simp only [Ads.cs_rank, List.mem_cons, List.not_mem_nil, or_false] at hC; rcases hC with rfl | rfl; (exact ⟨⟨pg_Put, hd_Put, po_Put, sa_Put⟩, nf_Put_rank⟩); (exact ⟨⟨pg_Move, hd_Move, po_Move, sa_Move⟩, nf_Move_rank⟩),
    f_value := by intro C hC; simp only [Ads.cs_value, List.mem_cons, List.not_mem_nil, or_false] at hC; rcases hC with rfl | rfl | rfl; (exact ⟨⟨pg_Put, hd_Put, po_Put, sa_Put⟩, nf_Put_value⟩); (exact ⟨⟨pg_Wrap, hd_Wrap, po_Wrap, sa_Wrap⟩, nf_Wrap_value⟩); (exact ⟨⟨pg_SetValue, hd_SetValue, po_SetValue, sa_SetValue⟩, nf_SetValue_value⟩),
    g_Cut := PySem.W.mg_of X G nC_Cut,
    g_Lift := PySem.W.mg_of X G nC_Lift,
    g_Move := PySem.W.mg_of X G nC_Move,
    g_Put := PySem.W.mg_of X G nC_Put,
    g_Reverse := PySem.W.mg_of X G nC_Reverse,
    g_SetValue := PySem.W.mg_of X G nC_SetValue,
    g_Wrap := PySem.W.mg_of X G nC_Wrap,
    ic := by intro C hC; simp only [Ads.isis, List.mem_cons, List.not_mem_nil, or_false] at hC; rcases hC with rfl | rfl | rfl | rfl | rfl | rfl | rfl; (exact ⟨⟨pg_Put, hd_Put, po_Put, sa_Put⟩, ha_Put, hm_Put⟩); (exact ⟨⟨pg_Move, hd_Move, po_Move, sa_Move⟩, ha_Move, hm_Move⟩); (exact ⟨⟨pg_Cut, hd_Cut, po_Cut, sa_Cut⟩, ha_Cut, hm_Cut⟩); (exact ⟨⟨pg_Lift, hd_Lift, po_Lift, sa_Lift⟩, ha_Lift, hm_Lift⟩); (exact ⟨⟨pg_Wrap, hd_Wrap, po_Wrap, sa_Wrap⟩, ha_Wrap, hm_Wrap⟩); (exact ⟨⟨pg_Reverse, hd_Reverse, po_Reverse, sa_Reverse⟩, ha_Reverse, hm_Reverse⟩); (exact ⟨⟨pg_SetValue, hd_SetValue, po_SetValue, sa_SetValue⟩, ha_SetValue, hm_SetValue⟩),
    isi := ⟨isi_n, isi_t⟩,
    kw_Cut_init_1_name := fun s us ws X0 l1 l2 => match us, ws, l1, l2 with | [_], [_], _, _ => .of_eq rfl,
    kw_Lift_init_1_name := fun s us ws X0 l1 l2 => match us, ws, l1, l2 with | [_], [_], _, _ => .of_eq rfl,
    kw_Move_init_1_rank_parent_name := fun s us ws X0 l1 l2 => match us, ws, l1, l2 with | [_], [_, _, _], _, _ => .of_eq rfl,
    kw_Put_init_1_rank_parent_value_name := fun s us ws X0 l1 l2 => match us, ws, l1, l2 with | [_], [_, _, _, _], _, _ => .of_eq rfl,
    kw_Reverse_init_1_parent := fun s us ws X0 l1 l2 => match us, ws, l1, l2 with | [_], [_], _, _ => .of_eq rfl,
    kw_SetValue_init_1_value_name := fun s us ws X0 l1 l2 => match us, ws, l1, l2 with | [_], [_, _], _, _ => .of_eq rfl,
    kw_Wrap_init_1_last_first_parent_value_name := fun s us ws X0 l1 l2 => match us, ws, l1, l2 with | [_], [_, _, _, _, _], _, _ => .of_eq rfl,
    mk_Cut := ⟨mk2_Cut, n_Cut_init, i_Cut_init, kc_Cut⟩,
    mk_Lift := ⟨mk2_Lift, n_Lift_init, i_Lift_init, kc_Lift⟩,
    mk_Move := ⟨mk2_Move, n_Move_init, i_Move_init, kc_Move⟩,
    mk_Put := ⟨mk2_Put, n_Put_init, i_Put_init, kc_Put⟩,
    mk_Reverse := ⟨mk2_Reverse, n_Reverse_init, i_Reverse_init, kc_Reverse⟩,
    mk_SetValue := ⟨mk2_SetValue, n_SetValue_init, i_SetValue_init, kc_SetValue⟩,
    mk_Wrap := ⟨mk2_Wrap, n_Wrap_init, i_Wrap_init, kc_Wrap⟩,
    q_Cut := ⟨n_Cut_eq, i_Cut_eq, ne_Cut, hm_Cut⟩,
    q_Lift := ⟨n_Lift_eq, i_Lift_eq, ne_Lift, hm_Lift⟩,
    q_Move := ⟨n_Move_eq, i_Move_eq, ne_Move, hm_Move⟩,
    q_Put := ⟨n_Put_eq, i_Put_eq, ne_Put, hm_Put⟩,
    q_Reverse := ⟨n_Reverse_eq, i_Reverse_eq, ne_Reverse, hm_Reverse⟩,
    q_SetValue := ⟨n_SetValue_eq, i_SetValue_eq, ne_SetValue, hm_SetValue⟩,
    q_Wrap := ⟨n_Wrap_eq, i_Wrap_eq, ne_Wrap, hm_Wrap⟩,
    z_int := PySem.W.mg_none_of X G z_int,
    z_isinstance := PySem.W.mg_none_of X G z_isinstance,
    z_len := PySem.W.mg_none_of X G z_len,
    z_range := PySem.W.mg_none_of X G z_range,
    z_tuple := PySem.W.mg_none_of X G z_tuple }
  exact ⟨_, fun s v => .of_eq rfl, fun base _ _ => (ok_law (base := base) T).imp (spTrue_of (main A ⟨kitB_of ik_Put tk_Put, kitB_of ik_Move tk_Move, kitB_of ik_Cut tk_Cut, kitB_of ik_Lift tk_Lift, kitB_of ik_Wrap tk_Wrap, kitB_of ik_Reverse tk_Reverse, kitB_of ik_SetValue tk_SetValue, kit_pair ik_Move tk_Move sb_Put_Move dn_Put_Move, fx_nf_Put_Move, kit_pair ik_Cut tk_Cut sb_Put_Cut dn_Put_Cut, fx_nf_Put_Cut, kit_pair ik_Lift tk_Lift sb_Put_Lift dn_Put_Lift, fx_nf_Put_Lift, kit_pair ik_Wrap tk_Wrap sb_Put_Wrap dn_Put_Wrap, fx_nf_Put_Wrap, kit_pair ik_Reverse tk_Reverse sb_Put_Reverse dn_Put_Reverse, fx_nf_Put_Reverse, kit_pair ik_SetValue tk_SetValue sb_Put_SetValue dn_Put_SetValue, fx_nf_Put_SetValue, kit_pair ik_Put tk_Put sb_Move_Put dn_Move_Put, fx_nf_Move_Put, kit_pair ik_Cut tk_Cut sb_Move_Cut dn_Move_Cut, fx_nf_Move_Cut, kit_pair ik_Lift tk_Lift sb_Move_Lift dn_Move_Lift, fx_nf_Move_Lift, kit_pair ik_Wrap tk_Wrap sb_Move_Wrap dn_Move_Wrap, fx_nf_Move_Wrap, kit_pair ik_Reverse tk_Reverse sb_Move_Reverse dn_Move_Reverse, fx_nf_Move_Reverse, kit_pair ik_SetValue tk_SetValue sb_Move_SetValue dn_Move_SetValue, fx_nf_Move_SetValue, kit_pair ik_Put tk_Put sb_Cut_Put dn_Cut_Put, fx_nf_Cut_Put, kit_pair ik_Move tk_Move sb_Cut_Move dn_Cut_Move, fx_nf_Cut_Move, kit_pair ik_Lift tk_Lift sb_Cut_Lift dn_Cut_Lift, fx_nf_Cut_Lift, kit_pair ik_Wrap tk_Wrap sb_Cut_Wrap dn_Cut_Wrap, fx_nf_Cut_Wrap, kit_pair ik_Reverse tk_Reverse sb_Cut_Reverse dn_Cut_Reverse, fx_nf_Cut_Reverse, kit_pair ik_SetValue tk_SetValue sb_Cut_SetValue dn_Cut_SetValue, fx_nf_Cut_SetValue, kit_pair ik_Put tk_Put sb_Lift_Put dn_Lift_Put, fx_nf_Lift_Put, kit_pair ik_Move tk_Move sb_Lift_Move dn_Lift_Move, fx_nf_Lift_Move, kit_pair ik_Cut tk_Cut sb_Lift_Cut dn_Lift_Cut, fx_nf_Lift_Cut, kit_pair ik_Wrap tk_Wrap sb_Lift_Wrap dn_Lift_Wrap, fx_nf_Lift_Wrap, kit_pair ik_Reverse tk_Reverse sb_Lift_Reverse dn_Lift_Reverse, fx_nf_Lift_Reverse, kit_pair ik_SetValue tk_SetValue sb_Lift_SetValue dn_Lift_SetValue, fx_nf_Lift_SetValue, kit_pair ik_Put tk_Put sb_Wrap_Put dn_Wrap_Put, fx_nf_Wrap_Put, kit_pair ik_Move tk_Move sb_Wrap_Move dn_Wrap_Move, fx_nf_Wrap_Move, kit_pair ik_Cut tk_Cut sb_Wrap_Cut dn_Wrap_Cut, fx_nf_Wrap_Cut, kit_pair ik_Lift tk_Lift sb_Wrap_Lift dn_Wrap_Lift, fx_nf_Wrap_Lift, kit_pair ik_Reverse tk_Reverse sb_Wrap_Reverse dn_Wrap_Reverse, fx_nf_Wrap_Reverse, kit_pair ik_SetValue tk_SetValue sb_Wrap_SetValue dn_Wrap_SetValue, fx_nf_Wrap_SetValue, kit_pair ik_Put tk_Put sb_Reverse_Put dn_Reverse_Put, fx_nf_Reverse_Put, kit_pair ik_Move tk_Move sb_Reverse_Move dn_Reverse_Move, fx_nf_Reverse_Move, kit_pair ik_Cut tk_Cut sb_Reverse_Cut dn_Reverse_Cut, fx_nf_Reverse_Cut, kit_pair ik_Lift tk_Lift sb_Reverse_Lift dn_Reverse_Lift, fx_nf_Reverse_Lift, kit_pair ik_Wrap tk_Wrap sb_Reverse_Wrap dn_Reverse_Wrap, fx_nf_Reverse_Wrap, kit_pair ik_SetValue tk_SetValue sb_Reverse_SetValue dn_Reverse_SetValue, fx_nf_Reverse_SetValue, kit_pair ik_Put tk_Put sb_SetValue_Put dn_SetValue_Put, fx_nf_SetValue_Put, kit_pair ik_Move tk_Move sb_SetValue_Move dn_SetValue_Move, fx_nf_SetValue_Move, kit_pair ik_Cut tk_Cut sb_SetValue_Cut dn_SetValue_Cut, fx_nf_SetValue_Cut, kit_pair ik_Lift tk_Lift sb_SetValue_Lift dn_SetValue_Lift, fx_nf_SetValue_Lift, kit_pair ik_Wrap tk_Wrap sb_SetValue_Wrap dn_SetValue_Wrap, fx_nf_SetValue_Wrap, kit_pair ik_Reverse tk_Reverse sb_SetValue_Reverse dn_SetValue_Reverse, fx_nf_SetValue_Reverse⟩))⟩
end
theorem walk_here {l : PySem.W.OpenLaw} {q : Program} {loose : List Str} {XP : (Str → Option Value) → Heap → Prop} {YP : World → Heap → Prop} {d : DefRec} {K : Params → PySem.W.Frag} (hn : l.most = some 63) (hdf : d.params.defaults = [])
    (hY : ∀ (w : World) (h : Heap), YP w h → (K w.params).In h)
    (F : ∀ (w : World) (mg : Str → Option Value) (fa : Addr) (h : Heap), (K w.params).In h → h.Ns mainGlobals mg → mg d.name = some (.ref fa) →
      ∃ fd : FuncData, (∀ (s : Shared) (u : Value), BindsTo s fd ⟨[u], []⟩ [("_law_script", u)]) ∧ ∀ base : Heap, (K w.params).In base → base.Ns mainGlobals mg → FnOk l.prog w (K w.params) mg base CX0 4 fa fd ["_law_script"] (spTrue (K w.params))) :
    PySem.W.WalkO q loose XP YP l.row.toRowW d [] (fun f vs => PySem.call f vs) :=
  L2.walk_of (n := 63) (k := 4) (x := "_law_script") (CX := fun _ => CX0) (sp := fun w => spTrue (K w.params)) hn (by decide) hdf ⟨rfl, by decide, by decide⟩ hY F (fun _ _ a ns hl _ hS => ⟨a, ns, rfl, hS, hl, fun _ => rfl⟩) fun _ _ _ _ _ z => z
end My
open PySem PySem.W PyProof.Rows in
set_option maxRecDepth 100000 in
set_option maxHeartbeats 0 in
theorem PySem.Challenge.cw_forestrows_k07_deeds_as_things_holds : PySem.Challenge.rw_forestrows_k07_deeds_as_things.Holds := by
  w_on; o_law; k_head; (case hw => w_witness2)
  k_fill
  refine My.walk_here (l := PySem.Challenge.rw_forestrows_k07_deeds_as_things) rfl rfl (fun w h Y => PySem.W.kIn_of Y) ?F
  case F =>
    intro w mg fa h KX G hmg
    refine' My.all_mk KX G hmg ?nC_Cut ?nC_Lift ?nC_Move ?nC_Put ?nC_Reverse ?nC_SetValue ?nC_Wrap ?n_Put_init ?i_Put_init ?l_Put_init ?c2_Put_init ?k2_Put_init ?n_Put_eq ?i_Put_eq ?l_Put_eq ?c2_Put_eq ?k2_Put_eq ?n_Move_init ?i_Move_init ?l_Move_init ?c2_Move_init ?k2_Move_init ?n_Move_eq ?i_Move_eq ?l_Move_eq ?c2_Move_eq ?k2_Move_eq ?n_Cut_init ?i_Cut_init ?l_Cut_init ?c2_Cut_init ?k2_Cut_init ?n_Cut_eq ?i_Cut_eq ?l_Cut_eq ?c2_Cut_eq ?k2_Cut_eq ?n_Lift_init ?i_Lift_init ?l_Lift_init ?c2_Lift_init ?k2_Lift_init ?n_Lift_eq ?i_Lift_eq ?l_Lift_eq ?c2_Lift_eq ?k2_Lift_eq ?n_Wrap_init ?i_Wrap_init ?l_Wrap_init ?c2_Wrap_init ?k2_Wrap_init ?n_Wrap_eq ?i_Wrap_eq ?l_Wrap_eq ?c2_Wrap_eq ?k2_Wrap_eq ?n_Reverse_init ?i_Reverse_init ?l_Reverse_init ?c2_Reverse_init ?k2_Reverse_init ?n_Reverse_eq ?i_Reverse_eq ?l_Reverse_eq ?c2_Reverse_eq ?k2_Reverse_eq ?n_SetValue_init ?i_SetValue_init ?l_SetValue_init ?c2_SetValue_init ?k2_SetValue_init ?n_SetValue_eq ?i_SetValue_eq ?l_SetValue_eq ?c2_SetValue_eq ?k2_SetValue_eq ?n_p_law_well ?l_p_law_well ?c2_p_law_well ?k2_p_law_well ?n_p_law_draw ?l_p_law_draw ?c2_p_law_draw ?k2_p_law_draw ?n_p_law_one ?l_p_law_one ?c2_p_law_one ?k2_p_law_one ?n_p_law_field ?l_p_law_field ?c2_p_law_field ?k2_p_law_field ?n_p_law_deed ?l_p_law_deed ?c2_p_law_deed ?k2_p_law_deed ?n_p_law_named ?l_p_law_named ?c2_p_law_named ?k2_p_law_named ?n_p_law_told ?l_p_law_told ?c2_p_law_told ?k2_p_law_told ?n_law ?l_law ?c2_law ?k2_law ?pg_Cut ?hd_Cut ?po_Cut ?sa_Cut ?pg_Lift ?hd_Lift ?po_Lift ?sa_Lift ?pg_Move ?hd_Move ?po_Move ?sa_Move ?pg_Put ?hd_Put ?po_Put ?sa_Put ?pg_Reverse ?hd_Reverse ?po_Reverse ?sa_Reverse ?pg_SetValue ?hd_SetValue ?po_SetValue ?sa_SetValue ?pg_Wrap ?hd_Wrap ?po_Wrap ?sa_Wrap ?nf_Wrap_first ?nf_Wrap_last ?nf_Put_name ?nf_Move_name ?nf_Cut_name ?nf_Lift_name ?nf_Wrap_name ?nf_SetValue_name ?nf_Put_parent ?nf_Move_parent ?nf_Wrap_parent ?nf_Reverse_parent ?nf_Put_rank ?nf_Move_rank ?nf_Put_value ?nf_Wrap_value ?nf_SetValue_value ?ha_Put ?hm_Put ?ha_Move ?hm_Move ?ha_Cut ?hm_Cut ?ha_Lift ?hm_Lift ?ha_Wrap ?hm_Wrap ?ha_Reverse ?hm_Reverse ?ha_SetValue ?hm_SetValue ?isi_n ?isi_t ?mk2_Cut ?kc_Cut ?mk2_Lift ?kc_Lift ?mk2_Move ?kc_Move ?mk2_Put ?kc_Put ?mk2_Reverse ?kc_Reverse ?mk2_SetValue ?kc_SetValue ?mk2_Wrap ?kc_Wrap ?ne_Cut ?ne_Lift ?ne_Move ?ne_Put ?ne_Reverse ?ne_SetValue ?ne_Wrap ?z_int ?z_isinstance ?z_len ?z_range ?z_tuple ?ik_Put ?tk_Put ?ik_Move ?tk_Move ?ik_Cut ?tk_Cut ?ik_Lift ?tk_Lift ?ik_Wrap ?tk_Wrap ?ik_Reverse ?tk_Reverse ?ik_SetValue ?tk_SetValue ?sb_Put_Move ?dn_Put_Move ?fx_nf_Put_Move ?sb_Put_Cut ?dn_Put_Cut ?fx_nf_Put_Cut ?sb_Put_Lift ?dn_Put_Lift ?fx_nf_Put_Lift ?sb_Put_Wrap ?dn_Put_Wrap ?fx_nf_Put_Wrap ?sb_Put_Reverse ?dn_Put_Reverse ?fx_nf_Put_Reverse ?sb_Put_SetValue ?dn_Put_SetValue ?fx_nf_Put_SetValue ?sb_Move_Put ?dn_Move_Put ?fx_nf_Move_Put ?sb_Move_Cut ?dn_Move_Cut ?fx_nf_Move_Cut ?sb_Move_Lift ?dn_Move_Lift ?fx_nf_Move_Lift ?sb_Move_Wrap ?dn_Move_Wrap ?fx_nf_Move_Wrap ?sb_Move_Reverse ?dn_Move_Reverse ?fx_nf_Move_Reverse ?sb_Move_SetValue ?dn_Move_SetValue ?fx_nf_Move_SetValue ?sb_Cut_Put ?dn_Cut_Put ?fx_nf_Cut_Put ?sb_Cut_Move ?dn_Cut_Move ?fx_nf_Cut_Move ?sb_Cut_Lift ?dn_Cut_Lift ?fx_nf_Cut_Lift ?sb_Cut_Wrap ?dn_Cut_Wrap ?fx_nf_Cut_Wrap ?sb_Cut_Reverse ?dn_Cut_Reverse ?fx_nf_Cut_Reverse ?sb_Cut_SetValue ?dn_Cut_SetValue ?fx_nf_Cut_SetValue ?sb_Lift_Put ?dn_Lift_Put ?fx_nf_Lift_Put ?sb_Lift_Move ?dn_Lift_Move ?fx_nf_Lift_Move ?sb_Lift_Cut ?dn_Lift_Cut ?fx_nf_Lift_Cut ?sb_Lift_Wrap ?dn_Lift_Wrap ?fx_nf_Lift_Wrap ?sb_Lift_Reverse ?dn_Lift_Reverse ?fx_nf_Lift_Reverse ?sb_Lift_SetValue ?dn_Lift_SetValue ?fx_nf_Lift_SetValue ?sb_Wrap_Put ?dn_Wrap_Put ?fx_nf_Wrap_Put ?sb_Wrap_Move ?dn_Wrap_Move ?fx_nf_Wrap_Move ?sb_Wrap_Cut ?dn_Wrap_Cut ?fx_nf_Wrap_Cut ?sb_Wrap_Lift ?dn_Wrap_Lift ?fx_nf_Wrap_Lift ?sb_Wrap_Reverse ?dn_Wrap_Reverse ?fx_nf_Wrap_Reverse ?sb_Wrap_SetValue ?dn_Wrap_SetValue ?fx_nf_Wrap_SetValue ?sb_Reverse_Put ?dn_Reverse_Put ?fx_nf_Reverse_Put ?sb_Reverse_Move ?dn_Reverse_Move ?fx_nf_Reverse_Move ?sb_Reverse_Cut ?dn_Reverse_Cut ?fx_nf_Reverse_Cut ?sb_Reverse_Lift ?dn_Reverse_Lift ?fx_nf_Reverse_Lift ?sb_Reverse_Wrap ?dn_Reverse_Wrap ?fx_nf_Reverse_Wrap ?sb_Reverse_SetValue ?dn_Reverse_SetValue ?fx_nf_Reverse_SetValue ?sb_SetValue_Put ?dn_SetValue_Put ?fx_nf_SetValue_Put ?sb_SetValue_Move ?dn_SetValue_Move ?fx_nf_SetValue_Move ?sb_SetValue_Cut ?dn_SetValue_Cut ?fx_nf_SetValue_Cut ?sb_SetValue_Lift ?dn_SetValue_Lift ?fx_nf_SetValue_Lift ?sb_SetValue_Wrap ?dn_SetValue_Wrap ?fx_nf_SetValue_Wrap ?sb_SetValue_Reverse ?dn_SetValue_Reverse ?fx_nf_SetValue_Reverse ?main
    (case nC_Cut => k_is)
    (case nC_Lift => k_is)
    (case nC_Move => k_is)
    (case nC_Put => k_is)
    (case nC_Reverse => k_is)
    (case nC_SetValue => k_is)
    (case nC_Wrap => k_is)
    (case n_Put_init => k_is)
    (case i_Put_init => k_is)
    (case l_Put_init => k_is)
    (case c2_Put_init => k_is)
    (case k2_Put_init => k_is)
    (case n_Put_eq => k_is)
    (case i_Put_eq => k_is)
    (case l_Put_eq => k_is)
    (case c2_Put_eq => k_is)
    (case k2_Put_eq => k_is)
    (case n_Move_init => k_is)
    (case i_Move_init => k_is)
    (case l_Move_init => k_is)
    (case c2_Move_init => k_is)
    (case k2_Move_init => k_is)
    (case n_Move_eq => k_is)
    (case i_Move_eq => k_is)
    (case l_Move_eq => k_is)
    (case c2_Move_eq => k_is)
    (case k2_Move_eq => k_is)
    (case n_Cut_init => k_is)
    (case i_Cut_init => k_is)
    (case l_Cut_init => k_is)
    (case c2_Cut_init => k_is)
    (case k2_Cut_init => k_is)
    (case n_Cut_eq => k_is)
    (case i_Cut_eq => k_is)
    (case l_Cut_eq => k_is)
    (case c2_Cut_eq => k_is)
    (case k2_Cut_eq => k_is)
    (case n_Lift_init => k_is)
    (case i_Lift_init => k_is)
    (case l_Lift_init => k_is)
    (case c2_Lift_init => k_is)
    (case k2_Lift_init => k_is)
    (case n_Lift_eq => k_is)
    (case i_Lift_eq => k_is)
    (case l_Lift_eq => k_is)
    (case c2_Lift_eq => k_is)
    (case k2_Lift_eq => k_is)
    (case n_Wrap_init => k_is)
    (case i_Wrap_init => k_is)
    (case l_Wrap_init => k_is)
    (case c2_Wrap_init => k_is)
    (case k2_Wrap_init => k_is)
    (case n_Wrap_eq => k_is)
    (case i_Wrap_eq => k_is)
    (case l_Wrap_eq => k_is)
    (case c2_Wrap_eq => k_is)
    (case k2_Wrap_eq => k_is)
    (case n_Reverse_init => k_is)
    (case i_Reverse_init => k_is)
    (case l_Reverse_init => k_is)
    (case c2_Reverse_init => k_is)
    (case k2_Reverse_init => k_is)
    (case n_Reverse_eq => k_is)
    (case i_Reverse_eq => k_is)
    (case l_Reverse_eq => k_is)
    (case c2_Reverse_eq => k_is)
    (case k2_Reverse_eq => k_is)
    (case n_SetValue_init => k_is)
    (case i_SetValue_init => k_is)
    (case l_SetValue_init => k_is)
    (case c2_SetValue_init => k_is)
    (case k2_SetValue_init => k_is)
    (case n_SetValue_eq => k_is)
    (case i_SetValue_eq => k_is)
    (case l_SetValue_eq => k_is)
    (case c2_SetValue_eq => k_is)
    (case k2_SetValue_eq => k_is)
    (case n_p_law_well => k_is)
    (case l_p_law_well => k_is)
    (case c2_p_law_well => k_is)
    (case k2_p_law_well => k_is)
    (case n_p_law_draw => k_is)
    (case l_p_law_draw => k_is)
    (case c2_p_law_draw => k_is)
    (case k2_p_law_draw => k_is)
    (case n_p_law_one => k_is)
    (case l_p_law_one => k_is)
    (case c2_p_law_one => k_is)
    (case k2_p_law_one => k_is)
    (case n_p_law_field => k_is)
    (case l_p_law_field => k_is)
    (case c2_p_law_field => k_is)
    (case k2_p_law_field => k_is)
    (case n_p_law_deed => k_is)
    (case l_p_law_deed => k_is)
    (case c2_p_law_deed => k_is)
    (case k2_p_law_deed => k_is)
    (case n_p_law_named => k_is)
    (case l_p_law_named => k_is)
    (case c2_p_law_named => k_is)
    (case k2_p_law_named => k_is)
    (case n_p_law_told => k_is)
    (case l_p_law_told => k_is)
    (case c2_p_law_told => k_is)
    (case k2_p_law_told => k_is)
    (case n_law => k_is)
    (case l_law => k_is)
    (case c2_law => k_is)
    (case k2_law => k_is)
    (case pg_Cut => k_is)
    (case hd_Cut => k_is)
    (case po_Cut => k_is)
    (case sa_Cut => k_is)
    (case pg_Lift => k_is)
    (case hd_Lift => k_is)
    (case po_Lift => k_is)
    (case sa_Lift => k_is)
    (case pg_Move => k_is)
    (case hd_Move => k_is)
    (case po_Move => k_is)
    (case sa_Move => k_is)
    (case pg_Put => k_is)
    (case hd_Put => k_is)
    (case po_Put => k_is)
    (case sa_Put => k_is)
    (case pg_Reverse => k_is)
    (case hd_Reverse => k_is)
    (case po_Reverse => k_is)
    (case sa_Reverse => k_is)
    (case pg_SetValue => k_is)
    (case hd_SetValue => k_is)
    (case po_SetValue => k_is)
    (case sa_SetValue => k_is)
    (case pg_Wrap => k_is)
    (case hd_Wrap => k_is)
    (case po_Wrap => k_is)
    (case sa_Wrap => k_is)
    (case nf_Wrap_first => k_is)
    (case nf_Wrap_last => k_is)
    (case nf_Put_name => k_is)
    (case nf_Move_name => k_is)
    (case nf_Cut_name => k_is)
    (case nf_Lift_name => k_is)
    (case nf_Wrap_name => k_is)
    (case nf_SetValue_name => k_is)
    (case nf_Put_parent => k_is)
    (case nf_Move_parent => k_is)
    (case nf_Wrap_parent => k_is)
    (case nf_Reverse_parent => k_is)
    (case nf_Put_rank => k_is)
    (case nf_Move_rank => k_is)
    (case nf_Put_value => k_is)
    (case nf_Wrap_value => k_is)
    (case nf_SetValue_value => k_is)
    (case ha_Put => k_is)
    (case hm_Put => k_is)
    (case ha_Move => k_is)
    (case hm_Move => k_is)
    (case ha_Cut => k_is)
    (case hm_Cut => k_is)
    (case ha_Lift => k_is)
    (case hm_Lift => k_is)
    (case ha_Wrap => k_is)
    (case hm_Wrap => k_is)
    (case ha_Reverse => k_is)
    (case hm_Reverse => k_is)
    (case ha_SetValue => k_is)
    (case hm_SetValue => k_is)
    (case isi_n => k_is)
    (case isi_t => k_is)
    (case mk2_Cut => k_is)
    (case kc_Cut => k_is)
    (case mk2_Lift => k_is)
    (case kc_Lift => k_is)
    (case mk2_Move => k_is)
    (case kc_Move => k_is)
    (case mk2_Put => k_is)
    (case kc_Put => k_is)
    (case mk2_Reverse => k_is)
    (case kc_Reverse => k_is)
    (case mk2_SetValue => k_is)
    (case kc_SetValue => k_is)
    (case mk2_Wrap => k_is)
    (case kc_Wrap => k_is)
    (case ne_Cut => k_is)
    (case ne_Lift => k_is)
    (case ne_Move => k_is)
    (case ne_Put => k_is)
    (case ne_Reverse => k_is)
    (case ne_SetValue => k_is)
    (case ne_Wrap => k_is)
    (case z_int => k_is)
    (case z_isinstance => k_is)
    (case z_len => k_is)
    (case z_range => k_is)
    (case z_tuple => k_is)
    (case ik_Put => k_is)
    (case tk_Put => k_is)
    (case ik_Move => k_is)
    (case tk_Move => k_is)
    (case ik_Cut => k_is)
    (case tk_Cut => k_is)
    (case ik_Lift => k_is)
    (case tk_Lift => k_is)
    (case ik_Wrap => k_is)
    (case tk_Wrap => k_is)
    (case ik_Reverse => k_is)
    (case tk_Reverse => k_is)
    (case ik_SetValue => k_is)
    (case tk_SetValue => k_is)
    (case sb_Put_Move => k_is)
    (case dn_Put_Move => decide)
    (case fx_nf_Put_Move => k_is)
    (case sb_Put_Cut => k_is)
    (case dn_Put_Cut => decide)
    (case fx_nf_Put_Cut => k_is)
    (case sb_Put_Lift => k_is)
    (case dn_Put_Lift => decide)
    (case fx_nf_Put_Lift => k_is)
    (case sb_Put_Wrap => k_is)
    (case dn_Put_Wrap => decide)
    (case fx_nf_Put_Wrap => k_is)
    (case sb_Put_Reverse => k_is)
    (case dn_Put_Reverse => decide)
    (case fx_nf_Put_Reverse => k_is)
    (case sb_Put_SetValue => k_is)
    (case dn_Put_SetValue => decide)
    (case fx_nf_Put_SetValue => k_is)
    (case sb_Move_Put => k_is)
    (case dn_Move_Put => decide)
    (case fx_nf_Move_Put => k_is)
    (case sb_Move_Cut => k_is)
    (case dn_Move_Cut => decide)
    (case fx_nf_Move_Cut => k_is)
    (case sb_Move_Lift => k_is)
    (case dn_Move_Lift => decide)
    (case fx_nf_Move_Lift => k_is)
    (case sb_Move_Wrap => k_is)
    (case dn_Move_Wrap => decide)
    (case fx_nf_Move_Wrap => k_is)
    (case sb_Move_Reverse => k_is)
    (case dn_Move_Reverse => decide)
    (case fx_nf_Move_Reverse => k_is)
    (case sb_Move_SetValue => k_is)
    (case dn_Move_SetValue => decide)
    (case fx_nf_Move_SetValue => k_is)
    (case sb_Cut_Put => k_is)
    (case dn_Cut_Put => decide)
    (case fx_nf_Cut_Put => k_is)
    (case sb_Cut_Move => k_is)
    (case dn_Cut_Move => decide)
    (case fx_nf_Cut_Move => k_is)
    (case sb_Cut_Lift => k_is)
    (case dn_Cut_Lift => decide)
    (case fx_nf_Cut_Lift => k_is)
    (case sb_Cut_Wrap => k_is)
    (case dn_Cut_Wrap => decide)
    (case fx_nf_Cut_Wrap => k_is)
    (case sb_Cut_Reverse => k_is)
    (case dn_Cut_Reverse => decide)
    (case fx_nf_Cut_Reverse => k_is)
    (case sb_Cut_SetValue => k_is)
    (case dn_Cut_SetValue => decide)
    (case fx_nf_Cut_SetValue => k_is)
    (case sb_Lift_Put => k_is)
    (case dn_Lift_Put => decide)
    (case fx_nf_Lift_Put => k_is)
    (case sb_Lift_Move => k_is)
    (case dn_Lift_Move => decide)
    (case fx_nf_Lift_Move => k_is)
    (case sb_Lift_Cut => k_is)
    (case dn_Lift_Cut => decide)
    (case fx_nf_Lift_Cut => k_is)
    (case sb_Lift_Wrap => k_is)
    (case dn_Lift_Wrap => decide)
    (case fx_nf_Lift_Wrap => k_is)
    (case sb_Lift_Reverse => k_is)
    (case dn_Lift_Reverse => decide)
    (case fx_nf_Lift_Reverse => k_is)
    (case sb_Lift_SetValue => k_is)
    (case dn_Lift_SetValue => decide)
    (case fx_nf_Lift_SetValue => k_is)
    (case sb_Wrap_Put => k_is)
    (case dn_Wrap_Put => decide)
    (case fx_nf_Wrap_Put => k_is)
    (case sb_Wrap_Move => k_is)
    (case dn_Wrap_Move => decide)
    (case fx_nf_Wrap_Move => k_is)
    (case sb_Wrap_Cut => k_is)
    (case dn_Wrap_Cut => decide)
    (case fx_nf_Wrap_Cut => k_is)
    (case sb_Wrap_Lift => k_is)
    (case dn_Wrap_Lift => decide)
    (case fx_nf_Wrap_Lift => k_is)
    (case sb_Wrap_Reverse => k_is)
    (case dn_Wrap_Reverse => decide)
    (case fx_nf_Wrap_Reverse => k_is)
    (case sb_Wrap_SetValue => k_is)
    (case dn_Wrap_SetValue => decide)
    (case fx_nf_Wrap_SetValue => k_is)
    (case sb_Reverse_Put => k_is)
    (case dn_Reverse_Put => decide)
    (case fx_nf_Reverse_Put => k_is)
    (case sb_Reverse_Move => k_is)
    (case dn_Reverse_Move => decide)
    (case fx_nf_Reverse_Move => k_is)
    (case sb_Reverse_Cut => k_is)
    (case dn_Reverse_Cut => decide)
    (case fx_nf_Reverse_Cut => k_is)
    (case sb_Reverse_Lift => k_is)
    (case dn_Reverse_Lift => decide)
    (case fx_nf_Reverse_Lift => k_is)
    (case sb_Reverse_Wrap => k_is)
    (case dn_Reverse_Wrap => decide)
    (case fx_nf_Reverse_Wrap => k_is)
    (case sb_Reverse_SetValue => k_is)
    (case dn_Reverse_SetValue => decide)
    (case fx_nf_Reverse_SetValue => k_is)
    (case sb_SetValue_Put => k_is)
    (case dn_SetValue_Put => decide)
    (case fx_nf_SetValue_Put => k_is)
    (case sb_SetValue_Move => k_is)
    (case dn_SetValue_Move => decide)
    (case fx_nf_SetValue_Move => k_is)
    (case sb_SetValue_Cut => k_is)
    (case dn_SetValue_Cut => decide)
    (case fx_nf_SetValue_Cut => k_is)
    (case sb_SetValue_Lift => k_is)
    (case dn_SetValue_Lift => decide)
    (case fx_nf_SetValue_Lift => k_is)
    (case sb_SetValue_Wrap => k_is)
    (case dn_SetValue_Wrap => decide)
    (case fx_nf_SetValue_Wrap => k_is)
    (case sb_SetValue_Reverse => k_is)
    (case dn_SetValue_Reverse => decide)
    (case fx_nf_SetValue_Reverse => k_is)
    (case main => exact fun A F ns hl => My.law_true A F ns hl)
