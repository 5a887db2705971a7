import PyProof.Rows.All
import Wide.All
import OpenK.AllK
import Wide.FinOn
import HandS.Base
import HandS.Call
import HandS.List
import HandS.Comp
import HandS.Dict
import HandS.Iter
import HandS.Text
import HandS.Ends
import HandS.Words
import HandS.Evl
import HandS.Exc
import HandS.ExcInit
import HandS.ExcValue
import HandS.Head0
import HandS.Head1
import HandS.Head2
import HandS.HeadEnd
import HandS.HeadHook1
import HandS.HeadHook2
import KE.KNest
import PySem.Challenge.RW_forestrows_k44_how_long_a_gap_lasts
import HandS.Lambda
import HandS.Wide
import HandS.TupAny
import HandS.IsInst
import HandS.Style
import HandS.ExcOwn
import HandS.Deep
import HandS.RevRange
import HandS.ClsMeth
import HandS.DictComp
import HandS.MakeKw
import HandS.MakeKwOnly
import KE.KMinKey
import HandS.SortKw
import HandS.Conv
import HandS.SlotsOwn
import HandS.More
import HandS.ExcField
import HandS.ExcIs
import HandS.WordsExc
import KE.KExcIs
import KE.KExcMore
import KE.KEqNest
import HandS.DeepEq
import PyProof.NeKinds
import PyProof.StrOps2
import HandS.TryOnly
import HandS.OwnEq
import PyProof.ReprRoads
import HandS.FStr
import HandS.EndTab
import KE.KDflt
import HandS.Flt
set_option autoImplicit false
set_option Elab.async false
set_option linter.all false
set_option maxRecDepth 100000
set_option maxHeartbeats 2000000
/-! DH1: a head by one run: every fact that the end leans on is a Bool over a part of the heap -/
namespace DH
open PySem PySem.Spec PyProof.Rows L2 He
section
variable {K : PySem.W.Frag}
def cstIn (K : PySem.W.Frag) (x : Str) (v : V) : Bool := match PySem.W.nsIn K mainGlobals x with
  | some (some u) => relB v u
  | _ => false
theorem cstIn_ok {x : Str} {v : V} (h : cstIn K x v = true) : ∃ u, PySem.W.nsIn K mainGlobals x = some (some u) ∧ RelV v u := by
  unfold cstIn at h
  cases e : PySem.W.nsIn K mainGlobals x with
  | none => rw [e] at h; cases h
  | some o =>
    rw [e] at h
    cases o with
    | none => cases h
    | some u => exact ⟨u, rfl, relB_ok h⟩
def conIn (K : PySem.W.Frag) (C : Addr) (f : Str) (v : V) : Bool := match PySem.W.findCls K (.ref C) (.type "type") f with
  | some (.val u) => relB v u
  | _ => false
theorem conIn_ok {C : Addr} {f : Str} {v : V} (h : conIn K C f v = true) : ∃ u, PySem.W.findCls K (.ref C) (.type "type") f = some (.val u) ∧ RelV v u := by
  unfold conIn at h
  cases e : PySem.W.findCls K (.ref C) (.type "type") f with
  | none => rw [e] at h; cases h
  | some o =>
    rw [e] at h
    cases o with
    | val u => exact ⟨u, rfl, relB_ok h⟩
    | _ => cases h
def newIs : List (Option Value) → Bool
  | [_, _, _, _, some (.builtin n), _] => decide (n = "ValueError.__new__")
  | _ => false
theorem newIs_ok {l : List (Option Value)} (h : newIs l = true) : ∃ k0 k1 k2 k3 k5, l = [k0, k1, k2, k3, some (.builtin "ValueError.__new__"), k5] := by
  unfold newIs at h
  split at h
  · exact ⟨_, _, _, _, _, by rw [of_decide_eq_true h]⟩
  · cases h
def excL (K : PySem.W.Frag) (C : Addr) (bm : List Value) : Bool := match K.lookup C with
  | some ⟨.type c, _, .cls cd, sl⟩ => decide (c = "type") && (decide (cd.mro = .ref C :: bm) && (cd.hasDict && (!cd.hasDel && newIs sl.toList)))
  | _ => false
theorem excL_ok {C : Addr} {bm : List Value} (h : excL K C bm = true) : ∃ nm q N bs sn sub ab col dd k0 k1 k2 k3 k5, K.lookup C = some (excClassObj nm q C N bs bm true sn sub ab col dd k0 k1 k2 k3 k5 "ValueError.__new__") := by
  unfold excL at h
  cases e : K.lookup C with
  | none => rw [e] at h; cases h
  | some o =>
    obtain ⟨oc, od, dt, sl⟩ := o
    rw [e] at h
    cases oc with
    | type c =>
      cases dt with
      | cls cd =>
        obtain ⟨n1, n2, n3, n4, n5, n6, n7, n8, n9, n10, n11⟩ := cd
        obtain ⟨h1, h⟩ := ba h
        obtain ⟨h2, h⟩ := ba h
        obtain ⟨h3, h⟩ := ba h
        obtain ⟨h4, h5⟩ := ba h
        obtain ⟨k0, k1, k2, k3, k5, hs⟩ := newIs_ok h5
        have e1 := of_decide_eq_true h1
        have e2 := of_decide_eq_true h2
        dsimp only at e2 h3 h4
        have e4 : n11 = false := by simpa using h4
        have e5 : sl = #[k0, k1, k2, k3, some (.builtin "ValueError.__new__"), k5] := by
          apply Array.ext'
          rw [hs]
        subst e1 e2 h3 e4 e5
        exact ⟨n1, n5, n4, n2, n7, n8, n9, n10, od, k0, k1, k2, k3, k5, rfl⟩
      | _ => cases h
    | _ => cases dt <;> cases h
end
/-! ### the Hook -/
def forceL {α β : Type} : List α → (List α → β) → β
  | [], k => k []
  | a :: r, k => forceL r fun r' => k (a :: r')
theorem forceL_eq {α β : Type} : ∀ (xs : List α) (k : List α → β), forceL xs k = k xs
  | [], _ => rfl
  | a :: r, k => forceL_eq r fun r' => k (a :: r')
abbrev AlB : Type := Bool × List FnV
def obsB (ex : PySem.W.Frag → List Bool) (fn : List FnD) (K : PySem.W.Frag) : AlB := ((ex K).all id && fn.all fun d => (Fa.code d.at_ d.qual).ok K, fn.map fun d => fnObs K d.at_)
def valB (fn : List FnD) : AlB := (true, fn.map FnD.val)
def SaysB (ex : PySem.W.Frag → List Bool) (fn : List FnD) (K : PySem.W.Frag) : Prop := obsB ex fn K = valB fn
def obsBG (as : List Addr) (ex : PySem.W.Frag → List Bool) (fn : List FnD) (g : Addr → Option Obj) : AlB := forceL (frG g as) fun K => obsB ex fn K
def hookB (as : List Addr) (ex : PySem.W.Frag → List Bool) (fn : List FnD) : PySem.W.Hook where
  α := AlB
  obs := fun s => obsBG as ex fn s.heap.get?
  val := fun _ => valB fn
  says := fun _ h => ∃ K : PySem.W.Frag, K.In h ∧ SaysB ex fn K
  of := fun _ s e => ⟨frG s.heap.get? as, frG_in, by
    have e : obsBG as ex fn s.heap.get? = valB fn := e
    unfold obsBG at e
    rw [forceL_eq] at e
    exact e⟩
  keeps := fun _ _ _ ⟨K, hK, c⟩ k => ⟨K, PySem.W.Frag.In.keeps hK k, c⟩
theorem obsBG_eq {as : List Addr} {ex : PySem.W.Frag → List Bool} {fn : List FnD} {g : Addr → Option Obj} {s : Shared} (h : ∀ a, g a = s.heap.get? a) : obsBG as ex fn g = (hookB as ex fn).obs s := by
  have e : g = s.heap.get? := funext h
  rw [e] <;> rfl
section
variable {ex : PySem.W.Frag → List Bool} {fn : List FnD} {K : PySem.W.Frag}
theorem SaysB.fact (c : SaysB ex fn K) (i : Nat) {b : Bool} (h : (ex K)[i]? = some b := by rfl) : b = true := by
  have c1 := (ba (show ((ex K).all id && fn.all fun d => (Fa.code d.at_ d.qual).ok K) = true from congrArg (fun z : AlB => z.1) c)).1
  exact List.all_eq_true.mp c1 b (List.mem_of_getElem? h)
theorem SaysB.def_ (c : SaysB ex fn K) (i : Nat) {d : FnD} (h : fn[i]? = some d := by rfl) :
    ∃ oc od osl kV doc pm an cdv ct, K.lookup (fAd K d.at_) = some ⟨oc, od, .func (PySem.W.fnOf d.name d.qual d.params d.body d.scope .none kV doc pm an cdv ct), osl⟩ ∧ PySem.W.codeIn K cdv d.qual = true := by
  have c2 := (ba (show ((ex K).all id && fn.all fun d => (Fa.code d.at_ d.qual).ok K) = true from congrArg (fun z : AlB => z.1) c)).2
  have e : fn.map (fun d => fnObs K d.at_) = fn.map FnD.val := congrArg (fun z : AlB => z.2) c
  have e2 : (fn.map fun d => fnObs K d.at_)[i]? = (fn.map FnD.val)[i]? := by rw [e]
  rw [List.getElem?_map, List.getElem?_map, h] at e2
  exact fn_ok (Option.some.inj e2) (List.all_eq_true.mp c2 d (List.mem_of_getElem? h))
end
end DH
set_option autoImplicit false
set_option Elab.async false
set_option linter.all false
set_option maxRecDepth 100000
set_option maxHeartbeats 2000000
/-! DH2: the head's run tells of empty tables of code objects too -/
namespace DH
open PySem PySem.Spec PyProof.Rows L2 He
def tabIs : Option Obj → Bool
  | some ⟨.none, none, .fields a, sl⟩ => a.isEmpty && sl.isEmpty
  | _ => false
theorem tabIs_ok {o : Option Obj} (h : tabIs o = true) : o = some { cls := .none, data := .fields #[] } := by
  unfold tabIs at h
  split at h
  · rename_i a sl
    obtain ⟨h1, h2⟩ := ba h
    rw [Array.isEmpty_iff] at h1 h2
    rw [h1, h2]
  · cases h
/-- the code object of the def at a -/
def codeOf (K : PySem.W.Frag) (a : Addr) : Addr := match K.lookup a with
  | some ⟨_, _, .func fd, _⟩ => match fd.code with
    | .ref c => c
    | _ => 0
  | _ => 0
def hdOk (vs : Array Value) (P : Addr) : Bool := (match (vs[11]? : Option Value) with
    | some (.ref q) => q == P
    | _ => false) && (match (vs.getD 11 .none : Value) with
    | .ref q => q == P
    | _ => false) && (match (vs.getD 18 .none : Value) with
    | .str _ _ => true
    | _ => false) && (match (vs.getD 7 .none : Value) with
    | .int _ _ => true
    | _ => false) && (match (vs.getD 9 .none : Value) with
    | .bool _ => true
    | _ => false) && (match (vs.getD 10 .none : Value) with
    | .int _ _ => true
    | _ => false)
def codeHdB (K : PySem.W.Frag) (a P : Addr) : Bool := (match K.lookup a with
  | some ⟨_, _, .func fd, _⟩ => match fd.code with
    | .ref c => match K.lookup c with
      | some ⟨.type n, _, .fields vs, _⟩ => decide (n = "code") && hdOk vs P && !(c == P)
      | _ => false
    | _ => false
  | _ => false)
theorem codeHd_ok {K : PySem.W.Frag} {a P : Addr} (h : codeHdB K a P = true) : (∀ hp : Heap, K.In hp → PySem.W.CodeHd hp (codeOf K a) P) ∧ ∀ (oc : Value) (od : Option Addr) (fd : FuncData) (sl : Array (Option Value)), K.lookup a = some ⟨oc, od, .func fd, sl⟩ → fd.code = .ref (codeOf K a) := by
  unfold codeHdB at h
  split at h
  · rename_i oc od fd sl e
    split at h
    · rename_i c ec
      split at h
      · rename_i n od' vs sl' e2
        have ecode : codeOf K a = c := by unfold codeOf; rw [e]; show (match fd.code with | .ref c => c | _ => 0) = c; rw [ec]
        obtain ⟨h12, h3⟩ := ba h
        obtain ⟨h1, h2⟩ := ba h12
        have hn := of_decide_eq_true h1
        subst hn
        unfold hdOk at h2
        obtain ⟨h2, x10⟩ := ba h2
        obtain ⟨h2, x9⟩ := ba h2
        obtain ⟨h2, x7⟩ := ba h2
        obtain ⟨h2, x18⟩ := ba h2
        obtain ⟨x11, y11⟩ := ba h2
        refine ⟨fun hp hK => ?_, fun oc' od' fd' sl' e' => ?_⟩
        · rw [ecode]
          have a11 : vs[11]? = some (.ref P) := by
            split at x11
            · rename_i q eq; rw [eq, eq_of_beq x11]
            · cases x11
          have b11 : vs.getD 11 .none = .ref P := by
            split at y11
            · rename_i q eq; rw [eq, eq_of_beq y11]
            · cases y11
          have a18 : ∃ f t, vs.getD 18 .none = .str f t := by
            split at x18
            · rename_i f t eq; exact ⟨f, t, eq⟩
            · cases x18
          have a7 : ∃ f t, vs.getD 7 .none = .int f t := by
            split at x7
            · rename_i f t eq; exact ⟨f, t, eq⟩
            · cases x7
          have a9 : ∃ f, vs.getD 9 .none = .bool f := by
            split at x9
            · rename_i f eq; exact ⟨f, eq⟩
            · cases x9
          have a10 : ∃ f t, vs.getD 10 .none = .int f t := by
            split at x10
            · rename_i f t eq; exact ⟨f, t, eq⟩
            · cases x10
          obtain ⟨f18, t18, a18⟩ := a18
          obtain ⟨f7, t7, a7⟩ := a7
          obtain ⟨f9, a9⟩ := a9
          obtain ⟨f10, t10, a10⟩ := a10
          have ne : c ≠ P := by simpa using h3
          exact ⟨_, vs, f18, t18, f7, t7, f9, f10, t10, hK c _ e2, rfl, rfl, a11, b11, a18, a7, a9, a10, ne⟩
        · rw [ecode]
          rw [e] at e'
          cases e'
          exact ec
      · cases h
    · cases h
  · cases h
def tabsB (at_ : List Addr) (K : PySem.W.Frag) (g : Addr → Option Obj) : Bool := at_.all fun P => tabIs (g P) && (K.lookup P).isNone
def obsT (at_ : List Addr) (ex : PySem.W.Frag → List Bool) (fn : List FnD) (K : PySem.W.Frag) (g : Addr → Option Obj) : AlB := (tabsB at_ K g && ((ex K).all id && fn.all fun d => (Fa.code d.at_ d.qual).ok K), fn.map fun d => fnObs K d.at_)
def obsTG (as at_ : List Addr) (ex : PySem.W.Frag → List Bool) (fn : List FnD) (g : Addr → Option Obj) : AlB := forceL (frG g as) fun K => obsT at_ ex fn K g
def SaysT (at_ : List Addr) (ex : PySem.W.Frag → List Bool) (fn : List FnD) (K : PySem.W.Frag) (h : Heap) : Prop := SaysB ex fn K ∧ ∀ P ∈ at_, h.get? P = some { cls := .none, data := .fields #[] } ∧ K.lookup P = none
theorem saysT_of {at_ : List Addr} {ex : PySem.W.Frag → List Bool} {fn : List FnD} {K : PySem.W.Frag} {h : Heap} (e : obsT at_ ex fn K h.get? = valB fn) : SaysT at_ ex fn K h := by
  have e1 : (tabsB at_ K h.get? && ((ex K).all id && fn.all fun d => (Fa.code d.at_ d.qual).ok K)) = true := congrArg (fun z : AlB => z.1) e
  have e2 : fn.map (fun d => fnObs K d.at_) = fn.map FnD.val := congrArg (fun z : AlB => z.2) e
  obtain ⟨a, b⟩ := ba e1
  refine ⟨?_, fun P hP => ?_⟩
  · show (((ex K).all id && fn.all fun d => (Fa.code d.at_ d.qual).ok K), fn.map fun d => fnObs K d.at_) = (true, fn.map FnD.val)
    rw [b, e2]
  · obtain ⟨h1, h2⟩ := ba (List.all_eq_true.mp a P hP)
    exact ⟨tabIs_ok h1, Option.isNone_iff_eq_none.mp h2⟩
def hookT (as at_ : List Addr) (ex : PySem.W.Frag → List Bool) (fn : List FnD) : PySem.W.Hook where
  α := AlB
  obs := fun s => obsTG as at_ ex fn s.heap.get?
  val := fun _ => valB fn
  says := fun _ h => ∃ K : PySem.W.Frag, K.In h ∧ SaysT at_ ex fn K h
  of := fun _ s e => ⟨frG s.heap.get? as, frG_in, by
    have e : obsTG as at_ ex fn s.heap.get? = valB fn := e
    unfold obsTG at e
    rw [forceL_eq] at e
    exact saysT_of e⟩
  keeps := fun _ _ _ ⟨K, hK, c⟩ k => ⟨K, PySem.W.Frag.In.keeps hK k, c.1, fun P hP => ⟨k _ _ (c.2 P hP).1, (c.2 P hP).2⟩⟩
theorem obsTG_eq {as at_ : List Addr} {ex : PySem.W.Frag → List Bool} {fn : List FnD} {g : Addr → Option Obj} {s : Shared} (h : ∀ a, g a = s.heap.get? a) : obsTG as at_ ex fn g = (hookT as at_ ex fn).obs s := by
  have e : g = s.heap.get? := funext h
  rw [e] <;> rfl
end DH
set_option autoImplicit false
set_option Elab.async false
set_option linter.all false
set_option maxRecDepth 100000
set_option maxHeartbeats 2000000
namespace My
open PySem L2 Evl
def topS (i : Nat) : Stmt := PySem.Challenge.pw_forestrows_k44_how_long_a_gap_lasts.main.body.getD i (.Pass ⟨0, 0, 0, 0⟩)
abbrev s_NoCount_init : Stmt := inClass (topS 3) 0
abbrev s_is_integer : Stmt := topS 5
abbrev s_lasting : Stmt := topS 8
abbrev s_placed : Stmt := topS 9
abbrev s_p_check_count : Stmt := topS 10
abbrev s_p_law_rng : Stmt := topS 12
abbrev s_p_law_draw : Stmt := topS 13
abbrev s_p_law_pick : Stmt := topS 14
abbrev s_p_law_said : Stmt := topS 15
abbrev s_p_law_known : Stmt := topS 16
abbrev s_p_law_due : Stmt := topS 17
abbrev s_law : Stmt := topS 18
def atL : List Addr := [139]
abbrev Z_c_ForestError (K : PySem.W.Frag) : Addr := He.ga K "ForestError"
abbrev Z_c_NoCount (K : PySem.W.Frag) : Addr := He.ga K "NoCount"
abbrev Z_a_NoCount_init (K : PySem.W.Frag) : Addr := He.fAd K ("NoCount", some "__init__")
abbrev Z_a_is_integer (K : PySem.W.Frag) : Addr := He.fAd K ("is_integer", none)
abbrev Z_a_p_check_count (K : PySem.W.Frag) : Addr := He.fAd K ("_check_count", none)
abbrev Z_a_lasting (K : PySem.W.Frag) : Addr := He.fAd K ("lasting", none)
abbrev Z_a_placed (K : PySem.W.Frag) : Addr := He.fAd K ("placed", none)
abbrev Z_a_p_law_rng (K : PySem.W.Frag) : Addr := He.fAd K ("_law_rng", none)
abbrev Z_a_p_law_draw (K : PySem.W.Frag) : Addr := He.fAd K ("_law_draw", none)
abbrev Z_a_p_law_pick (K : PySem.W.Frag) : Addr := He.fAd K ("_law_pick", none)
abbrev Z_a_p_law_said (K : PySem.W.Frag) : Addr := He.fAd K ("_law_said", none)
abbrev Z_a_p_law_known (K : PySem.W.Frag) : Addr := He.fAd K ("_law_known", none)
abbrev Z_a_p_law_due (K : PySem.W.Frag) : Addr := He.fAd K ("_law_due", none)
abbrev Z_a_law (K : PySem.W.Frag) : Addr := He.fAd K ("law", none)
abbrev Z_k_law (K : PySem.W.Frag) : Addr := DH.codeOf K (Z_a_law K)
abbrev Z_p_law (K : PySem.W.Frag) : Addr := 139
def factsL (K : PySem.W.Frag) : List Bool := [
  decide ((PySem.W.nsIn K mainGlobals "ForestError" = some (some (.ref (Z_c_ForestError K)))) ∧ (PySem.W.nsIn K mainGlobals "NoCount" = some (some (.ref (Z_c_NoCount K)))) ∧ (PySem.W.findIn K (.ref (Z_c_NoCount K)) "__init__" = some (some (.ref (Z_a_NoCount_init K)))) ∧ (PySem.W.isFn K (.ref (Z_a_NoCount_init K)) = true) ∧ (PySem.W.keepIn K (.ref (Z_a_NoCount_init K)) = true) ∧ (PySem.W.nsIn K mainGlobals "is_integer" = some (some (.ref (Z_a_is_integer K)))) ∧ (PySem.W.keepIn K (.ref (Z_a_is_integer K)) = true) ∧ (PySem.W.nsIn K mainGlobals "_check_count" = some (some (.ref (Z_a_p_check_count K)))) ∧ (PySem.W.keepIn K (.ref (Z_a_p_check_count K)) = true) ∧ (PySem.W.nsIn K mainGlobals "lasting" = some (some (.ref (Z_a_lasting K)))) ∧ (PySem.W.keepIn K (.ref (Z_a_lasting K)) = true) ∧ (PySem.W.nsIn K mainGlobals "placed" = some (some (.ref (Z_a_placed K)))) ∧ (PySem.W.keepIn K (.ref (Z_a_placed K)) = true) ∧ (PySem.W.nsIn K mainGlobals "_law_rng" = some (some (.ref (Z_a_p_law_rng K)))) ∧ (PySem.W.keepIn K (.ref (Z_a_p_law_rng K)) = true)),
  decide ((PySem.W.nsIn K mainGlobals "_law_draw" = some (some (.ref (Z_a_p_law_draw K)))) ∧ (PySem.W.keepIn K (.ref (Z_a_p_law_draw K)) = true) ∧ (PySem.W.nsIn K mainGlobals "_law_pick" = some (some (.ref (Z_a_p_law_pick K)))) ∧ (PySem.W.keepIn K (.ref (Z_a_p_law_pick K)) = true) ∧ (PySem.W.nsIn K mainGlobals "_law_said" = some (some (.ref (Z_a_p_law_said K)))) ∧ (PySem.W.keepIn K (.ref (Z_a_p_law_said K)) = true) ∧ (PySem.W.nsIn K mainGlobals "_law_known" = some (some (.ref (Z_a_p_law_known K)))) ∧ (PySem.W.keepIn K (.ref (Z_a_p_law_known K)) = true) ∧ (PySem.W.nsIn K mainGlobals "_law_due" = some (some (.ref (Z_a_p_law_due K)))) ∧ (PySem.W.keepIn K (.ref (Z_a_p_law_due K)) = true) ∧ (PySem.W.nsIn K mainGlobals "law" = some (some (.ref (Z_a_law K)))) ∧ (PySem.W.keepIn K (.ref (Z_a_law K)) = true) ∧ (DH.codeHdB K (Z_a_law K) (Z_p_law K) = true) ∧ (PySem.W.specialIn K (.builtin "object.__class__") "__get__" = some (some (.builtin "getset_descriptor.__get__"))) ∧ (PySem.W.takesIn K (.builtin "object.__class__") = some true)),
  decide ((DH.cstIn K "MOST_FREE" ((.int (1000000000000000000000000000000))) = true) ∧ (DH.excL K (Z_c_NoCount K) [(.ref (Z_c_ForestError K) : Value), .type "ValueError", .type "Exception", .type "BaseException", .type "object"] = true) ∧ (PySem.W.findIn K (.ref (Z_c_NoCount K)) "__setattr__" = some (some (.builtin "object.__setattr__"))) ∧ (PySem.W.subIn K (.ref (Z_c_NoCount K)) (.type "BaseException") = some true) ∧ (PySem.W.typeIn K (.ref (Z_c_NoCount K)) = some (.type "type")) ∧ (PySem.W.keepIn K (.ref (Z_c_NoCount K)) = true) ∧ (PySem.W.findIn K (.ref (Z_c_NoCount K)) "free" = some none) ∧ (PySem.W.findIn K (.ref (Z_c_NoCount K)) "__getattribute__" = some (some (.builtin "BaseException.__getattribute__"))) ∧ (PySem.W.findIn K (.ref (Z_c_NoCount K)) "__getattr__" = some none) ∧ (PySem.W.hasDictIn K (Z_c_NoCount K) = true) ∧ (PySem.W.findIn K (.ref (Z_c_NoCount K)) "__class__" = some (some (.builtin "object.__class__"))) ∧ (PySem.W.mroIn K (Z_c_NoCount K) (.type "object") = some true) ∧ (PySem.W.typeIn K (.ref (Z_a_NoCount_init K)) = some (.type "function")) ∧ (PySem.W.nsIn K mainGlobals "abs" = some none) ∧ (PySem.W.nsIn K mainGlobals "bool" = some none)),
  decide ((PySem.W.nsIn K mainGlobals "int" = some none) ∧ (PySem.W.nsIn K mainGlobals "isinstance" = some none) ∧ (PySem.W.nsIn K mainGlobals "len" = some none) ∧ (PySem.W.nsIn K mainGlobals "max" = some none) ∧ (PySem.W.nsIn K mainGlobals "min" = some none) ∧ (PySem.W.nsIn K mainGlobals "range" = some none) ∧ (PySem.W.nsIn K mainGlobals "repr" = some none) ∧ (PySem.W.subIn K (.ref (Z_c_NoCount K)) (.ref (Z_c_NoCount K)) = some true))]
def fnd_NoCount_init : He.FnD := ⟨("NoCount", some "__init__"), "__init__", "NoCount.__init__", defArgs s_NoCount_init, defBody s_NoCount_init, defScope s_NoCount_init⟩
def fnd_is_integer : He.FnD := ⟨("is_integer", none), "is_integer", "is_integer", defArgs s_is_integer, defBody s_is_integer, defScope s_is_integer⟩
def fnd_p_check_count : He.FnD := ⟨("_check_count", none), "_check_count", "_check_count", defArgs s_p_check_count, defBody s_p_check_count, defScope s_p_check_count⟩
def fnd_lasting : He.FnD := ⟨("lasting", none), "lasting", "lasting", defArgs s_lasting, defBody s_lasting, defScope s_lasting⟩
def fnd_placed : He.FnD := ⟨("placed", none), "placed", "placed", defArgs s_placed, defBody s_placed, defScope s_placed⟩
def fnd_p_law_rng : He.FnD := ⟨("_law_rng", none), "_law_rng", "_law_rng", defArgs s_p_law_rng, defBody s_p_law_rng, defScope s_p_law_rng⟩
def fnd_p_law_draw : He.FnD := ⟨("_law_draw", none), "_law_draw", "_law_draw", defArgs s_p_law_draw, defBody s_p_law_draw, defScope s_p_law_draw⟩
def fnd_p_law_pick : He.FnD := ⟨("_law_pick", none), "_law_pick", "_law_pick", defArgs s_p_law_pick, defBody s_p_law_pick, defScope s_p_law_pick⟩
def fnd_p_law_said : He.FnD := ⟨("_law_said", none), "_law_said", "_law_said", defArgs s_p_law_said, defBody s_p_law_said, defScope s_p_law_said⟩
def fnd_p_law_known : He.FnD := ⟨("_law_known", none), "_law_known", "_law_known", defArgs s_p_law_known, defBody s_p_law_known, defScope s_p_law_known⟩
def fnd_p_law_due : He.FnD := ⟨("_law_due", none), "_law_due", "_law_due", defArgs s_p_law_due, defBody s_p_law_due, defScope s_p_law_due⟩
def fnd_law : He.FnD := ⟨("law", none), "law", "law", defArgs s_law, defBody s_law, defScope s_law⟩
def fnL : List He.FnD := [fnd_NoCount_init, fnd_is_integer, fnd_p_check_count, fnd_lasting, fnd_placed, fnd_p_law_rng, fnd_p_law_draw, fnd_p_law_pick, fnd_p_law_said, fnd_p_law_known, fnd_p_law_due, fnd_law]
def looseL : List Str := (["_wall", "ForestError", "NoCount", "is_integer", "MOST_FREE", "lasting", "placed", "_check_count", "_law_rng", "_law_draw", "_law_pick", "_law_said", "_law_known", "_law_due"] : List Str)
abbrev RR : PySem.W.OpenRow := PySem.W.OpenLaw.row PySem.Challenge.rw_forestrows_k44_how_long_a_gap_lasts
def asL : List Addr := ([3, 38, 65, 74, 81, 88, 95, 102, 109, 116, 123, 130, 137, 142, 37, 64, 73, 80, 87, 94, 101, 108, 115, 122, 129, 136, 141, 55, 54] : List Addr)
abbrev hk : PySem.W.Hook := DH.hookT asL atL factsL fnL
def ob (s : PySem.W.SharedT) : DH.AlB := DH.obsTG asL atL factsL fnL (HandSHeadRun.getT s)
theorem ob_eq (s : PySem.W.SharedT) : ob s = hk.obs s.abs := DH.obsTG_eq (HandSHeadRun.getT_eq s)
set_option maxHeartbeats 0 in
theorem run (w : World) : HandSHeadRun.RunEq RR (PySem.W.view RR.prog [18]) hk ob 60000 looseL w := by
  intro os
  kernel_rfl
end My
set_option autoImplicit false
set_option Elab.async false
set_option linter.all false
set_option maxRecDepth 100000
/-! # DL: values as plain data. A layer over the readings: the heap is gone from what is left to be shown. -/
namespace DL
open PySem L2 Evl
abbrev RSt := L2.St

/-- a value as data -/
inductive D where
  | non | bl (b : Bool) | int (i : Int) | str (x : Str) | byt (b : Array UInt8)
  | lst (xs : List D) | tup (xs : List D) | dct (kvs : List (Key × D))
  | ins (C : Addr) (fs : List (Str × D)) | ptr (a : Addr) | ty (n : String) | exc (C : Addr) (fs : List (Str × D))

section
variable (K : PySem.W.Frag) (G : Hp)
mutual
inductive Rep : V → D → Prop
  | non : Rep .non .non
  | bl (b : Bool) : Rep (.bl b) (.bl b)
  | int (i : Int) : Rep (.int i) (.int i)
  | str (x : Str) : Rep (.str x) (.str x)
  | byt (x : Array UInt8) : Rep (.byt x) (.byt x)
  | ty (n : String) : Rep (.ty n) (.ty n)
  | ptr (a : Addr) : Rep (.ref a) (.ptr a)
  | lst {a : Addr} {vs : List V} {ds : List D} : SqL K G a vs → Reps vs ds → Rep (.ref a) (.lst ds)
  | tup {a : Addr} {vs : List V} {ds : List D} : SqT K G a vs → Reps vs ds → Rep (.ref a) (.tup ds)
  | dct {a : Addr} {vs : List (Key × V)} {ds : List (Key × D)} : G a = some (.dK vs) → RepK vs ds → Rep (.ref a) (.dct ds)
  | ins {a C dx : Addr} {vs : List (Str × V)} {ds : List (Str × D)} : G a = some (.ins C dx vs) → RepF vs ds → Rep (.ref a) (.ins C ds)
  | exc {a C d : Addr} {vs : List (Str × V)} {ds : List (Str × D)} : G a = some (exo a C (some d)) → G d = some (exd d vs) → RepF vs ds → Rep (.ref a) (.exc C ds)
  | exc0 {a C : Addr} : G a = some (ExO (.ref C) a) → Rep (.ref a) (.exc C [])
inductive Reps : List V → List D → Prop
  | nil : Reps [] []
  | cons {v : V} {d : D} {vs : List V} {ds : List D} : Rep v d → Reps vs ds → Reps (v :: vs) (d :: ds)
inductive RepK : List (Key × V) → List (Key × D) → Prop
  | nil : RepK [] []
  | cons {k : Key} {v : V} {d : D} {vs : List (Key × V)} {ds : List (Key × D)} : Rep v d → RepK vs ds → RepK ((k, v) :: vs) ((k, d) :: ds)
inductive RepF : List (Str × V) → List (Str × D) → Prop
  | nil : RepF [] []
  | cons {k : Str} {v : V} {d : D} {vs : List (Str × V)} {ds : List (Str × D)} : Rep v d → RepF vs ds → RepF ((k, v) :: vs) ((k, d) :: ds)
end
end

section
variable {K : PySem.W.Frag} {G G' H H' : Hp}
mutual
theorem Rep.mono (e : Ex G G') : ∀ {v : V} {d : D}, Rep K G v d → Rep K G' v d
  | _, _, .non => .non
  | _, _, .bl b => .bl b
  | _, _, .int i => .int i
  | _, _, .str i => .str i
  | _, _, .byt i => .byt i
  | _, _, .ty i => .ty i
  | _, _, .ptr i => .ptr i
  | _, _, .lst h r => .lst (ex_l e h) (Reps.mono e r)
  | _, _, .tup h r => .tup (ex_t e h) (Reps.mono e r)
  | _, _, .dct h r => .dct (e _ _ h) (RepK.mono e r)
  | _, _, .ins h r => .ins (e _ _ h) (RepF.mono e r)
  | _, _, .exc h k r => .exc (e _ _ h) (e _ _ k) (RepF.mono e r)
  | _, _, .exc0 h => .exc0 (e _ _ h)
theorem Reps.mono (e : Ex G G') : ∀ {v : List V} {d : List D}, Reps K G v d → Reps K G' v d
  | _, _, .nil => .nil
  | _, _, .cons h r => .cons (Rep.mono e h) (Reps.mono e r)
theorem RepK.mono (e : Ex G G') : ∀ {v : List (Key × V)} {d : List (Key × D)}, RepK K G v d → RepK K G' v d
  | _, _, .nil => .nil
  | _, _, .cons h r => .cons (Rep.mono e h) (RepK.mono e r)
theorem RepF.mono (e : Ex G G') : ∀ {v : List (Str × V)} {d : List (Str × D)}, RepF K G v d → RepF K G' v d
  | _, _, .nil => .nil
  | _, _, .cons h r => .cons (Rep.mono e h) (RepF.mono e r)
end

theorem Reps.length : ∀ {vs : List V} {ds : List D}, Reps K G vs ds → vs.length = ds.length
  | _, _, .nil => rfl
  | _, _, .cons _ r => by rw [List.length_cons, List.length_cons, Reps.length r]
theorem Reps.get : ∀ {vs : List V} {ds : List D} {i : Nat} {d : D}, Reps K G vs ds → ds[i]? = some d → ∃ v, vs[i]? = some v ∧ Rep K G v d
  | _, _, _, _, .nil, e => by simp at e
  | _, _, 0, _, .cons r _, e => by simp at e; subst e; exact ⟨_, rfl, r⟩
  | _, _, i + 1, _, .cons _ t, e => by
    obtain ⟨v, h1, h2⟩ := Reps.get (i := i) t (by simpa using e)
    exact ⟨v, by simpa using h1, h2⟩
theorem Reps.set {v : V} {d : D} (r : Rep K G v d) : ∀ {vs : List V} {ds : List D} (i : Nat), Reps K G vs ds → Reps K G (vs.set i v) (ds.set i d)
  | _, _, _, .nil => .nil
  | _, _, 0, .cons _ t => .cons r t
  | _, _, i + 1, .cons q t => .cons q (Reps.set r i t)
theorem Reps.append : ∀ {vs ws : List V} {ds es : List D}, Reps K G vs ds → Reps K G ws es → Reps K G (vs ++ ws) (ds ++ es)
  | _, _, _, _, .nil, s => s
  | _, _, _, _, .cons r t, s => .cons r (Reps.append t s)
theorem Reps.take : ∀ {vs : List V} {ds : List D} (n : Nat), Reps K G vs ds → Reps K G (vs.take n) (ds.take n)
  | _, _, 0, _ => by simp; exact .nil
  | _, _, _ + 1, .nil => .nil
  | _, _, n + 1, .cons r t => .cons r (Reps.take n t)
theorem Reps.drop : ∀ {vs : List V} {ds : List D} (n : Nat), Reps K G vs ds → Reps K G (vs.drop n) (ds.drop n)
  | _, _, 0, r => r
  | _, _, _ + 1, .nil => .nil
  | _, _, n + 1, .cons _ t => Reps.drop n t
theorem Reps.none_of {vs : List V} {ds : List D} {i : Nat} (r : Reps K G vs ds) (e : ds[i]? = none) : vs[i]? = none := by
  rw [List.getElem?_eq_none_iff] at e ⊢
  rw [r.length]; exact e
theorem Reps.dropLast {vs : List V} {ds : List D} (r : Reps K G vs ds) : Reps K G vs.dropLast ds.dropLast := by
  rw [List.dropLast_eq_take, List.dropLast_eq_take, r.length]; exact r.take _
theorem Reps.rep {vs : List V} {ds : List D} (r : Reps K G vs ds) : ∀ k : Nat, Reps K G (List.replicate k vs).flatten (List.replicate k ds).flatten
  | 0 => .nil
  | k + 1 => by
    rw [List.replicate_succ, List.replicate_succ, List.flatten_cons, List.flatten_cons]
    exact r.append (Reps.rep r k)
theorem Reps.ints : ∀ ns : List Int, Reps K G (ns.map V.int) (ns.map D.int)
  | [] => .nil
  | n :: ns => .cons (.int n) (Reps.ints ns)
end

/-! ### slots -/
inductive Sl where
  | no | val (d : D) | own (d : D) | par (d : D)
abbrev Ro := List Sl
def Sl.ownD : Sl → Option D
  | .own d => some d
  | .par d => some d
  | _ => none
/-- what an expression hands over: data, or the object that a slot owns -/
inductive T where
  | val (d : D) | bor (i : Nat)
def rd (ρ : Ro) : T → Option D
  | .val d => some d
  | .bor i => (ρ[i]?).bind Sl.ownD

section
variable (K : PySem.W.Frag)
def OwnAt (G H : Hp) (p : Addr) : D → Prop
  | .lst ds => ∃ vs, H p = some (.lst vs) ∧ Reps K G vs ds
  | .dct es => ∃ kvs, H p = some (.dK kvs) ∧ RepK K G kvs es
  | .ins C es => ∃ dx fs, H p = some (.ins C dx fs) ∧ RepF K G fs es
  | _ => False
/-- where the parameters lie; what has long been known -/
structure PaG where
  f : Nat → Addr
  g : Hp
  T : List (Addr × Str) := []
/-- neither a table of code objects nor a code object -/
def NoCode (o : HO) : Prop := (∀ ps, o ≠ .tbl ps) ∧ ∀ c q, o ≠ LamX.CodeO c q
theorem noCode_lst {vs : List V} : NoCode (.lst vs) := ⟨fun _ z => (by cases z), fun _ _ z => (by unfold LamX.CodeO at z; cases z)⟩
theorem noCode_dK {vs : List (Key × V)} : NoCode (.dK vs) := ⟨fun _ z => (by cases z), fun _ _ z => (by unfold LamX.CodeO at z; cases z)⟩
theorem noCode_ins {C dx : Addr} {vs : List (Str × V)} : NoCode (.ins C dx vs) := ⟨fun _ z => (by cases z), fun _ _ z => (by unfold LamX.CodeO at z; cases z)⟩
theorem tabs_keep {T : List (Addr × Str)} {H H' : Hp} (t : LamX.Tabs T H) (k : ∀ b o, H b = some o → ¬ NoCode o → H' b = some o) : LamX.Tabs T H' := fun p hp => by
  obtain ⟨ps, h1, h2, h3⟩ := t p hp
  refine ⟨ps, k _ _ h1 fun z => z.1 _ rfl, h2, fun pos cv hc => ?_⟩
  obtain ⟨c, e1, e2⟩ := h3 pos cv hc
  exact ⟨c, e1, k _ _ e2 fun z => z.2 _ _ rfl⟩
/-- a frame over what is known, the tables apart -/
structure DjT (T : List (Addr × Str)) (F G H : Hp) : Prop where
  of : ∀ (b : Addr) (o : HO), F b = some o → G b = none
  ft : ∀ p ∈ T, F p.1 = none ∧ G p.1 = none
  tb : LamX.Tabs T H
  nc : T ≠ [] → ∀ b c q, F b ≠ some (LamX.CodeO c q)
instance {T : List (Addr × Str)} {F G H : Hp} : CoeFun (DjT T F G H) (fun _ => ∀ (b : Addr) (o : HO), F b = some o → G b = none) := ⟨DjT.of⟩
section
variable {T : List (Addr × Str)} {F G H H' : Hp}
theorem DjT.hext (d : DjT T F G H) (e : Ex H H') : DjT T F G H' := ⟨d.of, d.ft, d.tb.ext e, d.nc⟩
theorem DjT.ne (d : DjT T F G H) {b : Addr} {u : HO} (h : H b = some u) (n : NoCode u) : ∀ p ∈ T, p.1 ≠ b := fun p hp z => by
  obtain ⟨ps, h1, _⟩ := d.tb p hp
  rw [z, h] at h1
  cases h1
  exact n.1 _ rfl
theorem DjT.new (d : DjT T F G H) {b : Addr} (h : H b = none) : ∀ p ∈ T, p.1 ≠ b := fun p hp z => by
  obtain ⟨ps, h1, _⟩ := d.tb p hp
  rw [z, h] at h1
  cases h1
theorem DjT.mut (d : DjT T F G H) {b : Addr} {u o : HO} (h : H b = some u) (n : NoCode u) : DjT T F G (upd H b o) := ⟨d.of, d.ft, tabs_keep d.tb fun c x hc nc => by
  rw [upd_ne (fun z => by rw [z, h] at hc; cases hc; exact nc n)]; exact hc, d.nc⟩
/-- an object becomes known -/
theorem DjT.gadd (d : DjT T F G H) {b : Addr} {o : HO} (f : F b = none) (h : ∀ p ∈ T, p.1 ≠ b) : DjT T F (upd G b o) H := ⟨fun c x hc => by rw [upd_ne (fun z => by rw [z, f] at hc; cases hc)]; exact d.of c x hc, fun p hp => ⟨(d.ft p hp).1, by rw [upd_ne (h p hp)]; exact (d.ft p hp).2⟩, d.tb, d.nc⟩
theorem DjT.fadd (d : DjT T F G H) {b : Addr} {o : HO} (n : NoCode o) (g : G b = none) (h : ∀ p ∈ T, p.1 ≠ b) : DjT T (upd F b o) G H := ⟨fun c x hc => by
  by_cases z : c = b
  · rw [z]; exact g
  · rw [upd_ne z] at hc; exact d.of c x hc, fun p hp => ⟨by rw [upd_ne (h p hp)]; exact (d.ft p hp).1, (d.ft p hp).2⟩, d.tb, fun ht c x q z => by
  by_cases e : c = b
  · rw [e, upd_same] at z; cases z; exact n.2 _ _ rfl
  · rw [upd_ne e] at z; exact d.nc ht c x q z⟩
theorem DjT.at_ (d : DjT T F G H) (t : LamX.Tabs T H') : DjT T F G H' := ⟨d.of, d.ft, t, d.nc⟩
theorem DjT.out (d : DjT T F G H) {b : Addr} {o : HO} (n : ∀ u, H b = some u → NoCode u) : DjT T F G (upd H b o) := by
  cases h : H b with
  | none => exact d.hext (Ex.new h)
  | some u => exact d.mut h (n u h)
theorem DjT.sub {F' : Hp} (d : DjT T F G H) (e : Ex F' F) : DjT T F' G H := ⟨fun b o q => d.of b o (e b o q), fun p hp => ⟨fresh_back e (d.ft p hp).1, (d.ft p hp).2⟩, d.tb, fun ht b c q z => d.nc ht b c q (e b _ z)⟩
/-- another frame, other knowledge -/
theorem DjT.to {F' G' : Hp} (d : DjT T F G H) (of : ∀ (b : Addr) (o : HO), F' b = some o → G' b = none) (f : ∀ b, (∀ o, H b = some o → ¬ NoCode o) → F b = none → F' b = none) (g : ∀ b, (∀ o, H b = some o → ¬ NoCode o) → G b = none → G' b = none) (n : ∀ b o, F' b = some o → F b = some o ∨ NoCode o) : DjT T F' G' H := ⟨of, fun p hp => by
  obtain ⟨ps, h1, _⟩ := d.tb p hp
  have k : ∀ o, H p.1 = some o → ¬ NoCode o := fun o h n => by rw [h1] at h; cases h; exact n.1 _ rfl
  exact ⟨f _ k (d.ft p hp).1, g _ k (d.ft p hp).2⟩, d.tb, fun ht b c q z => (n b _ z).elim (d.nc ht b c q) (fun y => y.2 _ _ rfl)⟩
end
structure Sim (pa : PaG) (F G : Hp) (σ : RSt) (H : Hp) (ρ : Ro) : Prop where
  len : ρ.length = σ.length
  ex : Ex G H
  /-- a frame: objects that stay as they are, whatever is done -/
  fx : Ex F H
  dj : DjT pa.T F G H
  val : ∀ (i : Nat) (d : D), ρ[i]? = some (.val d) → ∃ v, σ[i]? = some (some v) ∧ Rep K G v d
  own : ∀ (i : Nat) (s : Sl) (d : D), ρ[i]? = some s → s.ownD = some d → ∃ p, σ[i]? = some (some (.ref p)) ∧ G p = none ∧ OwnAt K G H p d
  ofr : ∀ (i : Nat) (s : Sl) (d : D) (p : Addr), ρ[i]? = some s → s.ownD = some d → σ[i]? = some (some (.ref p)) → F p = none
  par : ∀ (i : Nat) (d : D), ρ[i]? = some (.par d) → σ[i]? = some (some (.ref (pa.f i)))
  gx : Ex pa.g G
  dis : ∀ (i j : Nat) (s t : Sl) (d e : D) (p : Addr), i ≠ j → ρ[i]? = some s → s.ownD = some d → ρ[j]? = some t → t.ownD = some e → σ[i]? = some (some (.ref p)) → σ[j]? = some (some (.ref p)) → False
/-- v is what t tells -/
def TkR (G : Hp) (σ : RSt) (v : V) : T → Prop
  | .val d => Rep K G v d
  | .bor i => σ[i]? = some (some v)
/-- v stands for d, read now -/
def RepT (G H : Hp) (v : V) (d : D) : Prop := Rep K G v d ∨ ∃ p, v = .ref p ∧ G p = none ∧ OwnAt K G H p d
end

section
variable {K : PySem.W.Frag} {pa : PaG} {F G G' H H' : Hp} {σ : RSt} {ρ ρ' : Ro} {p : Addr} {d : D} {v : V} {t : T}
theorem TkR.mono (e : Ex G G') (h : TkR K G σ v t) : TkR K G' σ v t := by
  cases t with
  | val d => exact Rep.mono e h
  | bor i => exact h
theorem Sim.rdT (S : Sim K pa F G σ H ρ) (h : TkR K G σ v t) (e : rd ρ t = some d) : RepT K G H v d := by
  cases t with
  | val d' => cases e; exact .inl h
  | bor i =>
    replace e : (ρ[i]?).bind Sl.ownD = some d := e
    cases q : ρ[i]? with
    | none => rw [q] at e; cases e
    | some s =>
      rw [q] at e
      obtain ⟨p, h1, h2, h3⟩ := S.own i s d q e
      have h' : σ[i]? = some (some v) := h
      rw [h'] at h1
      cases h1
      exact .inr ⟨p, rfl, h2, h3⟩
theorem OwnAt.mono (e : Ex G G') (eh : H p = H' p) (h : OwnAt K G H p d) : OwnAt K G' H' p d := by
  cases d with
  | lst ds => obtain ⟨vs, h1, h2⟩ := h; exact ⟨vs, eh ▸ h1, h2.mono e⟩
  | dct ds => obtain ⟨vs, h1, h2⟩ := h; exact ⟨vs, eh ▸ h1, h2.mono e⟩
  | ins C ds => obtain ⟨dx, vs, h1, h2⟩ := h; exact ⟨dx, vs, eh ▸ h1, h2.mono e⟩
  | _ => exact h.elim
theorem OwnAt.code (h : OwnAt K G H p d) {o : HO} (e : H p = some o) : NoCode o := by
  cases d with
  | lst ds => obtain ⟨vs, h1, h2⟩ := h; rw [h1] at e; cases e; exact noCode_lst
  | dct ds => obtain ⟨vs, h1, h2⟩ := h; rw [h1] at e; cases e; exact noCode_dK
  | ins C ds => obtain ⟨dx, vs, h1, h2⟩ := h; rw [h1] at e; cases e; exact noCode_ins
  | _ => exact h.elim
theorem OwnAt.some (h : OwnAt K G H p d) : ∃ o, H p = some o := by
  cases d with
  | lst ds => obtain ⟨vs, h1, h2⟩ := h; exact ⟨_, h1⟩
  | dct ds => obtain ⟨vs, h1, h2⟩ := h; exact ⟨_, h1⟩
  | ins C ds => obtain ⟨dx, vs, h1, h2⟩ := h; exact ⟨_, h1⟩
  | _ => exact h.elim
/-- what is known grows, the owned objects stand -/
theorem Sim.grow (S : Sim K pa F G σ H ρ) (e : Ex G G') (eh : Ex G' H') (ef : Ex F H') (ed : DjT pa.T F G' H') (k : ∀ (i : Nat) (s : Sl) (d : D) (p : Addr), ρ[i]? = some s → s.ownD = some d → σ[i]? = some (some (.ref p)) → G' p = none ∧ H' p = H p) : Sim K pa F G' σ H' ρ where
  len := S.len
  ex := eh
  fx := ef
  dj := ed
  val := fun i d h => let ⟨v, h1, h2⟩ := S.val i d h; ⟨v, h1, h2.mono e⟩
  own := fun i s d h hd => by
    obtain ⟨p, h1, h2, h3⟩ := S.own i s d h hd
    obtain ⟨k1, k2⟩ := k i s d p h hd h1
    exact ⟨p, h1, k1, h3.mono e k2.symm⟩
  ofr := S.ofr
  par := S.par
  gx := S.gx.trans e
  dis := S.dis
/-- new objects, all known -/
structure Al (G H G' H' : Hp) : Prop where
  g : Ex G G'
  h : Ex H H'
  gh : Ex G' H'
  n : ∀ b, G b = none → H b ≠ none → G' b = none
theorem Al.refl (e : Ex G H) : Al G H G H := ⟨Ex.refl G, Ex.refl H, e, fun _ h _ => h⟩
theorem Al.trans {G2 H2 : Hp} (a : Al G H G' H') (b : Al G' H' G2 H2) : Al G H G2 H2 := ⟨a.g.trans b.g, a.h.trans b.h, b.gh, fun x h1 h2 => b.n x (a.n x h1 h2) (by
  cases q : H x with
  | none => exact absurd q h2
  | some o => rw [a.h x o q]; simp)⟩
theorem Sim.al (S : Sim K pa F G σ H ρ) (a : Al G H G' H') : Sim K pa F G' σ H' ρ := S.grow a.g a.gh (S.fx.trans a.h) ⟨fun b o q => a.n b (S.dj b o q) (by rw [S.fx b o q]; simp), fun p hp => ⟨(S.dj.ft p hp).1, a.n _ (S.dj.ft p hp).2 (by obtain ⟨ps, h1, _⟩ := S.dj.tb p hp; rw [h1]; simp)⟩, S.dj.tb.ext a.h, S.dj.nc⟩ fun i s d p h1 h2 h3 => by
  obtain ⟨b, q1, q2, q3⟩ := S.own i s d h1 h2
  rw [h3] at q1
  cases q1
  obtain ⟨o, ho⟩ := q3.some
  exact ⟨a.n p q2 (by rw [ho]; simp), by rw [a.h p o ho, ho]⟩
/-- another, smaller frame -/
theorem Sim.frame {F' : Hp} (S : Sim K pa F G σ H ρ) (e : Ex F' F) : Sim K pa F' G σ H ρ :=
  ⟨S.len, S.ex, e.trans S.fx, S.dj.sub e, S.val, S.own, fun i s d p h1 h2 h3 => fresh_back e (S.ofr i s d p h1 h2 h3), S.par, S.gx, S.dis⟩
/-- one new object -/
theorem Al.one {o : HO} (e : Ex G H) (hp : H p = none) : Al G H (upd G p o) (upd H p o) := by
  have gp : G p = none := fresh_back e hp
  refine ⟨Ex.new gp, Ex.new hp, fun b u q => ?_, fun b h1 h2 => ?_⟩
  · by_cases hb : b = p
    · subst hb; rw [upd_same] at q ⊢; exact q
    · rw [upd_ne hb] at q ⊢; exact e b u q
  · rw [upd_ne (fun z => h2 (by rw [z]; exact hp))]; exact h1
end

/-! ### data read off -/
section
variable {K : PySem.W.Frag} {G H : Hp} {v : V}
theorem RepT.int {i : Int} (h : RepT K G H v (.int i)) : v = .int i := by
  rcases h with h | ⟨p, _, _, h⟩
  · cases h; rfl
  · exact h.elim
theorem RepT.str {i : Str} (h : RepT K G H v (.str i)) : v = .str i := by
  rcases h with h | ⟨p, _, _, h⟩
  · cases h; rfl
  · exact h.elim
theorem RepT.bl {i : Bool} (h : RepT K G H v (.bl i)) : v = .bl i := by
  rcases h with h | ⟨p, _, _, h⟩
  · cases h; rfl
  · exact h.elim
theorem RepT.byt {i : Array UInt8} (h : RepT K G H v (.byt i)) : v = .byt i := by
  rcases h with h | ⟨p, _, _, h⟩
  · cases h; rfl
  · exact h.elim
theorem RepT.non (h : RepT K G H v .non) : v = .non := by
  rcases h with h | ⟨p, _, _, h⟩
  · cases h; rfl
  · exact h.elim
theorem RepT.ty {n : String} (h : RepT K G H v (.ty n)) : v = .ty n := by
  rcases h with h | ⟨p, _, _, h⟩
  · cases h; rfl
  · exact h.elim
theorem RepT.ptr {n : Addr} (h : RepT K G H v (.ptr n)) : v = .ref n := by
  rcases h with h | ⟨p, _, _, h⟩
  · cases h; rfl
  · exact h.elim
theorem RepT.lstR {ds : List D} (e : Ex G H) (h : RepT K G H v (.lst ds)) : ∃ p vs, v = .ref p ∧ SqL K H p vs ∧ Reps K G vs ds := by
  rcases h with h | ⟨p, hp, _, h⟩
  · cases h with | lst h r => exact ⟨_, _, rfl, ex_l e h, r⟩
  · obtain ⟨vs, h1, h2⟩ := h; exact ⟨p, vs, hp, SqL.of h1, h2⟩
theorem RepT.lst {ds : List D} (e : Ex G H) (h : RepT K G H v (.lst ds)) : ∃ p vs, v = .ref p ∧ SqL K H p vs ∧ Reps K G vs ds := by
  obtain ⟨p, vs, h1, h2, h3⟩ := h.lstR e
  exact ⟨p, vs, h1, h2, h3⟩
theorem RepT.tup {ds : List D} (e : Ex G H) (h : RepT K G H v (.tup ds)) : ∃ p vs, v = .ref p ∧ SqT K H p vs ∧ Reps K G vs ds := by
  rcases h with h | ⟨p, hp, _, h⟩
  · cases h with | tup h r => exact ⟨_, _, rfl, ex_t e h, r⟩
  · exact h.elim
theorem RepT.tupR {ds : List D} (h : RepT K G H v (.tup ds)) : Rep K G v (.tup ds) := by
  rcases h with h | ⟨p, hp, _, h⟩
  · exact h
  · exact h.elim
theorem RepT.dct {ds : List (Key × D)} (e : Ex G H) (h : RepT K G H v (.dct ds)) : ∃ p vs, v = .ref p ∧ H p = some (.dK vs) ∧ RepK K G vs ds := by
  rcases h with h | ⟨p, hp, _, h⟩
  · cases h with | dct h r => exact ⟨_, _, rfl, e _ _ h, r⟩
  · obtain ⟨vs, h1, h2⟩ := h; exact ⟨p, vs, hp, h1, h2⟩
theorem RepT.ins {C : Addr} {ds : List (Str × D)} (e : Ex G H) (h : RepT K G H v (.ins C ds)) : ∃ p dx vs, v = .ref p ∧ H p = some (.ins C dx vs) ∧ RepF K G vs ds := by
  rcases h with h | ⟨p, hp, _, h⟩
  · cases h with | ins h r => exact ⟨_, _, _, rfl, e _ _ h, r⟩
  · obtain ⟨dx, vs, h1, h2⟩ := h; exact ⟨p, dx, vs, hp, h1, h2⟩
end

/-! ### the judgements -/
def Opt {α : Type} (o : Option α) (k : α → Prop) : Prop := ∃ a, o = some a ∧ k a
theorem Opt_some {α : Type} {a : α} {k : α → Prop} : Opt (some a) k ↔ k a := by
  constructor
  · intro h
    obtain ⟨b, e, h⟩ := h
    cases e
    exact h
  · intro h
    exact ⟨a, rfl, h⟩
theorem Opt_none {α : Type} {k : α → Prop} : Opt none k ↔ False := by
  constructor
  · intro h
    obtain ⟨b, e, h⟩ := h
    cases e
  · intro h
    exact h.elim
/-- what is wanted of an exception: its class, its fields -/
abbrev ER := Addr → List (Str × D) → Ro → Prop
abbrev E0 : ER := fun _ _ _ => False
abbrev DE := Ro → (T → Ro → Prop) → ER → Prop
abbrev DT := Ro → (Bool → Ro → Prop) → ER → Prop
abbrev DA := Ro → (List T → Ro → Prop) → ER → Prop
/-- an expression that makes a new object -/
abbrev DF := Ro → (D → Ro → Prop) → ER → Prop
abbrev DI := Ro → (List D → Ro → Prop) → ER → Prop
structure Do where
  nx : Ro → Prop
  rt : T → Ro → Prop
  rf : D → Ro → Prop := fun _ _ => False
  bk : Ro → Prop := fun _ => False
  ct : Ro → Prop := fun _ => False
  er : ER := fun _ _ _ => False
abbrev DS := Do → Ro → Prop
abbrev DG := T → Ro → (Ro → Prop) → Prop
section
variable (K : PySem.W.Frag) (pa : PaG)
def XL (F G : Hp) (W : WX) (σ : RSt) (er : ER) : Prop := ∀ (G' H' : Hp) (ρ' : Ro) (C d : Addr) (vs : List (Str × V)) (fs : List (Str × D)), Ex G G' → Sim K pa F G' σ H' ρ' → er C fs ρ' → G' d = some (.xd vs) → RepF K G' vs fs → W (.ref C) (some d) σ H'
def SE (W : WX) (te : TE) (de : DE) : Prop := ∀ (F G : Hp) (σ : RSt) (H : Hp) (ρ : Ro) (Q : VK) (q : T → Ro → Prop) (er : ER), Sim K pa F G σ H ρ → de ρ q er →
  (∀ G' H' v t ρ', Ex G G' → Sim K pa F G' σ H' ρ' → TkR K G' σ v t → q t ρ' → Q v H') → XL K pa F G W σ er → te σ H Q
def SF (W : WX) (te : TE) (de : DF) : Prop := ∀ (F G : Hp) (σ : RSt) (H : Hp) (ρ : Ro) (Q : VK) (q : D → Ro → Prop) (er : ER), Sim K pa F G σ H ρ → de ρ q er →
  (∀ G' H' p d ρ', Ex G G' → Sim K pa F G' σ H' ρ' → G' p = none ∧ F p = none → OwnAt K G' H' p d → (∀ (i : Nat) (s : Sl) (d : D), ρ'[i]? = some s → s.ownD = some d → σ[i]? ≠ some (some (.ref p))) → q d ρ' → Q (.ref p) H') → XL K pa F G W σ er → te σ H Q
def ST (W : WX) (tt : TT) (dt : DT) : Prop := ∀ (F G : Hp) (σ : RSt) (H : Hp) (ρ : Ro) (Q : Bool → Hp → Prop) (q : Bool → Ro → Prop) (er : ER), Sim K pa F G σ H ρ → dt ρ q er →
  (∀ G' H' b ρ', Ex G G' → Sim K pa F G' σ H' ρ' → q b ρ' → Q b H') → XL K pa F G W σ er → tt σ H Q
inductive TkRs (G : Hp) (σ : RSt) : List V → List T → Prop
  | nil : TkRs G σ [] []
  | cons {v : V} {t : T} {vs : List V} {ts : List T} : TkR K G σ v t → TkRs G σ vs ts → TkRs G σ (v :: vs) (t :: ts)
def SA (W : WX) (ta : TA) (da : DA) : Prop := ∀ (F G : Hp) (σ : RSt) (H : Hp) (ρ : Ro) (Q : List V → Hp → Prop) (q : List T → Ro → Prop) (er : ER), Sim K pa F G σ H ρ → da ρ q er →
  (∀ G' H' vs ts ρ', Ex G G' → Sim K pa F G' σ H' ρ' → TkRs K G' σ vs ts → q ts ρ' → Q vs H') → XL K pa F G W σ er → ta σ H Q
/-- ns: the slots that the target stores to -/
def SG (ns : List Nat) (g : TG) (dg : DG) : Prop := ∀ (F G : Hp) (σ : RSt) (H : Hp) (ρ : Ro) (v : V) (t : T) (Q : RSt → Hp → Prop) (q : Ro → Prop), Sim K pa F G σ H ρ → TkR K G σ v t → dg t ρ q →
  (∀ G' σ' H' ρ', Ex G G' → Sim K pa F G' σ' H' ρ' → (∀ vs : List Nat, (∀ i ∈ ns, i ∈ vs) → wipe σ' vs = wipe σ vs) → q ρ' → Q σ' H') → g v σ H Q
structure Lk (F : Hp) (W : WX) (G : Hp) (D : Ends) (DD : Do) : Prop where
  nx : ∀ G' σ' H' ρ', Ex G G' → Sim K pa F G' σ' H' ρ' → DD.nx ρ' → D.nx σ' H'
  bk : ∀ G' σ' H' ρ', Ex G G' → Sim K pa F G' σ' H' ρ' → DD.bk ρ' → D.bk σ' H'
  ct : ∀ G' σ' H' ρ', Ex G G' → Sim K pa F G' σ' H' ρ' → DD.ct ρ' → D.ct σ' H'
  rt : ∀ G' σ' H' ρ' v t, Ex G G' → Sim K pa F G' σ' H' ρ' → TkR K G' σ' v t → DD.rt t ρ' → D.rt v H'
  rf : ∀ G' σ' H' ρ' p d, Ex G G' → Sim K pa F G' σ' H' ρ' → G' p = none ∧ F p = none → OwnAt K G' H' p d → (∀ (i : Nat) (s : Sl) (d : DL.D), ρ'[i]? = some s → s.ownD = some d → σ'[i]? ≠ some (some (.ref p))) → DD.rf d ρ' → D.rt (.ref p) H'
  er : ∀ G' σ' H' ρ' C d vs fs, Ex G G' → Sim K pa F G' σ' H' ρ' → DD.er C fs ρ' → G' d = some (.xd vs) → RepF K G' vs fs → W (.ref C) (some d) σ' H'
def SS (W : WX) (ts : TS) (ds : DS) : Prop := ∀ (F G : Hp) (σ : RSt) (H : Hp) (ρ : Ro) (D : Ends) (DD : Do), Sim K pa F G σ H ρ → ds DD ρ → Lk K pa F W G D DD → ts D σ H
/-- J, over what grows from G, hands over ds -/
structure ItOk (G : Hp) (J : It) (ds : List DL.D) : Prop where
  go : ∀ i H, Ex G H → i < ds.length → J.go i H
  stop : ∀ i H, Ex G H → ds.length ≤ i → J.stop i H
  yld : ∀ i H x H', J.yld i H x H' → ∀ G1, Ex G G1 → Ex G1 H → ∀ d, ds[i]? = some d → ∃ G2, Al G1 H G2 H' ∧ Rep K G2 x d
def SI (W : WX) (wi : TI) (di : DI) : Prop := ∀ (F G : Hp) (σ : RSt) (H : Hp) (ρ : Ro) (R : It → Hp → Prop) (q : List DL.D → Ro → Prop) (er : ER), Sim K pa F G σ H ρ → di ρ q er →
  (∀ G' H' J ds ρ', Ex G G' → Sim K pa F G' σ H' ρ' → ItOk K G' J ds → q ds ρ' → R J H') → XL K pa F G W σ er → wi σ H R
end
end DL
set_option autoImplicit false
set_option Elab.async false
set_option linter.all false
set_option maxRecDepth 100000
namespace DL
open PySem L2 Evl

/-! ### expressions -/
def dC (d : D) : DE := fun ρ q _ => q (.val d) ρ
def dVar (i : Nat) : DE := fun ρ q _ => match ρ[i]? with
  | some (.val d) => q (.val d) ρ
  | some (.own _) => q (.bor i) ρ
  | some (.par _) => q (.bor i) ρ
  | _ => False
def dOp (f : D → D → Option D) (da db : DE) : DE := fun ρ q er => da ρ (fun s ρ1 => db ρ1 (fun t ρ2 => Opt (rd ρ2 s) fun x => Opt (rd ρ2 t) fun y => Opt (f x y) fun z => q (.val z) ρ2) er) er
def dUn (f : D → Option D) (da : DE) : DE := fun ρ q er => da ρ (fun s ρ1 => Opt (rd ρ1 s) fun x => Opt (f x) fun z => q (.val z) ρ1) er
def D.bool : D → Option Bool
  | .bl b => some b
  | _ => none
def dTest (da : DE) : DT := fun ρ q er => da ρ (fun s ρ1 => Opt (rd ρ1 s) fun x => Opt x.bool fun b => q b ρ1) er
def D.truth : D → Option Bool
  | .non => some false
  | .bl b => some b
  | .int i => some (i != 0)
  | .str y => if y.length ≤ sizeLine then some ((y.length : Int) != 0) else none
  | .lst xs => some (!xs.isEmpty)
  | .tup xs => some (!xs.isEmpty)
  | .dct xs => some (!xs.isEmpty)
  | _ => none
def dTruth (da : DE) : DT := fun ρ q er => da ρ (fun s ρ1 => Opt (rd ρ1 s) fun x => Opt x.truth fun b => q b ρ1) er
def dAnd (t u : DT) : DT := fun ρ q er => t ρ (fun c ρ1 => if c = true then u ρ1 q er else q false ρ1) er
def dOr (t u : DT) : DT := fun ρ q er => t ρ (fun c ρ1 => if c = true then q true ρ1 else u ρ1 q er) er
def dNot (t : DT) : DT := fun ρ q er => t ρ (fun c ρ1 => q (!c) ρ1) er
def dAndV (da db : DE) : DE := fun ρ q er => da ρ (fun s ρ1 => Opt (rd ρ1 s) fun x => Opt x.bool fun c => if c = true then db ρ1 q er else q (.val (.bl false)) ρ1) er
def dOrV (da db : DE) : DE := fun ρ q er => da ρ (fun s ρ1 => Opt (rd ρ1 s) fun x => Opt x.bool fun c => if c = true then q (.val (.bl true)) ρ1 else db ρ1 q er) er
def dNotV (da : DE) : DE := fun ρ q er => da ρ (fun s ρ1 => Opt (rd ρ1 s) fun x => Opt x.bool fun c => q (.val (.bl (!c))) ρ1) er
def dIf (t : DT) (da db : DE) : DE := fun ρ q er => t ρ (fun c ρ1 => if c = true then da ρ1 q er else db ρ1 q er) er
def dNil : DA := fun ρ q _ => q [] ρ
def dCons (da : DE) (dr : DA) : DA := fun ρ q er => da ρ (fun s ρ1 => dr ρ1 (fun ts ρ2 => q (s :: ts) ρ2) er) er
def rds (ρ : Ro) : List T → Option (List D)
  | [] => some []
  | t :: ts => (rd ρ t).bind fun d => (rds ρ ts).map fun ds => d :: ds
/-- data alone: what is stored must not be a slot's own object -/
def vals : List T → Option (List D)
  | [] => some []
  | .val d :: ts => (vals ts).map fun ds => d :: ds
  | .bor _ :: _ => none
def dTup (da : DA) : DE := fun ρ q er => da ρ (fun ts ρ1 => Opt (vals ts) fun ds => ds.length ≤ sizeLine ∧ q (.val (.tup ds)) ρ1) er
def dLst (da : DA) : DF := fun ρ q er => da ρ (fun ts ρ1 => Opt (vals ts) fun ds => ds.length ≤ sizeLine ∧ q (.lst ds) ρ1) er
/-- a new object as plain data -/
def dV (da : DF) : DE := fun ρ q er => da ρ (fun d ρ1 => q (.val d) ρ1) er
def dCB (f : List D → Option D) (da : DA) : DE := fun ρ q er => da ρ (fun ts ρ1 => Opt (rds ρ1 ts) fun ds => Opt (f ds) fun z => q (.val z) ρ1) er
def dChain (f g : D → D → Option D) (da db dc : DE) : DE := fun ρ q er => da ρ (fun s ρ1 => db ρ1 (fun t ρ2 => Opt (rd ρ2 s) fun x => Opt (rd ρ2 t) fun y => Opt (f x y) fun z => Opt z.bool fun k =>
  if k = true then dc ρ2 (fun u ρ3 => Opt (rd ρ3 t) fun y' => Opt (rd ρ3 u) fun w => Opt (g y' w) fun z' => q (.val z') ρ3) er else q (.val (.bl false)) ρ2) er) er

section
variable (K : PySem.W.Frag)
/-- a two-place operation on values does f on data, laying new objects alone -/
def SR (r : R2) (f : D → D → Option D) : Prop := ∀ (G H : Hp) (x y : V) (dx dy z : D) (Q : VK), Ex G H → RepT K G H x dx → RepT K G H y dy → f dx dy = some z → (∀ G' H' v, Al G H G' H' → Rep K G' v z → Q v H') → r x y H Q
def SU (r : V → Hp → VK → Prop) (f : D → Option D) : Prop := ∀ (G H : Hp) (x : V) (dx z : D) (Q : VK), Ex G H → RepT K G H x dx → f dx = some z → (∀ G' H' v, Al G H G' H' → Rep K G' v z → Q v H') → r x H Q
inductive RepTs (G H : Hp) : List V → List D → Prop
  | nil : RepTs G H [] []
  | cons {v : V} {d : D} {vs : List V} {ds : List D} : RepT K G H v d → RepTs G H vs ds → RepTs G H (v :: vs) (d :: ds)
def SC (r : List V → Hp → VK → Prop) (f : List D → Option D) : Prop := ∀ (G H : Hp) (xs : List V) (ds : List D) (z : D) (Q : VK), Ex G H → RepTs K G H xs ds → f ds = some z → (∀ G' H' v, Al G H G' H' → Rep K G' v z → Q v H') → r xs H Q
end

section
variable {K : PySem.W.Frag} {pa : PaG} {W : WX} {ta tb tc te : TE} {da db dc de : DE} {tt uu : TT} {dt du : DT} {r r' : R2} {f f' : D → D → Option D}
theorem XL.grow {F G G' : Hp} {σ : RSt} {er : ER} (e : Ex G G') (x : XL K pa F G W σ er) : XL K pa F G' W σ er := fun G2 H2 ρ2 C d vs fs e2 => x G2 H2 ρ2 C d vs fs (e.trans e2)
theorem se_c {v : V} {d : D} (h : ∀ G, Rep K G v d) : SE K pa W (tC v) (dC d) := fun F G σ H ρ Q q er S h1 k _ => k G H v (.val d) ρ (Ex.refl G) S (h G) h1
theorem se_var {i : Nat} : SE K pa W (tVar i) (dVar i) := fun F G σ H ρ Q q er S h1 k _ => by
  unfold dVar at h1
  cases e : ρ[i]? with
  | none => rw [e] at h1; exact h1.elim
  | some s =>
    rw [e] at h1
    cases s with
    | no => exact h1.elim
    | val d =>
      obtain ⟨v, hv, r⟩ := S.val i d e
      exact ⟨v, hv, k G H v (.val d) ρ (Ex.refl G) S r h1⟩
    | own d =>
      obtain ⟨p, hp, _⟩ := S.own i _ d e rfl
      exact ⟨_, hp, k G H _ (.bor i) ρ (Ex.refl G) S hp h1⟩
    | par d =>
      obtain ⟨p, hp, _⟩ := S.own i _ d e rfl
      exact ⟨_, hp, k G H _ (.bor i) ρ (Ex.refl G) S hp h1⟩
theorem se_op (hr : SR K r f) (ha : SE K pa W ta da) (hb : SE K pa W tb db) : SE K pa W (tOp r ta tb) (dOp f da db) := fun F G σ H ρ Q q er S h k x =>
  ha F G σ H ρ _ _ er S h (fun G1 H1 v s ρ1 e1 S1 r1 h1 => hb F G1 σ H1 ρ1 _ _ er S1 h1 (fun G2 H2 w t ρ2 e2 S2 r2 h2 => by
    obtain ⟨dx, ex, dy, ey, z, ez, h3⟩ := h2
    exact hr G2 H2 v w dx dy z _ S2.ex (S2.rdT (r1.mono e2) ex) (S2.rdT r2 ey) ez fun G3 H3 u a r3 => k G3 H3 u (.val z) ρ2 ((e1.trans e2).trans a.g) (S2.al a) r3 h3) (x.grow e1)) x
theorem se_un {r : V → Hp → VK → Prop} {f : D → Option D} (hr : SU K r f) (ha : SE K pa W ta da) : SE K pa W (tUn r ta) (dUn f da) := fun F G σ H ρ Q q er S h k x =>
  ha F G σ H ρ _ _ er S h (fun G1 H1 v s ρ1 e1 S1 r1 h1 => by
    obtain ⟨dx, ex, z, ez, h3⟩ := h1
    exact hr G1 H1 v dx z _ S1.ex (S1.rdT r1 ex) ez fun G3 H3 u a r3 => k G3 H3 u (.val z) ρ1 (e1.trans a.g) (S1.al a) r3 h3) x
theorem bool_of {d : D} {b : Bool} (h : d.bool = some b) : d = .bl b := by
  cases d <;> first | (cases h; rfl) | cases h
theorem st_test (ha : SE K pa W ta da) : ST K pa W (tTest ta) (dTest da) := fun F G σ H ρ Q q er S h k x =>
  ha F G σ H ρ _ _ er S h (fun G1 H1 v s ρ1 e1 S1 r1 h1 => by
    obtain ⟨dx, ex, b, eb, h3⟩ := h1
    cases bool_of eb
    exact ⟨b, (S1.rdT r1 ex).bl, k G1 H1 b ρ1 e1 S1 h3⟩) x
theorem st_B (ha : SE K pa W ta da) : ST K pa W (tB ta) (dTest da) := st_test ha
theorem tru_of {G H : Hp} {v : V} {d : D} {b : Bool} (e : Ex G H) (r : RepT K G H v d) (h : d.truth = some b) : TruV K v H b := by
  cases d with
  | non => cases h; rw [r.non]; rfl
  | bl c => cases h; rw [r.bl]; rfl
  | int i => cases h; rw [r.int]; rfl
  | str y =>
    rw [r.str]
    have h : (if y.length ≤ sizeLine then some ((y.length : Int) != 0) else none) = some b := h
    split at h
    · rename_i hl; cases h; exact ⟨hl, rfl⟩
    · cases h
  | lst xs =>
    cases h
    obtain ⟨p, vs, rfl, hs, hr⟩ := r.lst e
    refine .inl ⟨vs, hs, ?_⟩
    cases hr <;> rfl
  | tup xs =>
    cases h
    obtain ⟨p, vs, rfl, hs, hr⟩ := r.tup e
    refine .inr (.inl ⟨vs, hs, ?_⟩)
    cases hr <;> rfl
  | dct xs =>
    cases h
    obtain ⟨p, vs, rfl, hs, hr⟩ := r.dct e
    refine .inr (.inr ⟨vs, hs, ?_⟩)
    cases hr <;> rfl
  | byt _ => cases h
  | ins _ _ => cases h
  | ptr _ => cases h
  | ty _ => cases h
  | exc _ _ => cases h
theorem st_truth (ha : SE K pa W ta da) : ST K pa W (fun σ H Q => ta σ H fun x H' => ∃ k, TruV K x H' k ∧ Q k H') (dTruth da) := fun F G σ H ρ Q q er S h k x =>
  ha F G σ H ρ _ _ er S h (fun G1 H1 v s ρ1 e1 S1 r1 h1 => by
    obtain ⟨dx, ex, b, eb, h3⟩ := h1
    exact ⟨b, tru_of S1.ex (S1.rdT r1 ex) eb, k G1 H1 b ρ1 e1 S1 h3⟩) x
theorem st_and (ha : ST K pa W tt dt) (hb : ST K pa W uu du) : ST K pa W (tAnd tt uu) (dAnd dt du) := fun F G σ H ρ Q q er S h k x =>
  ha F G σ H ρ _ _ er S h (fun G1 H1 c ρ1 e1 S1 h1 => by
    cases c with
    | true => exact hb F G1 σ H1 ρ1 Q q er S1 h1 (fun G2 H2 b ρ2 e2 => k G2 H2 b ρ2 (e1.trans e2)) (x.grow e1)
    | false => exact k G1 H1 false ρ1 e1 S1 h1) x
theorem st_or (ha : ST K pa W tt dt) (hb : ST K pa W uu du) : ST K pa W (tOr tt uu) (dOr dt du) := fun F G σ H ρ Q q er S h k x =>
  ha F G σ H ρ _ _ er S h (fun G1 H1 c ρ1 e1 S1 h1 => by
    cases c with
    | false => exact hb F G1 σ H1 ρ1 Q q er S1 h1 (fun G2 H2 b ρ2 e2 => k G2 H2 b ρ2 (e1.trans e2)) (x.grow e1)
    | true => exact k G1 H1 true ρ1 e1 S1 h1) x
theorem st_not (ha : ST K pa W tt dt) : ST K pa W (tNot tt) (dNot dt) := fun F G σ H ρ Q q er S h k x =>
  ha F G σ H ρ _ _ er S h (fun G1 H1 c ρ1 e1 S1 h1 => k G1 H1 (!c) ρ1 e1 S1 h1) x
theorem st_yes : ST K pa W tYes (fun ρ q _ => q true ρ) := fun F G σ H ρ Q q er S h k x => k G H true ρ (Ex.refl G) S h
theorem se_andV (ha : SE K pa W ta da) (hb : SE K pa W tb db) : SE K pa W (tAndV ta tb) (dAndV da db) := fun F G σ H ρ Q q er S h k x =>
  ha F G σ H ρ _ _ er S h (fun G1 H1 v s ρ1 e1 S1 r1 h1 => by
    obtain ⟨dx, ex, c, eb, h3⟩ := h1
    cases bool_of eb
    refine ⟨c, (S1.rdT r1 ex).bl, ?_⟩
    cases c with
    | true => exact hb F G1 σ H1 ρ1 Q q er S1 h3 (fun G2 H2 v t ρ2 e2 => k G2 H2 v t ρ2 (e1.trans e2)) (x.grow e1)
    | false => exact k G1 H1 _ (.val (.bl false)) ρ1 e1 S1 (.bl false) h3) x
theorem se_orV (ha : SE K pa W ta da) (hb : SE K pa W tb db) : SE K pa W (tOrV ta tb) (dOrV da db) := fun F G σ H ρ Q q er S h k x =>
  ha F G σ H ρ _ _ er S h (fun G1 H1 v s ρ1 e1 S1 r1 h1 => by
    obtain ⟨dx, ex, c, eb, h3⟩ := h1
    cases bool_of eb
    refine ⟨c, (S1.rdT r1 ex).bl, ?_⟩
    cases c with
    | false => exact hb F G1 σ H1 ρ1 Q q er S1 h3 (fun G2 H2 v t ρ2 e2 => k G2 H2 v t ρ2 (e1.trans e2)) (x.grow e1)
    | true => exact k G1 H1 _ (.val (.bl true)) ρ1 e1 S1 (.bl true) h3) x
theorem se_notV (ha : SE K pa W ta da) : SE K pa W (tNotV ta) (dNotV da) := fun F G σ H ρ Q q er S h k x =>
  ha F G σ H ρ _ _ er S h (fun G1 H1 v s ρ1 e1 S1 r1 h1 => by
    obtain ⟨dx, ex, c, eb, h3⟩ := h1
    cases bool_of eb
    exact ⟨c, (S1.rdT r1 ex).bl, k G1 H1 _ (.val (.bl (!c))) ρ1 e1 S1 (.bl (!c)) h3⟩) x
theorem se_if (ht : ST K pa W tt dt) (ha : SE K pa W ta da) (hb : SE K pa W tb db) : SE K pa W (tIf tt ta tb) (dIf dt da db) := fun F G σ H ρ Q q er S h k x =>
  ht F G σ H ρ _ _ er S h (fun G1 H1 c ρ1 e1 S1 h1 => by
    cases c with
    | true => exact ha F G1 σ H1 ρ1 Q q er S1 h1 (fun G2 H2 v t ρ2 e2 => k G2 H2 v t ρ2 (e1.trans e2)) (x.grow e1)
    | false => exact hb F G1 σ H1 ρ1 Q q er S1 h1 (fun G2 H2 v t ρ2 e2 => k G2 H2 v t ρ2 (e1.trans e2)) (x.grow e1)) x
theorem sa_nil : SA K pa W tNil dNil := fun F G σ H ρ Q q er S h k x => k G H [] [] ρ (Ex.refl G) S .nil h
theorem TkRs.mono {G G' : Hp} {σ : RSt} (e : Ex G G') : ∀ {vs : List V} {ts : List T}, TkRs K G σ vs ts → TkRs K G' σ vs ts
  | _, _, .nil => .nil
  | _, _, .cons h r => .cons (h.mono e) (TkRs.mono e r)
theorem sa_cons {tr : TA} {dr : DA} (ha : SE K pa W ta da) (hr : SA K pa W tr dr) : SA K pa W (tCons ta tr) (dCons da dr) := fun F G σ H ρ Q q er S h k x =>
  ha F G σ H ρ _ _ er S h (fun G1 H1 v s ρ1 e1 S1 r1 h1 => hr F G1 σ H1 ρ1 _ _ er S1 h1 (fun G2 H2 vs ts ρ2 e2 S2 r2 h2 => k G2 H2 _ _ ρ2 (e1.trans e2) S2 (.cons (r1.mono e2) r2) h2) (x.grow e1)) x
theorem vals_reps {G : Hp} {σ : RSt} : ∀ {vs : List V} {ts : List T} {ds : List D}, TkRs K G σ vs ts → vals ts = some ds → Reps K G vs ds
  | _, _, _, .nil, e => by cases e; exact .nil
  | _, .val d :: ts, _, .cons h r, e => by
    have e : (vals ts).map (fun ds => d :: ds) = some _ := e
    cases q : vals ts with
    | none => rw [q] at e; cases e
    | some es => rw [q] at e; cases e; exact .cons h (vals_reps r q)
  | _, .bor _ :: ts, _, .cons h r, e => by cases e
theorem rds_reps {F G H : Hp} {σ : RSt} {ρ : Ro} (S : Sim K pa F G σ H ρ) : ∀ {vs : List V} {ts : List T} {ds : List D}, TkRs K G σ vs ts → rds ρ ts = some ds → RepTs K G H vs ds
  | _, _, _, .nil, e => by cases e; exact .nil
  | _, t :: ts, _, .cons h r, e => by
    have e : (rd ρ t).bind (fun d => (rds ρ ts).map fun ds => d :: ds) = some _ := e
    cases q1 : rd ρ t with
    | none => rw [q1] at e; cases e
    | some d =>
      rw [q1] at e
      have e : (rds ρ ts).map (fun ds => d :: ds) = some _ := e
      cases q : rds ρ ts with
      | none => rw [q] at e; cases e
      | some es => rw [q] at e; cases e; exact .cons (S.rdT h q1) (rds_reps S r q)
theorem se_tup {ta : TA} {da : DA} (ha : SA K pa W ta da) : SE K pa W (tTup ta) (dTup da) := fun F G σ H ρ Q q er S h k x =>
  ha F G σ H ρ _ _ er S h (fun G1 H1 vs ts ρ1 e1 S1 r1 h1 => by
    obtain ⟨ds, ed, hl, h2⟩ := h1
    have R := vals_reps r1 ed
    refine ⟨by rw [R.length]; exact hl, fun p hp => ?_⟩
    have a := Al.one (G := G1) (p := p) (o := .tup vs) S1.ex hp
    exact k _ _ _ (.val (.tup ds)) ρ1 (e1.trans a.g) (S1.al a) (.tup (SqT.of upd_same) (R.mono a.g)) h2) x
/-- a new object that nobody knows as yet -/
theorem Sim.new {F G H : Hp} {σ : RSt} {ρ : Ro} {p : Addr} {o : HO} (S : Sim K pa F G σ H ρ) (hp : H p = none) : Sim K pa F G σ (upd H p o) ρ :=
  S.grow (Ex.refl G) (S.ex.trans (Ex.new hp)) (S.fx.trans (Ex.new hp)) (S.dj.hext (Ex.new hp)) fun i s d b h1 h2 h3 => by
    obtain ⟨b', q1, q2, q3⟩ := S.own i s d h1 h2
    rw [h3] at q1
    cases q1
    obtain ⟨u, hu⟩ := q3.some
    exact ⟨q2, upd_ne fun z => by rw [z, hp] at hu; cases hu⟩
theorem sf_lst {ta : TA} {da : DA} (ha : SA K pa W ta da) : SF K pa W (tLst ta) (dLst da) := fun F G σ H ρ Q q er S h k x =>
  ha F G σ H ρ _ _ er S h (fun G1 H1 vs ts ρ1 e1 S1 r1 h1 => by
    obtain ⟨ds, ed, hl, h2⟩ := h1
    have R := vals_reps r1 ed
    refine ⟨by rw [R.length]; exact hl, fun p hp => ?_⟩
    have gp : G1 p = none := fresh_back S1.ex hp
    refine k G1 _ p (.lst ds) ρ1 e1 (S1.new hp) ⟨gp, fresh_back S1.fx hp⟩ ⟨vs, upd_same, R⟩ (fun i s d hs hd hσ => ?_) h2
    · obtain ⟨b, hb, _, ow⟩ := S1.own i s d hs hd
      rw [hσ] at hb
      cases hb
      obtain ⟨o, ho⟩ := ow.some
      rw [hp] at ho
      cases ho) x
/-- a new object, taken as plain data -/
theorem se_new {te : TE} {df : DF} (h : SF K pa W te df) : SE K pa W te (dV df) := fun F G σ H ρ Q q er S h0 k x =>
  h F G σ H ρ Q _ er S h0 (fun G1 H1 p d ρ1 e1 S1 gp ow fr h1 => by
    obtain ⟨o, ho⟩ := ow.some
    have e2 : Ex G1 (upd G1 p o) := Ex.new gp.1
    have S2 : Sim K pa F (upd G1 p o) σ H1 ρ1 := {
      len := S1.len
      ex := fun b u q => by
        by_cases hb : b = p
        · subst hb; rw [upd_same] at q; cases q; exact ho
        · rw [upd_ne hb] at q; exact S1.ex b u q
      fx := S1.fx
      dj := S1.dj.gadd gp.2 (S1.dj.ne ho (ow.code ho))
      val := fun i d h => let ⟨v, h1, h2⟩ := S1.val i d h; ⟨v, h1, h2.mono e2⟩
      own := fun i s d h hd => by
        obtain ⟨b, h1, h2, h3⟩ := S1.own i s d h hd
        exact ⟨b, h1, by rw [upd_ne (fun z => fr i s d h hd (by rw [h1, z]))]; exact h2, h3.mono e2 rfl⟩
      ofr := S1.ofr
      par := S1.par
      gx := S1.gx.trans e2
      dis := S1.dis }
    refine k (upd G1 p o) H1 _ (.val d) ρ1 (e1.trans e2) S2 ?_ h1
    cases d with
    | lst ds => obtain ⟨vs, h1, h2⟩ := ow; rw [ho] at h1; cases h1; exact Rep.lst (SqL.of upd_same) (h2.mono e2)
    | dct ds => obtain ⟨vs, h1, h2⟩ := ow; rw [ho] at h1; cases h1; exact Rep.dct upd_same (h2.mono e2)
    | ins C ds => obtain ⟨dx, vs, h1, h2⟩ := ow; rw [ho] at h1; cases h1; exact Rep.ins upd_same (h2.mono e2)
    | _ => exact ow.elim) x
theorem se_cb {r : List V → Hp → VK → Prop} {f : List D → Option D} {ta : TA} {da : DA} (hr : SC K r f) (ha : SA K pa W ta da) : SE K pa W (tCB r ta) (dCB f da) := fun F G σ H ρ Q q er S h k x =>
  ha F G σ H ρ _ _ er S h (fun G1 H1 vs ts ρ1 e1 S1 r1 h1 => by
    obtain ⟨ds, ed, z, ez, h2⟩ := h1
    exact hr G1 H1 vs ds z _ S1.ex (rds_reps S1 r1 ed) ez fun G2 H2 v a r2 => k G2 H2 v (.val z) ρ1 (e1.trans a.g) (S1.al a) r2 h2) x
theorem se_chain (hr : SR K r f) (hr' : SR K r' f') (ha : SE K pa W ta da) (hb : SE K pa W tb db) (hc : SE K pa W tc dc) : SE K pa W (tChain r r' ta tb tc) (dChain f f' da db dc) := fun F G σ H ρ Q q er S h k x =>
  ha F G σ H ρ _ _ er S h (fun G1 H1 v s ρ1 e1 S1 r1 h1 => hb F G1 σ H1 ρ1 _ _ er S1 h1 (fun G2 H2 w t ρ2 e2 S2 r2 h2 => by
    obtain ⟨dx, ex, dy, ey, z, ez, c, ec, h3⟩ := h2
    refine hr G2 H2 v w dx dy z _ S2.ex (S2.rdT (r1.mono e2) ex) (S2.rdT r2 ey) ez fun G3 H3 u a r3 => ?_
    cases bool_of ec
    cases r3
    refine ⟨c, rfl, ?_⟩
    cases c with
    | false => exact k G3 H3 _ (.val (.bl false)) ρ2 ((e1.trans e2).trans a.g) (S2.al a) (.bl false) h3
    | true =>
      refine hc F G3 σ H3 ρ2 _ _ er (S2.al a) h3 (fun G4 H4 y u ρ4 e4 S4 r4 h4 => ?_) (x.grow ((e1.trans e2).trans a.g))
      obtain ⟨dy', ey', dw, ew, z', ez', h5⟩ := h4
      exact hr' G4 H4 w y dy' dw z' _ S4.ex (S4.rdT ((r2.mono a.g).mono e4) ey') (S4.rdT r4 ew) ez' fun G5 H5 u5 a5 r5 => k G5 H5 u5 (.val z') ρ4 ((((e1.trans e2).trans a.g).trans e4).trans a5.g) (S4.al a5) r5 h5) (x.grow e1)) x
end

/-! ### statements -/
def dNext : DS := fun DD ρ => DD.nx ρ
def dNever : DS := fun _ _ => False
def dSeq (a b : DS) : DS := fun DD ρ => a { DD with nx := b DD } ρ
def dDrop (de : DE) : DS := fun DD ρ => de ρ (fun _ ρ1 => DD.nx ρ1) DD.er
def dRet (de : DE) : DS := fun DD ρ => de ρ DD.rt DD.er
def dRetF (de : DF) : DS := fun DD ρ => de ρ DD.rf DD.er
def dRetN : DS := fun DD ρ => DD.rt (.val .non) ρ
def dIfS (t : DT) (a b : DS) : DS := fun DD ρ => t ρ (fun c ρ1 => if c = true then a DD ρ1 else b DD ρ1) DD.er
def dBrk : DS := fun DD ρ => DD.bk ρ
def dCnt : DS := fun DD ρ => DD.ct ρ
def isPar (ρ : Ro) (i : Nat) : Bool := match ρ[i]? with
  | some (.par _) => true
  | _ => false
def dgName (i : Nat) : DG := fun t ρ q => match t with
  | .val d => isPar ρ i = false ∧ q (ρ.set i (.val d))
  | .bor _ => False
def dAsg (de : DE) (g : DG) : DS := fun DD ρ => de ρ (fun t ρ1 => g t ρ1 DD.nx) DD.er
/-- name = a new object: the slot's own -/
def dOwn (df : DF) (i : Nat) : DS := fun DD ρ => df ρ (fun d ρ1 => (isPar ρ1 i = false ∧ i < ρ1.length) ∧ DD.nx (ρ1.set i (.own d))) DD.er
/-- a ghost step: a slot's own object is plain data from here on -/
def dFrz (i : Nat) (s : DS) : DS := fun DD ρ => match ρ[i]? with
  | some (.own d) => s DD (ρ.set i (.val d))
  | _ => False

section
variable {K : PySem.W.Frag} {pa : PaG} {W : WX} {ts us : TS} {ds es : DS} {te : TE} {de : DE} {tt : TT} {dt : DT} {g : TG} {dg : DG}
theorem Lk.grow {F G G' : Hp} {D : Ends} {DD : Do} (e : Ex G G') (l : Lk K pa F W G D DD) : Lk K pa F W G' D DD :=
  ⟨fun a b c d x => l.nx a b c d (e.trans x), fun a b c d x => l.bk a b c d (e.trans x), fun a b c d x => l.ct a b c d (e.trans x), fun a b c d v t x => l.rt a b c d v t (e.trans x), fun a b c d v t x => l.rf a b c d v t (e.trans x), fun a b c d C y vs fs x => l.er a b c d C y vs fs (e.trans x)⟩
theorem Lk.xl {F G : Hp} {D : Ends} {DD : Do} (l : Lk K pa F W G D DD) (σ : RSt) : XL K pa F G W σ DD.er := fun G' H' ρ' C d vs fs e => l.er G' σ H' ρ' C d vs fs e
theorem ss_next : SS K pa W tNext dNext := fun F G σ H ρ D DD S h l => l.nx G σ H ρ (Ex.refl G) S h
theorem ss_never {ts : TS} : SS K pa W ts dNever := fun _ _ _ _ _ _ _ _ h _ => h.elim
theorem ss_seq (h1 : SS K pa W ts ds) (h2 : SS K pa W us es) : SS K pa W (tSeq ts us) (dSeq ds es) := fun F G σ H ρ D DD S h l =>
  h1 F G σ H ρ _ _ S h ⟨fun G' σ' H' ρ' e S' q => h2 F G' σ' H' ρ' D DD S' q (l.grow e), l.bk, l.ct, l.rt, l.rf, l.er⟩
theorem ss_drop (h1 : SE K pa W te de) : SS K pa W (tDrop te) (dDrop de) := fun F G σ H ρ D DD S h l =>
  h1 F G σ H ρ _ _ _ S h (fun G' H' v t ρ' e S' r q => l.nx G' σ H' ρ' e S' q) (l.xl σ)
theorem ss_ret (h1 : SE K pa W te de) : SS K pa W (tRet te) (dRet de) := fun F G σ H ρ D DD S h l =>
  h1 F G σ H ρ _ _ _ S h (fun G' H' v t ρ' e S' r q => l.rt G' σ H' ρ' v t e S' r q) (l.xl σ)
theorem ss_retF {df : DF} (h1 : SF K pa W te df) : SS K pa W (tRet te) (dRetF df) := fun F G σ H ρ D DD S h l =>
  h1 F G σ H ρ _ _ _ S h (fun G' H' p d ρ' e S' gp ow fr q => l.rf G' σ H' ρ' p d e S' gp ow fr q) (l.xl σ)
theorem ss_retN : SS K pa W tRetN dRetN := fun F G σ H ρ D DD S h l => l.rt G σ H ρ .non (.val .non) (Ex.refl G) S .non h
theorem ss_if (ht : ST K pa W tt dt) (h1 : SS K pa W ts ds) (h2 : SS K pa W us es) : SS K pa W (tIfS tt ts us) (dIfS dt ds es) := fun F G σ H ρ D DD S h l =>
  ht F G σ H ρ _ _ _ S h (fun G' H' b ρ' e S' q => by
    cases b with
    | true => exact h1 F G' σ H' ρ' D DD S' q (l.grow e)
    | false => exact h2 F G' σ H' ρ' D DD S' q (l.grow e)) (l.xl σ)
theorem ss_brk : SS K pa W tBreak dBrk := fun F G σ H ρ D DD S h l => l.bk G σ H ρ (Ex.refl G) S h
theorem ss_cnt : SS K pa W tCont dCnt := fun F G σ H ρ D DD S h l => l.ct G σ H ρ (Ex.refl G) S h
theorem isPar_of {ρ : Ro} {i : Nat} {d : D} (h : isPar ρ i = false) (e : ρ[i]? = some (.par d)) : False := by
  unfold isPar at h; rw [e] at h; cases h
/-- a slot is stored: plain data -/
theorem Sim.store {F G H : Hp} {σ : RSt} {ρ : Ro} {i : Nat} {v : V} {d : D} (S : Sim K pa F G σ H ρ) (hp : isPar ρ i = false) (r : Rep K G v d) : Sim K pa F G (σ.set i (some v)) H (ρ.set i (.val d)) where
  len := by rw [List.length_set, List.length_set]; exact S.len
  ex := S.ex
  fx := S.fx
  dj := S.dj
  ofr := fun j s e p h hd hσ => by
    by_cases hj : i = j
    · subst hj
      rw [List.getElem?_set, if_pos rfl] at h
      split at h
      · cases h; cases hd
      · cases h
    · rw [List.getElem?_set_ne hj] at h hσ
      exact S.ofr j s e p h hd hσ
  val := fun j e h => by
    by_cases hj : i = j
    · subst hj
      rw [List.getElem?_set] at h ⊢
      rw [if_pos rfl] at h ⊢
      split at h
      · rename_i hl
        cases h
        rw [if_pos (by rw [← S.len]; exact hl)]
        exact ⟨v, rfl, r⟩
      · cases h
    · rw [List.getElem?_set_ne hj] at h ⊢
      exact S.val j e h
  own := fun j s e h hd => by
    by_cases hj : i = j
    · subst hj
      rw [List.getElem?_set, if_pos rfl] at h
      split at h
      · cases h; cases hd
      · cases h
    · rw [List.getElem?_set_ne hj] at h ⊢
      exact S.own j s e h hd
  par := fun j e h => by
    by_cases hj : i = j
    · subst hj
      rw [List.getElem?_set, if_pos rfl] at h
      split at h <;> cases h
    · rw [List.getElem?_set_ne hj] at h ⊢
      exact S.par j e h
  gx := S.gx
  dis := fun j k s t e f p hjk h1 h2 h3 h4 h5 h6 => by
    have nj : i ≠ j := fun z => by
      subst z
      rw [List.getElem?_set, if_pos rfl] at h1
      split at h1
      · cases h1; cases h2
      · cases h1
    have nk : i ≠ k := fun z => by
      subst z
      rw [List.getElem?_set, if_pos rfl] at h3
      split at h3
      · cases h3; cases h4
      · cases h3
    rw [List.getElem?_set_ne nj] at h1 h5
    rw [List.getElem?_set_ne nk] at h3 h6
    exact S.dis j k s t e f p hjk h1 h2 h3 h4 h5 h6
/-- .. an object of its own -/
theorem Sim.storeOwn {F G H : Hp} {σ : RSt} {ρ : Ro} {i : Nat} {p : Addr} {d : D} (S : Sim K pa F G σ H ρ) (hp : isPar ρ i = false) (gp : G p = none ∧ F p = none) (ow : OwnAt K G H p d)
    (fr : ∀ (i : Nat) (s : Sl) (d : D), ρ[i]? = some s → s.ownD = some d → σ[i]? ≠ some (some (.ref p))) : Sim K pa F G (σ.set i (some (.ref p))) H (ρ.set i (.own d)) where
  len := by rw [List.length_set, List.length_set]; exact S.len
  ex := S.ex
  fx := S.fx
  dj := S.dj
  ofr := fun j s e b h hd hσ => by
    by_cases hj : i = j
    · subst hj
      rw [List.getElem?_set, if_pos rfl] at hσ
      split at hσ
      · cases hσ; exact gp.2
      · cases hσ
    · rw [List.getElem?_set_ne hj] at h hσ
      exact S.ofr j s e b h hd hσ
  val := fun j e h => by
    by_cases hj : i = j
    · subst hj
      rw [List.getElem?_set, if_pos rfl] at h
      split at h <;> cases h
    · rw [List.getElem?_set_ne hj] at h ⊢
      exact S.val j e h
  own := fun j s e h hd => by
    by_cases hj : i = j
    · subst hj
      rw [List.getElem?_set] at h ⊢
      rw [if_pos rfl] at h ⊢
      split at h
      · rename_i hl
        cases h
        cases hd
        rw [if_pos (by rw [← S.len]; exact hl)]
        exact ⟨p, rfl, gp.1, ow⟩
      · cases h
    · rw [List.getElem?_set_ne hj] at h ⊢
      exact S.own j s e h hd
  par := fun j e h => by
    by_cases hj : i = j
    · subst hj
      rw [List.getElem?_set, if_pos rfl] at h
      split at h <;> cases h
    · rw [List.getElem?_set_ne hj] at h ⊢
      exact S.par j e h
  gx := S.gx
  dis := fun j k s t e f b hjk h1 h2 h3 h4 h5 h6 => by
    by_cases nj : i = j
    · subst nj
      rw [List.getElem?_set_ne hjk] at h3 h6
      rw [List.getElem?_set, if_pos rfl] at h5
      split at h5
      · cases h5; exact fr k t f h3 h4 h6
      · cases h5
    · by_cases nk : i = k
      · subst nk
        rw [List.getElem?_set_ne nj] at h1 h5
        rw [List.getElem?_set, if_pos rfl] at h6
        split at h6
        · cases h6; exact fr j s e h1 h2 h5
        · cases h6
      · rw [List.getElem?_set_ne nj] at h1 h5
        rw [List.getElem?_set_ne nk] at h3 h6
        exact S.dis j k s t e f b hjk h1 h2 h3 h4 h5 h6
theorem wipe_get (σ : RSt) (j : Nat) : ∀ vs : List Nat, (wipe σ vs)[j]? = if j ∈ vs then (if j < σ.length then some none else none) else σ[j]?
  | [] => by simp [wipe]
  | v :: vs => by
    have ih := wipe_get σ j vs
    unfold wipe
    by_cases h : v = j
    · subst h
      rw [List.getElem?_set, if_pos rfl, wipe_length, if_pos (List.mem_cons_self)]
    · rw [List.getElem?_set_ne h, ih]
      by_cases h2 : j ∈ vs
      · rw [if_pos h2, if_pos (List.mem_cons_of_mem _ h2)]
      · rw [if_neg h2, if_neg (fun z => by rcases List.mem_cons.mp z with z | z; exact h z.symm; exact h2 z)]
theorem wipe_set {σ : RSt} {i : Nat} {x : Option V} {vs : List Nat} (h : i ∈ vs) : wipe (σ.set i x) vs = wipe σ vs := by
  apply List.ext_getElem?
  intro j
  rw [wipe_get, wipe_get, List.length_set]
  by_cases hj : j ∈ vs
  · rw [if_pos hj, if_pos hj]
  · rw [if_neg hj, if_neg hj, List.getElem?_set_ne (fun z => hj (by rw [← z]; exact h))]
theorem wipe_wipe {σ : RSt} {vs : List Nat} : wipe (wipe σ vs) vs = wipe σ vs := by
  apply List.ext_getElem?
  intro j
  rw [wipe_get, wipe_length, wipe_get]
  by_cases hj : j ∈ vs
  · rw [if_pos hj, if_pos hj]
  · rw [if_neg hj, if_neg hj]
theorem sg_name {i : Nat} : SG K pa [i] (gName i) (dgName i) := fun F G σ H ρ v t Q q S r h k => by
  cases t with
  | bor j => exact h.elim
  | val d => exact k G _ H _ (Ex.refl G) (S.store h.1 r) (fun vs hv => wipe_set (hv i List.mem_cons_self)) h.2
/-- a, b, .. = a tuple -/
def dgNil : List D → Ro → (Ro → Prop) → Prop := fun ds ρ q => ds = [] ∧ q ρ
def dgCons (g : DG) (r : List D → Ro → (Ro → Prop) → Prop) : List D → Ro → (Ro → Prop) → Prop := fun ds ρ q => match ds with
  | d :: ds => g (.val d) ρ fun ρ1 => r ds ρ1 q
  | [] => False
def dgTup (n : Nat) (r : List D → Ro → (Ro → Prop) → Prop) : DG := fun t ρ q => match t with
  | .val (.tup ds) => ds.length = n ∧ r ds ρ q
  | _ => False
def SGs (K : PySem.W.Frag) (pa : PaG) (ns : List Nat) (g : TGs) (dg : List D → Ro → (Ro → Prop) → Prop) : Prop := ∀ (F G : Hp) (σ : RSt) (H : Hp) (ρ : Ro) (vs : List V) (ds : List D) (Q : RSt → Hp → Prop) (q : Ro → Prop), Sim K pa F G σ H ρ → Reps K G vs ds → dg ds ρ q →
  (∀ G' σ' H' ρ', Ex G G' → Sim K pa F G' σ' H' ρ' → (∀ vs : List Nat, (∀ i ∈ ns, i ∈ vs) → wipe σ' vs = wipe σ vs) → q ρ' → Q σ' H') → g vs σ H Q
theorem sgs_nil : SGs K pa [] gNil dgNil := fun F G σ H ρ vs ds Q q S r h k => by
  obtain ⟨rfl, h⟩ := h
  cases r
  exact ⟨rfl, k G σ H ρ (Ex.refl G) S (fun _ _ => rfl) h⟩
theorem sgs_cons {n1 n2 : List Nat} {g : TG} {dg : DG} {gs : TGs} {dr : List D → Ro → (Ro → Prop) → Prop} (h1 : SG K pa n1 g dg) (h2 : SGs K pa n2 gs dr) : SGs K pa (n1 ++ n2) (gCons g gs) (dgCons dg dr) := fun F G σ H ρ vs ds Q q S r h k => by
  cases r with
  | nil => exact h.elim
  | cons r rr =>
    refine ⟨_, _, rfl, h1 F G σ H ρ _ (.val _) _ _ S r h fun G1 σ1 H1 ρ1 e1 S1 w1 q1 => h2 F G1 σ1 H1 ρ1 _ _ _ _ S1 (rr.mono e1) q1 fun G2 σ2 H2 ρ2 e2 S2 w2 q2 => k G2 σ2 H2 ρ2 (e1.trans e2) S2 (fun vs hv => ?_) q2⟩
    rw [w2 vs fun i hi => hv i (List.mem_append_right _ hi), w1 vs fun i hi => hv i (List.mem_append_left _ hi)]
theorem sg_tup {ns : List Nat} {gs : TGs} {n : Nat} {dr : List D → Ro → (Ro → Prop) → Prop} (h : SGs K pa ns gs dr) : SG K pa ns (gTup K n gs) (dgTup n dr) := fun F G σ H ρ v t Q q S r h0 k => by
  cases t with
  | bor j => exact h0.elim
  | val d =>
    have r : Rep K G v d := r
    cases r with
    | tup hs rr => exact ⟨_, _, rfl, ex_t S.ex hs, by rw [rr.length]; exact h0.1, h F G σ H ρ _ _ _ _ S rr h0.2 k⟩
    | _ => exact h0.elim
theorem ss_asg {ns : List Nat} (he : SE K pa W te de) (hg : SG K pa ns g dg) : SS K pa W (tAsg te g) (dAsg de dg) := fun F G σ H ρ D DD S h l =>
  he F G σ H ρ _ _ _ S h (fun G' H' v t ρ' e S' r q => hg F G' σ H' ρ' v t _ _ S' r q fun G2 σ2 H2 ρ2 e2 S2 _ q2 => l.nx G2 σ2 H2 ρ2 (e.trans e2) S2 q2) (l.xl σ)
theorem ss_own {df : DF} {i : Nat} (he : SF K pa W te df) : SS K pa W (tAsg te (gName i)) (dOwn df i) := fun F G σ H ρ D DD S h l =>
  he F G σ H ρ _ _ _ S h (fun G' H' p d ρ' e S' gp ow fr q => l.nx G' _ H' _ e (S'.storeOwn q.1.1 gp ow fr) q.2) (l.xl σ)
theorem Sim.frz {F G H : Hp} {σ : RSt} {ρ : Ro} {i : Nat} {d : D} (S : Sim K pa F G σ H ρ) (h : ρ[i]? = some (.own d)) : ∃ G', Ex G G' ∧ Sim K pa F G' σ H (ρ.set i (.val d)) := by
  obtain ⟨p, hσ, gp, ow⟩ := S.own i _ d h rfl
  obtain ⟨o, ho⟩ := ow.some
  have e2 : Ex G (upd G p o) := Ex.new gp
  have hi : i < ρ.length := (List.getElem?_eq_some_iff.mp h).1
  refine ⟨upd G p o, e2, ?_⟩
  have S2 : Sim K pa F (upd G p o) σ H (ρ.set i .no) := {
    len := by rw [List.length_set]; exact S.len
    ex := fun b u q => by
      by_cases hb : b = p
      · subst hb; rw [upd_same] at q; cases q; exact ho
      · rw [upd_ne hb] at q; exact S.ex b u q
    fx := S.fx
    dj := S.dj.gadd (S.ofr i _ d p h rfl hσ) (S.dj.ne ho (ow.code ho))
    ofr := fun j s e b hj hd hs => by
      by_cases z : i = j
      · subst z; rw [List.getElem?_set_self hi] at hj; cases hj; cases hd
      · rw [List.getElem?_set_ne z] at hj; exact S.ofr j s e b hj hd hs
    val := fun j e hj => by
      by_cases z : i = j
      · subst z; rw [List.getElem?_set_self hi] at hj; cases hj
      · rw [List.getElem?_set_ne z] at hj
        obtain ⟨v, h1, h2⟩ := S.val j e hj
        exact ⟨v, h1, h2.mono e2⟩
    own := fun j s e hj hd => by
      by_cases z : i = j
      · subst z; rw [List.getElem?_set_self hi] at hj; cases hj; cases hd
      · rw [List.getElem?_set_ne z] at hj
        obtain ⟨b, h1, h2, h3⟩ := S.own j s e hj hd
        exact ⟨b, h1, by rw [upd_ne (fun y => S.dis i j _ s d e p z h rfl hj hd hσ (by rw [h1, y]))]; exact h2, h3.mono e2 rfl⟩
    par := fun j e hj => by
      by_cases z : i = j
      · subst z; rw [List.getElem?_set_self hi] at hj; cases hj
      · rw [List.getElem?_set_ne z] at hj; exact S.par j e hj
    gx := S.gx.trans (Ex.new gp)
    dis := fun j k s t e f b hjk h1 h2 h3 h4 h5 h6 => by
      have nj : i ≠ j := fun z => by subst z; rw [List.getElem?_set_self hi] at h1; cases h1; cases h2
      have nk : i ≠ k := fun z => by subst z; rw [List.getElem?_set_self hi] at h3; cases h3; cases h4
      rw [List.getElem?_set_ne nj] at h1
      rw [List.getElem?_set_ne nk] at h3
      exact S.dis j k s t e f b hjk h1 h2 h3 h4 h5 h6 }
  have r : Rep K (upd G p o) (.ref p) d := by
    cases d with
    | lst ds => obtain ⟨vs, h1, h2⟩ := ow; rw [ho] at h1; cases h1; exact Rep.lst (SqL.of upd_same) (h2.mono e2)
    | dct ds => obtain ⟨vs, h1, h2⟩ := ow; rw [ho] at h1; cases h1; exact Rep.dct upd_same (h2.mono e2)
    | ins C ds => obtain ⟨dx, vs, h1, h2⟩ := ow; rw [ho] at h1; cases h1; exact Rep.ins upd_same (h2.mono e2)
    | _ => exact ow.elim
  have S3 := S2.store (i := i) (v := .ref p) (d := d) (by unfold isPar; rw [List.getElem?_set_self hi]) r
  rw [List.set_set] at S3
  have es : σ.set i (some (.ref p)) = σ := by
    apply List.ext_getElem?
    intro j
    by_cases z : i = j
    · subst z; rw [hσ, List.getElem?_set_self (by rw [← S.len]; exact hi)]
    · rw [List.getElem?_set_ne z]
  rw [es] at S3
  exact S3
theorem ss_frz {i : Nat} (h1 : SS K pa W ts ds) : SS K pa W ts (dFrz i ds) := fun F G σ H ρ D DD S h l => by
  unfold dFrz at h
  cases e : ρ[i]? with
  | none => rw [e] at h; exact h.elim
  | some s =>
    rw [e] at h
    cases s with
    | own d =>
      obtain ⟨G', e', S'⟩ := S.frz e
      exact h1 F G' σ H _ D DD S' h (l.grow e')
    | _ => exact h.elim
end
end DL
set_option autoImplicit false
set_option Elab.async false
set_option linter.all false
set_option maxRecDepth 100000
namespace DL
open PySem L2 Evl

/-! ### operations on data -/
def D.add : D → D → Option D
  | .int i, .int j => some (.int (i + j))
  | .str x, .str y => if x.length + y.length ≤ sizeLine then some (.str (x ++ y)) else none
  | .lst xs, .lst ys => if xs.length + ys.length ≤ sizeLine then some (.lst (xs ++ ys)) else none
  | .tup xs, .tup ys => if xs.length + ys.length ≤ sizeLine then some (.tup (xs ++ ys)) else none
  | _, _ => none
def D.sub : D → D → Option D
  | .int i, .int j => some (.int (i - j))
  | _, _ => none
instance (i j : Int) : Decidable (CMul i j) := by unfold CMul; infer_instance
instance (i j : Int) : Decidable (CMulW i j) := by unfold CMulW; infer_instance
instance (i j : Int) : Decidable (CDivW i j) := by unfold CDivW; infer_instance
instance (i j : Int) : Decidable (CPow i j) := by unfold CPow; infer_instance
def D.mul : D → D → Option D
  | .int i, .int j => if CMul i j ∨ CMulW i j then some (.int (i * j)) else none
  | .lst xs, .int k => if 0 ≤ k ∧ k < 2 ^ 63 ∧ xs.length * k.toNat ≤ sizeLine then some (.lst (List.replicate k.toNat xs).flatten) else none
  | _, _ => none
def D.mod : D → D → Option D
  | .int i, .int j => if 0 < j then some (.int (i % j)) else none
  | _, _ => none
def D.fdiv : D → D → Option D
  | .int i, .int j => if CDivW i j then some (.int (i / j)) else none
  | _, _ => none
def D.pow : D → D → Option D
  | .int i, .int j => if CPow i j then some (.int (i ^ j.toNat)) else none
  | _, _ => none
def D.neg : D → Option D
  | .int i => some (.int (-i))
  | _ => none
def D.cmp (p : Int → Int → Bool) : D → D → Option D
  | .int i, .int j => some (.bl (p i j))
  | _, _ => none
abbrev D.lt := D.cmp fun i j => decide (i < j)
abbrev D.le := D.cmp fun i j => decide (i ≤ j)
abbrev D.gt := D.cmp fun i j => decide (j < i)
abbrev D.ge := D.cmp fun i j => decide (j ≤ i)
def D.isN : D → D → Option D
  | .non, .non => some (.bl true)
  | _, .non => some (.bl false)
  | _, _ => none
def D.isNotN : D → D → Option D
  | .non, .non => some (.bl false)
  | _, .non => some (.bl true)
  | _, _ => none
def D.ix : D → D → Option D
  | .lst xs, .int i => atI xs i
  | .tup xs, .int i => atI xs i
  | .str z, .int i => if z.length ≤ sizeLine then (atI z.cps.toList i).map fun c => .str ⟨#[c]⟩ else none
  | _, _ => none
def D.len : List D → Option D
  | [.str z] => if z.length ≤ sizeLine then some (.int z.length) else none
  | [.byt z] => if z.size ≤ sizeLine then some (.int z.size) else none
  | [.lst xs] => some (.int xs.length)
  | [.tup xs] => some (.int xs.length)
  | _ => none
def D.toInt : List D → Option D
  | [.int i] => some (.int i)
  | [.bl b] => some (.int (if b then 1 else 0))
  | _ => none
def D.toStr : List D → Option D
  | [.int i] => if i.natAbs.log2 < 1920 then some (.str (toString i)) else none
  | _ => none
def D.toTuple : List D → Option D
  | [.lst xs] => some (.tup xs)
  | [.tup xs] => some (.tup xs)
  | _ => none

section
variable {K : PySem.W.Frag} {X : Cx}
theorem SR.or {r r' : R2} {f g h : D → D → Option D} (h1 : SR K r f) (h2 : SR K r' g) (e : ∀ a b z, h a b = some z → f a b = some z ∨ g a b = some z) : SR K (fun x y H Q => r x y H Q ∨ r' x y H Q) h := fun G H x y dx dy z Q eg rx ry q k => by
  rcases e dx dy z q with q | q
  · exact .inl (h1 G H x y dx dy z Q eg rx ry q k)
  · exact .inr (h2 G H x y dx dy z Q eg rx ry q k)
def rCatL (K : PySem.W.Frag) : R2 := fun x y H Q => ∃ l b xs zs, x = .ref l ∧ y = .ref b ∧ SqL K H l xs ∧ SqL K H b zs ∧ xs.length + zs.length ≤ sizeLine ∧ ∀ p, H p = none → Q (.ref p) (upd H p (.lst (xs ++ zs)))
theorem op_catL : OpR X (binaryOp .Add) (rCatL X.K) := by
  rintro pins s σ H x y v u Q I rx ry ⟨l, b, xs, zs, rfl, rfl, hx, hz, hl, q⟩
  cases rx; cases ry
  obtain ⟨us, r1, ⟨⟨c1, d1, t1, s1⟩, n1, g1, p1, p2, p3⟩, z1⟩ := I.list hx
  obtain ⟨ws, r2, ⟨⟨c2, d2, t2, s2⟩, n2, g2, q1, q2, q3⟩, z2⟩ := I.list hz
  simp only at p1 p2 p3 q1 q2 q3
  subst p1 p2 p3 q1 q2 q3
  have hs : us.toArray.size + ws.toArray.size ≤ sizeLine := by rw [List.size_toArray, List.size_toArray, ← r1.length, ← r2.length]; exact hl
  refine concat_meets ⟨_, g1, rfl⟩ ⟨_, g2, rfl⟩ noFill_list_add seq_list_add PySem.F.slot_list_add PySem.F.entry_list_add (PySem.F.args_list_add_2 _ _) (PyProof.Rows.list_addW l b us.toArray ws.toArray n1 n2 none none s1 s2 hs) ⟨g1, g2, ?_⟩
  have ea : us.toArray ++ ws.toArray = (us ++ ws).toArray := by simp
  rw [ea]
  exact ⟨.ref _, _, I.lnew (t' := s.toks) (r1.append r2) (by rw [List.length_append]; omega), rfl, q _ I.fresh⟩
def rAddI : R2 := rI0 fun i j => .int (i + j)
def rAddS : R2 := fun x y H Q => ∃ i j, x = .str i ∧ y = .str j ∧ i.length + j.length ≤ sizeLine ∧ Q (.str (i ++ j)) H
def rAdd (K : PySem.W.Frag) : R2 := fun x y H Q => rAddI x y H Q ∨ rAddS x y H Q ∨ rCatL K x y H Q ∨ rCatA K x y H Q
theorem op_addX : OpR X (binaryOp .Add) (rAdd X.K) := OpR.or (r := rAddI) op_add (OpR.or (r := rAddS) op_add_str (OpR.or (r := rCatL X.K) op_catL op_catA))
theorem sr_add : SR K (rAdd K) D.add := fun G H x y dx dy z Q e rx ry q k => by
  unfold D.add at q
  split at q
  · cases q; rw [rx.int, ry.int]; exact .inl ⟨_, _, rfl, rfl, k G H _ (Al.refl e) (.int _)⟩
  · split at q
    · rename_i hl; cases q; rw [rx.str, ry.str]; exact .inr (.inl ⟨_, _, rfl, rfl, hl, k G H _ (Al.refl e) (.str _)⟩)
    · cases q
  · split at q
    · rename_i hl
      cases q
      obtain ⟨p, vs, rfl, h1, r1⟩ := rx.lstR e
      obtain ⟨p2, vs2, rfl, h2, r2⟩ := ry.lstR e
      refine .inr (.inr (.inl ⟨p, p2, vs, vs2, rfl, rfl, h1, h2, by rw [r1.length, r2.length]; exact hl, fun b hb => ?_⟩))
      have a := Al.one (G := G) (p := b) (o := .lst (vs ++ vs2)) e hb
      exact k _ _ _ a (.lst (SqL.of upd_same) ((r1.append r2).mono a.g))
    · cases q
  · split at q
    · rename_i xs ys hl
      cases q
      have gx := rx.tupR
      have gy := ry.tupR
      obtain ⟨p, vs, rfl, h1, r1⟩ := rx.tup e
      obtain ⟨p2, vs2, rfl, h2, r2⟩ := ry.tup e
      refine .inr (.inr (.inr ⟨p, p2, vs, vs2, rfl, rfl, h1, h2, by rw [r1.length, r2.length]; exact hl, fun z => ?_, fun _ z => ?_, fun _ _ b hb => ?_⟩))
      · subst z
        cases r1
        exact k G H _ (Al.refl e) gy
      · subst z
        cases r2
        rw [List.append_nil] at k
        exact k G H _ (Al.refl e) gx
      · have a := Al.one (G := G) (p := b) (o := .tup (vs ++ vs2)) e hb
        exact k _ _ _ a (.tup (SqT.of upd_same) ((r1.append r2).mono a.g))
    · cases q
  · cases q
def rSubI : R2 := rI0 fun i j => .int (i - j)
theorem op_subX : OpR X (binaryOp .Sub) rSubI := op_sub
theorem sr_sub : SR K rSubI D.sub := fun G H x y dx dy z Q e rx ry q k => by
  unfold D.sub at q
  split at q
  · cases q; rw [rx.int, ry.int]; exact ⟨_, _, rfl, rfl, k G H _ (Al.refl e) (.int _)⟩
  · cases q
def rRepL (K : PySem.W.Frag) : R2 := fun x y H Q => ∃ l k xs, x = .ref l ∧ y = .int k ∧ SqL K H l xs ∧ -(2 ^ 63) ≤ k ∧ k < 2 ^ 63 ∧ xs.length * k.toNat ≤ sizeLine ∧
  ∀ p, H p = none → Q (.ref p) (upd H p (.lst (List.replicate k.toNat xs).flatten))
open PySem.Spec PyProof.Rows PySem in
theorem op_repL : OpR X (binaryOp .Mult) (rRepL X.K) := by
  rintro pins s σ H x y v u Q I rx ry ⟨l, k, xs, rfl, rfl, hx, h1, h2, hz, q⟩
  obtain ⟨t, rfl⟩ := ry
  cases rx
  obtain ⟨us, r1, ⟨⟨c1, d1, t1, s1⟩, n1, g1, p1, p2, p3⟩, z1⟩ := I.list hx
  simp only at p1 p2 p3
  subst p1 p2 p3
  have tl : s.TypeIs (.ref l) "list" := ⟨_, g1, rfl⟩
  have hs : us.toArray.size * k.toNat ≤ sizeLine := by rw [List.size_toArray, ← r1.length]; exact hz
  have cap : ¬ us.toArray.size * k.toNat > (2 ^ 63 - 1) / 8 := by have : (sizeLine : Nat) ≤ (2 ^ 63 - 1) / 8 := by decide
                                                                  omega
  have fit : ¬ (!Builtin.List.listFitsIndex k) = true := by rw [fitsIndex_both h1 h2]; exact Bool.false_ne_true
  have lng : ¬ Builtin.List.listTooLong (us.toArray.size * k.toNat) = true := by rw [notLongL hs]; exact Bool.false_ne_true
  refine wpAny_binaryOp_repeat_ref (T := "list") (U := "int") (by decide) tl (fun s1 => typeIs_int s1 k t) noFill_list_mul F.fills_int_mul F.slot_int_rmul repeat_list F.slot_int_index.lookup (call_meets F.slot_int_rmul (typeIs_int s k t) F.entry_int_rmul (F.args_int_rmul_2 _ _) (lm_int_rmul_list_any k t l us.toArray n1 none s1) ⟨g1, rfl, tl, call_meets F.slot_list_mul tl F.entry_list_mul (F.args_list_mul_2 _ _) (lm_list_mul_any l us.toArray n1 none s1 k t fit cap lng) ⟨g1, ?_⟩⟩)
  rw [listMul_foldl_if]
  exact ⟨.ref _, _, I.lnew (t' := s.toks) (r1.rep k.toNat) (by rw [PyProof.Rows.lm_len_rep_flat, Nat.mul_comm]; exact hz), rfl, q _ I.fresh⟩
def rMulI : R2 := rI CMul fun i j => .int (i * j)
def rMulW : R2 := rI CMulW fun i j => .int (i * j)
def rMul (K : PySem.W.Frag) : R2 := fun x y H Q => rMulI x y H Q ∨ rMulW x y H Q ∨ rRepL K x y H Q
theorem op_mulX : OpR X (binaryOp .Mult) (rMul X.K) := OpR.or (r := rMulI) op_mul (OpR.or (r := rMulW) op_mulW op_repL)
theorem sr_mul : SR K (rMul K) D.mul := fun G H x y dx dy z Q e rx ry q k => by
  unfold D.mul at q
  split at q
  · split at q
    · rename_i hc
      cases q
      rw [rx.int, ry.int]
      rcases hc with hc | hc
      · exact .inl ⟨_, _, rfl, rfl, hc, k G H _ (Al.refl e) (.int _)⟩
      · exact .inr (.inl ⟨_, _, rfl, rfl, hc, k G H _ (Al.refl e) (.int _)⟩)
    · cases q
  · split at q
    · rename_i hc
      cases q
      obtain ⟨p, vs, rfl, h1, r1⟩ := rx.lstR e
      rw [ry.int]
      refine .inr (.inr ⟨p, _, vs, rfl, rfl, h1, Int.le_trans (by decide) hc.1, hc.2.1, by rw [r1.length]; exact hc.2.2, fun b hb => ?_⟩)
      exact k _ _ _ (Al.one (G := G) (p := b) e hb) (.lst (SqL.of upd_same) ((r1.rep _).mono (Al.one (G := G) (p := b) e hb).g))
    · cases q
  · cases q
def rModI : R2 := rI (fun _ j => 0 < j) fun i j => .int (i % j)
theorem op_modX : OpR X (binaryOp .Mod) rModI := op_mod
theorem sr_mod : SR K rModI D.mod := fun G H x y dx dy z Q e rx ry q k => by
  unfold D.mod at q
  split at q
  · split at q
    · rename_i hc; cases q; rw [rx.int, ry.int]; exact ⟨_, _, rfl, rfl, hc, k G H _ (Al.refl e) (.int _)⟩
    · cases q
  · cases q
def rDivI : R2 := rI CDivW fun i j => .int (i / j)
theorem op_divX : OpR X (binaryOp .FloorDiv) rDivI := op_fdivW
theorem sr_fdiv : SR K rDivI D.fdiv := fun G H x y dx dy z Q e rx ry q k => by
  unfold D.fdiv at q
  split at q
  · split at q
    · rename_i hc; cases q; rw [rx.int, ry.int]; exact ⟨_, _, rfl, rfl, hc, k G H _ (Al.refl e) (.int _)⟩
    · cases q
  · cases q
def rPowI : R2 := rI CPow fun i j => .int (i ^ j.toNat)
theorem op_powX : OpR X (binaryOp .Pow) rPowI := op_pow
theorem sr_pow : SR K rPowI D.pow := fun G H x y dx dy z Q e rx ry q k => by
  unfold D.pow at q
  split at q
  · split at q
    · rename_i hc; cases q; rw [rx.int, ry.int]; exact ⟨_, _, rfl, rfl, hc, k G H _ (Al.refl e) (.int _)⟩
    · cases q
  · cases q
def rCmpI (p : Int → Int → Bool) : R2 := rI0 fun i j => .bl (p i j)
theorem sr_cmp {p : Int → Int → Bool} : SR K (rCmpI p) (D.cmp p) := fun G H x y dx dy z Q e rx ry q k => by
  unfold D.cmp at q
  split at q
  · cases q; rw [rx.int, ry.int]; exact ⟨_, _, rfl, rfl, k G H _ (Al.refl e) (.bl _)⟩
  · cases q
abbrev rLtI := rCmpI fun i j => decide (i < j)
abbrev rLeI := rCmpI fun i j => decide (i ≤ j)
abbrev rGtI := rCmpI fun i j => decide (j < i)
abbrev rGeI := rCmpI fun i j => decide (j ≤ i)
theorem op_ltX : OpR X (compareOp .Lt) rLtI := op_lt
theorem op_leX : OpR X (compareOp .LtE) rLeI := op_le
theorem op_gtX : OpR X (compareOp .Gt) rGtI := op_gt
theorem op_geX : OpR X (compareOp .GtE) rGeI := op_ge
def rNegI : V → Hp → VK → Prop := rU fun i => .int (-i)
theorem un_negX : UnR X (unaryOp .USub) rNegI := un_neg
theorem su_neg : SU K rNegI D.neg := fun G H x dx z Q e rx q k => by
  unfold D.neg at q
  split at q
  · cases q; rw [rx.int]; exact ⟨_, rfl, k G H _ (Al.refl e) (.int _)⟩
  · cases q
def rIsNX : R2 := fun x y H Q => y = .non ∧ Q (.bl (decide (x = .non))) H
def rNotNX : R2 := fun x y H Q => y = .non ∧ Q (.bl (!decide (x = .non))) H
theorem op_isNX : OpR X (compareOp .Is) rIsNX := op_isN
theorem op_notNX : OpR X (compareOp .IsNot) rNotNX := op_notN
theorem isN_of {G H : Hp} {x : V} {d : D} (r : RepT K G H x d) : decide (x = .non) = (match d with | .non => true | _ => false) := by
  rcases r with r | ⟨p, rfl, _, r⟩
  · cases r <;> rfl
  · cases d <;> first | exact r.elim | rfl
theorem sr_isN : SR K rIsNX D.isN := fun G H x y dx dy z Q e rx ry q k => by
  have h := isN_of rx
  unfold D.isN at q
  split at q
  · cases q; rw [ry.non]; exact ⟨rfl, by rw [h]; exact k G H _ (Al.refl e) (.bl _)⟩
  · cases q
    rw [ry.non]
    refine ⟨rfl, ?_⟩
    have h2 : decide (x = .non) = false := by
      rw [h]
      cases dx <;> first | rfl | (rename_i hn; exact absurd rfl hn) | (rename_i hn; exact (hn rfl).elim)
    rw [h2]
    exact k G H _ (Al.refl e) (.bl _)
  · cases q
theorem sr_notN : SR K rNotNX D.isNotN := fun G H x y dx dy z Q e rx ry q k => by
  have h := isN_of rx
  unfold D.isNotN at q
  split at q
  · cases q; rw [ry.non]; exact ⟨rfl, by rw [h]; exact k G H _ (Al.refl e) (.bl _)⟩
  · cases q
    rw [ry.non]
    refine ⟨rfl, ?_⟩
    have h2 : decide (x = .non) = false := by
      rw [h]
      cases dx <;> first | rfl | (rename_i hn; exact absurd rfl hn) | (rename_i hn; exact (hn rfl).elim)
    rw [h2]
    exact k G H _ (Al.refl e) (.bl _)
  · cases q
/-! ### o[i] -/
theorem atI_rep {G : Hp} {vs : List V} {ds : List D} {i : Int} {d : D} (r : Reps K G vs ds) (h : atI ds i = some d) : ∃ v, atI vs i = some v ∧ Rep K G v d := by
  unfold atI at h ⊢
  rw [r.length]
  cases q : ixN ds.length i with
  | none => rw [q] at h; cases h
  | some j =>
    rw [q] at h
    exact r.get (i := j) h
theorem sr_ix : SR K (rIx K) D.ix := fun G H x y dx dy z Q e rx ry q k => by
  unfold D.ix at q
  split at q
  · obtain ⟨p, vs, rfl, h1, r1⟩ := rx.lst e
    rw [ry.int]
    obtain ⟨v, hv, rv⟩ := atI_rep r1 q
    exact .inl ⟨p, vs, _, v, rfl, rfl, h1, hv, k G H _ (Al.refl e) rv⟩
  · obtain ⟨p, vs, rfl, h1, r1⟩ := rx.tup e
    rw [ry.int]
    obtain ⟨v, hv, rv⟩ := atI_rep r1 q
    exact .inr (.inl ⟨p, vs, _, v, rfl, rfl, h1, hv, k G H _ (Al.refl e) rv⟩)
  · split at q
    · rename_i zz i hl
      rw [rx.str, ry.int]
      cases q2 : atI zz.cps.toList i with
      | none => rw [q2] at q; cases q
      | some c =>
        rw [q2] at q
        cases q
        exact .inr (.inr ⟨_, _, c, rfl, rfl, hl, q2, k G H _ (Al.refl e) (.str _)⟩)
    · cases q
  · cases q
/-! ### built-ins -/
theorem RepTs.one {G H : Hp} {xs : List V} {d : D} (h : RepTs K G H xs [d]) : ∃ x, xs = [x] ∧ RepT K G H x d := by
  cases h with
  | cons r t => cases t; exact ⟨_, rfl, r⟩
theorem RepTs.two {G H : Hp} {xs : List V} {d d2 : D} (h : RepTs K G H xs [d, d2]) : ∃ x y, xs = [x, y] ∧ RepT K G H x d ∧ RepT K G H y d2 := by
  cases h with
  | cons r t => cases t with | cons r2 t => cases t; exact ⟨_, _, rfl, r, r2⟩
def rLenX (K : PySem.W.Frag) : List V → Hp → VK → Prop := fun xs H Q => ∃ x n, xs = [x] ∧ LenV K x H n ∧ Q (.int n) H
theorem call_lenX : CallR X (.builtin "len") (rLenX X.K) := call_len
theorem sc_len : SC K (rLenX K) D.len := fun G H xs ds z Q e rx q k => by
  unfold D.len at q
  split at q
  · split at q
    · rename_i hl
      cases q
      obtain ⟨x, rfl, r⟩ := rx.one
      rw [r.str]
      exact ⟨_, _, rfl, ⟨hl, rfl⟩, k G H _ (Al.refl e) (.int _)⟩
    · cases q
  · split at q
    · rename_i hl
      cases q
      obtain ⟨x, rfl, r⟩ := rx.one
      rw [r.byt]
      exact ⟨_, _, rfl, ⟨hl, rfl⟩, k G H _ (Al.refl e) (.int _)⟩
    · cases q
  · cases q
    obtain ⟨x, rfl, r⟩ := rx.one
    obtain ⟨p, vs, rfl, h1, r1⟩ := r.lst e
    exact ⟨_, _, rfl, .inl ⟨vs, h1, rfl⟩, by rw [r1.length]; exact k G H _ (Al.refl e) (.int _)⟩
  · cases q
    obtain ⟨x, rfl, r⟩ := rx.one
    obtain ⟨p, vs, rfl, h1, r1⟩ := r.tup e
    exact ⟨_, _, rfl, .inr ⟨vs, h1, rfl⟩, by rw [r1.length]; exact k G H _ (Al.refl e) (.int _)⟩
  · cases q
def rIntX : List V → Hp → VK → Prop := fun xs H Q => (∃ i, xs = [.int i] ∧ Q (.int i) H) ∨ ∃ k, xs = [.bl k] ∧ Q (.int (if k then 1 else 0)) H
theorem call_intX : CallR X (.type "int") rIntX := call_int1
theorem sc_int : SC K rIntX D.toInt := fun G H xs ds z Q e rx q k => by
  unfold D.toInt at q
  split at q
  · cases q
    obtain ⟨x, rfl, r⟩ := rx.one
    rw [r.int]
    exact .inl ⟨_, rfl, k G H _ (Al.refl e) (.int _)⟩
  · cases q
    obtain ⟨x, rfl, r⟩ := rx.one
    rw [r.bl]
    exact .inr ⟨_, rfl, k G H _ (Al.refl e) (.int _)⟩
  · cases q
def rStrX : List V → Hp → VK → Prop := fun xs H Q => ∃ i, xs = [.int i] ∧ i.natAbs.log2 < 1920 ∧ Q (.str (toString i)) H
theorem call_strX : CallR X (.type "str") rStrX := call_str_int
theorem sc_str : SC K rStrX D.toStr := fun G H xs ds z Q e rx q k => by
  unfold D.toStr at q
  split at q
  · split at q
    · rename_i hl
      cases q
      obtain ⟨x, rfl, r⟩ := rx.one
      rw [r.int]
      exact ⟨_, rfl, hl, k G H _ (Al.refl e) (.str _)⟩
    · cases q
  · cases q
def rTupX (K : PySem.W.Frag) : List V → Hp → VK → Prop := fun xs H Q => ∃ p ys, xs = [.ref p] ∧ ((SqL K H p ys ∧ ∀ l, H l = none → Q (.ref l) (upd H l (.tup ys))) ∨ (SqT K H p ys ∧ Q (.ref p) H))
theorem call_tupX : CallR X (.type "tuple") (rTupX X.K) := call_tuple_of
theorem sc_tuple : SC K (rTupX K) D.toTuple := fun G H xs ds z Q e rx q k => by
  unfold D.toTuple at q
  split at q
  · cases q
    obtain ⟨x, rfl, r⟩ := rx.one
    obtain ⟨p, vs, rfl, h1, r1⟩ := r.lst e
    refine ⟨p, vs, rfl, .inl ⟨h1, fun l hl => ?_⟩⟩
    have a := Al.one (G := G) (p := l) (o := .tup vs) e hl
    exact k _ _ _ a (.tup (SqT.of upd_same) (r1.mono a.g))
  · cases q
    obtain ⟨x, rfl, r⟩ := rx.one
    have g := r.tupR
    obtain ⟨p, vs, rfl, h1, r1⟩ := r.tup e
    exact ⟨p, vs, rfl, .inr ⟨h1, k G H _ (Al.refl e) g⟩⟩
  · cases q
/-- list(xs), list(t): new -/
def D.seq : D → Option (List D)
  | .lst xs => some xs
  | .tup xs => some xs
  | _ => none
def rListX (K : PySem.W.Frag) : List V → Hp → VK → Prop := fun xs H Q => ∃ p ys, xs = [.ref p] ∧ (SqL K H p ys ∨ SqT K H p ys) ∧ ∀ l, H l = none → Q (.ref l) (upd H l (.lst ys))
theorem call_listX : CallR X (.type "list") (rListX X.K) := call_list_of
def dList (da : DE) : DF := fun ρ q er => da ρ (fun t ρ1 => Opt (rd ρ1 t) fun d => Opt d.seq fun ds => q (.lst ds) ρ1) er
theorem RepT.seq {G H : Hp} {v : V} {d : D} {ds : List D} (e : Ex G H) (r : RepT K G H v d) (h : d.seq = some ds) : ∃ p vs, v = .ref p ∧ (SqL K H p vs ∨ SqT K H p vs) ∧ Reps K G vs ds := by
  cases d with
  | lst xs => cases h; obtain ⟨p, vs, h1, h2, h3⟩ := r.lst e; exact ⟨p, vs, h1, .inl h2, h3⟩
  | tup xs => cases h; obtain ⟨p, vs, h1, h2, h3⟩ := r.tup e; exact ⟨p, vs, h1, .inr h2, h3⟩
  | _ => cases h
theorem fresh_no {pa : PaG} {F G H : Hp} {σ : RSt} {ρ : Ro} {p : Addr} (S : Sim K pa F G σ H ρ) (hp : H p = none) : ∀ (i : Nat) (s : Sl) (d : D), ρ[i]? = some s → s.ownD = some d → σ[i]? ≠ some (some (.ref p)) := fun i s d hs hd hσ => by
  obtain ⟨b, hb, _, ow⟩ := S.own i s d hs hd
  rw [hσ] at hb
  cases hb
  obtain ⟨o, ho⟩ := ow.some
  rw [hp] at ho
  cases ho
theorem sf_list {pa : PaG} {W : WX} {ta : TE} {da : DE} (ha : SE K pa W ta da) : SF K pa W (tCB (rListX K) (tCons ta tNil)) (dList da) := fun F G σ H ρ Q q er S h k x =>
  ha F G σ H ρ _ _ er S h (fun G1 H1 v t ρ1 e1 S1 r1 h1 => by
    obtain ⟨d, ed, ds, es, h2⟩ := h1
    obtain ⟨p, vs, rfl, hs, hr⟩ := RepT.seq S1.ex (S1.rdT r1 ed) es
    refine ⟨p, vs, rfl, hs, fun l hl => ?_⟩
    exact k G1 _ l (.lst ds) ρ1 e1 (S1.new hl) ⟨fresh_back S1.ex hl, fresh_back S1.fx hl⟩ ⟨vs, upd_same, hr⟩ (fresh_no S1 hl) h2) x
end
end DL
set_option autoImplicit false
set_option Elab.async false
set_option linter.all false
set_option maxRecDepth 100000
namespace DL
open PySem L2 Evl

/-! ### what is walked -/
def iAny (K : PySem.W.Frag) (te : TE) : TI := fun σ H R => te σ H fun x H1 =>
  (∃ a, x = .ref a ∧ (∃ xs, SqL K H1 a xs) ∧ R (Itl K a) H1) ∨ (∃ a, x = .ref a ∧ (∃ xs, SqT K H1 a xs) ∧ R (Itt K a) H1) ∨ ∃ y, x = .str y ∧ R (Its y) H1
section
variable {X : Cx} {tg : Expr}
open PySem.Spec PyProof.Rows in
theorem pi_any {l : Expr} {tl : TE} (hl : PE X l tl) : PI X tg l (iAny X.K tl) := by
  refine ⟨fun pins s σ H R I h => ?_⟩
  refine thn (hl.run pins s σ H _ I h) fun v s1 ⟨x, H1, I1, r1, q1⟩ => ?_
  rcases q1 with ⟨a, e, ⟨xs, hq⟩, q⟩ | ⟨a, e, ⟨xs, hq⟩, q⟩ | ⟨y, e, q⟩
  · subst e
    cases r1
    obtain ⟨its, rv, p, hz⟩ := I1.list hq
    refine wpAny_pyIter_list p.isList ?_
    refine ⟨s1.heap.objs.size, [s1.heap.objs.size], _, _, H1, rfl, I1.kept (t' := s1.toks) fun b o e => Heap.get?_push_of_some _ e, turn_list a _, ⟨_, Heap.get?_push_size _ rfl, rfl, rfl⟩, fun b hb => ?_, q⟩
    have e : b = s1.heap.objs.size := by simpa using hb
    subst e
    exact I1.fpOk (Nat.le_refl _) (I1.hok.fresh (Nat.le_refl _))
  · subst e
    cases r1
    obtain ⟨its, rv, p, hz⟩ := I1.tuple hq
    refine wpAny_pyIter_tuple (show s1.heap.IsTuple a its.toArray from p) ?_
    refine ⟨s1.heap.objs.size, [s1.heap.objs.size], _, _, H1, rfl, I1.kept (t' := s1.toks) fun b o e => Heap.get?_push_of_some _ e, turn_tuple a _, ⟨_, Heap.get?_push_size _ rfl, rfl, rfl⟩, fun b hb => ?_, q⟩
    have e : b = s1.heap.objs.size := by simpa using hb
    subst e
    exact I1.fpOk (Nat.le_refl _) (I1.hok.fresh (Nat.le_refl _))
  · subst e
    obtain ⟨t, rfl⟩ := r1
    cases ha : y.cps.all (· < 128)
    · exact wpAny_pyIter_wide ha (pi_one (tk := s1.toks) I1 _ (turn_str _ y t "str_iterator" (.inr rfl)) ⟨_, Heap.get?_push_size _ rfl, rfl, rfl⟩ q)
    · exact wpAny_pyIter_ascii ha (pi_one (tk := s1.toks) I1 _ (turn_str _ y t "str_ascii_iterator" (.inl rfl)) ⟨_, Heap.get?_push_size _ rfl, rfl, rfl⟩ q)
end
def D.items : D → Option (List D)
  | .lst xs => some xs
  | .tup xs => some xs
  | .str y => some (y.cps.toList.map fun c => .str ⟨#[c]⟩)
  | _ => none
/-- data alone is walked -/
def diAny (de : DE) : DI := fun ρ q er => de ρ (fun t ρ1 => match t with
  | .val d => Opt d.items fun ds => q ds ρ1
  | .bor _ => False) er
def diRng1 (de : DE) : DI := fun ρ q er => de ρ (fun t ρ1 => Opt (rd ρ1 t) fun d => match d with
  | .int j => (-(2 ^ 62) ≤ j ∧ j < 2 ^ 62) ∧ q ((List.range j.toNat).map fun (k : Nat) => .int (k : Int)) ρ1
  | _ => False) er
def diRng2 (da db : DE) : DI := fun ρ q er => da ρ (fun s ρ1 => db ρ1 (fun t ρ2 => Opt (rd ρ2 s) fun d => Opt (rd ρ2 t) fun e => match d, e with
  | .int i, .int j => (-(2 ^ 62) ≤ i ∧ i < 2 ^ 62 ∧ -(2 ^ 62) ≤ j ∧ j < 2 ^ 62) ∧ q ((List.range (j - i).toNat).map fun (k : Nat) => .int (i + (k : Int))) ρ2
  | _, _ => False) er) er
def enumD (ds : List D) : List D := ds.zipIdx.map fun p => .tup [.int (p.2 : Int), p.1]
def diEnum (de : DE) : DI := fun ρ q er => de ρ (fun t ρ1 => match t with
  | .val (.lst ds) => q (enumD ds) ρ1
  | _ => False) er
def diRev (de : DE) : DI := fun ρ q er => de ρ (fun t ρ1 => match t with
  | .val (.lst ds) => q ds.reverse ρ1
  | _ => False) er
section
variable {K : PySem.W.Frag} {pa : PaG} {W : WX} {te ta tb : TE} {de da db : DE}
theorem ItOk.mk0 {G : Hp} {J : It} {ds : List D} (h1 : ∀ i H, Ex G H → i < ds.length → J.go i H) (h2 : ∀ i H, Ex G H → ds.length ≤ i → J.stop i H)
    (h3 : ∀ i H x H', Ex G H → J.yld i H x H' → ∀ d, ds[i]? = some d → H' = H ∧ Rep K G x d) : ItOk K G J ds where
  go := h1
  stop := h2
  yld := fun i H x H' y G1 e1 e2 d hd => by
    obtain ⟨e, r⟩ := h3 i H x H' (e1.trans e2) y d hd
    subst e
    exact ⟨G1, Al.refl e2, r.mono e1⟩
theorem itOk_list {G : Hp} {a : Addr} {vs : List V} {ds : List D} (h : SqL K G a vs) (r : Reps K G vs ds) : ItOk K G (Itl K a) ds :=
  .mk0 (fun i H e hi => ⟨vs, vs[i]'(by rw [r.length]; exact hi), ex_l e h, by simp⟩) (fun i H e hi => ⟨vs, ex_l e h, by rw [r.length]; exact hi⟩)
    fun i H x H' e y d hd => by
      obtain ⟨e1, y⟩ := y
      obtain ⟨v, hv, rv⟩ := r.get hd
      have := y vs (ex_l e h)
      rw [hv] at this
      cases this
      exact ⟨e1, rv⟩
theorem itOk_tup {G : Hp} {a : Addr} {vs : List V} {ds : List D} (h : SqT K G a vs) (r : Reps K G vs ds) : ItOk K G (Itt K a) ds :=
  .mk0 (fun i H e hi => ⟨vs, vs[i]'(by rw [r.length]; exact hi), ex_t e h, by simp⟩) (fun i H e hi => ⟨vs, ex_t e h, by rw [r.length]; exact hi⟩)
    fun i H x H' e y d hd => by
      obtain ⟨e1, y⟩ := y
      obtain ⟨v, hv, rv⟩ := r.get hd
      have := y vs (ex_t e h)
      rw [hv] at this
      cases this
      exact ⟨e1, rv⟩
theorem itOk_str {G : Hp} (y : Str) : ItOk K G (Its y) (y.cps.toList.map fun c => .str ⟨#[c]⟩) :=
  .mk0 (fun i H e hi => by show i < y.cps.size; simpa using hi) (fun i H e hi => by show y.cps.size ≤ i; simpa using hi)
    fun i H x H' e h d hd => by
      obtain ⟨e1, c, hc, rfl⟩ := h
      rw [List.getElem?_map, Array.getElem?_toList, hc] at hd
      cases hd
      exact ⟨e1, .str _⟩
theorem itOk_rng {G : Hp} (lo : Int) (n : Nat) : ItOk K G (Itr lo n) ((List.range n).map fun (k : Nat) => .int (lo + (k : Int))) :=
  .mk0 (fun i H e hi => by show i < n; simpa using hi) (fun i H e hi => by show n ≤ i; simpa using hi)
    fun i H x H' e h d hd => by
      obtain ⟨e1, rfl⟩ := h
      rw [List.getElem?_map] at hd
      by_cases hi : i < n
      · rw [List.getElem?_range hi] at hd
        cases hd
        exact ⟨e1, .int _⟩
      · rw [List.getElem?_eq_none (by simpa using hi)] at hd
        cases hd
theorem enumD_get {ds : List D} {i : Nat} {d : D} (h : (enumD ds)[i]? = some d) : ∃ e, ds[i]? = some e ∧ d = .tup [.int (i : Int), e] := by
  unfold enumD at h
  rw [List.getElem?_map, List.getElem?_zipIdx] at h
  cases q : ds[i]? with
  | none => rw [q] at h; cases h
  | some e =>
    rw [q] at h
    simp at h
    exact ⟨e, rfl, h.symm⟩
theorem enumD_length (ds : List D) : (enumD ds).length = ds.length := by unfold enumD; simp
theorem itOk_enum {G : Hp} {a : Addr} {vs : List V} {ds : List D} (h : SqL K G a vs) (r : Reps K G vs ds) : ItOk K G (Ite K a) (enumD ds) where
  go := fun i H e hi => ⟨vs, vs[i]'(by rw [r.length, ← enumD_length]; exact hi), ex_l e h, by simp⟩
  stop := fun i H e hi => ⟨vs, ex_l e h, by rw [r.length, ← enumD_length]; exact hi⟩
  yld := fun i H x H' y G1 e1 e2 d hd => by
    obtain ⟨T, z, rfl, hT, rfl, hz⟩ := y
    obtain ⟨e, he, rfl⟩ := enumD_get hd
    obtain ⟨v, hv, rv⟩ := r.get he
    have := hz vs (ex_l (e1.trans e2) h)
    rw [hv] at this
    obtain rfl : v = z := Option.some.inj this
    have a := Al.one (G := G1) (p := T) (o := .tup [.int (i : Int), v]) e2 hT
    exact ⟨_, a, .tup (SqT.of upd_same) (.cons (.int _) (.cons ((rv.mono e1).mono a.g) .nil))⟩
theorem itOk_rev {G : Hp} {a : Addr} {vs : List V} {ds : List D} (h : SqL K G a vs) (r : Reps K G vs ds) : ItOk K G (Itv K a vs.length) ds.reverse :=
  .mk0 (fun i H e hi => by
      have hi : i < vs.length := by rw [r.length]; simpa using hi
      exact ⟨hi, vs, vs[vs.length - 1 - i]'(by omega), ex_l e h, by simp [show vs.length - 1 - i < vs.length by omega]⟩)
    (fun i H e hi => by show vs.length ≤ i; rw [r.length]; simpa using hi)
    fun i H x H' e y d hd => by
      obtain ⟨e1, y⟩ := y
      have hi : i < ds.length := by
        have := (List.getElem?_eq_some_iff.mp hd).1
        simpa using this
      rw [List.getElem?_reverse hi] at hd
      obtain ⟨v, hv, rv⟩ := r.get hd
      have := y vs (ex_l e h)
      rw [r.length, hv] at this
      cases this
      exact ⟨e1, rv⟩
theorem si_rev {pa : PaG} {W : WX} {te : TE} {de : DE} (he : SE K pa W te de) : SI K pa W (iRev K (tCons te tNil)) (diRev de) := fun F G σ H ρ R q er S h k x =>
  he F G σ H ρ _ _ er S h (fun G1 H1 v t ρ1 e1 S1 r1 h1 => by
    cases t with
    | bor i => exact h1.elim
    | val d =>
      have r1 : Rep K G1 v d := r1
      cases r1 with
      | lst hr rr => exact ⟨_, _, rfl, ex_l S1.ex hr, k G1 H1 _ _ ρ1 e1 S1 (itOk_rev hr rr) h1⟩
      | _ => exact h1.elim) x
theorem si_any (he : SE K pa W te de) : SI K pa W (iAny K te) (diAny de) := fun F G σ H ρ R q er S h k x =>
  he F G σ H ρ _ _ er S h (fun G1 H1 v t ρ1 e1 S1 r1 h1 => by
    cases t with
    | bor i => exact h1.elim
    | val d =>
      obtain ⟨ds, es, h2⟩ := h1
      have r1 : Rep K G1 v d := r1
      cases r1 with
      | lst hr rr => cases es; exact .inl ⟨_, rfl, ⟨_, ex_l S1.ex hr⟩, k G1 H1 _ ds ρ1 e1 S1 (itOk_list hr rr) h2⟩
      | tup hr rr => cases es; exact .inr (.inl ⟨_, rfl, ⟨_, ex_t S1.ex hr⟩, k G1 H1 _ ds ρ1 e1 S1 (itOk_tup hr rr) h2⟩)
      | str y => cases es; exact .inr (.inr ⟨y, rfl, k G1 H1 _ _ ρ1 e1 S1 (itOk_str y) h2⟩)
      | _ => cases es) x
theorem si_rng1 (he : SE K pa W te de) : SI K pa W (iRng1 (tCons te tNil)) (diRng1 de) := fun F G σ H ρ R q er S h k x =>
  he F G σ H ρ _ _ er S h (fun G1 H1 v t ρ1 e1 S1 r1 h1 => by
    obtain ⟨d, ed, h2⟩ := h1
    cases d with
    | int j =>
      rw [(S1.rdT r1 ed).int]
      have := itOk_rng (K := K) (G := G1) 0 j.toNat
      simp only [Int.zero_add] at this
      exact ⟨j, rfl, h2.1.1, h2.1.2, k G1 H1 _ _ ρ1 e1 S1 this h2.2⟩
    | _ => exact h2.elim) x
theorem si_rng2 (ha : SE K pa W ta da) (hb : SE K pa W tb db) : SI K pa W (iRng2 (tCons ta (tCons tb tNil))) (diRng2 da db) := fun F G σ H ρ R q er S h k x =>
  ha F G σ H ρ _ _ er S h (fun G1 H1 v s ρ1 e1 S1 r1 h1 => hb F G1 σ H1 ρ1 _ _ er S1 h1 (fun G2 H2 w t ρ2 e2 S2 r2 h2 => by
    obtain ⟨d, ed, e, ee, h3⟩ := h2
    cases d with
    | int i =>
      cases e with
      | int j =>
        rw [(S2.rdT (r1.mono e2) ed).int, (S2.rdT r2 ee).int]
        exact ⟨i, j, rfl, h3.1, k G2 H2 _ _ ρ2 (e1.trans e2) S2 (itOk_rng i _) h3.2⟩
      | _ => exact h3.elim
    | _ => exact h3.elim) (x.grow e1)) x
theorem si_enum (he : SE K pa W te de) : SI K pa W (iEnum K (tCons te tNil)) (diEnum de) := fun F G σ H ρ R q er S h k x =>
  he F G σ H ρ _ _ er S h (fun G1 H1 v t ρ1 e1 S1 r1 h1 => by
    cases t with
    | bor i => exact h1.elim
    | val d =>
      have r1 : Rep K G1 v d := r1
      cases r1 with
      | lst hr rr => exact ⟨_, _, rfl, ex_l S1.ex hr, k G1 H1 _ _ ρ1 e1 S1 (itOk_enum hr rr) h1⟩
      | _ => exact h1.elim) x
end

/-! ### for -/
def forL (g : DG) (db : DS) (DD : Do) : List D → Ro → Prop
  | [], ρ => DD.nx ρ
  | d :: ds, ρ => g (.val d) ρ fun ρ1 => db { DD with nx := forL g db DD ds, ct := forL g db DD ds, bk := DD.nx } ρ1
def dFor (di : DI) (g : DG) (db : DS) : DS := fun DD ρ => di ρ (fun ds ρ1 => forL g db DD ds ρ1) DD.er
section
variable {K : PySem.W.Frag} {pa : PaG} {W : WX} {wi : TI} {di : DI} {g : TG} {dg : DG} {tb : TS} {db : DS} {ns : List Nat}
theorem ss_for (hi : SI K pa W wi di) (hg : SG K pa ns g dg) (hb : SS K pa W tb db) : SS K pa W (tFor wi g tb) (dFor di dg db) := fun F G σ H ρ D DD S h l =>
  hi F G σ H ρ _ _ _ S h (fun G1 H1 J ds ρ1 e1 S1 ok h1 => by
    refine ⟨fun i m σ' H' => m = ds.length - i ∧ i ≤ ds.length ∧ ∃ G2 ρ2, Ex G1 G2 ∧ Sim K pa F G2 σ' H' ρ2 ∧ forL dg db DD (ds.drop i) ρ2, ⟨_, rfl, Nat.zero_le _, G1, ρ1, Ex.refl G1, S1, h1⟩, ?_⟩
    rintro i m σ' H' ⟨rfl, hi, G2, ρ2, e2, S2, h2⟩
    by_cases hlt : i < ds.length
    · rw [List.drop_eq_getElem_cons hlt] at h2
      refine .inr ⟨ok.go i H' (e2.trans S2.ex) hlt, fun σ' H' => ∃ G2 ρ2, Ex G1 G2 ∧ Sim K pa F G2 σ' H' ρ2 ∧ forL dg db DD (ds.drop (i + 1)) ρ2,
        fun σ3 H3 hN => ⟨ds.length - (i + 1), by omega, rfl, hlt, hN⟩, fun x H3 hy => ?_⟩
      obtain ⟨G3, a, r⟩ := ok.yld i H' x H3 hy G2 e2 S2.ex ds[i] (by simp [hlt])
      have S3 := S2.al a
      refine hg F G3 σ' H3 ρ2 x (.val ds[i]) _ _ S3 r h2 fun G4 σ4 H4 ρ4 e4 S4 _ h4 => ?_
      have eG : Ex G1 G4 := (e2.trans a.g).trans e4
      refine hb F G4 σ4 H4 ρ4 _ _ S4 h4 ⟨fun G5 σ5 H5 ρ5 e5 S5 h5 => ⟨G5, ρ5, eG.trans e5, S5, h5⟩, fun G5 σ5 H5 ρ5 e5 S5 h5 => l.nx G5 σ5 H5 ρ5 ((e1.trans eG).trans e5) S5 h5,
        fun G5 σ5 H5 ρ5 e5 S5 h5 => ⟨G5, ρ5, eG.trans e5, S5, h5⟩, fun G5 σ5 H5 ρ5 v t e5 => l.rt G5 σ5 H5 ρ5 v t ((e1.trans eG).trans e5), fun G5 σ5 H5 ρ5 v t e5 => l.rf G5 σ5 H5 ρ5 v t ((e1.trans eG).trans e5),
        fun G5 σ5 H5 ρ5 C y vs fs e5 => l.er G5 σ5 H5 ρ5 C y vs fs ((e1.trans eG).trans e5)⟩
    · have e : i = ds.length := by omega
      subst e
      rw [List.drop_length] at h2
      exact .inl ⟨ok.stop _ H' (e2.trans S2.ex) (Nat.le_refl _), l.nx G2 σ' H' ρ2 (e1.trans e2) S2 h2⟩) (l.xl σ)
end

/-! ### [e for x in xs if t] -/
def wipeD (ρ : Ro) : List Nat → Ro
  | [] => ρ
  | v :: vs => (wipeD ρ vs).set v .no
def lcL (g : DG) (t : DT) (de : DE) (vs : List Nat) (q : List D → Ro → Prop) : List D → List D → Ro → Prop
  | [], acc, ρ => q acc ρ
  | d :: ds, acc, ρ => g (.val d) (wipeD ρ vs) fun ρ1 => t ρ1 (fun b ρ2 => if b = true then de ρ2 (fun s ρ3 => match s with
      | .val y => acc.length < sizeLine ∧ lcL g t de vs q ds (acc ++ [y]) (wipeD ρ3 vs)
      | .bor _ => False) (fun _ _ _ => False) else lcL g t de vs q ds acc (wipeD ρ2 vs)) (fun _ _ _ => False)
def dLc (di : DI) (g : DG) (t : DT) (de : DE) (vs : List Nat) : DF := fun ρ q er => di ρ (fun ds ρ1 => lcL g t de vs (fun acc ρ2 => q (.lst acc) ρ2) ds [] ρ1) er
section
variable {K : PySem.W.Frag} {pa : PaG} {W : WX} {F G H : Hp} {σ : RSt} {ρ : Ro}
theorem wipeD_get (ρ : Ro) (j : Nat) : ∀ vs : List Nat, (wipeD ρ vs)[j]? = if j ∈ vs then (if j < ρ.length then some .no else none) else ρ[j]?
  | [] => by simp [wipeD]
  | v :: vs => by
    have ih := wipeD_get ρ j vs
    have hl : ∀ vs : List Nat, (wipeD ρ vs).length = ρ.length := by
      intro vs
      induction vs with
      | nil => rfl
      | cons a vs ih => unfold wipeD; rw [List.length_set, ih]
    unfold wipeD
    by_cases h : v = j
    · subst h
      rw [List.getElem?_set, if_pos rfl, hl, if_pos (List.mem_cons_self)]
    · rw [List.getElem?_set_ne h, ih]
      by_cases h2 : j ∈ vs
      · rw [if_pos h2, if_pos (List.mem_cons_of_mem _ h2)]
      · rw [if_neg h2, if_neg (fun z => by rcases List.mem_cons.mp z with z | z; exact h z.symm; exact h2 z)]
theorem wipeD_length (ρ : Ro) : ∀ vs : List Nat, (wipeD ρ vs).length = ρ.length
  | [] => rfl
  | v :: vs => by unfold wipeD; rw [List.length_set, wipeD_length ρ vs]
theorem wipeD_some {vs : List Nat} {j : Nat} {s : Sl} (h : (wipeD ρ vs)[j]? = some s) (hs : s ≠ .no) : j ∉ vs ∧ ρ[j]? = some s := by
  rw [wipeD_get] at h
  by_cases hj : j ∈ vs
  · rw [if_pos hj] at h
    split at h
    · cases h; exact absurd rfl hs
    · cases h
  · rw [if_neg hj] at h; exact ⟨hj, h⟩
/-- slots may be forgotten, on both sides -/
theorem Sim.wipeTo {σ' : RSt} {vs : List Nat} (S : Sim K pa F G σ H ρ) (h : wipe σ vs = wipe σ' vs) : Sim K pa F G σ' H (wipeD ρ vs) := by
  have hl : σ.length = σ'.length := by rw [← wipe_length σ vs, h, wipe_length]
  have get : ∀ j, j ∉ vs → σ[j]? = σ'[j]? := fun j hj => by
    have := congrArg (fun l => l[j]?) h
    simp only [wipe_get, if_neg hj] at this
    exact this
  have ne : ∀ {s : Sl} {d : D}, s.ownD = some d → s ≠ .no := fun {s d} e z => by subst z; cases e
  exact {
    len := by rw [wipeD_length, S.len, hl]
    ex := S.ex
    fx := S.fx
    dj := S.dj
    ofr := fun i s d p e hd hs => by
      obtain ⟨hi, e⟩ := wipeD_some e (ne hd)
      rw [← get i hi] at hs; exact S.ofr i s d p e hd hs
    val := fun i d e => by
      obtain ⟨hi, e⟩ := wipeD_some e (fun z => by cases z)
      rw [← get i hi]; exact S.val i d e
    own := fun i s d e hd => by
      obtain ⟨hi, e⟩ := wipeD_some e (ne hd)
      rw [← get i hi]; exact S.own i s d e hd
    par := fun i d e => by
      obtain ⟨hi, e⟩ := wipeD_some e (fun z => by cases z)
      rw [← get i hi]; exact S.par i d e
    gx := S.gx
    dis := fun i j s t d e p hij h1 h2 h3 h4 h5 h6 => by
      obtain ⟨hi, h1⟩ := wipeD_some h1 (ne h2)
      obtain ⟨hj, h3⟩ := wipeD_some h3 (ne h4)
      rw [← get i hi] at h5
      rw [← get j hj] at h6
      exact S.dis i j s t d e p hij h1 h2 h3 h4 h5 h6 }
/-- an object that stays as it is, for a while -/
theorem Sim.frameIn {D : Addr} {o : HO} (S : Sim K pa F G σ H ρ) (gD : G D = none) (hD : H D = some o) (nc : NoCode o) (fr : ∀ (i : Nat) (s : Sl) (d : DL.D), ρ[i]? = some s → s.ownD = some d → σ[i]? ≠ some (some (.ref D))) : Sim K pa (upd F D o) G σ H ρ where
  len := S.len
  ex := S.ex
  fx := fun b u q => by
    by_cases hb : b = D
    · subst hb; rw [upd_same] at q; cases q; exact hD
    · rw [upd_ne hb] at q; exact S.fx b u q
  dj := S.dj.fadd nc gD (S.dj.ne hD nc)
  val := S.val
  own := S.own
  ofr := fun i s d p h1 h2 h3 => by rw [upd_ne (fun z => fr i s d h1 h2 (by rw [h3, z]))]; exact S.ofr i s d p h1 h2 h3
  par := S.par
  gx := S.gx
  dis := S.dis
theorem xl_none {W : WX} {σ : RSt} : XL K pa F G W σ (fun _ _ _ => False) := fun _ _ _ _ _ _ _ _ _ h => h.elim
theorem sf_lc {wi : TI} {di : DI} {g : TG} {dg : DG} {tt : TT} {dt : DT} {te : TE} {de : DE} {vs ns : List Nat} (hn : ∀ i ∈ ns, i ∈ vs) (hi : SI K pa W wi di) (hg : SG K pa ns g dg) (ht : ST K pa W tt dt) (he : SE K pa W te de) : SF K pa W (tLc wi g tt te vs) (dLc di dg dt de vs) := fun F G σ H ρ Q q er S h k x =>
  hi F G σ H ρ _ _ _ S h (fun G1 H1 J ds ρ1 e1 S1 ok h1 => by
    intro D hD
    have fF : F D = none := fresh_back S1.fx hD
    have S1' : Sim K pa F G1 σ (upd H1 D (.lst [])) ρ1 := S1.new hD
    refine ⟨fun i m H' => m = ds.length - i ∧ i ≤ ds.length ∧ ∃ G2 ρ2 acc av, Ex G1 G2 ∧ Sim K pa F G2 σ H' ρ2 ∧ G2 D = none ∧ H' D = some (.lst av) ∧ Reps K G2 av acc ∧ (∀ (i : Nat) (s : Sl) (d : DL.D), ρ2[i]? = some s → s.ownD = some d → σ[i]? ≠ some (some (.ref D))) ∧ lcL dg dt de vs (fun acc ρ2 => q (.lst acc) ρ2) (ds.drop i) acc ρ2,
      ⟨_, rfl, Nat.zero_le _, G1, ρ1, [], [], Ex.refl G1, S1', fresh_back S1.ex hD, upd_same, .nil, fresh_no S1 hD, h1⟩, ?_⟩
    rintro i m H' ⟨rfl, hi, G2, ρ2, acc, av, e2, S2, gD, hHD, ra, fr, h2⟩
    by_cases hlt : i < ds.length
    · rw [List.drop_eq_getElem_cons hlt] at h2
      refine .inr ⟨ok.go i H' (e2.trans S2.ex) hlt, fun H' => ∃ G2 ρ2 acc av, Ex G1 G2 ∧ Sim K pa F G2 σ H' ρ2 ∧ G2 D = none ∧ H' D = some (.lst av) ∧ Reps K G2 av acc ∧ (∀ (i : Nat) (s : Sl) (d : DL.D), ρ2[i]? = some s → s.ownD = some d → σ[i]? ≠ some (some (.ref D))) ∧ lcL dg dt de vs (fun acc ρ2 => q (.lst acc) ρ2) (ds.drop (i + 1)) acc ρ2,
        fun H3 hN => ⟨ds.length - (i + 1), by omega, rfl, hlt, hN⟩, fun x H3 hy => ?_⟩
      obtain ⟨G3, a, r⟩ := ok.yld i H' x H3 hy G2 e2 S2.ex ds[i] (by simp [hlt])
      have hD3 : H3 D = some (.lst av) := a.h D _ hHD
      have S3 : Sim K pa (upd F D (.lst av)) G3 (wipe σ vs) H3 (wipeD ρ2 vs) := ((S2.al a).frameIn (a.n D gD (by rw [hHD]; simp)) hD3 noCode_lst fr).wipeTo wipe_wipe.symm
      refine hg _ G3 _ H3 _ x (.val ds[i]) _ _ S3 r h2 fun G4 σ4 H4 ρ4 e4 S4 w4 h4 => ?_
      have ws : wipe σ4 vs = wipe σ vs := by rw [w4 vs hn, wipe_wipe]
      refine ⟨ws, ht _ G4 σ4 H4 ρ4 _ _ _ S4 h4 (fun G5 H5 b ρ5 e5 S5 h5 => ?_) xl_none⟩
      have back : ∀ {G6 H6 : Hp} {ρ6 : Ro}, Sim K pa (upd F D (.lst av)) G6 σ4 H6 ρ6 → H6 D = some (.lst av) ∧ G6 D = none ∧ Sim K pa F G6 σ H6 (wipeD ρ6 vs) ∧ (∀ (i : Nat) (s : Sl) (d : DL.D), (wipeD ρ6 vs)[i]? = some s → s.ownD = some d → σ[i]? ≠ some (some (.ref D))) := fun {G6 H6 ρ6} S6 => by
        have S7 := S6.wipeTo (σ' := σ) ws
        refine ⟨S6.fx D _ upd_same, S6.dj D _ upd_same, S7.frame (Ex.new fF), fun i s d h1 h2 h3 => ?_⟩
        have := S7.ofr i s d D h1 h2 h3
        rw [upd_same] at this
        cases this
      cases b with
      | false =>
        obtain ⟨b1, b2, b3, b4⟩ := back S5
        exact ⟨G5, _, acc, av, ((e2.trans a.g).trans e4).trans e5, b3, b2, b1, ra.mono ((a.g.trans e4).trans e5), b4, h5⟩
      | true =>
        refine he _ G5 σ4 H5 ρ5 _ _ _ S5 h5 (fun G6 H6 y s ρ6 e6 S6 r6 h6 => ?_) xl_none
        obtain ⟨b1, b2, b3, b4⟩ := back S6
        cases s with
        | bor _ => exact h6.elim
        | val dy =>
          have ra6 := ra.mono (((a.g.trans e4).trans e5).trans e6)
          refine ⟨av, b1, by rw [ra.length]; exact h6.1, G6, _, acc ++ [dy], av ++ [y], (((e2.trans a.g).trans e4).trans e5).trans e6, ?_, b2, upd_same, ra6.append (.cons r6 .nil), b4, h6.2⟩
          refine b3.grow (Ex.refl G6) (fun b o q => ?_) (fun b o q => ?_) (b3.dj.mut b1 noCode_lst) fun i s d p h1 h2 h3 => ⟨?_, ?_⟩
          · rw [upd_ne (fun z => by rw [z, b2] at q; cases q)]; exact b3.ex b o q
          · rw [upd_ne (fun z => by rw [z, fF] at q; cases q)]; exact b3.fx b o q
          · obtain ⟨b', q1, q2, _⟩ := b3.own i s d h1 h2
            rw [h3] at q1
            cases q1
            exact q2
          · exact upd_ne fun z => b4 i s d h1 h2 (by rw [h3, z])
    · have e : i = ds.length := by omega
      subst e
      rw [List.drop_length] at h2
      exact .inl ⟨ok.stop _ H' (e2.trans S2.ex) (Nat.le_refl _), k G2 H' D (.lst acc) ρ2 (e1.trans e2) S2 ⟨gD, fF⟩ ⟨av, hHD, ra⟩ fr h2⟩) x
end
end DL
set_option autoImplicit false
set_option Elab.async false
set_option linter.all false
set_option maxRecDepth 100000
namespace DL
open PySem L2 Evl

/-! ### a def by what it does on data -/
/-- the arguments (plain data, or objects that the caller owns), what is wanted of the answer and of those objects behind it, what of an exception -/
abbrev DSp := List Sl → (D → List D → Prop) → (Addr → List (Str × D) → List D → Prop) → Prop
def outs (ρ : Ro) : List Nat → Option (List D)
  | [] => some []
  | i :: is => match ρ[i]? with
    | some (.par d) => (outs ρ is).map fun ds => d :: ds
    | _ => none
def parIx : List Sl → Nat → List Nat
  | [], _ => []
  | .par _ :: r, i => i :: parIx r (i + 1)
  | _ :: r, i => parIx r (i + 1)
/-- the objects that are handed over, behind the call -/
inductive Outs (K : PySem.W.Frag) (G H : Hp) : List V → List Sl → List D → Prop
  | nil : Outs K G H [] [] []
  | val {v : V} {d : D} {vs : List V} {av : List Sl} {os : List D} : Outs K G H vs av os → Outs K G H (v :: vs) (.val d :: av) os
  | par {p : Addr} {d e : D} {vs : List V} {av : List Sl} {os : List D} : G p = none → OwnAt K G H p e → Outs K G H vs av os → Outs K G H (.ref p :: vs) (.par d :: av) (e :: os)
inductive ArgsR (K : PySem.W.Frag) (F G H : Hp) : List V → List Sl → Prop
  | nil : ArgsR K F G H [] []
  | val {v : V} {d : D} {vs : List V} {av : List Sl} : Rep K G v d → ArgsR K F G H vs av → ArgsR K F G H (v :: vs) (.val d :: av)
  | par {p : Addr} {d : D} {vs : List V} {av : List Sl} : G p = none → F p = none → OwnAt K G H p d → ArgsR K F G H vs av → ArgsR K F G H (.ref p :: vs) (.par d :: av)
def parA : V → Sl → List Addr
  | .ref p, .par _ => [p]
  | _, _ => []
def parsOf : List V → List Sl → List Addr
  | v :: vs, a :: av => parA v a ++ parsOf vs av
  | _, _ => []
/-- a def that hands over plain data -/
def SpV (K : PySem.W.Frag) (n : Nat) (dsp : DSp) : Sp := fun vs H Q E => ∃ T F G av, vs.length = n ∧ Ex G H ∧ Ex F H ∧ DjT T F G H ∧ ArgsR K F G H vs av ∧ (parsOf vs av).Nodup ∧ ∃ q er, dsp av q er ∧
  (∀ G' H' v d os, Ex G G' → Ex G' H' → Ex F H' → DjT T F G' H' → Outs K G' H' vs av os → Rep K G' v d → q d os → Q v H') ∧
  (∀ G' H' C y fv fs os, Ex G G' → Ex G' H' → Ex F H' → DjT T F G' H' → Outs K G' H' vs av os → G' y = some (.xd fv) → RepF K G' fv fs → er C fs os → E (.ref C) (some y) H')
/-- .. a new object -/
def SpF (K : PySem.W.Frag) (n : Nat) (dsp : DSp) : Sp := fun vs H Q E => ∃ T F G av, vs.length = n ∧ Ex G H ∧ Ex F H ∧ DjT T F G H ∧ ArgsR K F G H vs av ∧ (parsOf vs av).Nodup ∧ ∃ q er, dsp av q er ∧
  (∀ G' H' p d os, Ex G G' → Ex G' H' → Ex F H' → DjT T F G' H' → Outs K G' H' vs av os → G' p = none → F p = none → p ∉ parsOf vs av → OwnAt K G' H' p d → q d os → Q (.ref p) H') ∧
  (∀ G' H' C y fv fs os, Ex G G' → Ex G' H' → Ex F H' → DjT T F G' H' → Outs K G' H' vs av os → G' y = some (.xd fv) → RepF K G' fv fs → er C fs os → E (.ref C) (some y) H')
/-- the body's word as a def's -/
def doV (av : List Sl) (q : D → List D → Prop) (er : Addr → List (Str × D) → List D → Prop) : Do where
  nx := fun ρ => Opt (outs ρ (parIx av 0)) fun os => q .non os
  rt := fun t ρ => match t with
    | .val d => Opt (outs ρ (parIx av 0)) fun os => q d os
    | .bor _ => False
  er := fun C fs ρ => Opt (outs ρ (parIx av 0)) fun os => er C fs os
def dBody (N : Nat) (body : DS) : DSp := fun av q er => body (doV av q er) (av ++ List.replicate (N - av.length) .no)
/-- .. that hands over a new object, or one of its own -/
def doF (av : List Sl) (q : D → List D → Prop) (er : Addr → List (Str × D) → List D → Prop) : Do where
  nx := fun _ => False
  rt := fun t ρ => match t with
    | .val _ => False
    | .bor i => match ρ[i]? with
      | some (.own d) => Opt (outs ρ (parIx av 0)) fun os => q d os
      | _ => False
  rf := fun d ρ => Opt (outs ρ (parIx av 0)) fun os => q d os
  er := fun C fs ρ => Opt (outs ρ (parIx av 0)) fun os => er C fs os
def dBodyF (N : Nat) (body : DS) : DSp := fun av q er => body (doF av q er) (av ++ List.replicate (N - av.length) .no)

section
variable {K : PySem.W.Frag} {F G H : Hp}
def paF (vs : List V) (i : Nat) : Addr := match vs[i]? with
  | some (.ref p) => p
  | _ => 0
def paOf (vs : List V) (T : List (Addr × Str) := []) : PaG := ⟨paF vs, fun _ => none, T⟩
theorem ArgsR.length : ∀ {vs : List V} {av : List Sl}, ArgsR K F G H vs av → vs.length = av.length
  | _, _, .nil => rfl
  | _, _, .val _ r => by rw [List.length_cons, List.length_cons, r.length]
  | _, _, .par _ _ _ r => by rw [List.length_cons, List.length_cons, r.length]
theorem ArgsR.get : ∀ {vs : List V} {av : List Sl} {i : Nat} {s : Sl}, ArgsR K F G H vs av → av[i]? = some s → ∃ v, vs[i]? = some v ∧ ((∃ d, s = .val d ∧ Rep K G v d) ∨ ∃ d p, s = .par d ∧ v = .ref p ∧ G p = none ∧ F p = none ∧ OwnAt K G H p d)
  | _, _, _, _, .nil, e => by simp at e
  | _, _, 0, _, .val h _, e => by simp at e; subst e; exact ⟨_, rfl, .inl ⟨_, rfl, h⟩⟩
  | _, _, 0, _, .par h1 h2 h3 _, e => by simp at e; subst e; exact ⟨_, rfl, .inr ⟨_, _, rfl, rfl, h1, h2, h3⟩⟩
  | _, _, i + 1, _, .val _ r, e => by
    obtain ⟨v, h1, h2⟩ := ArgsR.get (i := i) r (by simpa using e)
    exact ⟨v, by simpa using h1, h2⟩
  | _, _, i + 1, _, .par _ _ _ r, e => by
    obtain ⟨v, h1, h2⟩ := ArgsR.get (i := i) r (by simpa using e)
    exact ⟨v, by simpa using h1, h2⟩
theorem parsOf_mem : ∀ {vs : List V} {av : List Sl} {i : Nat} {d : D} {p : Addr}, av[i]? = some (.par d) → vs[i]? = some (.ref p) → p ∈ parsOf vs av
  | [], _, _, _, _, _, h => by simp at h
  | _ :: _, [], _, _, _, h, _ => by simp at h
  | v :: vs, a :: av, 0, d, p, h1, h2 => by
    simp at h1 h2
    subst h1 h2
    exact List.mem_append_left _ List.mem_cons_self
  | v :: vs, a :: av, i + 1, d, p, h1, h2 => List.mem_append_right _ (parsOf_mem (vs := vs) (av := av) (i := i) (d := d) (p := p) (by simpa using h1) (by simpa using h2))
theorem parsOf_dis : ∀ {vs : List V} {av : List Sl} {i j : Nat} {d e : D} {p : Addr}, (parsOf vs av).Nodup → i ≠ j → av[i]? = some (.par d) → av[j]? = some (.par e) → vs[i]? = some (.ref p) → vs[j]? = some (.ref p) → False
  | [], _, _, _, _, _, _, _, _, _, _, h, _ => by simp at h
  | _ :: _, [], _, _, _, _, _, _, _, h, _, _, _ => by simp at h
  | v :: vs, a :: av, 0, 0, d, e, p, hn, h, _, _, _, _ => h rfl
  | v :: vs, a :: av, 0, j + 1, d, e, p, hn, _, h1, h2, h3, h4 => by
    simp at h1 h3
    subst h1 h3
    have := parsOf_mem (vs := vs) (av := av) (i := j) (d := e) (p := p) (by simpa using h2) (by simpa using h4)
    have hn : ([p] ++ parsOf vs av).Nodup := hn
    exact (List.nodup_cons.mp hn).1 this
  | v :: vs, a :: av, i + 1, 0, d, e, p, hn, _, h1, h2, h3, h4 => by
    simp at h2 h4
    subst h2 h4
    have := parsOf_mem (vs := vs) (av := av) (i := i) (d := d) (p := p) (by simpa using h1) (by simpa using h3)
    have hn : ([p] ++ parsOf vs av).Nodup := hn
    exact (List.nodup_cons.mp hn).1 this
  | v :: vs, a :: av, i + 1, j + 1, d, e, p, hn, hij, h1, h2, h3, h4 => by
    have hn : (parA v a ++ parsOf vs av).Nodup := hn
    exact parsOf_dis (vs := vs) (av := av) (i := i) (j := j) (List.nodup_append.mp hn).2.1 (fun z => hij (by rw [z])) (by simpa using h1) (by simpa using h2) (by simpa using h3) (by simpa using h4)
theorem start_get {N : List Str} {vs : List V} {i : Nat} {v : V} (h : vs[i]? = some v) : (L2.start N vs)[i]? = some (some v) := by
  unfold L2.start
  have hi : i < vs.length := (List.getElem?_eq_some_iff.mp h).1
  rw [List.getElem?_append_left (by simpa using hi), List.getElem?_map, h]
  rfl
theorem args_get {av : List Sl} {n i : Nat} {s : Sl} (h : (av ++ List.replicate n .no)[i]? = some s) (hs : s ≠ .no) : av[i]? = some s := by
  by_cases hi : i < av.length
  · rw [List.getElem?_append_left hi] at h; exact h
  · rw [List.getElem?_append_right (by omega)] at h
    rw [List.getElem?_replicate] at h
    split at h
    · cases h; exact absurd rfl hs
    · cases h
theorem args_own {s : Sl} {d : D} (h : s.ownD = some d) (hn : ∀ e, s ≠ .own e) : s = .par d := by
  cases s with
  | par e => cases h; rfl
  | own e => exact absurd rfl (hn e)
  | val e => cases h
  | no => cases h
/-- where a def's body begins -/
theorem sim_start {T : List (Addr × Str)} {N : List Str} {vs : List V} {av : List Sl} (eg : Ex G H) (ef : Ex F H) (dj : DjT T F G H) (r : ArgsR K F G H vs av) (nd : (parsOf vs av).Nodup) (hN : vs.length ≤ N.length) :
    Sim K (paOf vs T) F G (L2.start N vs) H (av ++ List.replicate (N.length - av.length) .no) := by
  have own : ∀ (i : Nat) (s : Sl) (d : D), (av ++ List.replicate (N.length - av.length) .no)[i]? = some s → s.ownD = some d → av[i]? = some (.par d) ∧ ∃ p, vs[i]? = some (.ref p) ∧ G p = none ∧ F p = none ∧ OwnAt K G H p d := fun i s d h hd => by
    have h := args_get h (fun z => by subst z; cases hd)
    obtain ⟨v, hv, q⟩ := r.get h
    rcases q with ⟨d', rfl, _⟩ | ⟨d', p, rfl, rfl, h1, h2, h3⟩
    · cases hd
    · cases hd; exact ⟨h, p, hv, h1, h2, h3⟩
  refine ⟨?_, eg, ef, dj, fun i d h => ?_, fun i s d h hd => ?_, fun i s d p h hd hp => ?_, fun i d h => ?_, fun _ _ q => (by cases q), fun i j s t d e p hij h1 h2 h3 h4 h5 h6 => ?_⟩
  · unfold L2.start
    rw [List.length_append, List.length_append, List.length_map, List.length_replicate, List.length_replicate, r.length]
  · have h := args_get h (fun z => by cases z)
    obtain ⟨v, hv, q⟩ := r.get h
    rcases q with ⟨d', e, hr⟩ | ⟨d', p, e, _⟩
    · cases e; exact ⟨v, start_get hv, hr⟩
    · cases e
  · obtain ⟨_, p, h1, h2, h3, h4⟩ := own i s d h hd
    exact ⟨p, start_get h1, h2, h4⟩
  · obtain ⟨_, p', h1, h2, h3, h4⟩ := own i s d h hd
    have := start_get (N := N) h1
    rw [hp] at this
    cases this
    exact h3
  · obtain ⟨_, p', h1, h2, h3, h4⟩ := own i _ d h rfl
    rw [start_get h1, show (paOf vs T).f i = paF vs i from rfl]
    unfold paF
    rw [h1]
  · obtain ⟨a1, p1, b1, _⟩ := own i s d h1 h2
    obtain ⟨a2, p2, b2, _⟩ := own j t e h3 h4
    have c1 := start_get (N := N) b1
    have c2 := start_get (N := N) b2
    rw [h5] at c1
    rw [h6] at c2
    cases c1
    cases c2
    exact parsOf_dis nd hij a1 a2 b1 b2
/-- .. and where it ends -/
theorem outs_end {T : List (Addr × Str)} {G' H' : Hp} {σ' : RSt} {ρ' : Ro} {vs0 : List V} (S : Sim K (paOf vs0 T) F G' σ' H' ρ') : ∀ {vs : List V} {av : List Sl} {k : Nat} {os : List D}, ArgsR K F G H vs av → (∀ i v, vs[i]? = some v → vs0[i + k]? = some v) → outs ρ' (parIx av k) = some os → Outs K G' H' vs av os
  | _, _, _, _, .nil, _, e => by cases e; exact .nil
  | _, _, k, _, .val _ r, h0, e => .val (outs_end S (k := k + 1) r (fun i v h => by have := h0 (i + 1) v (by simpa using h); rw [Nat.add_assoc, Nat.add_comm 1 k] at this; exact this) e)
  | .ref p :: vs, .par d0 :: av, k, os, .par h1 h2 h3 r, h0, e => by
    unfold parIx outs at e
    cases q : ρ'[k]? with
    | none => rw [q] at e; cases e
    | some s =>
      rw [q] at e
      cases s with
      | par d =>
        have e : (outs ρ' (parIx av (k + 1))).map (fun ds => d :: ds) = some os := e
        cases q2 : outs ρ' (parIx av (k + 1)) with
        | none => rw [q2] at e; cases e
        | some os' =>
          rw [q2] at e
          cases e
          obtain ⟨b, b1, b2, b3⟩ := S.own k _ d q rfl
          have b4 := S.par k d q
          have h00 := h0 0 _ rfl
          rw [Nat.zero_add] at h00
          rw [b4] at b1
          cases b1
          have ep : (paOf vs0 T).f k = p := by rw [show (paOf vs0 T).f k = paF vs0 k from rfl]; unfold paF; rw [h00]
          rw [ep] at b2 b3
          exact .par b2 b3 (outs_end S (k := k + 1) r (fun i v h => by have := h0 (i + 1) v (by simpa using h); rw [Nat.add_assoc, Nat.add_comm 1 k] at this; exact this) q2)
      | _ => cases e
theorem bodyV {N : List Str} {n : Nat} {ts : TS} {ds : DS} {vs : List V} {Q : VK} {E : XK} (h : ∀ T, SS K (paOf vs T) (fun cls d _ H => E cls d H) ts ds) (hn : n ≤ N.length) (hs : SpV K n (dBody N.length ds) vs H Q E) :
    ts { nx := fun _ H' => Q .non H', rt := Q } (L2.start N vs) H := by
  obtain ⟨T, F, G, av, hl, eg, ef, dj, r, nd, q, er, hd, kq, ke⟩ := hs
  have S := sim_start (N := N) eg ef dj r nd (by omega)
  have fin : ∀ {G' H' : Hp} {σ' : RSt} {ρ' : Ro} {os : List D}, Sim K (paOf vs T) F G' σ' H' ρ' → outs ρ' (parIx av 0) = some os → Outs K G' H' vs av os := fun {G' H' σ' ρ' os} S' e => outs_end S' r (fun i v h => h) e
  refine h T F G _ H _ _ _ S hd ⟨fun G' σ' H' ρ' e S' q' => ?_, fun _ _ _ _ _ _ q' => q'.elim, fun _ _ _ _ _ _ q' => q'.elim, fun G' σ' H' ρ' v t e S' r' q' => ?_, fun _ _ _ _ _ _ _ _ _ _ _ q' => q'.elim, fun G' σ' H' ρ' C d vs' fs e S' q' h1 h2 => ?_⟩
  · obtain ⟨os, eo, q'⟩ := q'
    exact kq G' H' .non .non os e S'.ex S'.fx S'.dj (fin S' eo) .non q'
  · cases t with
    | bor i => exact q'.elim
    | val d =>
      obtain ⟨os, eo, q'⟩ := q'
      exact kq G' H' v d os e S'.ex S'.fx S'.dj (fin S' eo) r' q'
  · obtain ⟨os, eo, q'⟩ := q'
    exact ke G' H' C d vs' fs os e S'.ex S'.fx S'.dj (fin S' eo) h1 h2 q'
theorem par_in : ∀ {vs : List V} {av : List Sl} {p : Addr}, ArgsR K F G H vs av → p ∈ parsOf vs av → ∃ (i : Nat) (d : D), av[i]? = some (Sl.par d) ∧ vs[i]? = some (V.ref p)
  | _, _, p, .nil, h => by cases h
  | v :: vs, .val d :: av, p, .val _ r, h => by
    have e : parA v (.val d) = [] := by cases v <;> rfl
    unfold parsOf at h
    rw [e, List.nil_append] at h
    obtain ⟨i, d', h1, h2⟩ := par_in r h
    exact ⟨i + 1, d', by simpa using h1, by simpa using h2⟩
  | .ref b :: vs, .par d :: av, p, .par _ _ _ r, h => by
    have h : p ∈ [b] ++ parsOf vs av := h
    rcases List.mem_append.mp h with h | h
    · have : p = b := by simpa using h
      subst this
      exact ⟨0, d, rfl, rfl⟩
    · obtain ⟨i, d', h1, h2⟩ := par_in r h
      exact ⟨i + 1, d', by simpa using h1, by simpa using h2⟩
theorem outs_at {ρ : Ro} : ∀ {av : List Sl} {k i : Nat} {d : D} {os : List D}, outs ρ (parIx av k) = some os → av[i]? = some (.par d) → ∃ e, ρ[i + k]? = some (.par e)
  | [], _, _, _, _, _, h => by simp at h
  | a :: av, k, i, d, os, h, ha => by
    cases i with
    | zero =>
      simp at ha
      subst ha
      unfold parIx outs at h
      rw [Nat.zero_add]
      cases q : ρ[k]? with
      | none => rw [q] at h; cases h
      | some s =>
        rw [q] at h
        cases s with
        | par e => exact ⟨e, rfl⟩
        | _ => cases h
    | succ i =>
      have ha : av[i]? = some (.par d) := by simpa using ha
      have hk : ∃ os', outs ρ (parIx av (k + 1)) = some os' := by
        cases a with
        | par e =>
          unfold parIx outs at h
          cases q : ρ[k]? with
          | none => rw [q] at h; cases h
          | some s =>
            rw [q] at h
            cases s with
            | par e =>
              have h : (outs ρ (parIx av (k + 1))).map (fun ds => e :: ds) = some os := h
              cases q2 : outs ρ (parIx av (k + 1)) with
              | none => rw [q2] at h; cases h
              | some os' => exact ⟨os', rfl⟩
            | _ => cases h
        | _ => exact ⟨os, h⟩
      obtain ⟨os', h'⟩ := hk
      obtain ⟨e, he⟩ := outs_at h' ha
      exact ⟨e, by rw [Nat.add_assoc, Nat.add_comm 1 k]; exact he⟩
theorem bodyF {N : List Str} {n : Nat} {ts : TS} {ds : DS} {vs : List V} {Q : VK} {E : XK} (h : ∀ T, SS K (paOf vs T) (fun cls d _ H => E cls d H) ts ds) (hn : n ≤ N.length) (hs : SpF K n (dBodyF N.length ds) vs H Q E) :
    ts { nx := fun _ H' => Q .non H', rt := Q } (L2.start N vs) H := by
  obtain ⟨T, F, G, av, hl, eg, ef, dj, r, nd, q, er, hd, kq, ke⟩ := hs
  have S := sim_start (N := N) eg ef dj r nd (by omega)
  have fin : ∀ {G' H' : Hp} {σ' : RSt} {ρ' : Ro} {os : List D}, Sim K (paOf vs T) F G' σ' H' ρ' → outs ρ' (parIx av 0) = some os → Outs K G' H' vs av os := fun {G' H' σ' ρ' os} S' e => outs_end S' r (fun i v h => h) e
  have notin : ∀ {G' H' : Hp} {σ' : RSt} {ρ' : Ro} {os : List D} {p : Addr}, Sim K (paOf vs T) F G' σ' H' ρ' → outs ρ' (parIx av 0) = some os → (∀ (i : Nat) (e : D), ρ'[i]? = some (.par e) → σ'[i]? ≠ some (some (.ref p))) → p ∉ parsOf vs av := fun {G' H' σ' ρ' os p} S' eo hp hm => by
    obtain ⟨i, d, h1, h2⟩ := par_in r hm
    obtain ⟨e, he⟩ := outs_at eo h1
    rw [Nat.add_zero] at he
    refine hp i e he ?_
    rw [S'.par i e he, show (paOf vs T).f i = paF vs i from rfl]
    unfold paF
    rw [h2]
  refine h T F G _ H _ _ _ S hd ⟨fun _ _ _ _ _ _ q' => q'.elim, fun _ _ _ _ _ _ q' => q'.elim, fun _ _ _ _ _ _ q' => q'.elim, fun G' σ' H' ρ' v t e S' r' q' => ?_, fun G' σ' H' ρ' p d e S' gp ow fr q' => ?_, fun G' σ' H' ρ' C d vs' fs e S' q' h1 h2 => ?_⟩
  · cases t with
    | val d => exact q'.elim
    | bor i =>
      have q' : (match ρ'[i]? with | some (.own d) => Opt (outs ρ' (parIx av 0)) fun os => q d os | _ => False) := q'
      have r' : σ'[i]? = some (some v) := r'
      cases ei : ρ'[i]? with
      | none => rw [ei] at q'; exact q'.elim
      | some s =>
        rw [ei] at q'
        cases s with
        | own d =>
          obtain ⟨os, eo, q'⟩ := q'
          obtain ⟨p, h1, h2, h3⟩ := S'.own i _ d ei rfl
          rw [r'] at h1
          cases h1
          exact kq G' H' p d os e S'.ex S'.fx S'.dj (fin S' eo) h2 (S'.ofr i _ d p ei rfl r') (notin S' eo fun j e' hj hp => S'.dis i j _ _ d e' p (fun z => by subst z; rw [ei] at hj; cases hj) ei rfl hj rfl r' hp) h3 q'
        | _ => exact q'.elim
  · obtain ⟨os, eo, q'⟩ := q'
    exact kq G' H' p d os e S'.ex S'.fx S'.dj (fin S' eo) gp.1 gp.2 (notin S' eo fun j e' hj hp => fr j _ e' hj rfl hp) ow q'
  · obtain ⟨os, eo, q'⟩ := q'
    exact ke G' H' C d vs' fs os e S'.ex S'.fx S'.dj (fin S' eo) h1 h2 q'
end
end DL
set_option autoImplicit false
set_option Elab.async false
set_option linter.all false
set_option maxRecDepth 100000
namespace DL
open PySem L2 Evl
/-! ### a call -/
def argsOf (ρ : Ro) : List T → Option (List Sl)
  | [] => some []
  | .val d :: ts => (argsOf ρ ts).map fun a => .val d :: a
  | .bor i :: ts => (rd ρ (.bor i)).bind fun d => (argsOf ρ ts).map fun a => .par d :: a
def bors : List T → List Nat
  | [] => []
  | .val _ :: ts => bors ts
  | .bor i :: ts => i :: bors ts
def Sl.setD (e : D) : Sl → Sl
  | .own _ => .own e
  | .par _ => .par e
  | s => s
def setD (ρ : Ro) (i : Nat) (e : D) : Ro := match ρ[i]? with
  | some s => ρ.set i (s.setD e)
  | none => ρ
def putOuts : Ro → List Nat → List D → Ro
  | ρ, i :: is, e :: es => putOuts (setD ρ i e) is es
  | ρ, _, _ => ρ
def dCall (dsp : DSp) (da : DA) : DE := fun ρ q er => da ρ (fun ts ρ1 => Opt (argsOf ρ1 ts) fun av => (bors ts).Nodup ∧ dsp av (fun d os => q (.val d) (putOuts ρ1 (bors ts) os)) (fun C fs os => er C fs (putOuts ρ1 (bors ts) os))) er
def dCallF (dsp : DSp) (da : DA) : DF := fun ρ q er => da ρ (fun ts ρ1 => Opt (argsOf ρ1 ts) fun av => (bors ts).Nodup ∧ dsp av (fun d os => q d (putOuts ρ1 (bors ts) os)) (fun C fs os => er C fs (putOuts ρ1 (bors ts) os))) er
section
variable {K : PySem.W.Frag} {pa : PaG} {F G G' H H' : Hp} {σ : RSt} {ρ : Ro}
theorem setD_get (ρ : Ro) (i j : Nat) (e : D) : (setD ρ i e)[j]? = if i = j then (ρ[j]?).map (Sl.setD e) else ρ[j]? := by
  unfold setD
  cases q : ρ[i]? with
  | none =>
    by_cases h : i = j
    · subst h; rw [if_pos rfl, q]; rfl
    · rw [if_neg h]
  | some s =>
    have hi : i < ρ.length := (List.getElem?_eq_some_iff.mp q).1
    by_cases h : i = j
    · subst h; rw [if_pos rfl, q]; simp [List.getElem?_set_self hi]
    · rw [if_neg h]; simp [List.getElem?_set_ne h]
theorem setD_length (ρ : Ro) (i : Nat) (e : D) : (setD ρ i e).length = ρ.length := by
  unfold setD; split <;> simp
theorem putOuts_length : ∀ (is : List Nat) (es : List D) (ρ : Ro), (putOuts ρ is es).length = ρ.length
  | [], es, ρ => by unfold putOuts; rfl
  | i :: is, [], ρ => by unfold putOuts; rfl
  | i :: is, e :: es, ρ => by unfold putOuts; rw [putOuts_length is es, setD_length]
theorem ownD_setD {s : Sl} {d e : D} (h : (s.setD e).ownD = some d) : d = e ∧ ∃ d', s.ownD = some d' := by
  cases s with
  | own x => cases h; exact ⟨rfl, x, rfl⟩
  | par x => cases h; exact ⟨rfl, x, rfl⟩
  | val x => cases h
  | no => cases h
/-- what a slot holds behind the call: as before, or (one that was handed over) something else in its own object -/
theorem putOuts_get (P : Nat → D → Prop) : ∀ (is : List Nat) (es : List D) (ρ : Ro) (j : Nat) (s : Sl), Paired P is es → (putOuts ρ is es)[j]? = some s → (j ∉ is ∧ ρ[j]? = some s) ∨ ∃ s' e, P j e ∧ s = s'.setD e ∧ ρ[j]? = some s' ∧ j ∈ is
  | [], es, ρ, j, s, _, h => .inl ⟨by simp, by unfold putOuts at h; exact h⟩
  | i :: is, _, ρ, j, s, .cons (b := e) (l₂ := es) p ps, h => by
    have h : (putOuts (setD ρ i e) is es)[j]? = some s := h
    rcases putOuts_get P is es _ j s ps h with ⟨h1, h2⟩ | ⟨s', e', h1, h2, h3, h4⟩
    · rw [setD_get] at h2
      by_cases hij : i = j
      · subst hij
        rw [if_pos rfl] at h2
        cases q : ρ[i]? with
        | none => rw [q] at h2; cases h2
        | some s0 => rw [q] at h2; cases h2; exact .inr ⟨s0, e, p, rfl, rfl, List.mem_cons_self⟩
      · rw [if_neg hij] at h2
        exact .inl ⟨fun z => by rcases List.mem_cons.mp z with z | z; exact hij z.symm; exact h1 z, h2⟩
    · rw [setD_get] at h3
      by_cases hij : i = j
      · subst hij
        rw [if_pos rfl] at h3
        cases q : ρ[i]? with
        | none => rw [q] at h3; cases h3
        | some s0 =>
          rw [q] at h3
          cases h3
          refine .inr ⟨s0, e', h1, ?_, rfl, List.mem_cons_self⟩
          rw [h2]
          cases s0 <;> rfl
      · rw [if_neg hij] at h3
        exact .inr ⟨s', e', h1, h2, h3, List.mem_cons_of_mem _ h4⟩
theorem call_args (S : Sim K pa F G σ H ρ) {F' : Hp} (hF : ∀ (i : Nat) (s : Sl) (d : D) (p : Addr), ρ[i]? = some s → s.ownD = some d → σ[i]? = some (some (.ref p)) → i ∈ [] → F' p = none) : True := trivial
open Classical in
/-- the callee's frame: the caller's, and all of its own objects that are not handed over -/
noncomputable def calF (F H : Hp) (σ : RSt) (ρ : Ro) (is : List Nat) : Hp := fun b => if ∃ (j : Nat) (s : Sl) (d : D), j ∉ is ∧ ρ[j]? = some s ∧ s.ownD = some d ∧ σ[j]? = some (some (.ref b)) then H b else F b
theorem calF_own {is : List Nat} {b : Addr} (h : ∃ (j : Nat) (s : Sl) (d : D), j ∉ is ∧ ρ[j]? = some s ∧ s.ownD = some d ∧ σ[j]? = some (some (.ref b))) : calF F H σ ρ is b = H b := by unfold calF; rw [if_pos h]
theorem calF_ne {is : List Nat} {b : Addr} (h : ¬ ∃ (j : Nat) (s : Sl) (d : D), j ∉ is ∧ ρ[j]? = some s ∧ s.ownD = some d ∧ σ[j]? = some (some (.ref b))) : calF F H σ ρ is b = F b := by unfold calF; rw [if_neg h]
theorem calF_in (S : Sim K pa F G σ H ρ) (is : List Nat) {j : Nat} {s : Sl} {d : D} {p : Addr} (hj : j ∈ is) (h1 : ρ[j]? = some s) (h2 : s.ownD = some d) (h3 : σ[j]? = some (some (.ref p))) : calF F H σ ρ is p = none := by
  rw [calF_ne ?_]
  · exact S.ofr j s d p h1 h2 h3
  · rintro ⟨k, t, e, hk, k1, k2, k3⟩
    exact S.dis j k s t d e p (fun z => hk (z ▸ hj)) h1 h2 k1 k2 h3 k3
theorem calF_ex (S : Sim K pa F G σ H ρ) (is : List Nat) : Ex (calF F H σ ρ is) H := fun b o h => by
  by_cases c : ∃ (j : Nat) (s : Sl) (d : D), j ∉ is ∧ ρ[j]? = some s ∧ s.ownD = some d ∧ σ[j]? = some (some (.ref b))
  · rw [calF_own c] at h; exact h
  · rw [calF_ne c] at h; exact S.fx b o h
theorem calF_dj0 (S : Sim K pa F G σ H ρ) (is : List Nat) : ∀ b o, calF F H σ ρ is b = some o → G b = none := fun b o h => by
  by_cases c : ∃ (j : Nat) (s : Sl) (d : D), j ∉ is ∧ ρ[j]? = some s ∧ s.ownD = some d ∧ σ[j]? = some (some (.ref b))
  · obtain ⟨j, s, d, _, h1, h2, h3⟩ := c
    obtain ⟨p, q1, q2, _⟩ := S.own j s d h1 h2
    rw [h3] at q1
    cases q1
    exact q2
  · rw [calF_ne c] at h; exact S.dj b o h
theorem calF_dj (S : Sim K pa F G σ H ρ) (is : List Nat) : DjT pa.T (calF F H σ ρ is) G H := S.dj.to (calF_dj0 S is) (fun b hb fb => by
  by_cases c : ∃ (j : Nat) (s : Sl) (d : D), j ∉ is ∧ ρ[j]? = some s ∧ s.ownD = some d ∧ σ[j]? = some (some (.ref b))
  · obtain ⟨j, s, d, _, h1, h2, h3⟩ := c
    obtain ⟨p, q1, q2, q3⟩ := S.own j s d h1 h2
    rw [h3] at q1
    cases q1
    obtain ⟨o, ho⟩ := q3.some
    exact absurd (q3.code ho) (hb o ho)
  · rw [calF_ne c]; exact fb) (fun _ _ h => h) (fun b o h => by
  by_cases c : ∃ (j : Nat) (s : Sl) (d : D), j ∉ is ∧ ρ[j]? = some s ∧ s.ownD = some d ∧ σ[j]? = some (some (.ref b))
  · rw [calF_own c] at h
    obtain ⟨j, s, d, _, h1, h2, h3⟩ := c
    obtain ⟨p, q1, q2, q3⟩ := S.own j s d h1 h2
    rw [h3] at q1
    cases q1
    exact .inr (q3.code h)
  · rw [calF_ne c] at h; exact .inl h)
theorem calF_of (S : Sim K pa F G σ H ρ) (is : List Nat) : Ex F (calF F H σ ρ is) := fun b o h => by
  by_cases c : ∃ (j : Nat) (s : Sl) (d : D), j ∉ is ∧ ρ[j]? = some s ∧ s.ownD = some d ∧ σ[j]? = some (some (.ref b))
  · rw [calF_own c]; exact S.fx b o h
  · rw [calF_ne c]; exact h
theorem args_rel (S : Sim K pa F G σ H ρ) (is : List Nat) : ∀ {vs : List V} {ts : List T} {av : List Sl}, TkRs K G σ vs ts → argsOf ρ ts = some av → (∀ i ∈ bors ts, i ∈ is) → (bors ts).Nodup → ArgsR K (calF F H σ ρ is) G H vs av ∧ (parsOf vs av).Nodup ∧ ∀ p ∈ parsOf vs av, ∃ i ∈ bors ts, σ[i]? = some (some (.ref p)) ∧ ∃ s d, ρ[i]? = some s ∧ s.ownD = some d
  | _, _, _, .nil, e, _, _ => by cases e; exact ⟨.nil, List.nodup_nil, fun p h => by cases h⟩
  | v :: vs, .val d :: ts, av, .cons h r, e, hb, nd => by
    have e : (argsOf ρ ts).map (fun a => .val d :: a) = some av := e
    cases q : argsOf ρ ts with
    | none => rw [q] at e; cases e
    | some a =>
      rw [q] at e
      cases e
      obtain ⟨h1, h2, h3⟩ := args_rel S is r q hb nd
      have e0 : parA v (.val d) = [] := by cases v <;> rfl
      refine ⟨.val h h1, ?_, ?_⟩
      · unfold parsOf; rw [e0]; exact h2
      · intro p hp
        unfold parsOf at hp
        rw [e0] at hp
        exact h3 p hp
  | v :: vs, .bor i :: ts, av, .cons h r, e, hb, nd => by
    have e : ((ρ[i]?).bind Sl.ownD).bind (fun d => (argsOf ρ ts).map fun a => .par d :: a) = some av := e
    have h : σ[i]? = some (some v) := h
    cases q1 : ρ[i]? with
    | none => rw [q1] at e; cases e
    | some s =>
      rw [q1] at e
      cases q2 : s.ownD with
      | none => simp [q2] at e
      | some d =>
        have e : (argsOf ρ ts).map (fun a => .par d :: a) = some av := by simpa [q2] using e
        cases q : argsOf ρ ts with
        | none => rw [q] at e; cases e
        | some a =>
          rw [q] at e
          cases e
          have nd : (i :: bors ts).Nodup := nd
          obtain ⟨h1, h2, h3⟩ := args_rel S is r q (fun j hj => hb j (List.mem_cons_of_mem _ hj)) (List.nodup_cons.mp nd).2
          obtain ⟨p, k1, k2, k3⟩ := S.own i s d q1 q2
          rw [h] at k1
          cases k1
          refine ⟨.par k2 (calF_in S is (hb i List.mem_cons_self) q1 q2 h) k3 h1, ?_, ?_⟩
          · show ([p] ++ parsOf vs a).Nodup
            refine List.nodup_cons.mpr ⟨fun hm => ?_, h2⟩
            obtain ⟨j, hj, j1, s', d', j2, j3⟩ := h3 p hm
            have hij : i ≠ j := fun z => (List.nodup_cons.mp nd).1 (z ▸ hj)
            exact S.dis i j s s' d d' p hij q1 q2 j2 j3 h j1
          · intro b hm
            rcases List.mem_cons.mp (show b ∈ p :: parsOf vs a from hm) with z | z
            · subst z; exact ⟨i, List.mem_cons_self, h, s, d, q1, q2⟩
            · obtain ⟨j, hj, k⟩ := h3 b z
              exact ⟨j, List.mem_cons_of_mem _ hj, k⟩
theorem outs_rel : ∀ {vs : List V} {ts : List T} {av : List Sl} {os : List D}, TkRs K G σ vs ts → argsOf ρ ts = some av → Outs K G' H' vs av os → Paired (fun i e => ∃ p, σ[i]? = some (some (.ref p)) ∧ G' p = none ∧ OwnAt K G' H' p e) (bors ts) os
  | _, _, _, _, .nil, e, o => by cases e; cases o; exact .nil
  | v :: vs, .val d :: ts, av, os, .cons h r, e, o => by
    have e : (argsOf ρ ts).map (fun a => .val d :: a) = some av := e
    cases q : argsOf ρ ts with
    | none => rw [q] at e; cases e
    | some a =>
      rw [q] at e
      cases e
      cases o with
      | val o =>
        show Paired _ (bors ts) _
        exact outs_rel r q o
  | v :: vs, .bor i :: ts, av, os, .cons h r, e, o => by
    have e : (rd ρ (.bor i)).bind (fun d => (argsOf ρ ts).map fun a => .par d :: a) = some av := e
    have h : σ[i]? = some (some v) := h
    cases q1 : rd ρ (.bor i) with
    | none => rw [q1] at e; cases e
    | some d =>
      rw [q1] at e
      have e : (argsOf ρ ts).map (fun a => .par d :: a) = some av := e
      cases q : argsOf ρ ts with
      | none => rw [q] at e; cases e
      | some a =>
        rw [q] at e
        cases e
        cases o with
        | par h1 h2 o => exact .cons ⟨_, h, h1, h2⟩ (outs_rel r q o)
/-- behind a call -/
theorem Sim.behind (S : Sim K pa F G σ H ρ) {is : List Nat} {os : List D} (e : Ex G G') (gh : Ex G' H') (fx : Ex (calF F H σ ρ is) H') (dj : DjT pa.T (calF F H σ ρ is) G' H')
    (po : Paired (fun i e => ∃ p, σ[i]? = some (some (.ref p)) ∧ G' p = none ∧ OwnAt K G' H' p e) is os) : Sim K pa F G' σ H' (putOuts ρ is os) := by
  have get := fun j s h => putOuts_get _ is os ρ j s po h
  have old : ∀ (j : Nat) (s : Sl) (d : D), (putOuts ρ is os)[j]? = some s → s.ownD = some d → ∃ s' d', ρ[j]? = some s' ∧ s'.ownD = some d' := fun j s d h hd => by
    rcases get j s h with ⟨_, h2⟩ | ⟨s', e', h1, h2, h3, _⟩
    · exact ⟨s, d, h2, hd⟩
    · subst h2
      obtain ⟨_, d', hd'⟩ := ownD_setD hd
      exact ⟨s', d', h3, hd'⟩
  refine ⟨by rw [putOuts_length, S.len], gh, (calF_of S is).trans fx, dj.sub (calF_of S is), fun i d h => ?_, fun i s d h hd => ?_, fun i s d p h hd hp => ?_, fun i d h => ?_, S.gx.trans e, fun i j s t d e p hij h1 h2 h3 h4 h5 h6 => ?_⟩
  · rcases get i _ h with ⟨_, h2⟩ | ⟨s', e', h1, h2, h3, _⟩
    · obtain ⟨v, k1, k2⟩ := S.val i d h2
      exact ⟨v, k1, k2.mono e⟩
    · cases s' with
      | val x => cases h2; obtain ⟨v, k1, k2⟩ := S.val i d h3; exact ⟨v, k1, k2.mono e⟩
      | _ => cases h2
  · rcases get i _ h with ⟨hn, h2⟩ | ⟨s', e', h1, h2, h3, _⟩
    · obtain ⟨p, k1, k2, k3⟩ := S.own i s d h2 hd
      obtain ⟨o, ho⟩ := k3.some
      have c : calF F H σ ρ is p = some o := by rw [calF_own ⟨i, s, d, hn, h2, hd, k1⟩]; exact ho
      exact ⟨p, k1, dj p o c, k3.mono e (by rw [ho, fx p o c])⟩
    · subst h2
      obtain ⟨rfl, d', hd'⟩ := ownD_setD hd
      obtain ⟨p, k1, k2, k3⟩ := h1
      exact ⟨p, k1, k2, k3⟩
  · obtain ⟨s', d', k1, k2⟩ := old i s d h hd
    exact S.ofr i s' d' p k1 k2 hp
  · rcases get i _ h with ⟨_, h2⟩ | ⟨s', e', h1, h2, h3, _⟩
    · exact S.par i d h2
    · cases s' with
      | par x => exact S.par i x h3
      | _ => cases h2
  · obtain ⟨s', d', k1, k2⟩ := old i s d h1 h2
    obtain ⟨t', e', k3, k4⟩ := old j t e h3 h4
    exact S.dis i j s' t' d' e' p hij k1 k2 k3 k4 h5 h6
end
section
variable {K : PySem.W.Frag} {pa : PaG} {W : WX} {ta : TA} {da : DA} {n : Nat} {dsp : DSp}
theorem argsOf_length {ρ : Ro} : ∀ {ts : List T} {av : List Sl}, argsOf ρ ts = some av → av.length = ts.length
  | [], _, e => by cases e; rfl
  | .val d :: ts, av, e => by
    have e : (argsOf ρ ts).map (fun a => .val d :: a) = some av := e
    cases q : argsOf ρ ts with
    | none => rw [q] at e; cases e
    | some a => rw [q] at e; cases e; rw [List.length_cons, List.length_cons, argsOf_length q]
  | .bor i :: ts, av, e => by
    have e : (rd ρ (.bor i)).bind (fun d => (argsOf ρ ts).map fun a => .par d :: a) = some av := e
    cases q1 : rd ρ (.bor i) with
    | none => rw [q1] at e; cases e
    | some d =>
      rw [q1] at e
      have e : (argsOf ρ ts).map (fun a => .par d :: a) = some av := e
      cases q : argsOf ρ ts with
      | none => rw [q] at e; cases e
      | some a => rw [q] at e; cases e; rw [List.length_cons, List.length_cons, argsOf_length q]
/-- the call's words, whatever it wants of exceptions -/
theorem call_core {F G : Hp} {σ : RSt} {H : Hp} {ρ : Ro} {vs : List V} {ts : List T} {av : List Sl} {Q : VK} {E : XK} {q : D → List D → Prop} {er : Addr → List (Str × D) → List D → Prop} (S : Sim K pa F G σ H ρ) (r : TkRs K G σ vs ts) (ea : argsOf ρ ts = some av) (nd : (bors ts).Nodup) (hn : vs.length = n)
    (hd : dsp av q er) (k : ∀ G' H' v d os, Ex G G' → Sim K pa F G' σ H' (putOuts ρ (bors ts) os) → Rep K G' v d → q d os → Q v H')
    (ke : ∀ G' H' C y fv fs os, Ex G G' → Sim K pa F G' σ H' (putOuts ρ (bors ts) os) → G' y = some (.xd fv) → RepF K G' fv fs → er C fs os → E (.ref C) (some y) H') : SpV K n dsp vs H Q E := by
  obtain ⟨a1, a2, a3⟩ := args_rel S (bors ts) r ea (fun i hi => hi) nd
  refine ⟨pa.T, calF F H σ ρ (bors ts), G, av, hn, S.ex, calF_ex S _, calF_dj S _, a1, a2, q, er, hd, fun G' H' v d os e gh fx dj o rv hq => ?_, fun G' H' C y fv fs os e gh fx dj o h1 h2 hq => ?_⟩
  · exact k G' H' v d os e (S.behind e gh fx dj (outs_rel r ea o)) rv hq
  · exact ke G' H' C y fv fs os e (S.behind e gh fx dj (outs_rel r ea o)) h1 h2 hq
theorem call_coreF {F G : Hp} {σ : RSt} {H : Hp} {ρ : Ro} {vs : List V} {ts : List T} {av : List Sl} {Q : VK} {E : XK} {q : D → List D → Prop} {er : Addr → List (Str × D) → List D → Prop} (S : Sim K pa F G σ H ρ) (r : TkRs K G σ vs ts) (ea : argsOf ρ ts = some av) (nd : (bors ts).Nodup) (hn : vs.length = n)
    (hd : dsp av q er) (k : ∀ G' H' p d os, Ex G G' → Sim K pa F G' σ H' (putOuts ρ (bors ts) os) → G' p = none ∧ F p = none → OwnAt K G' H' p d → (∀ (i : Nat) (s : Sl) (d : D), (putOuts ρ (bors ts) os)[i]? = some s → s.ownD = some d → σ[i]? ≠ some (some (.ref p))) → q d os → Q (.ref p) H')
    (ke : ∀ G' H' C y fv fs os, Ex G G' → Sim K pa F G' σ H' (putOuts ρ (bors ts) os) → G' y = some (.xd fv) → RepF K G' fv fs → er C fs os → E (.ref C) (some y) H') : SpF K n dsp vs H Q E := by
  obtain ⟨a1, a2, a3⟩ := args_rel S (bors ts) r ea (fun i hi => hi) nd
  refine ⟨pa.T, calF F H σ ρ (bors ts), G, av, hn, S.ex, calF_ex S _, calF_dj S _, a1, a2, q, er, hd, fun G' H' p d os e gh fx dj o gp fp np ow hq => ?_, fun G' H' C y fv fs os e gh fx dj o h1 h2 hq => ?_⟩
  · have po := outs_rel (σ := σ) r ea o
    have S' := S.behind e gh fx dj po
    refine k G' H' p d os e S' ⟨gp, fresh_back (calF_of S _) fp⟩ ow (fun i s d' hs hd' hp => ?_) hq
    rcases putOuts_get _ _ os ρ i s po hs with ⟨hi, h2⟩ | ⟨s', e', h1, h2, h3, h4⟩
    · obtain ⟨b, k1, _, k3⟩ := S.own i s d' h2 hd'
      rw [hp] at k1
      cases k1
      obtain ⟨o', ho⟩ := k3.some
      rw [calF_own ⟨i, s, d', hi, h2, hd', hp⟩, ho] at fp
      cases fp
    · refine np ?_
      have hlen : ∀ {vs : List V} {ts : List T} {av : List Sl}, TkRs K G σ vs ts → argsOf ρ ts = some av → i ∈ bors ts → p ∈ parsOf vs av := by
        intro vs ts
        induction ts generalizing vs with
        | nil => intro av _ _ h; cases h
        | cons t ts ih =>
          intro av r e hi
          cases r with
          | cons h r =>
            cases t with
            | val d =>
              have e : (argsOf ρ ts).map (fun a => .val d :: a) = some av := e
              cases q : argsOf ρ ts with
              | none => rw [q] at e; cases e
              | some a => rw [q] at e; cases e; exact List.mem_append_right _ (ih r q hi)
            | bor j =>
              have e : (rd ρ (.bor j)).bind (fun d => (argsOf ρ ts).map fun a => .par d :: a) = some av := e
              cases q1 : rd ρ (.bor j) with
              | none => rw [q1] at e; cases e
              | some d =>
                rw [q1] at e
                have e : (argsOf ρ ts).map (fun a => .par d :: a) = some av := e
                cases q : argsOf ρ ts with
                | none => rw [q] at e; cases e
                | some a =>
                  rw [q] at e
                  cases e
                  rcases List.mem_cons.mp (show i ∈ j :: bors ts from hi) with z | z
                  · subst z
                    have h : σ[i]? = some (some _) := h
                    rw [hp] at h
                    cases h
                    exact List.mem_append_left _ List.mem_cons_self
                  · exact List.mem_append_right _ (ih r q z)
      exact hlen r ea h4
  · exact ke G' H' C y fv fs os e (S.behind e gh fx dj (outs_rel r ea o)) h1 h2 hq
theorem TkRs.length {G : Hp} {σ : RSt} : ∀ {vs : List V} {ts : List T}, TkRs K G σ vs ts → vs.length = ts.length
  | _, _, .nil => rfl
  | _, _, .cons _ r => by rw [List.length_cons, List.length_cons, r.length]
/-- n arguments -/
def dN (n : Nat) (da : DA) : DA := fun ρ q er => da ρ (fun ts ρ1 => ts.length = n ∧ q ts ρ1) er
theorem se_callS (ha : SA K pa W ta da) : SE K pa W (tCallS (SpV K n dsp) (WE W) ta) (dCall dsp (dN n da)) := fun F G σ H ρ Q q er S h k x =>
  ha F G σ H ρ _ _ er S h (fun G1 H1 vs ts ρ1 e1 S1 r1 h1 => by
    obtain ⟨hl, av, ea, nd, hd⟩ := h1
    exact call_core S1 r1 ea nd (by rw [r1.length]; exact hl) hd (fun G' H' v d os e S' rv hq => k G' H' v (.val d) _ (e1.trans e) S' rv hq) (fun G' H' C y fv fs os e S' h1 h2 hq => x G' H' _ C y fv fs (e1.trans e) S' hq h1 h2)) x
theorem sf_callS (ha : SA K pa W ta da) : SF K pa W (tCallS (SpF K n dsp) (WE W) ta) (dCallF dsp (dN n da)) := fun F G σ H ρ Q q er S h k x =>
  ha F G σ H ρ _ _ er S h (fun G1 H1 vs ts ρ1 e1 S1 r1 h1 => by
    obtain ⟨hl, av, ea, nd, hd⟩ := h1
    exact call_coreF S1 r1 ea nd (by rw [r1.length]; exact hl) hd (fun G' H' p d os e S' gp ow fr hq => k G' H' p d _ (e1.trans e) S' gp ow fr hq) (fun G' H' C y fv fs os e S' h1 h2 hq => x G' H' _ C y fv fs (e1.trans e) S' hq h1 h2)) x
/-- a def that raises nothing -/
def noEr (dsp : DSp) : DSp := fun av q _ => dsp av q fun _ _ _ => False
theorem se_call (ha : SA K pa W ta da) : SE K pa W (tCall (SpV K n dsp) [] L2.E0 ta) (dCall (noEr dsp) (dN n da)) := fun F G σ H ρ Q q er S h k x =>
  ha F G σ H ρ _ _ er S h (fun G1 H1 vs ts ρ1 e1 S1 r1 h1 => by
    obtain ⟨hl, av, ea, nd, hd⟩ := h1
    show SpV K n dsp (vs ++ []) H1 _ _
    rw [List.append_nil]
    exact call_core S1 r1 ea nd (by rw [r1.length]; exact hl) hd (fun G' H' v d os e S' rv hq => k G' H' v (.val d) _ (e1.trans e) S' rv hq) (fun G' H' C y fv fs os e S' h1 h2 hq => hq.elim)) x
theorem sf_call (ha : SA K pa W ta da) : SF K pa W (tCall (SpF K n dsp) [] L2.E0 ta) (dCallF (noEr dsp) (dN n da)) := fun F G σ H ρ Q q er S h k x =>
  ha F G σ H ρ _ _ er S h (fun G1 H1 vs ts ρ1 e1 S1 r1 h1 => by
    obtain ⟨hl, av, ea, nd, hd⟩ := h1
    show SpF K n dsp (vs ++ []) H1 _ _
    rw [List.append_nil]
    exact call_coreF S1 r1 ea nd (by rw [r1.length]; exact hl) hd (fun G' H' p d os e S' gp ow fr hq => k G' H' p d _ (e1.trans e) S' gp ow fr hq) (fun G' H' C y fv fs os e S' h1 h2 hq => hq.elim)) x
end
end DL
set_option autoImplicit false
set_option Elab.async false
set_option linter.all false
set_option maxRecDepth 100000
namespace DL
open PySem L2 Evl

/-! ### objects that a slot owns are changed -/
section
variable {K : PySem.W.Frag} {pa : PaG} {F G G' H H' : Hp} {σ : RSt} {ρ : Ro}
theorem Sim.mut (S : Sim K pa F G σ H ρ) {i : Nat} {s : Sl} {d e : D} {p : Addr} {o : HO} (h1 : ρ[i]? = some s) (h2 : s.ownD = some d) (h3 : σ[i]? = some (some (.ref p))) (ow : OwnAt K G (upd H p o) p e) : Sim K pa F G σ (upd H p o) (setD ρ i e) := by
  obtain ⟨b, q1, gp, ow0⟩ := S.own i s d h1 h2
  rw [h3] at q1
  cases q1
  obtain ⟨o0, ho0⟩ := ow0.some
  have fp := S.ofr i s d p h1 h2 h3
  refine ⟨by rw [setD_length, S.len], fun b o' q => ?_, fun b o' q => ?_, S.dj.mut ho0 (ow0.code ho0), fun j d' h => ?_, fun j t d' h hd => ?_, fun j t d' b h hd hb => ?_, fun j d' h => ?_, S.gx, fun j k t t' d' e' b hjk k1 k2 k3 k4 k5 k6 => ?_⟩
  · rw [upd_ne (fun z => by rw [z, gp] at q; cases q)]; exact S.ex b o' q
  · rw [upd_ne (fun z => by rw [z, fp] at q; cases q)]; exact S.fx b o' q
  · rw [setD_get] at h
    by_cases hij : i = j
    · subst hij
      rw [if_pos rfl, h1] at h
      have h : some (s.setD e) = some (Sl.val d') := h
      cases s <;> first | (cases h2; done) | cases h
    · rw [if_neg hij] at h; exact S.val j d' h
  · rw [setD_get] at h
    by_cases hij : i = j
    · subst hij
      rw [if_pos rfl, h1] at h
      cases h
      obtain ⟨rfl, _⟩ := ownD_setD hd
      exact ⟨p, h3, gp, ow⟩
    · rw [if_neg hij] at h
      obtain ⟨b, k1, k2, k3⟩ := S.own j t d' h hd
      exact ⟨b, k1, k2, k3.mono (Ex.refl G) (upd_ne fun z => S.dis i j s t d d' p hij h1 h2 h hd h3 (by rw [k1, z])).symm⟩
  · rw [setD_get] at h
    by_cases hij : i = j
    · subst hij
      rw [h3] at hb
      cases hb
      exact fp
    · rw [if_neg hij] at h; exact S.ofr j t d' b h hd hb
  · rw [setD_get] at h
    by_cases hij : i = j
    · subst hij
      rw [if_pos rfl, h1] at h
      cases s with
      | par x => exact S.par i x h1
      | _ => cases h
    · rw [if_neg hij] at h; exact S.par j d' h
  · have old : ∀ {j : Nat} {t : Sl} {d' : D}, (setD ρ i e)[j]? = some t → t.ownD = some d' → ∃ t' e', ρ[j]? = some t' ∧ t'.ownD = some e' := fun {j t d'} h hd => by
      rw [setD_get] at h
      by_cases hij : i = j
      · subst hij; exact ⟨s, d, h1, h2⟩
      · rw [if_neg hij] at h; exact ⟨t, d', h, hd⟩
    obtain ⟨t1, e1, m1, m2⟩ := old k1 k2
    obtain ⟨t2, e2, m3, m4⟩ := old k3 k4
    exact S.dis j k t1 t2 e1 e2 b hjk m1 m2 m3 m4 k5 k6
end
/-- the object that a slot owns -/
def ownAt (ρ : Ro) (i : Nat) : Option D := (ρ[i]?).bind Sl.ownD
theorem ownAt_some {ρ : Ro} {i : Nat} {d : D} (h : ownAt ρ i = some d) : ∃ s, ρ[i]? = some s ∧ s.ownD = some d := by
  unfold ownAt at h
  cases q : ρ[i]? with
  | none => rw [q] at h; cases h
  | some s => rw [q] at h; exact ⟨s, rfl, h⟩
def D.isLst : D → Bool
  | .lst _ => true
  | _ => false
/-- xs.append(e) -/
def dAppend (i : Nat) (de : DE) : DE := fun ρ q er => Opt (ownAt ρ i) fun d0 => d0.isLst = true ∧ de ρ (fun t ρ1 => match t with
  | .val e => Opt (ownAt ρ1 i) fun d => (match d with
    | .lst ds => ds.length < sizeLine ∧ q (.val .non) (setD ρ1 i (.lst (ds ++ [e])))
    | _ => False)
  | .bor _ => False) er
def dClear (i : Nat) : DE := fun ρ q _ => Opt (ownAt ρ i) fun d => match d with
  | .lst _ => q (.val .non) (setD ρ i (.lst []))
  | _ => False
/-- xs[k] = e: e first -/
def dSetIx (i : Nat) (dk de : DE) : DS := fun DD ρ => de ρ (fun t ρ1 => match t with
  | .val e => (ownAt ρ1 i).isSome = true ∧ dk ρ1 (fun u ρ2 => Opt (rd ρ2 u) fun k => Opt (ownAt ρ2 i) fun d => match d, k with
    | .lst ds, .int z => Opt (ixN ds.length z) fun j => DD.nx (setD ρ2 i (.lst (ds.set j e)))
    | _, _ => False) DD.er
  | .bor _ => False) DD.er
/-- o.f -/
def dFld (Cs : List Addr) (f : Str) (de : DE) : DE := fun ρ q er => de ρ (fun t ρ1 => Opt (rd ρ1 t) fun d => match d with
  | .ins C es => C ∈ Cs ∧ Opt (es.lookup f) fun e => q (.val e) ρ1
  | _ => False) er
def putFD (f : Str) (e : D) : List (Str × D) → List (Str × D)
  | [] => [(f, e)]
  | (g, x) :: r => if g = f then (g, e) :: r else (g, x) :: putFD f e r
/-- o.f = e, o a slot's own instance -/
def dSetF (Cs : List Addr) (i : Nat) (f : Str) (de : DE) : DS := fun DD ρ => de ρ (fun t ρ1 => match t with
  | .val e => Opt (ownAt ρ1 i) fun d => (match d with
    | .ins C es => C ∈ Cs ∧ es.length < 1000 ∧ DD.nx (setD ρ1 i (.ins C (putFD f e es)))
    | _ => False)
  | .bor _ => False) DD.er
section
variable {K : PySem.W.Frag} {pa : PaG} {W : WX} {te ta : TE} {de da dk : DE}
theorem own_lst {G H : Hp} {p : Addr} {d : D} (h : OwnAt K G H p d) (e : d.isLst = true) : ∃ vs, H p = some (HO.lst vs) := by
  cases d with
  | lst ds => obtain ⟨vs, h1, _⟩ := h; exact ⟨vs, h1⟩
  | _ => cases e
theorem se_append {i : Nat} (he : SE K pa W te de) : SE K pa W (tBM K "list" rAppend (tVar i) (tCons te tNil)) (dAppend i de) := fun F G σ H ρ Q q er S h k x => by
  obtain ⟨d0, e0, hl, h⟩ := h
  obtain ⟨s, es, ed⟩ := ownAt_some e0
  obtain ⟨p, hp, gp, ow⟩ := S.own i s d0 es ed
  obtain ⟨vs0, hv0⟩ := own_lst ow hl
  refine ⟨.ref p, hp, .inl ⟨rfl, vs0, SqL.of hv0⟩, ?_⟩
  refine he F G σ H ρ _ _ er S h (fun G1 H1 v t ρ1 e1 S1 r1 h1 => ?_) x
  cases t with
  | bor j => exact h1.elim
  | val e =>
    obtain ⟨d, ed1, h2⟩ := h1
    obtain ⟨s1, es1, ed1⟩ := ownAt_some ed1
    obtain ⟨b, hb, gb, ow1⟩ := S1.own i s1 d es1 ed1
    rw [hp] at hb
    cases hb
    cases d with
    | lst ds =>
      obtain ⟨vs, hv, rr⟩ := ow1
      refine ⟨p, vs, v, rfl, rfl, hv, by rw [rr.length]; exact h2.1, ?_⟩
      exact k G1 _ .non (.val .non) _ e1 (S1.mut (e := .lst (ds ++ [e])) es1 ed1 hp ⟨_, upd_same, rr.append (.cons r1 .nil)⟩) .non h2.2
    | _ => exact h2.elim
theorem se_clear {i : Nat} : SE K pa W (tBM0 K "list" rClear (tVar i)) (dClear i) := fun F G σ H ρ Q q er S h k x => by
  obtain ⟨d, e0, h⟩ := h
  obtain ⟨s, es, ed⟩ := ownAt_some e0
  obtain ⟨p, hp, gp, ow⟩ := S.own i s d es ed
  cases d with
  | lst ds =>
    obtain ⟨vs, hv, rr⟩ := ow
    refine ⟨.ref p, hp, .inl ⟨rfl, vs, SqL.of hv⟩, p, vs, rfl, rfl, hv, ?_⟩
    exact k G _ .non (.val .non) _ (Ex.refl G) (S.mut (e := .lst []) es ed hp ⟨_, upd_same, .nil⟩) .non h
  | _ => exact h.elim
theorem ss_setIx {i : Nat} {tk : TE} (hk : SE K pa W tk dk) (he : SE K pa W te de) : SS K pa W (tAsg te (gSub (tVar i) tk rSetL)) (dSetIx i dk de) := fun F G σ H ρ D DD S h l =>
  he F G σ H ρ _ _ _ S h (fun G1 H1 v t ρ1 e1 S1 r1 h1 => by
    cases t with
    | bor j => exact h1.elim
    | val e =>
      obtain ⟨hs, h1⟩ := h1
      cases q : ownAt ρ1 i with
      | none => rw [q] at hs; cases hs
      | some d0 =>
        obtain ⟨s, es, ed⟩ := ownAt_some q
        obtain ⟨p, hp, gp, ow⟩ := S1.own i s d0 es ed
        refine ⟨.ref p, hp, ?_⟩
        refine hk F G1 σ H1 ρ1 _ _ _ S1 h1 (fun G2 H2 w u ρ2 e2 S2 r2 h2 => ?_) ((l.xl σ).grow e1)
        obtain ⟨dk', ek, d, ed2, h3⟩ := h2
        obtain ⟨s2, es2, ed2⟩ := ownAt_some ed2
        obtain ⟨b, hb, gb, ow2⟩ := S2.own i s2 d es2 ed2
        rw [hp] at hb
        cases hb
        cases d with
        | lst ds =>
          cases dk' with
          | int z =>
            obtain ⟨j, ej, h4⟩ := h3
            obtain ⟨vs, hv, rr⟩ := ow2
            rw [(S2.rdT r2 ek).int]
            refine ⟨p, vs, z, j, rfl, rfl, hv, by rw [rr.length]; exact ej, ?_⟩
            have r1 : Rep K G1 v e := r1
            exact l.nx G2 σ _ _ (e1.trans e2) (S2.mut (e := .lst (ds.set j e)) es2 ed2 hp ⟨_, upd_same, rr.set (r1.mono e2) j⟩) h4
          | _ => exact h3.elim
        | _ => exact h3.elim) (l.xl σ)
theorem RepF.lookup {G : Hp} {f : Str} {e : D} : ∀ {vs : List (Str × V)} {ds : List (Str × D)}, RepF K G vs ds → ds.lookup f = some e → ∃ v, vs.lookup f = some v ∧ Rep K G v e
  | _, _, .nil, h => by cases h
  | _, _, .cons (k := k) (v := v) (d := d) (vs := vs) (ds := ds) r rr, h => by
    rw [List.lookup_cons] at h ⊢
    cases hk : (f == k) with
    | true => rw [hk] at h; cases h; exact ⟨v, rfl, r⟩
    | false => rw [hk] at h; exact RepF.lookup rr h
theorem RepF.length {G : Hp} : ∀ {vs : List (Str × V)} {ds : List (Str × D)}, RepF K G vs ds → vs.length = ds.length
  | _, _, .nil => rfl
  | _, _, .cons _ r => by rw [List.length_cons, List.length_cons, r.length]
theorem RepF.put {G : Hp} {f : Str} {v : V} {e : D} (r : Rep K G v e) : ∀ {vs : List (Str × V)} {ds : List (Str × D)}, RepF K G vs ds → RepF K G (putF f v vs) (putFD f e ds)
  | _, _, .nil => .cons r .nil
  | _, _, .cons (k := k) h rr => by
    unfold putF putFD
    split
    · exact .cons r rr
    · exact .cons h (RepF.put r rr)
theorem se_fld {Cs : List Addr} {f : Str} (hc : ∀ C ∈ Cs, Cls K C ∧ NoAttr K C f) (he : SE K pa W te de) : SE K pa W (tFld K te f) (dFld Cs f de) := fun F G σ H ρ Q q er S h k x =>
  he F G σ H ρ _ _ er S h (fun G1 H1 v t ρ1 e1 S1 r1 h1 => by
    obtain ⟨d, ed, h2⟩ := h1
    cases d with
    | ins C es =>
      obtain ⟨hC, e, ee, h3⟩ := h2
      obtain ⟨p, dx, vs, rfl, hp, rr⟩ := (S1.rdT r1 ed).ins S1.ex
      obtain ⟨w, hw, rw'⟩ := rr.lookup ee
      exact ⟨p, C, dx, vs, w, rfl, hp, (hc C hC).1, (hc C hC).2, hw, k G1 H1 w (.val e) ρ1 e1 S1 rw' h3⟩
    | _ => exact h2.elim) x
theorem ss_setF {Cs : List Addr} {f : Str} {i : Nat} (hc : ∀ C ∈ Cs, Cls K C ∧ NoAttr K C f) (he : SE K pa W te de) : SS K pa W (sFld K (tVar i) te f) (dSetF Cs i f de) := fun F G σ H ρ D DD S h l =>
  he F G σ H ρ _ _ _ S h (fun G1 H1 v t ρ1 e1 S1 r1 h1 => by
    cases t with
    | bor j => exact h1.elim
    | val e =>
      obtain ⟨d, ed, h2⟩ := h1
      obtain ⟨s, es, ed⟩ := ownAt_some ed
      obtain ⟨p, hp, gp, ow⟩ := S1.own i s d es ed
      cases d with
      | ins C fs =>
        obtain ⟨hC, hl, h3⟩ := h2
        obtain ⟨dx, vs, hv, rr⟩ := ow
        refine ⟨.ref p, hp, p, C, dx, vs, rfl, hv, (hc C hC).1, (hc C hC).2, by rw [rr.length]; exact hl, ?_⟩
        exact l.nx G1 σ _ _ e1 (S1.mut (e := .ins C (putFD f e fs)) es ed hp ⟨dx, _, upd_same, rr.put r1⟩) h3
      | _ => exact h2.elim) (l.xl σ)
end

/-! ### C(..) and o.m(..) -/
section
variable {K : PySem.W.Frag} {pa : PaG} {F G G' H H' : Hp} {σ : RSt} {ρ : Ro}
theorem Sim.push (S : Sim K pa F G σ H ρ) {p : Addr} {d : D} (gp : G p = none ∧ F p = none) (ow : OwnAt K G H p d) (fr : ∀ (i : Nat) (s : Sl) (d : D), ρ[i]? = some s → s.ownD = some d → σ[i]? ≠ some (some (.ref p))) :
    Sim K pa F G (σ ++ [some (.ref p)]) H (ρ ++ [.own d]) := by
  have ind : ∀ {i : Nat} {s : Sl}, (ρ ++ [.own d])[i]? = some s → (ρ[i]? = some s ∧ (σ ++ [some (.ref p)])[i]? = σ[i]?) ∨ (i = ρ.length ∧ s = .own d ∧ (σ ++ [some (V.ref p)])[i]? = some (some (.ref p))) := fun {i s} h => by
    by_cases hi : i < ρ.length
    · rw [List.getElem?_append_left hi] at h
      exact .inl ⟨h, List.getElem?_append_left (by rw [← S.len]; exact hi)⟩
    · rw [List.getElem?_append_right (by omega)] at h
      by_cases hi2 : i - ρ.length = 0
      · have e : i = ρ.length := by omega
        subst e
        rw [Nat.sub_self] at h
        cases h
        exact .inr ⟨rfl, rfl, by rw [S.len, List.getElem?_append_right (Nat.le_refl _), Nat.sub_self]; rfl⟩
      · rw [List.getElem?_cons] at h
        rw [if_neg hi2] at h
        cases h
  refine ⟨by rw [List.length_append, List.length_append, S.len]; rfl, S.ex, S.fx, S.dj, fun i e h => ?_, fun i s e h hd => ?_, fun i s e b h hd hb => ?_, fun i e h => ?_, S.gx, fun i j s t e f b hij h1 h2 h3 h4 h5 h6 => ?_⟩
  · rcases ind h with ⟨h, eq⟩ | ⟨_, z, _⟩
    · rw [eq]; exact S.val i e h
    · cases z
  · rcases ind h with ⟨h, eq⟩ | ⟨_, z, eq⟩
    · rw [eq]; exact S.own i s e h hd
    · subst z; cases hd; exact ⟨p, eq, gp.1, ow⟩
  · rcases ind h with ⟨h, eq⟩ | ⟨_, z, eq⟩
    · rw [eq] at hb; exact S.ofr i s e b h hd hb
    · rw [eq] at hb; cases hb; exact gp.2
  · rcases ind h with ⟨h, eq⟩ | ⟨_, z, _⟩
    · rw [eq]; exact S.par i e h
    · cases z
  · rcases ind h1 with ⟨k1, eq1⟩ | ⟨k1, z1, eq1⟩
    · rcases ind h3 with ⟨k3, eq3⟩ | ⟨k3, z3, eq3⟩
      · rw [eq1] at h5; rw [eq3] at h6; exact S.dis i j s t e f b hij k1 h2 k3 h4 h5 h6
      · rw [eq1] at h5; rw [eq3] at h6; cases h6; exact fr i s e k1 h2 h5
    · rcases ind h3 with ⟨k3, eq3⟩ | ⟨k3, z3, eq3⟩
      · rw [eq1] at h5; cases h5; rw [eq3] at h6; exact fr j t f k3 h4 h6
      · exact hij (k1.trans k3.symm)
theorem Sim.pop {x : Option V} {s : Sl} (S : Sim K pa F G (σ ++ [x]) H (ρ ++ [s])) : Sim K pa F G σ H ρ := by
  have hl : ρ.length = σ.length := by
    have := S.len
    rw [List.length_append, List.length_append] at this
    simpa using this
  have up : ∀ {i : Nat} {s' : Sl}, ρ[i]? = some s' → (ρ ++ [s])[i]? = some s' ∧ (σ ++ [x])[i]? = σ[i]? := fun {i s'} h => by
    have hi : i < ρ.length := (List.getElem?_eq_some_iff.mp h).1
    exact ⟨by rw [List.getElem?_append_left hi]; exact h, List.getElem?_append_left (by rw [← hl]; exact hi)⟩
  refine ⟨hl, S.ex, S.fx, S.dj, fun i e h => ?_, fun i s e h hd => ?_, fun i s e b h hd hb => ?_, fun i e h => ?_, S.gx, fun i j s t e f b hij h1 h2 h3 h4 h5 h6 => ?_⟩
  · obtain ⟨h, eq⟩ := up h; rw [← eq]; exact S.val i e h
  · obtain ⟨h, eq⟩ := up h; rw [← eq]; exact S.own i s e h hd
  · obtain ⟨h, eq⟩ := up h; rw [← eq] at hb; exact S.ofr i s e b h hd hb
  · obtain ⟨h, eq⟩ := up h; rw [← eq]; exact S.par i e h
  · obtain ⟨h1, eq1⟩ := up h1
    obtain ⟨h3, eq3⟩ := up h3
    rw [← eq1] at h5
    rw [← eq3] at h6
    exact S.dis i j s t e f b hij h1 h2 h3 h4 h5 h6
theorem argsOf_push {s : Sl} : ∀ {ts : List T} {av : List Sl}, argsOf ρ ts = some av → argsOf (ρ ++ [s]) ts = some av
  | [], _, e => e
  | .val d :: ts, av, e => by
    have e : (argsOf ρ ts).map (fun a => .val d :: a) = some av := e
    cases q : argsOf ρ ts with
    | none => rw [q] at e; cases e
    | some a =>
      rw [q] at e
      show (argsOf (ρ ++ [s]) ts).map (fun a => .val d :: a) = some av
      rw [argsOf_push q]; exact e
  | .bor i :: ts, av, e => by
    have e : ((ρ[i]?).bind Sl.ownD).bind (fun d => (argsOf ρ ts).map fun a => .par d :: a) = some av := e
    cases q1 : ρ[i]? with
    | none => rw [q1] at e; cases e
    | some s' =>
      have hi : i < ρ.length := (List.getElem?_eq_some_iff.mp q1).1
      cases q : argsOf ρ ts with
      | none => rw [q1, q] at e; cases h : s'.ownD <;> simp [h] at e
      | some a =>
        show (((ρ ++ [s])[i]?).bind Sl.ownD).bind (fun d => (argsOf (ρ ++ [s]) ts).map fun a => .par d :: a) = some av
        rw [argsOf_push q, List.getElem?_append_left hi, q1]
        rw [q1, q] at e
        exact e
theorem bors_lt {ts : List T} {av : List Sl} : argsOf ρ ts = some av → ∀ i ∈ bors ts, i < ρ.length := by
  induction ts generalizing av with
  | nil => intro _ i h; cases h
  | cons t ts ih =>
    intro e i hi
    cases t with
    | val d =>
      have e : (argsOf ρ ts).map (fun a => .val d :: a) = some av := e
      cases q : argsOf ρ ts with
      | none => rw [q] at e; cases e
      | some a => exact ih q i hi
    | bor j =>
      have e : ((ρ[j]?).bind Sl.ownD).bind (fun d => (argsOf ρ ts).map fun a => .par d :: a) = some av := e
      cases q1 : ρ[j]? with
      | none => rw [q1] at e; cases e
      | some s =>
        rcases List.mem_cons.mp (show i ∈ j :: bors ts from hi) with z | z
        · subst z; exact (List.getElem?_eq_some_iff.mp q1).1
        · cases q : argsOf ρ ts with
          | none => rw [q1, q] at e; cases h : s.ownD <;> simp [h] at e
          | some a => exact ih q i z
theorem setD_app {s : Sl} {i : Nat} {e : D} (h : i < ρ.length) : setD (ρ ++ [s]) i e = setD ρ i e ++ [s] := by
  unfold setD
  rw [List.getElem?_append_left h]
  cases q : ρ[i]? with
  | none => rfl
  | some s' =>
    show (ρ ++ [s]).set i _ = ρ.set i _ ++ [s]
    rw [List.set_append_left _ _ h]
theorem putOuts_app {s : Sl} : ∀ {is : List Nat} {os : List D} {ρ : Ro}, (∀ i ∈ is, i < ρ.length) → putOuts (ρ ++ [s]) is os = putOuts ρ is os ++ [s]
  | [], os, ρ, _ => by unfold putOuts; rfl
  | i :: is, [], ρ, _ => by unfold putOuts; rfl
  | i :: is, o :: os, ρ, h => by
    show putOuts (setD (ρ ++ [s]) i o) is os = putOuts (setD ρ i o) is os ++ [s]
    rw [setD_app (h i List.mem_cons_self), putOuts_app fun j hj => by rw [setD_length]; exact h j (List.mem_cons_of_mem _ hj)]
end
def dMake (C : Addr) (dsp : DSp) (da : DA) : DF := fun ρ q er => da ρ (fun ts ρ1 => Opt (argsOf ρ1 ts) fun av => (bors ts).Nodup ∧ dsp (.par (.ins C []) :: av) (fun d os => match d, os with
    | .non, o :: os => q o (putOuts ρ1 (bors ts) os)
    | _, _ => False) (fun C' fs os => match os with
    | _ :: os => er C' fs (putOuts ρ1 (bors ts) os)
    | _ => False)) er
def tMakeS (C : Addr) (sp : Sp) (E : RSt → XK) (t : TA) : TE := fun σ H Q => t σ H fun vs H1 => ∀ x dx, H1 x = none → H1 dx = none → dx ≠ x →
  sp (.ref x :: vs) (upd (upd H1 dx (.own x)) x (.ins C dx [])) (fun v H2 => v = .non ∧ Q (.ref x) H2) (E σ)
section
variable {K : PySem.W.Frag} {pa : PaG} {W : WX} {ta : TA} {da : DA} {n : Nat} {dsp : DSp} {C : Addr}
theorem make_core {F G : Hp} {σ : RSt} {H : Hp} {ρ : Ro} {vs : List V} {ts : List T} {av : List Sl} {x dx : Addr} {Q : VK} {E : XK} {q : D → List D → Prop} {er : Addr → List (Str × D) → List D → Prop} (S : Sim K pa F G σ H ρ) (r : TkRs K G σ vs ts) (ea : argsOf ρ ts = some av) (nd : (bors ts).Nodup) (hn : vs.length + 1 = n)
    (hx : H x = none) (hdx : H dx = none) (hne : dx ≠ x) (hd : dsp (.par (.ins C []) :: av) q er)
    (k : ∀ G' H' o os, Ex G G' → Sim K pa F G' σ H' (putOuts ρ (bors ts) os) → G' x = none ∧ F x = none → OwnAt K G' H' x o → (∀ (i : Nat) (s : Sl) (d : D), (putOuts ρ (bors ts) os)[i]? = some s → s.ownD = some d → σ[i]? ≠ some (some (.ref x))) → q .non (o :: os) → Q .non H')
    (k' : ∀ (d : D) (os : List D), q d os → (d = .non ∧ os ≠ [])) (ke : ∀ G' H' C y fv fs o os, Ex G G' → Sim K pa F G' σ H' (putOuts ρ (bors ts) os) → G' y = some (.xd fv) → RepF K G' fv fs → er C fs (o :: os) → E (.ref C) (some y) H') (ke' : ∀ C fs os, er C fs os → os ≠ []) :
    SpV K n dsp (.ref x :: vs) (upd (upd H dx (.own x)) x (.ins C dx [])) Q E := by
  have hx1 : (upd H dx (.own x)) x = none := by rw [upd_ne (Ne.symm hne)]; exact hx
  have S1 : Sim K pa F G σ (upd (upd H dx (.own x)) x (.ins C dx [])) ρ := (S.new hdx).new hx1
  have gx : G x = none := fresh_back S.ex hx
  have fx : F x = none := fresh_back S.fx hx
  have fr := fresh_no S hx
  have S2 := S1.push (p := x) (d := .ins C []) ⟨gx, fx⟩ ⟨dx, [], upd_same, .nil⟩ fr
  have lt := bors_lt ea
  have r2 : TkRs K G (σ ++ [some (.ref x)]) (.ref x :: vs) (.bor ρ.length :: ts) := by
    refine .cons (by show (σ ++ [some (V.ref x)])[ρ.length]? = _; rw [S.len, List.getElem?_append_right (Nat.le_refl _), Nat.sub_self]; rfl) ?_
    have go : ∀ {vs : List V} {ts : List T}, TkRs K G σ vs ts → (∀ i ∈ bors ts, i < ρ.length) → TkRs K G (σ ++ [some (.ref x)]) vs ts := by
      intro vs ts
      induction ts generalizing vs with
      | nil => intro r _; cases r; exact .nil
      | cons t ts ih =>
        intro r h
        cases r with
        | cons h1 r =>
          cases t with
          | val d => exact .cons h1 (ih r h)
          | bor i =>
            refine .cons ?_ (ih r fun j hj => h j (List.mem_cons_of_mem _ hj))
            have h1 : σ[i]? = some (some _) := h1
            show (σ ++ [some (V.ref x)])[i]? = _
            rw [List.getElem?_append_left (by rw [← S.len]; exact h i List.mem_cons_self)]
            exact h1
    exact go r lt
  have ea2 : argsOf (ρ ++ [.own (.ins C [])]) (.bor ρ.length :: ts) = some (.par (.ins C []) :: av) := by
    show (((ρ ++ [Sl.own (.ins C [])])[ρ.length]?).bind Sl.ownD).bind (fun d => (argsOf (ρ ++ [Sl.own (.ins C [])]) ts).map fun a => .par d :: a) = _
    rw [List.getElem?_append_right (Nat.le_refl _), Nat.sub_self, argsOf_push ea]
    rfl
  have nd2 : (bors (.bor ρ.length :: ts)).Nodup := List.nodup_cons.mpr ⟨fun h => absurd (lt _ h) (Nat.lt_irrefl _), nd⟩
  have po : ∀ (o : D) (os : List D), putOuts (ρ ++ [.own (.ins C [])]) (bors (.bor ρ.length :: ts)) (o :: os) = putOuts ρ (bors ts) os ++ [.own o] := fun o os => by
    show putOuts (setD (ρ ++ [.own (.ins C [])]) ρ.length o) (bors ts) os = _
    have e : setD (ρ ++ [.own (.ins C [])]) ρ.length o = ρ ++ [.own o] := by
      unfold setD
      rw [List.getElem?_append_right (Nat.le_refl _), Nat.sub_self]
      show (ρ ++ [Sl.own (.ins C [])]).set ρ.length _ = _
      rw [List.set_append_right _ _ (Nat.le_refl _), Nat.sub_self]
      rfl
    rw [e, putOuts_app lt]
  refine call_core S2 r2 ea2 nd2 (by rw [List.length_cons]; exact hn) hd (fun G' H' v d os e S' rv hq => ?_) (fun G' H' C' y fv fs os e S' h1 h2 hq => ?_)
  · obtain ⟨rfl, hos⟩ := k' d os hq
    cases rv
    cases os with
    | nil => exact absurd rfl hos
    | cons o os =>
      rw [po] at S'
      have hl : (putOuts ρ (bors ts) os).length = ρ.length := putOuts_length _ _ _
      have e1 : (putOuts ρ (bors ts) os ++ [Sl.own o])[ρ.length]? = some (.own o) := by rw [← hl, List.getElem?_append_right (Nat.le_refl _), Nat.sub_self]; rfl
      have e2 : (σ ++ [some (V.ref x)])[ρ.length]? = some (some (.ref x)) := by rw [S.len, List.getElem?_append_right (Nat.le_refl _), Nat.sub_self]; rfl
      obtain ⟨b, b1, b2, b3⟩ := S'.own ρ.length _ o e1 rfl
      rw [e2] at b1
      cases b1
      refine k G' H' o os e S'.pop ⟨b2, fx⟩ b3 (fun i s d hs hd' hp => ?_) hq
      have hi : i < ρ.length := by rw [← hl]; exact (List.getElem?_eq_some_iff.mp hs).1
      refine S'.dis i ρ.length s _ d o x (Nat.ne_of_lt hi) (by rw [List.getElem?_append_left (by rw [hl]; exact hi)]; exact hs) hd' e1 rfl (by rw [List.getElem?_append_left (by rw [← S.len]; exact hi)]; exact hp) e2
  · cases os with
    | nil => exact absurd rfl (ke' _ _ _ hq)
    | cons o os =>
      rw [po] at S'
      exact ke G' H' C' y fv fs o os e S'.pop h1 h2 hq
theorem sf_makeS (ha : SA K pa W ta da) : SF K pa W (tMakeS C (SpV K (n + 1) dsp) (WE W) ta) (dMake C dsp (dN n da)) := fun F G σ H ρ Q q er S h k x =>
  ha F G σ H ρ _ _ er S h (fun G1 H1 vs ts ρ1 e1 S1 r1 h1 => by
    obtain ⟨hl, av, ea, nd, hd⟩ := h1
    intro x' dx hx hdx hne
    refine make_core S1 r1 ea nd (by rw [r1.length, hl]) hx hdx hne hd (fun G' H' o os e S' gp ow fr hq => ⟨rfl, k G' H' x' o _ (e1.trans e) S' gp ow fr hq⟩) (fun d os hq => ?_) (fun G' H' C' y fv fs o os e S' h1 h2 hq => x G' H' _ C' y fv fs (e1.trans e) S' hq h1 h2) (fun C' fs os hq => ?_)
    · cases os with
      | nil => cases d <;> exact hq.elim
      | cons o os => cases d <;> first | exact ⟨rfl, by simp⟩ | exact hq.elim
    · cases os with
      | nil => exact hq.elim
      | cons o os => simp) x
theorem sf_make (ha : SA K pa W ta da) : SF K pa W (tMake C (SpV K (n + 1) dsp) [] L2.E0 ta) (dMake C (noEr dsp) (dN n da)) := fun F G σ H ρ Q q er S h k x =>
  ha F G σ H ρ _ _ er S h (fun G1 H1 vs ts ρ1 e1 S1 r1 h1 => by
    obtain ⟨hl, av, ea, nd, hd⟩ := h1
    intro x' dx hx hdx hne
    rw [List.append_nil]
    refine make_core S1 r1 ea nd (by rw [r1.length, hl]) hx hdx hne hd (fun G' H' o os e S' gp ow fr hq => ⟨rfl, k G' H' x' o _ (e1.trans e) S' gp ow fr hq⟩) (fun d os hq => ?_) (fun G' H' C' y fv fs o os e S' h1 h2 hq => hq.elim) (fun C' fs os hq => hq.elim)
    cases os with
    | nil => cases d <;> exact hq.elim
    | cons o os => cases d <;> first | exact ⟨rfl, by simp⟩ | exact hq.elim) x
end
/-! o.m(..) -/
def D.noF (m : Str) (C : Addr) : D → Bool
  | .ins C' es => C' == C && (es.lookup m).isNone
  | _ => false
def dMeth (C : Addr) (m : Str) (dsp : DSp) (de : DE) (da : DA) : DE := fun ρ q er => de ρ (fun t ρ1 => Opt (rd ρ1 t) fun d => d.noF m C = true ∧ da ρ1 (fun ts ρ2 => Opt (argsOf ρ2 (t :: ts)) fun av => (bors (t :: ts)).Nodup ∧ dsp av (fun d os => q (.val d) (putOuts ρ2 (bors (t :: ts)) os)) (fun C' fs os => er C' fs (putOuts ρ2 (bors (t :: ts)) os))) er) er
def tMethS (C : Addr) (m : Str) (sp : Sp) (E : RSt → XK) (ta : TE) (t : TA) : TE := fun σ H Q => ta σ H fun x H1 => ∃ a dx fs, x = .ref a ∧ H1 a = some (.ins C dx fs) ∧ fs.lookup m = none ∧
  t σ H1 fun vs H2 => sp (x :: vs) H2 Q (E σ)
section
variable {K : PySem.W.Frag} {pa : PaG} {W : WX} {ta : TA} {te : TE} {de : DE} {da : DA} {n : Nat} {dsp : DSp} {C : Addr} {m : Str}
theorem RepF.lookup_none {G : Hp} {f : Str} : ∀ {vs : List (Str × V)} {ds : List (Str × D)}, RepF K G vs ds → ds.lookup f = none → vs.lookup f = none
  | _, _, .nil, _ => rfl
  | _, _, .cons (k := k) (v := v) (d := d) (vs := vs) (ds := ds) r rr, h => by
    rw [List.lookup_cons] at h ⊢
    cases hk : (f == k) with
    | true => rw [hk] at h; cases h
    | false => rw [hk] at h; exact RepF.lookup_none rr h
theorem noF_of {G H : Hp} {v : V} {d : D} (e : Ex G H) (r : RepT K G H v d) (h : d.noF m C = true) : ∃ a dx fs, v = .ref a ∧ H a = some (.ins C dx fs) ∧ fs.lookup m = none := by
  cases d with
  | ins C' es =>
    have h : (C' == C && (es.lookup m).isNone) = true := h
    rw [Bool.and_eq_true] at h
    obtain ⟨p, dx, vs, rfl, hp, rr⟩ := r.ins e
    have ec : C' = C := by simpa using h.1
    subst ec
    exact ⟨p, dx, vs, rfl, hp, rr.lookup_none (by simpa using h.2)⟩
  | _ => cases h
theorem se_methS (he : SE K pa W te de) (ha : SA K pa W ta da) : SE K pa W (tMethS C m (SpV K (n + 1) dsp) (WE W) te ta) (dMeth C m dsp de (dN n da)) := fun F G σ H ρ Q q er S h k x =>
  he F G σ H ρ _ _ er S h (fun G0 H0 v t ρ0 e0 S0 r0 h0 => by
    obtain ⟨d, ed, hf, h0⟩ := h0
    obtain ⟨a, dx, fs, rfl, ha1, hl1⟩ := noF_of S0.ex (S0.rdT r0 ed) hf
    refine ⟨a, dx, fs, rfl, ha1, hl1, ?_⟩
    exact ha F G0 σ H0 ρ0 _ _ er S0 h0 (fun G1 H1 vs ts ρ1 e1 S1 r1 h1 => by
      obtain ⟨hl, av, ea, nd, hd⟩ := h1
      exact call_core S1 (.cons (r0.mono e1) r1) ea nd (by rw [List.length_cons, r1.length, hl]) hd (fun G' H' v d os e S' rv hq => k G' H' v (.val d) _ ((e0.trans e1).trans e) S' rv hq) (fun G' H' C y fv fs os e S' h1 h2 hq => x G' H' _ C y fv fs ((e0.trans e1).trans e) S' hq h1 h2)) (x.grow e0)) x
theorem se_meth (he : SE K pa W te de) (ha : SA K pa W ta da) : SE K pa W (tMeth C m (SpV K (n + 1) dsp) [] L2.E0 te ta) (dMeth C m (noEr dsp) de (dN n da)) := fun F G σ H ρ Q q er S h k x =>
  he F G σ H ρ _ _ er S h (fun G0 H0 v t ρ0 e0 S0 r0 h0 => by
    obtain ⟨d, ed, hf, h0⟩ := h0
    obtain ⟨a, dx, fs, rfl, ha1, hl1⟩ := noF_of S0.ex (S0.rdT r0 ed) hf
    refine ⟨a, dx, fs, rfl, ha1, hl1, ?_⟩
    exact ha F G0 σ H0 ρ0 _ _ er S0 h0 (fun G1 H1 vs ts ρ1 e1 S1 r1 h1 => by
      obtain ⟨hl, av, ea, nd, hd⟩ := h1
      rw [List.append_nil]
      exact call_core S1 (.cons (r0.mono e1) r1) ea nd (by rw [List.length_cons, r1.length, hl]) hd (fun G' H' v d os e S' rv hq => k G' H' v (.val d) _ ((e0.trans e1).trans e) S' rv hq) (fun G' H' C y fv fs os e S' h1 h2 hq => hq.elim)) (x.grow e0)) x
end
end DL
set_option autoImplicit false
set_option Elab.async false
set_option linter.all false
set_option maxRecDepth 100000
namespace DL
open PySem L2 Evl

/-! ### == -/
mutual
def D.toP : D → Option PyData
  | .non => some .none
  | .bl b => some (.bool b)
  | .int i => some (.int i)
  | .str x => some (.str x)
  | .lst xs => (D.toPs xs).map .list
  | .tup xs => (D.toPs xs).map .tuple
  | .byt _ => none
  | .dct _ => none
  | .ins _ _ => none
  | .ptr _ => none
  | .ty _ => none
  | .exc _ _ => none
def D.toPs : List D → Option (List PyData)
  | [] => some []
  | d :: ds => (D.toP d).bind fun p => (D.toPs ds).map fun ps => p :: ps
end
def D.eqB (a b : D) : Option Bool := a.toP.bind fun p => b.toP.bind fun q => if SeqAt.shaped p = true ∧ SeqAt.shaped q = true then some (PyData.eqv p q) else none
def D.eq (a b : D) : Option D := (D.eqB a b).map .bl
def D.ne (a b : D) : Option D := (D.eqB a b).map fun c => .bl (!c)
section
variable {K : PySem.W.Frag} {X : Cx}
mutual
theorem rep_dp {G H : Hp} (e : Ex G H) : ∀ {d : D} {v : V} {p : PyData}, Rep K G v d → d.toP = some p → Dp K H v p
  | .non, _, _, .non, h => by cases h; exact .non
  | .bl _, _, _, .bl _, h => by cases h; exact .bl _
  | .int _, _, _, .int _, h => by cases h; exact .int _
  | .str _, _, _, .str _, h => by cases h; exact .str _
  | .lst xs, _, p, .lst hr rr, h => by
    have h : (D.toPs xs).map PyData.list = some p := by rw [← h, D.toP]
    cases q : D.toPs xs with
    | none => rw [q] at h; cases h
    | some ps => rw [q] at h; cases h; exact .lst (ex_l e hr) (reps_dp e rr q)
  | .tup xs, _, p, .tup hr rr, h => by
    have h : (D.toPs xs).map PyData.tuple = some p := by rw [← h, D.toP]
    cases q : D.toPs xs with
    | none => rw [q] at h; cases h
    | some ps => rw [q] at h; cases h; exact .tup (ex_t e hr) (reps_dp e rr q)
  | .byt _, _, _, _, h => by rw [D.toP] at h; cases h
  | .dct _, _, _, _, h => by rw [D.toP] at h; cases h
  | .ins _ _, _, _, _, h => by rw [D.toP] at h; cases h
  | .ptr _, _, _, _, h => by rw [D.toP] at h; cases h
  | .ty _, _, _, _, h => by rw [D.toP] at h; cases h
  | .exc _ _, _, _, _, h => by rw [D.toP] at h; cases h
theorem reps_dp {G H : Hp} (e : Ex G H) : ∀ {ds : List D} {vs : List V} {ps : List PyData}, Reps K G vs ds → D.toPs ds = some ps → DpAll K H vs ps
  | [], _, _, .nil, h => by rw [D.toPs] at h; cases h; exact .nil
  | d :: ds, _, ps, .cons r rr, h => by
    rw [D.toPs] at h
    cases q : D.toP d with
    | none => rw [q] at h; cases h
    | some p =>
      rw [q] at h
      cases q2 : D.toPs ds with
      | none => rw [q2] at h; cases h
      | some ps => rw [q2] at h; cases h; exact .cons (rep_dp e r q) (reps_dp e rr q2)
end
theorem repT_dp {G H : Hp} {d : D} {v : V} {p : PyData} (e : Ex G H) (r : RepT K G H v d) (h : d.toP = some p) : Dp K H v p := by
  rcases r with r | ⟨b, rfl, _, r⟩
  · exact rep_dp e r h
  · cases d with
    | lst xs =>
      obtain ⟨vs, h1, rr⟩ := r
      rw [D.toP] at h
      cases q : D.toPs xs with
      | none => rw [q] at h; cases h
      | some ps => rw [q] at h; cases h; exact .lst (SqL.of h1) (reps_dp e rr q)
    | dct _ => rw [D.toP] at h; cases h
    | ins _ _ => rw [D.toP] at h; cases h
    | _ => exact r.elim
theorem eqB_some {a b : D} {c : Bool} (h : D.eqB a b = some c) : ∃ p q, a.toP = some p ∧ b.toP = some q ∧ SeqAt.shaped p = true ∧ SeqAt.shaped q = true ∧ c = PyData.eqv p q := by
  unfold D.eqB at h
  cases q1 : a.toP with
  | none => rw [q1] at h; cases h
  | some p =>
    cases q2 : b.toP with
    | none => rw [q1, q2] at h; cases h
    | some q =>
      rw [q1, q2] at h
      have h : (if SeqAt.shaped p = true ∧ SeqAt.shaped q = true then some (PyData.eqv p q) else none) = some c := h
      split at h
      · rename_i hs; cases h; exact ⟨p, q, rfl, rfl, hs.1, hs.2, rfl⟩
      · cases h
theorem sr_eq : SR K (rEqD K) D.eq := fun G H x y dx dy z Q e rx ry q k => by
  unfold D.eq at q
  cases qc : D.eqB dx dy with
  | none => rw [qc] at q; cases q
  | some c =>
    rw [qc] at q
    cases q
    obtain ⟨p1, p2, h1, h2, s1, s2, rfl⟩ := eqB_some qc
    exact ⟨p1, p2, repT_dp e rx h1, repT_dp e ry h2, s1, s2, k G H _ (Al.refl e) (.bl _)⟩
theorem sr_ne : SR K (rNeD K) D.ne := fun G H x y dx dy z Q e rx ry q k => by
  unfold D.ne at q
  cases qc : D.eqB dx dy with
  | none => rw [qc] at q; cases q
  | some c =>
    rw [qc] at q
    cases q
    obtain ⟨p1, p2, h1, h2, s1, s2, rfl⟩ := eqB_some qc
    exact ⟨p1, p2, repT_dp e rx h1, repT_dp e ry h2, s1, s2, k G H _ (Al.refl e) (.bl _)⟩
end

/-! ### in -/
def D.inStr : D → D → Option Bool
  | .str x, .str y => some (!(Builtin.Str.occurrences y x 0 y.length 1).isEmpty)
  | _, _ => none
def D.inLst : D → D → Option Bool
  | d, .lst ds => d.toP.bind fun p => (D.toPs ds).bind fun ps => if SeqAt.shaped p = true ∧ SeqAt.shaped (.list ps) = true then some (ps.any fun z => PyData.eqv z p) else none
  | _, _ => none
def D.flat : D → Option V
  | .non => some .non
  | .bl b => some (.bl b)
  | .int i => some (.int i)
  | .str x => some (.str x)
  | _ => none
def D.flats : List D → Option (List V)
  | [] => some []
  | d :: ds => d.flat.bind fun v => (D.flats ds).map fun vs => v :: vs
def D.inTup : D → D → Option Bool
  | d, .tup ds => d.flat.bind fun v => (D.flats ds).bind fun vs => if flatV v = true ∧ vs.all flatV = true then some (inV v vs) else none
  | _, _ => none
def D.isIn (a b : D) : Option D := ((D.inStr a b).or ((D.inLst a b).or (D.inTup a b))).map .bl
def D.notIn (a b : D) : Option D := ((D.inStr a b).or ((D.inLst a b).or (D.inTup a b))).map fun c => .bl (!c)
section
variable {K : PySem.W.Frag} {X : Cx}
def rInS : R2 := fun x y H Q => ∃ i j, x = .str i ∧ y = .str j ∧ Q (.bl (!(Builtin.Str.occurrences j i 0 j.length 1).isEmpty)) H
def rNotInS : R2 := fun x y H Q => ∃ i j, x = .str i ∧ y = .str j ∧ Q (.bl (!(!(Builtin.Str.occurrences j i 0 j.length 1).isEmpty))) H
def rInX (K : PySem.W.Frag) : R2 := fun x y H Q => rInS x y H Q ∨ rInD K x y H Q ∨ rIn K false x y H Q
def rNotInX (K : PySem.W.Frag) : R2 := fun x y H Q => rNotInS x y H Q ∨ rNotInD K x y H Q ∨ rIn K true x y H Q
theorem op_inX (hu : X.A.units + 65 < cLine) : OpR X (compareOp .In) (rInX X.K) := OpR.or (r := rInS) op_in_str (OpR.or (op_inD hu) op_in_seq)
theorem op_notInX (hu : X.A.units + 65 < cLine) : OpR X (compareOp .NotIn) (rNotInX X.K) := OpR.or (r := rNotInS) op_notin_str (OpR.or (op_notInD hu) op_notIn_seq)
theorem flat_of {G H : Hp} {d : D} {v w : V} (r : RepT K G H v d) (h : d.flat = some w) : v = w := by
  rcases r with r | ⟨b, rfl, _, r⟩
  · cases r <;> first | (cases h; rfl) | cases h
  · cases d <;> first | exact r.elim | cases h
theorem flats_of {G : Hp} : ∀ {ds : List D} {vs ws : List V}, Reps K G vs ds → D.flats ds = some ws → vs = ws
  | [], _, _, .nil, h => by cases h; rfl
  | d :: ds, _, ws, .cons r rr, h => by
    have h : d.flat.bind (fun v => (D.flats ds).map fun vs => v :: vs) = some ws := h
    cases q : d.flat with
    | none => rw [q] at h; cases h
    | some v =>
      cases q2 : D.flats ds with
      | none => rw [q, q2] at h; cases h
      | some vs =>
        rw [q, q2] at h
        cases h
        rw [flat_of (H := G) (.inl r) q, flats_of rr q2]
theorem or_cases {α : Type} {a b : Option α} {c : α} (h : a.or b = some c) : a = some c ∨ b = some c := by
  cases a with
  | some x => exact .inl h
  | none => exact .inr h
theorem in_split {a b : D} {c : Bool} (h : ((D.inStr a b).or ((D.inLst a b).or (D.inTup a b))) = some c) : D.inStr a b = some c ∨ D.inLst a b = some c ∨ D.inTup a b = some c := by
  rcases or_cases h with h | h
  · exact .inl h
  · exact .inr (or_cases h)
theorem inLst_some {a b : D} {c : Bool} (h : D.inLst a b = some c) : ∃ ds p ps, b = .lst ds ∧ a.toP = some p ∧ D.toPs ds = some ps ∧ SeqAt.shaped p = true ∧ SeqAt.shaped (.list ps) = true ∧ c = ps.any fun z => PyData.eqv z p := by
  cases b with
  | lst ds =>
    have h : (a.toP.bind fun p => (D.toPs ds).bind fun ps => if SeqAt.shaped p = true ∧ SeqAt.shaped (.list ps) = true then some (ps.any fun z => PyData.eqv z p) else none) = some c := by
      cases a <;> exact h
    cases q1 : a.toP with
    | none => rw [q1] at h; cases h
    | some p =>
      cases q2 : D.toPs ds with
      | none => rw [q1, q2] at h; cases h
      | some ps =>
        rw [q1, q2] at h
        have h : (if SeqAt.shaped p = true ∧ SeqAt.shaped (.list ps) = true then some (ps.any fun z => PyData.eqv z p) else none) = some c := h
        split at h
        · rename_i hs; cases h; exact ⟨ds, p, ps, rfl, rfl, q2, hs.1, hs.2, rfl⟩
        · cases h
  | _ => cases a <;> cases h
theorem inTup_some {a b : D} {c : Bool} (h : D.inTup a b = some c) : ∃ ds v vs, b = .tup ds ∧ a.flat = some v ∧ D.flats ds = some vs ∧ flatV v = true ∧ vs.all flatV = true ∧ c = inV v vs := by
  cases b with
  | tup ds =>
    have h : (a.flat.bind fun v => (D.flats ds).bind fun vs => if flatV v = true ∧ vs.all flatV = true then some (inV v vs) else none) = some c := by
      cases a <;> exact h
    cases q1 : a.flat with
    | none => rw [q1] at h; cases h
    | some v =>
      cases q2 : D.flats ds with
      | none => rw [q1, q2] at h; cases h
      | some vs =>
        rw [q1, q2] at h
        have h : (if flatV v = true ∧ vs.all flatV = true then some (inV v vs) else none) = some c := h
        split at h
        · rename_i hs; cases h; exact ⟨ds, v, vs, rfl, rfl, q2, hs.1, hs.2, rfl⟩
        · cases h
  | _ => cases a <;> cases h
theorem inStr_some {a b : D} {c : Bool} (h : D.inStr a b = some c) : ∃ x y, a = .str x ∧ b = .str y ∧ c = (!(Builtin.Str.occurrences y x 0 y.length 1).isEmpty) := by
  cases a with
  | str x => cases b with
    | str y => cases h; exact ⟨x, y, rfl, rfl, rfl⟩
    | _ => cases h
  | _ => cases h
theorem lst_dp {G H : Hp} {ds : List D} {v : V} {ps : List PyData} (e : Ex G H) (r : RepT K G H v (.lst ds)) (h : D.toPs ds = some ps) : Dp K H v (.list ps) := repT_dp e r (by rw [D.toP, h]; rfl)
theorem sr_in : SR K (rInX K) D.isIn := fun G H x y dx dy z Q e rx ry q k => by
  unfold D.isIn at q
  cases qc : ((D.inStr dx dy).or ((D.inLst dx dy).or (D.inTup dx dy))) with
  | none => rw [qc] at q; cases q
  | some c =>
    rw [qc] at q
    cases q
    rcases in_split qc with h | h | h
    · obtain ⟨a, b, rfl, rfl, rfl⟩ := inStr_some h
      rw [rx.str, ry.str]
      exact .inl ⟨_, _, rfl, rfl, k G H _ (Al.refl e) (.bl _)⟩
    · obtain ⟨ds, p, ps, rfl, h1, h2, s1, s2, rfl⟩ := inLst_some h
      exact .inr (.inl ⟨p, ps, repT_dp e rx h1, lst_dp e ry h2, s1, s2, k G H _ (Al.refl e) (.bl _)⟩)
    · obtain ⟨ds, v, vs, rfl, h1, h2, s1, s2, rfl⟩ := inTup_some h
      obtain ⟨p, ws, rfl, hs, rr⟩ := ry.tup e
      have e1 := flat_of rx h1
      have e2 := flats_of rr h2
      subst e1 e2
      exact .inr (.inr ⟨p, _, rfl, .inr hs, s1, s2, k G H _ (Al.refl e) (.bl _)⟩)
theorem sr_notIn : SR K (rNotInX K) D.notIn := fun G H x y dx dy z Q e rx ry q k => by
  unfold D.notIn at q
  cases qc : ((D.inStr dx dy).or ((D.inLst dx dy).or (D.inTup dx dy))) with
  | none => rw [qc] at q; cases q
  | some c =>
    rw [qc] at q
    cases q
    rcases in_split qc with h | h | h
    · obtain ⟨a, b, rfl, rfl, rfl⟩ := inStr_some h
      rw [rx.str, ry.str]
      exact .inl ⟨_, _, rfl, rfl, k G H _ (Al.refl e) (.bl _)⟩
    · obtain ⟨ds, p, ps, rfl, h1, h2, s1, s2, rfl⟩ := inLst_some h
      exact .inr (.inl ⟨p, ps, repT_dp e rx h1, lst_dp e ry h2, s1, s2, k G H _ (Al.refl e) (.bl _)⟩)
    · obtain ⟨ds, v, vs, rfl, h1, h2, s1, s2, rfl⟩ := inTup_some h
      obtain ⟨p, ws, rfl, hs, rr⟩ := ry.tup e
      have e1 := flat_of rx h1
      have e2 := flats_of rr h2
      subst e1 e2
      exact .inr (.inr ⟨p, _, rfl, .inr hs, s1, s2, k G H _ (Al.refl e) (.bl _)⟩)
end

/-! ### slices -/
def dCut (xs : List D) (lo hi : Option Int) : List D := (xs.drop (HT.sIx xs.length 0 lo)).take (HT.sIx xs.length xs.length hi - HT.sIx xs.length 0 lo)
def D.cut : D → Option Int → Option Int → Option D
  | .lst xs, lo, hi => some (.lst (dCut xs lo hi))
  | .tup xs, lo, hi => some (.tup (dCut xs lo hi))
  | .str z, lo, hi => if z.length ≤ sizeLine then some (.str (cutS z lo hi)) else none
  | _, _, _ => none
abbrev DO := Ro → (Option Int → Ro → Prop) → ER → Prop
def dNoP : DO := fun ρ q _ => q none ρ
def dPart (de : DE) : DO := fun ρ q er => de ρ (fun t ρ1 => Opt (rd ρ1 t) fun d => match d with
  | .int i => q (some i) ρ1
  | _ => False) er
def dSl (de : DE) (dl dh : DO) : DE := fun ρ q er => de ρ (fun t ρ1 => dl ρ1 (fun l ρ2 => dh ρ2 (fun u ρ3 => Opt (rd ρ3 t) fun d => Opt (d.cut l u) fun z => q (.val z) ρ3) er) er) er
def SO (K : PySem.W.Frag) (pa : PaG) (W : WX) (to : TO) (d : DO) : Prop := ∀ (F G : Hp) (σ : RSt) (H : Hp) (ρ : Ro) (Q : Option Int → Hp → Prop) (q : Option Int → Ro → Prop) (er : ER), Sim K pa F G σ H ρ → d ρ q er →
  (∀ G' H' o ρ', Ex G G' → Sim K pa F G' σ H' ρ' → q o ρ' → Q o H') → XL K pa F G W σ er → to σ H Q
def rSlX (K : PySem.W.Frag) : V → Option Int → Option Int → Hp → VK → Prop := fun x lo hi H Q => rSlL K x lo hi H Q ∨ rSlA K x lo hi H Q ∨ rSlS x lo hi H Q
section
variable {K : PySem.W.Frag} {pa : PaG} {W : WX} {te : TE} {de : DE} {tl th : TO} {dl dh : DO} {X : Cx}
theorem sl_any : SlR X (rSlX X.K) := SlR.or sl_list (SlR.or sl_tupA sl_str)
theorem so_none : SO K pa W tNoPart dNoP := fun F G σ H ρ Q q er S h k x => k G H none ρ (Ex.refl G) S h
theorem so_some (he : SE K pa W te de) : SO K pa W (tPart te) (dPart de) := fun F G σ H ρ Q q er S h k x =>
  he F G σ H ρ _ _ er S h (fun G1 H1 v t ρ1 e1 S1 r1 h1 => by
    obtain ⟨d, ed, h2⟩ := h1
    cases d with
    | int i => rw [(S1.rdT r1 ed).int]; exact ⟨i, rfl, k G1 H1 (some i) ρ1 e1 S1 h2⟩
    | _ => exact h2.elim) x
theorem reps_cut {G : Hp} {vs : List V} {ds : List D} (r : Reps K G vs ds) (lo hi : Option Int) : Reps K G (cutV vs lo hi) (dCut ds lo hi) := by
  unfold cutV dCut
  rw [r.length]
  exact (r.drop _).take _
theorem se_sl (he : SE K pa W te de) (hl : SO K pa W tl dl) (hh : SO K pa W th dh) : SE K pa W (tSl (rSlX K) te tl th) (dSl de dl dh) := fun F G σ H ρ Q q er S h k x =>
  he F G σ H ρ _ _ er S h (fun G1 H1 v t ρ1 e1 S1 r1 h1 => hl F G1 σ H1 ρ1 _ _ er S1 h1 (fun G2 H2 lo ρ2 e2 S2 h2 => hh F G2 σ H2 ρ2 _ _ er S2 h2 (fun G3 H3 hi ρ3 e3 S3 h3 => by
    obtain ⟨d, ed, z, ez, h4⟩ := h3
    have r := S3.rdT ((r1.mono e2).mono e3) ed
    have eG := (e1.trans e2).trans e3
    cases d with
    | lst ds =>
      cases ez
      obtain ⟨p, vs, rfl, hs, rr⟩ := r.lst S3.ex
      refine .inl ⟨p, vs, rfl, hs, fun b hb => ?_⟩
      have a := Al.one (G := G3) (p := b) (o := .lst (cutV vs lo hi)) S3.ex hb
      exact k _ _ _ (.val _) ρ3 (eG.trans a.g) (S3.al a) (.lst (SqL.of upd_same) ((reps_cut rr lo hi).mono a.g)) h4
    | tup ds =>
      cases ez
      have g := r.tupR
      obtain ⟨p, vs, rfl, hs, rr⟩ := r.tup S3.ex
      refine .inr (.inl ⟨p, vs, rfl, hs, fun hw => ?_, fun _ b hb => ?_⟩)
      · have ec : dCut ds lo hi = ds := by
          unfold dCut
          rw [← rr.length, hw.1, hw.2, List.drop_zero, Nat.sub_zero, rr.length, List.take_length]
        rw [ec] at h4
        exact k G3 H3 _ (.val _) ρ3 eG S3 g h4
      · have a := Al.one (G := G3) (p := b) (o := .tup (cutV vs lo hi)) S3.ex hb
        exact k _ _ _ (.val _) ρ3 (eG.trans a.g) (S3.al a) (.tup (SqT.of upd_same) ((reps_cut rr lo hi).mono a.g)) h4
    | str y =>
      have ez : (if y.length ≤ sizeLine then some (D.str (cutS y lo hi)) else none) = some z := ez
      split at ez
      · rename_i hy
        cases ez
        rw [r.str]
        exact .inr (.inr ⟨y, rfl, hy, k G3 H3 _ (.val _) ρ3 eG S3 (.str _) h4⟩)
      · cases ez
    | _ => cases ez) (x.grow (e1.trans e2))) (x.grow e1)) x
end

/-! ### dicts with numbers and texts as keys -/
def D.key : D → Option Key
  | .int i => some (.inl i)
  | .str x => some (.inr x)
  | _ => none
def valD (kvs : List (Key × D)) (k : Key) : Option D := (kvs.find? fun kv => decide (kv.1 = k)).map (·.2)
def putKD (kvs : List (Key × D)) (k : Key) (v : D) : List (Key × D) :=
  if (kvs.find? fun kv => decide (kv.1 = k)).isSome then kvs.map fun kv => if kv.1 = k then (kv.1, v) else kv else kvs ++ [(k, v)]
def dDNew : DF := fun ρ q _ => q (.dct []) ρ
def dDGet (dd dk : DE) : DE := fun ρ q er => dd ρ (fun s ρ1 => dk ρ1 (fun t ρ2 => Opt (rd ρ2 s) fun d => Opt (rd ρ2 t) fun e => Opt e.key fun k => match d with
  | .dct kvs => Opt (valD kvs k) fun z => q (.val z) ρ2
  | _ => False) er) er
def dDIn (neg : Bool) (dk dd : DE) : DE := fun ρ q er => dk ρ (fun t ρ1 => dd ρ1 (fun s ρ2 => Opt (rd ρ2 s) fun d => Opt (rd ρ2 t) fun e => Opt e.key fun k => match d with
  | .dct kvs => q (.val (.bl (if neg then !(valD kvs k).isSome else (valD kvs k).isSome))) ρ2
  | _ => False) er) er
/-- d[k] = e -/
def dDPut (i : Nat) (dk de : DE) : DS := fun DD ρ => de ρ (fun t ρ1 => match t with
  | .val e => (ownAt ρ1 i).isSome = true ∧ dk ρ1 (fun u ρ2 => Opt (rd ρ2 u) fun kd => Opt kd.key fun k => Opt (ownAt ρ2 i) fun d => (match d with
    | .dct kvs => kvs.length < sizeLine ∧ DD.nx (setD ρ2 i (.dct (putKD kvs k e)))
    | _ => False)) DD.er
  | .bor _ => False) DD.er
section
variable {K : PySem.W.Frag} {pa : PaG} {W : WX} {te td tk : TE} {de dd dk : DE}
theorem key_of {G H : Hp} {v : V} {d : D} {k : Key} (r : RepT K G H v d) (h : d.key = some k) : v = kV k := by
  cases d with
  | int i => cases h; exact r.int
  | str x => cases h; exact r.str
  | _ => cases h
theorem RepK.find {G : Hp} {k : Key} : ∀ {vs : List (Key × V)} {ds : List (Key × D)}, RepK K G vs ds → (∀ z, valD ds k = some z → ∃ v, valV vs k = some v ∧ Rep K G v z) ∧ (valD ds k).isSome = (valV vs k).isSome
  | _, _, .nil => ⟨(fun z h => by cases h), rfl⟩
  | _, _, .cons (k := k') (v := v) (d := d) (vs := vs) (ds := ds) r rr => by
    obtain ⟨h1, h2⟩ := RepK.find (k := k) rr
    unfold valD valV at *
    by_cases e : k' = k
    · rw [List.find?_cons_of_pos (by simpa using e), List.find?_cons_of_pos (by simpa using e)]
      exact ⟨fun z hz => by cases hz; exact ⟨v, rfl, r⟩, rfl⟩
    · rw [List.find?_cons_of_neg (by simpa using e), List.find?_cons_of_neg (by simpa using e)]
      exact ⟨h1, h2⟩
theorem RepK.length {G : Hp} : ∀ {vs : List (Key × V)} {ds : List (Key × D)}, RepK K G vs ds → vs.length = ds.length
  | _, _, .nil => rfl
  | _, _, .cons _ r => by rw [List.length_cons, List.length_cons, r.length]
theorem RepK.app {G : Hp} : ∀ {vs ws : List (Key × V)} {ds es : List (Key × D)}, RepK K G vs ds → RepK K G ws es → RepK K G (vs ++ ws) (ds ++ es)
  | _, _, _, _, .nil, s => s
  | _, _, _, _, .cons r t, s => .cons r (RepK.app t s)
theorem RepK.mapPut {G : Hp} {k : Key} {v : V} {d : D} (r : Rep K G v d) : ∀ {vs : List (Key × V)} {ds : List (Key × D)}, RepK K G vs ds → RepK K G (vs.map fun kv => if kv.1 = k then (kv.1, v) else kv) (ds.map fun kv => if kv.1 = k then (kv.1, d) else kv)
  | _, _, .nil => .nil
  | _, _, .cons (k := k') h rr => by
    rw [List.map_cons, List.map_cons]
    by_cases e : k' = k
    · rw [if_pos e, if_pos e]; exact .cons r (RepK.mapPut r rr)
    · rw [if_neg e, if_neg e]; exact .cons h (RepK.mapPut r rr)
theorem RepK.put {G : Hp} {k : Key} {v : V} {d : D} (r : Rep K G v d) {vs : List (Key × V)} {ds : List (Key × D)} (h : RepK K G vs ds) : RepK K G (putK vs k v) (putKD ds k d) := by
  have e := (h.find (k := k)).2
  have e2 := valV_any k vs
  have e3 : (ds.find? fun kv => decide (kv.1 = k)).isSome = (valD ds k).isSome := by unfold valD; rw [Option.isSome_map]
  unfold putKD putK
  rw [e2, ← e, e3]
  split
  · exact RepK.mapPut r h
  · exact h.app (.cons r .nil)
theorem sf_dnew : SF K pa W tDNewK dDNew := fun F G σ H ρ Q q er S h k x => fun p hp =>
  k G _ p (.dct []) ρ (Ex.refl G) (S.new hp) ⟨fresh_back S.ex hp, fresh_back S.fx hp⟩ ⟨[], upd_same, .nil⟩ (fresh_no S hp) h
theorem se_dget (hd : SE K pa W td dd) (hk : SE K pa W tk dk) : SE K pa W (tDGet td tk) (dDGet dd dk) := fun F G σ H ρ Q q er S h k x =>
  hd F G σ H ρ _ _ er S h (fun G1 H1 v s ρ1 e1 S1 r1 h1 => hk F G1 σ H1 ρ1 _ _ er S1 h1 (fun G2 H2 w t ρ2 e2 S2 r2 h2 => by
    obtain ⟨d, ed, e, ee, kk, ek, h3⟩ := h2
    have rk := key_of (S2.rdT r2 ee) ek
    subst rk
    cases d with
    | dct kvs =>
      obtain ⟨z, ez, h4⟩ := h3
      obtain ⟨p, vs, rfl, hp, rr⟩ := (S2.rdT (r1.mono e2) ed).dct S2.ex
      obtain ⟨v', hv', rv'⟩ := rr.find.1 z ez
      refine ⟨p, v', rfl, ?_, k G2 H2 v' (.val z) ρ2 (e1.trans e2) S2 rv' h4⟩
      rw [← hv']
      exact DGet.k hp
    | _ => exact h3.elim) (x.grow e1)) x
theorem se_din (hk : SE K pa W tk dk) (hd : SE K pa W td dd) : SE K pa W (tDIn tk td) (dDIn false dk dd) := fun F G σ H ρ Q q er S h k x =>
  hk F G σ H ρ _ _ er S h (fun G1 H1 v t ρ1 e1 S1 r1 h1 => hd F G1 σ H1 ρ1 _ _ er S1 h1 (fun G2 H2 w s ρ2 e2 S2 r2 h2 => by
    obtain ⟨d, ed, e, ee, kk, ek, h3⟩ := h2
    have rk := key_of (S2.rdT (r1.mono e2) ee) ek
    subst rk
    cases d with
    | dct kvs =>
      obtain ⟨p, vs, rfl, hp, rr⟩ := (S2.rdT r2 ed).dct S2.ex
      refine ⟨p, valV vs kk, rfl, DGet.k hp, ?_⟩
      rw [← rr.find.2]
      exact k G2 H2 _ (.val _) ρ2 (e1.trans e2) S2 (.bl _) h3
    | _ => exact h3.elim) (x.grow e1)) x
theorem se_dnotin (hk : SE K pa W tk dk) (hd : SE K pa W td dd) : SE K pa W (tDNotIn tk td) (dDIn true dk dd) := fun F G σ H ρ Q q er S h k x =>
  hk F G σ H ρ _ _ er S h (fun G1 H1 v t ρ1 e1 S1 r1 h1 => hd F G1 σ H1 ρ1 _ _ er S1 h1 (fun G2 H2 w s ρ2 e2 S2 r2 h2 => by
    obtain ⟨d, ed, e, ee, kk, ek, h3⟩ := h2
    have rk := key_of (S2.rdT (r1.mono e2) ee) ek
    subst rk
    cases d with
    | dct kvs =>
      obtain ⟨p, vs, rfl, hp, rr⟩ := (S2.rdT r2 ed).dct S2.ex
      refine ⟨p, valV vs kk, rfl, DGet.k hp, ?_⟩
      rw [← rr.find.2]
      exact k G2 H2 _ (.val _) ρ2 (e1.trans e2) S2 (.bl _) h3
    | _ => exact h3.elim) (x.grow e1)) x
theorem ss_dput {i : Nat} (hk : SE K pa W tk dk) (he : SE K pa W te de) : SS K pa W (sDPut (tVar i) tk te) (dDPut i dk de) := fun F G σ H ρ D DD S h l =>
  he F G σ H ρ _ _ _ S h (fun G1 H1 v t ρ1 e1 S1 r1 h1 => by
    cases t with
    | bor j => exact h1.elim
    | val e =>
      obtain ⟨hs, h1⟩ := h1
      cases q : ownAt ρ1 i with
      | none => rw [q] at hs; cases hs
      | some d0 =>
        obtain ⟨s, es, ed⟩ := ownAt_some q
        obtain ⟨p, hp, gp, ow⟩ := S1.own i s d0 es ed
        refine ⟨.ref p, hp, ?_⟩
        refine hk F G1 σ H1 ρ1 _ _ _ S1 h1 (fun G2 H2 w u ρ2 e2 S2 r2 h2 => ?_) ((l.xl σ).grow e1)
        obtain ⟨dk', ek, kk, ekk, d, ed2, h3⟩ := h2
        obtain ⟨s2, es2, ed2⟩ := ownAt_some ed2
        obtain ⟨b, hb, gb, ow2⟩ := S2.own i s2 d es2 ed2
        rw [hp] at hb
        cases hb
        have rk := key_of (S2.rdT r2 ek) ekk
        subst rk
        cases d with
        | dct kvs =>
          obtain ⟨hl, h4⟩ := h3
          obtain ⟨vs, hv, rr⟩ := ow2
          refine ⟨p, _, rfl, DPut.k hv (by rw [rr.length]; exact hl), ?_⟩
          have r1 : Rep K G1 v e := r1
          exact l.nx G2 σ _ _ (e1.trans e2) (S2.mut (e := .dct (putKD kvs kk e)) es2 ed2 hp ⟨_, upd_same, rr.put (r1.mono e2)⟩) h4
        | _ => exact h3.elim) (l.xl σ)
end
end DL
set_option autoImplicit false
set_option Elab.async false
set_option linter.all false
set_option maxRecDepth 100000
namespace DL
open PySem L2 Evl

theorem SpV.len {K : PySem.W.Frag} {n : Nat} {dsp : DSp} {vs : List V} {H : Hp} {Q : VK} {E : XK} (h : SpV K n dsp vs H Q E) : vs.length = n := by
  obtain ⟨_, _, _, _, h, _⟩ := h
  exact h
theorem SpF.len {K : PySem.W.Frag} {n : Nat} {dsp : DSp} {vs : List V} {H : Hp} {Q : VK} {E : XK} (h : SpF K n dsp vs H Q E) : vs.length = n := by
  obtain ⟨_, _, _, _, h, _⟩ := h
  exact h
theorem hu65 {A : Around} {k : Nat} (hr : Room k A) : A.units + 65 < cLine := by have := hr.un; omega

/-! ### a, b = x, y -/
def dPar (i j : Nat) (da : DA) : DS := fun DD ρ => da ρ (fun ts ρ1 => match ts with
  | [.val a, .val b] => (isPar ρ1 i = false ∧ isPar ρ1 j = false) ∧ DD.nx ((ρ1.set i (.val a)).set j (.val b))
  | _ => False) DD.er
def dPar3 (i j l : Nat) (da : DA) : DS := fun DD ρ => da ρ (fun ts ρ1 => match ts with
  | [.val a, .val b, .val c] => (isPar ρ1 i = false ∧ isPar ρ1 j = false ∧ isPar ρ1 l = false) ∧ DD.nx (((ρ1.set i (.val a)).set j (.val b)).set l (.val c))
  | _ => False) DD.er
def dParVO (i j : Nat) (da : DE) (db : DF) : DS := fun DD ρ => da ρ (fun t ρ1 => match t with
  | .val a => db ρ1 (fun b ρ2 => (isPar ρ2 i = false ∧ isPar ρ2 j = false) ∧ DD.nx ((ρ2.set i (.val a)).set j (.own b))) DD.er
  | .bor _ => False) DD.er
def dParOV (i j : Nat) (da : DF) (db : DE) : DS := fun DD ρ => da ρ (fun a ρ1 => db ρ1 (fun t ρ2 => match t with
  | .val b => (isPar ρ2 i = false ∧ isPar ρ2 j = false) ∧ DD.nx ((ρ2.set i (.own a)).set j (.val b))
  | .bor _ => False) DD.er) DD.er
def dParOO (i j : Nat) (da db : DF) : DS := fun DD ρ => da ρ (fun a ρ1 => db ρ1 (fun b ρ2 => (isPar ρ2 i = false ∧ isPar ρ2 j = false) ∧ DD.nx ((ρ2.set i (.own a)).set j (.own b))) DD.er) DD.er
section
variable {K : PySem.W.Frag} {pa : PaG} {W : WX} {ta : TA} {da : DA} {te tf : TE} {de : DE} {df dg : DF} {i j : Nat}
theorem isPar_set {ρ : Ro} {i j : Nat} {d : D} (h : isPar ρ j = false) : isPar (ρ.set i (.val d)) j = false := by
  unfold isPar at *
  by_cases hij : i = j
  · subst hij
    rw [List.getElem?_set, if_pos rfl]
    split <;> simp_all
  · rw [List.getElem?_set_ne hij]; exact h
theorem isPar_setO {ρ : Ro} {i j : Nat} {d : D} (h : isPar ρ j = false) : isPar (ρ.set i (.own d)) j = false := by
  unfold isPar at *
  by_cases hij : i = j
  · subst hij
    rw [List.getElem?_set, if_pos rfl]
    split <;> simp_all
  · rw [List.getElem?_set_ne hij]; exact h
theorem ss_par (ha : SA K pa W ta da) : SS K pa W (tPar i j ta) (dPar i j da) := fun F G σ H ρ D DD S h l =>
  ha F G σ H ρ _ _ _ S h (fun G1 H1 vs ts ρ1 e1 S1 r1 h1 => by
    match ts, h1, r1 with
    | [.val a, .val b], h1, .cons ra (.cons rb .nil) =>
      exact ⟨_, _, rfl, l.nx G1 _ H1 _ e1 ((S1.store h1.1.1 ra).store (isPar_set h1.1.2) rb) h1.2⟩
    | [], h1, _ => exact h1.elim
    | [t], h1, _ => cases t <;> exact h1.elim
    | [.bor _, _], h1, _ => exact h1.elim
    | [.val _, .bor _], h1, _ => exact h1.elim
    | t :: u :: v :: w, h1, _ => cases t <;> cases u <;> exact h1.elim) (l.xl σ)
theorem ss_par3 {k : Nat} (ha : SA K pa W ta da) : SS K pa W (tPar3 i j k ta) (dPar3 i j k da) := fun F G σ H ρ D DD S h l =>
  ha F G σ H ρ _ _ _ S h (fun G1 H1 vs ts ρ1 e1 S1 r1 h1 => by
    match ts, h1, r1 with
    | [.val a, .val b, .val c], h1, .cons ra (.cons rb (.cons rc .nil)) =>
      exact ⟨_, _, _, rfl, l.nx G1 _ H1 _ e1 (((S1.store h1.1.1 ra).store (isPar_set h1.1.2.1) rb).store (isPar_set (isPar_set h1.1.2.2)) rc) h1.2⟩
    | [], h1, _ => exact h1.elim
    | [t], h1, _ => cases t <;> exact h1.elim
    | [t, u], h1, _ => cases t <;> cases u <;> exact h1.elim
    | [.bor _, _, _], h1, _ => exact h1.elim
    | [.val _, .bor _, _], h1, _ => exact h1.elim
    | [.val _, .val _, .bor _], h1, _ => exact h1.elim
    | t :: u :: v :: w :: x, h1, _ => cases t <;> cases u <;> cases v <;> exact h1.elim) (l.xl σ)
theorem fr_set {F G H : Hp} {σ : RSt} {ρ : Ro} {v : V} {d : D} {p : Addr} (fr : ∀ (i : Nat) (s : Sl) (d : D), ρ[i]? = some s → s.ownD = some d → σ[i]? ≠ some (some (.ref p))) :
    ∀ (k : Nat) (s : Sl) (e : D), (ρ.set i (.val d))[k]? = some s → s.ownD = some e → (σ.set i (some v))[k]? ≠ some (some (.ref p)) := fun k s e h hd => by
  by_cases hk : i = k
  · subst hk
    rw [List.getElem?_set, if_pos rfl] at h
    split at h
    · cases h; cases hd
    · cases h
  · rw [List.getElem?_set_ne hk] at h ⊢
    exact fr k s e h hd
theorem ss_parVO (ha : SE K pa W te de) (hb : SF K pa W tf df) : SS K pa W (tPar i j (tCons te (tCons tf tNil))) (dParVO i j de df) := fun F G σ H ρ D DD S h l =>
  ha F G σ H ρ _ _ _ S h (fun G1 H1 v t ρ1 e1 S1 r1 h1 => by
    cases t with
    | bor k => exact h1.elim
    | val a =>
      refine hb F G1 σ H1 ρ1 _ _ _ S1 h1 (fun G2 H2 p b ρ2 e2 S2 gp ow fr h2 => ?_) ((l.xl σ).grow e1)
      have r1 : Rep K G1 v a := r1
      exact ⟨_, _, rfl, l.nx G2 _ H2 _ (e1.trans e2) ((S2.store h2.1.1 (r1.mono e2)).storeOwn (isPar_set h2.1.2) gp ow (fr_set (F := F) (G := G2) (H := H2) fr)) h2.2⟩) (l.xl σ)
/-- a new object is held aside while something else runs -/
theorem aside {F G H : Hp} {σ : RSt} {ρ : Ro} {p : Addr} {a : D} (S : Sim K pa F G σ H ρ) (gp : G p = none ∧ F p = none) (ow : OwnAt K G H p a) (fr : ∀ (i : Nat) (s : Sl) (d : D), ρ[i]? = some s → s.ownD = some d → σ[i]? ≠ some (some (.ref p))) :
    ∃ F', (Ex F F' ∧ F' p ≠ none) ∧ Sim K pa F' G σ H ρ ∧ ∀ G' H' ρ', Ex G G' → Sim K pa F' G' σ H' ρ' → Sim K pa F G' σ H' ρ' ∧ (G' p = none ∧ F p = none) ∧ OwnAt K G' H' p a ∧ (∀ (i : Nat) (s : Sl) (d : D), ρ'[i]? = some s → s.ownD = some d → σ[i]? ≠ some (some (.ref p))) := by
  obtain ⟨o, ho⟩ := ow.some
  refine ⟨upd F p o, ⟨Ex.new gp.2, by rw [upd_same]; simp⟩, S.frameIn gp.1 ho (ow.code ho) fr, fun G' H' ρ' e S' => ?_⟩
  refine ⟨S'.frame (Ex.new gp.2), ⟨S'.dj p o upd_same, gp.2⟩, ow.mono e (by rw [ho, S'.fx p o upd_same]), fun i s d h1 h2 h3 => ?_⟩
  have := S'.ofr i s d p h1 h2 h3
  rw [upd_same] at this
  cases this
theorem XL.frame {F F' G : Hp} {σ : RSt} {er : ER} (e : Ex F F') (x : XL K pa F G W σ er) : XL K pa F' G W σ er := fun G' H' ρ' C d vs fs e1 S' => x G' H' ρ' C d vs fs e1 (S'.frame e)
theorem ss_parOV (ha : SF K pa W tf df) (hb : SE K pa W te de) : SS K pa W (tPar i j (tCons tf (tCons te tNil))) (dParOV i j df de) := fun F G σ H ρ D DD S h l =>
  ha F G σ H ρ _ _ _ S h (fun G1 H1 p a ρ1 e1 S1 gp ow fr h1 => by
    obtain ⟨F', ⟨ef, np⟩, S1', back⟩ := aside S1 gp ow fr
    refine hb F' G1 σ H1 ρ1 _ _ _ S1' h1 (fun G2 H2 v t ρ2 e2 S2 r2 h2 => ?_) (((l.xl σ).grow e1).frame ef)
    cases t with
    | bor k => exact h2.elim
    | val b =>
      obtain ⟨S3, gp3, ow3, fr3⟩ := back G2 H2 ρ2 e2 S2
      exact ⟨_, _, rfl, l.nx G2 _ H2 _ (e1.trans e2) ((S3.storeOwn h2.1.1 gp3 ow3 fr3).store (isPar_setO h2.1.2) r2) h2.2⟩) (l.xl σ)
theorem ss_parOO (ha : SF K pa W tf df) (hb : SF K pa W te dg) (hij : i ≠ j) : SS K pa W (tPar i j (tCons tf (tCons te tNil))) (dParOO i j df dg) := fun F G σ H ρ D DD S h l =>
  ha F G σ H ρ _ _ _ S h (fun G1 H1 p a ρ1 e1 S1 gp ow fr h1 => by
    obtain ⟨F', ⟨ef, np⟩, S1', back⟩ := aside S1 gp ow fr
    refine hb F' G1 σ H1 ρ1 _ _ _ S1' h1 (fun G2 H2 b' b ρ2 e2 S2 gp2 ow2 fr2 h2 => ?_) (((l.xl σ).grow e1).frame ef)
    obtain ⟨S3, gp3, ow3, fr3⟩ := back G2 H2 ρ2 e2 S2
    have hF : F b' = none := fresh_back ef gp2.2
    refine ⟨_, _, rfl, l.nx G2 _ H2 _ (e1.trans e2) ((S3.storeOwn h2.1.1 gp3 ow3 fr3).storeOwn (isPar_setO h2.1.2) ⟨gp2.1, hF⟩ ow2 fun k s e hk hd hs => ?_) h2.2⟩
    by_cases hik : i = k
    · subst hik
      rw [List.getElem?_set, if_pos rfl] at hs
      split at hs
      · cases hs
        exact np gp2.2
      · cases hs
    · rw [List.getElem?_set_ne hik] at hk hs
      exact fr2 k s e hk hd hs) (l.xl σ)
end

/-! ### isinstance -/
def D.tyV : D → Option Value
  | .non => some (.type "NoneType")
  | .bl _ => some (.type "bool")
  | .int _ => some (.type "int")
  | .str _ => some (.type "str")
  | .byt _ => some (.type "bytes")
  | .lst _ => some (.type "list")
  | .tup _ => some (.type "tuple")
  | .dct _ => some (.type "dict")
  | .ins C _ => some (.ref C)
  | _ => none
def D.clV : D → Option Value
  | .ptr C => some (.ref C)
  | .ty n => some (.type n)
  | _ => none
def D.clVs : List D → Option (List Value)
  | [] => some []
  | d :: ds => d.clV.bind fun v => (D.clVs ds).map fun vs => v :: vs
def D.isi (K : PySem.W.Frag) : List D → Option D
  | [x, .tup cs] => x.tyV.bind fun t => (D.clVs cs).bind fun us => (PySem.W.kitAny K t us).map .bl
  | [x, c] => x.tyV.bind fun t => c.clV.bind fun u => (PySem.W.kitOne K t u).map .bl
  | _ => none
/-- what isinstance asks of an own class -/
structure IsiC (K : PySem.W.Frag) (C : Addr) : Prop where
  cl : Cls K C
  ha : PySem.W.findIn K (.ref C) "__class__" = some (some (.builtin "object.__class__"))
  hm : PySem.W.mroIn K C (.type "object") = some true
structure IsiK (K : PySem.W.Frag) : Prop where
  hn : PySem.W.specialIn K (.builtin "object.__class__") "__get__" = some (some (.builtin "getset_descriptor.__get__"))
  htk : PySem.W.takesIn K (.builtin "object.__class__") = some true
def rIsiX (K : PySem.W.Frag) : List V → Hp → VK → Prop := fun xs H Q => rIsi K xs H Q ∨ rIsiT K xs H Q
section
variable {K : PySem.W.Frag} {X : Cx}
theorem call_isiX : CallR X (.builtin "isinstance") (rIsiX X.K) := CallR.or call_isi call_isiT
theorem tyX_of {G H : Hp} {v : V} {d : D} {t : Value} (hK : IsiK K) (hC : ∀ C es, d = .ins C es → IsiC K C) (e : Ex G H) (r : RepT K G H v d) (h : d.tyV = some t) : TyX K H v t := by
  cases d with
  | non => cases h; rw [r.non]; exact .base .non
  | bl b => cases h; rw [r.bl]; exact .base (.bl _)
  | int b => cases h; rw [r.int]; exact .base (.int _)
  | str b => cases h; rw [r.str]; exact .base (.str _)
  | byt b => cases h; rw [r.byt]; exact .byt _
  | lst ds =>
    cases h
    obtain ⟨p, vs, rfl, hs, _⟩ := r.lstR e
    rcases hs with (hs | ⟨o, hs⟩) | ⟨o, its, n, h1, h2, _⟩
    · exact .base (.lst hs)
    · exact .base (.frz hs)
    · exact .kList h1 h2
  | tup ds =>
    cases h
    obtain ⟨p, vs, rfl, hs, _⟩ := r.tup e
    rcases hs with (hs | ⟨o, hs⟩) | ⟨o, its, n, h1, h2, _⟩
    · exact .base (.tup hs)
    · exact .fTuple hs
    · exact .kTuple h1 h2
  | dct ds =>
    cases h
    obtain ⟨p, vs, rfl, hs, _⟩ := r.dct e
    exact .base (.dK hs)
  | ins C ds =>
    cases h
    obtain ⟨p, dx, vs, rfl, hs, _⟩ := r.ins e
    have q := hC C ds rfl
    exact .base (.ins hs q.cl q.ha hK.hn hK.htk q.hm)
  | _ => cases h
theorem clV_of {G H : Hp} {v : V} {d : D} {u : Value} (r : RepT K G H v d) (h : d.clV = some u) : ClsV v u := by
  cases d with
  | ptr C => cases h; rw [r.ptr]; exact .own C
  | ty n => cases h; rw [r.ty]; exact .ty n
  | _ => cases h
theorem clVs_of {G : Hp} : ∀ {ds : List D} {vs : List V} {us : List Value}, Reps K G vs ds → D.clVs ds = some us → Paired ClsV vs us
  | [], _, _, .nil, h => by cases h; exact .nil
  | d :: ds, _, us, .cons r rr, h => by
    have h : d.clV.bind (fun v => (D.clVs ds).map fun vs => v :: vs) = some us := h
    cases q : d.clV with
    | none => rw [q] at h; cases h
    | some v =>
      cases q2 : D.clVs ds with
      | none => rw [q, q2] at h; cases h
      | some ws => rw [q, q2] at h; cases h; exact .cons (clV_of (H := G) (.inl r) q) (clVs_of rr q2)
end
end DL
set_option autoImplicit false
set_option Elab.async false
set_option linter.all false
set_option maxRecDepth 100000
/-! # own special methods; a new object handed over as data; isinstance -/
namespace PySem.W
open PySem PySem.Calls PyProof.Rows
section
variable {M : Model} {A : Around} {E : Value → Shared → Prop} {s : Shared} {K : Frag} {x C f : Addr} {ox : Obj} {od : Option Obj}
theorem dl_contains {y : Value} {Q : Bool → Shared → Prop} (X : K.In s.heap) (I : InstAt s.heap x ox C od) (hs : findIn K (.ref C) "__contains__" = some (some (.ref f))) (hf : isFn K (.ref f) = true)
    (h : wpAny M A (call (.ref f) [.ref x, y]) (fun r s1 => wpAny M A (truthy r) Q E s1) E s) : wpAny M A (contains (.ref x) y) Q E s := by
  unfold contains
  refine wpAny_holding ?_
  rw [show stdlibNamesSay? (.ref x) y = none from rfl]
  refine wpAny_bind (m := specialOf (.ref x) "__contains__") (wpAny_bind (I.type.here ((looks_findIn X hs).here ?_)))
  show wpAny M A (if (some (Value.ref f) == some Value.none) = true then _ else _) Q E s
  rw [if_neg (by simp)]
  refine wpAny_bind ?_
  unfold callSpecialUnlessNone?
  refine wpAny_bind (m := specialOf (.ref x) "__contains__") (wpAny_bind (I.type.here ((looks_findIn X hs).here ?_)))
  refine wpAny_holding (wpAny_bind ((bind_fn X _ (beq_iff_eq.mp hf)).here ?_))
  show wpAny M A (if (Value.ref f == Value.none) = true then _ else _) _ E s
  rw [if_neg (by simp)]
  exact wpAny_bind (wpAny_mono h (fun r s1 hr => wpAny_pure hr) fun _ _ z => z)
end
end PySem.W
namespace DL
open PySem L2 Evl

/-! ### a def runs where some builtin asks for it -/
section
variable {X : Cx} {CX : CXT} {k : Nat} {f C : Addr} {fd : FuncData} {ps : List Str} {sp : Sp} {E : XK}
theorem run_sub {A : Around} {pins : List (Addr × Obj)} {σ : RSt} {H : Hp} {s : Shared} {Q : VK} {us : List Value} {vs : List V} (F : FnOk X.prog X.w X.K X.mg X.base CX k f fd ps sp) (hr : Room k A) (hA : A.frames = X.A.frames) (hb : Binds X.K fd ps []) (hx : Passes CX X E)
    (I : Inv X pins σ H s) (r : Vals vs us) (h : sp vs H Q E) : wpAny (model X.prog X.w) A (call (.ref f) us) (EP X pins σ Q) X.xe s := by
  have hl : us.length = ps.length := by rw [← r.length]; exact F.len _ _ _ _ h
  have e0 : Env0 X.prog X.w X.K X.mg X.base A X.stack s H := by
    have e := I.env0
    exact ⟨by rw [hA]; exact e.frames, e.mod, e.bs, e.bsz, e.funs, e.frf, e.hok, e.bare⟩
  refine wpAny_call (codeAny_mono (F.run A X.stack s H ⟨us, []⟩ us vs Q E hr e0 (by have z := hb s us I.kIn (by simpa using hl); simpa using z) r h) fun r s' hq => ?_)
  cases r with
  | error e => exact hx pins σ H s e s' I hq
  | ok fl =>
    cases fl with
    | ret u => exact I.after hq
    | next => exact False.elim hq
    | brk => exact False.elim hq
    | cont => exact False.elim hq
/-- an own special method of the class at C, written as the def at f -/
structure Spec1 (K : PySem.W.Frag) (C : Addr) (m : Str) (f : Addr) : Prop where
  hs : PySem.W.findIn K (.ref C) m = some (some (.ref f))
  hf : PySem.W.isFn K (.ref f) = true
def rInO (g : Bool → Bool) (C : Addr) (sp : Sp) (E : XK) : R2 := fun x y H Q => ∃ a dx fs, y = .ref a ∧ H a = some (.ins C dx fs) ∧ sp [y, x] H (fun v H1 => ∃ b, v = .bl b ∧ Q (.bl (g b)) H1) E
theorem in_core {x y : V} {v u : Value} {pins : List (Addr × Obj)} {σ : RSt} {H : Hp} {s : Shared} {Q : VK} {g : Bool → Bool} (M : Spec1 X.K C "__contains__" f) (F : FnOk X.prog X.w X.K X.mg X.base CX k f fd ps sp) (hr : Room k X.A) (hb : Binds X.K fd ps []) (hx : Passes CX X E)
    (I : Inv X pins σ H s) (rx : RelV x v) (ry : RelV y u) (h : rInO g C sp E x y H Q) : wpAny (model X.prog X.w) X.A (contains u v) (fun b s1 => EP X pins σ Q (.bool (g b)) s1) X.xe s := by
  obtain ⟨a, dx, fs, rfl, ha, h⟩ := h
  have hu : u = Value.ref a := ry
  subst hu
  obtain ⟨mA, J, _⟩ := ins_get I.hok ha
  obtain ⟨od, J, _⟩ := J.look
  refine PySem.W.dl_contains I.kIn J M.hs M.hf (wpAny_mono (run_sub F hr rfl hb hx I (vs := [V.ref a, x]) (.cons (show RelV (V.ref a) (Value.ref a) from rfl) (.cons rx .nil)) h) (fun r s1 q => ?_) fun _ _ z => z)
  obtain ⟨w, H1, I1, rw1, b, ew, q⟩ := q
  subst ew
  have e1 : r = Value.bool b := rw1
  subst e1
  exact wpAny_truthy_bool ⟨V.bl (g b), H1, I1, rfl, q⟩
theorem op_inO (M : Spec1 X.K C "__contains__" f) (F : FnOk X.prog X.w X.K X.mg X.base CX k f fd ps sp) (hr : Room k X.A) (hb : Binds X.K fd ps []) (hx : Passes CX X E) : OpR X (compareOp .In) (rInO (fun b => b) C sp E) := by
  intro pins s σ H x y v u Q I rx ry h
  show wpAny (model X.prog X.w) X.A (do return Value.bool (← contains u v)) (EP X pins σ Q) X.xe s
  exact wpAny_bind (wpAny_mono (in_core M F hr hb hx I rx ry h) (fun b s1 q => wpAny_pure q) fun _ _ z => z)
theorem op_notInO (M : Spec1 X.K C "__contains__" f) (F : FnOk X.prog X.w X.K X.mg X.base CX k f fd ps sp) (hr : Room k X.A) (hb : Binds X.K fd ps []) (hx : Passes CX X E) : OpR X (compareOp .NotIn) (rInO (fun b => !b) C sp E) := by
  intro pins s σ H x y v u Q I rx ry h
  show wpAny (model X.prog X.w) X.A (do return Value.bool (!(← contains u v))) (EP X pins σ Q) X.xe s
  exact wpAny_bind (wpAny_mono (in_core M F hr hb hx I rx ry h) (fun b s1 q => wpAny_pure q) fun _ _ z => z)
/-- len of an instance -/
def rLenO (C : Addr) (sp : Sp) (E : XK) : List V → Hp → VK → Prop := fun xs H Q => ∃ a dx fs, xs = [.ref a] ∧ H a = some (.ins C dx fs) ∧ sp xs H (fun v H1 => ∃ n : Int, v = .int n ∧ 0 ≤ n ∧ n < 2 ^ 63 ∧ Q (.int n) H1) E
theorem call_lenO (M : Spec1 X.K C "__len__" f) (F : FnOk X.prog X.w X.K X.mg X.base CX k f fd ps sp) (hr : Room (k + 1) X.A) (hb : Binds X.K fd ps []) (hx : Passes CX X E) : CallR X (.builtin "len") (rLenO C sp E) := by
  intro pins s σ H xs us Q I r h
  obtain ⟨a, dx, fs, rfl, ha, h⟩ := h
  cases r with
  | cons r1 r2 =>
    cases r2
    rename_i u
    have hu : u = Value.ref a := r1
    subst hu
    obtain ⟨mA, J, _⟩ := ins_get I.hok ha
    obtain ⟨od, J, _⟩ := J.look
    obtain ⟨m, hF⟩ := I.fr
    refine PySem.W.len_K hF I.ok.mod.kin J M.hs M.hf (wpAny_mono (run_sub F hr.in1 rfl hb hx I (vs := [V.ref a]) (.cons (show RelV (V.ref a) (Value.ref a) from rfl) .nil) h) (fun r s1 q => ?_) fun _ _ z => z)
    obtain ⟨w, H1, I1, rw1, n, ew, h0, h1, q⟩ := q
    subst ew
    obtain ⟨t, rfl⟩ := (show ∃ t, r = Value.int n t from rw1)
    exact ⟨⟨h0, h1⟩, V.int n, H1, I1.tok _, ⟨s1.toks, rfl⟩, q⟩
end
end DL
set_option autoImplicit false
set_option Elab.async false
set_option linter.all false
set_option maxRecDepth 100000
namespace DL
open PySem L2 Evl

/-! ### isinstance -/
def clVT : List T → Option (List Value)
  | [] => some []
  | .val d :: ts => d.clV.bind fun u => (clVT ts).map fun us => u :: us
  | .bor _ :: _ => none
/-- the classes whose instances may be asked for -/
def D.kno (Cs : List Addr) : D → Bool
  | .ins C _ => Cs.contains C
  | _ => true
def dIsi (K : PySem.W.Frag) (Cs : List Addr) (de dc : DE) : DE := fun ρ q er => de ρ (fun t ρ1 => dc ρ1 (fun u ρ2 => Opt (rd ρ2 t) fun x => Opt (rd ρ2 u) fun c => x.kno Cs = true ∧ Opt x.tyV fun ty => Opt c.clV fun cv => Opt (PySem.W.kitOne K ty cv) fun b => q (.val (.bl b)) ρ2) er) er
def dIsiT (K : PySem.W.Frag) (Cs : List Addr) (de : DE) (dc : DA) : DE := fun ρ q er => de ρ (fun t ρ1 => dc ρ1 (fun us ρ2 => Opt (rd ρ2 t) fun x => us.length ≤ sizeLine ∧ x.kno Cs = true ∧ Opt x.tyV fun ty => Opt (clVT us) fun cs => Opt (PySem.W.kitAny K ty cs) fun b => q (.val (.bl b)) ρ2) er) er
section
variable {K : PySem.W.Frag} {pa : PaG} {W : WX} {te tc : TE} {ta : TA} {de dc : DE} {da : DA} {Cs : List Addr}
theorem clVT_of {G : Hp} {σ : RSt} : ∀ {ts : List T} {vs : List V} {us : List Value}, TkRs K G σ vs ts → clVT ts = some us → Paired ClsV vs us
  | _, _, _, .nil, h => by cases h; exact .nil
  | .val d :: ts, _, us, .cons r rr, h => by
    have h : d.clV.bind (fun v => (clVT ts).map fun vs => v :: vs) = some us := h
    cases q : d.clV with
    | none => rw [q] at h; cases h
    | some v =>
      cases q2 : clVT ts with
      | none => rw [q, q2] at h; cases h
      | some ws => rw [q, q2] at h; cases h; exact .cons (clV_of (H := G) (.inl r) q) (clVT_of rr q2)
  | .bor _ :: _, _, _, .cons _ _, h => by cases h
theorem kno_of (hC : ∀ C ∈ Cs, IsiC K C) {x : D} (h : x.kno Cs = true) : ∀ C es, x = .ins C es → IsiC K C := fun C es e => by
  subst e
  exact hC C (by simpa [D.kno] using h)
theorem se_isi (hK : IsiK K) (hC : ∀ C ∈ Cs, IsiC K C) (he : SE K pa W te de) (hc : SE K pa W tc dc) : SE K pa W (tCB (rIsiX K) (tCons te (tCons tc tNil))) (dIsi K Cs de dc) := fun F G σ H ρ Q q er S h k x =>
  he F G σ H ρ _ _ er S h (fun G1 H1 v t ρ1 e1 S1 r1 h1 => hc F G1 σ H1 ρ1 _ _ er S1 h1 (fun G2 H2 w u ρ2 e2 S2 r2 h2 => by
    obtain ⟨dx, ex, c, ec, hk, ty, ety, cv, ecv, b, eb, h3⟩ := h2
    exact .inl ⟨v, w, ty, cv, b, rfl, clV_of (S2.rdT r2 ec) ecv, tyX_of hK (kno_of hC hk) S2.ex (S2.rdT (r1.mono e2) ex) ety, eb, k G2 H2 _ (.val _) ρ2 (e1.trans e2) S2 (.bl b) h3⟩) (x.grow e1)) x
theorem se_isiT (hK : IsiK K) (hC : ∀ C ∈ Cs, IsiC K C) (he : SE K pa W te de) (hc : SA K pa W ta da) : SE K pa W (tCB (rIsiX K) (tCons te (tCons (tTup ta) tNil))) (dIsiT K Cs de da) := fun F G σ H ρ Q q er S h k x =>
  he F G σ H ρ _ _ er S h (fun G1 H1 v t ρ1 e1 S1 r1 h1 => hc F G1 σ H1 ρ1 _ _ er S1 h1 (fun G2 H2 ws us ρ2 e2 S2 r2 h2 => by
    obtain ⟨dx, ex, hl, hk, ty, ety, cs, ecs, b, eb, h3⟩ := h2
    have hlen : ws.length = us.length := r2.length
    refine ⟨by rw [hlen]; exact hl, fun p hp => ?_⟩
    have a := Al.one (G := G2) (p := p) (o := .tup ws) S2.ex hp
    have S3 := S2.al a
    exact .inr ⟨v, p, ws, ty, cs, b, rfl, upd_same, clVT_of r2 ecs, tyX_of hK (kno_of hC hk) S3.ex (S3.rdT ((r1.mono e2).mono a.g) ex) ety, eb, k _ _ _ (.val _) ρ2 ((e1.trans e2).trans a.g) S3 (.bl b) h3⟩) (x.grow e1)) x
end

/-! ### x in o, len(o), by own methods -/
/-- the operand o goes first to the def, then the other -/
def D.insOf (C : Addr) : D → Bool
  | .ins C2 _ => C2 == C
  | _ => false
def dInO (g : Bool → Bool) (C : Addr) (dsp : DSp) (dx dc : DE) : DE := fun ρ q er => dx ρ (fun t ρ1 => dc ρ1 (fun u ρ2 => Opt (rd ρ2 u) fun d => d.insOf C = true ∧ Opt (argsOf ρ2 [u, t]) fun av => (bors [u, t]).Nodup ∧
  dsp av (fun r os => match r with
    | .bl b => q (.val (.bl (g b))) (putOuts ρ2 (bors [u, t]) os)
      | _ => False) (fun _ _ _ => False)) er) er
def dLenO (C : Addr) (dsp : DSp) (dc : DE) : DE := fun ρ q er => dc ρ (fun u ρ2 => Opt (rd ρ2 u) fun d => d.insOf C = true ∧ Opt (argsOf ρ2 [u]) fun av => (bors [u]).Nodup ∧
  dsp av (fun r os => match r with
    | .int n => (0 ≤ n ∧ n < 2 ^ 63) ∧ q (.val (.int n)) (putOuts ρ2 (bors [u]) os)
    | _ => False) (fun _ _ _ => False)) er
section
variable {K : PySem.W.Frag} {pa : PaG} {W : WX} {te tc : TE} {dx dc : DE} {C : Addr} {dsp : DSp} {g : Bool → Bool}
theorem insOf_at {G H : Hp} {v : V} {d : D} (e : Ex G H) (r : RepT K G H v d) (h : d.insOf C = true) : ∃ a dx fs, v = .ref a ∧ H a = some (.ins C dx fs) := by
  cases d with
  | ins C2 es =>
    obtain ⟨p, dx, vs, rfl, hp, rr⟩ := r.ins e
    have ec : C2 = C := by simpa [D.insOf] using h
    subst ec
    exact ⟨p, dx, vs, rfl, hp⟩
  | _ => cases h
theorem se_inO (hx : SE K pa W te dx) (hc : SE K pa W tc dc) : SE K pa W (tOp (rInO g C (SpV K 2 dsp) L2.E0) te tc) (dInO g C dsp dx dc) := fun F G σ H ρ Q q er S h k x =>
  hx F G σ H ρ _ _ er S h (fun G1 H1 v t ρ1 e1 S1 r1 h1 => hc F G1 σ H1 ρ1 _ _ er S1 h1 (fun G2 H2 w u ρ2 e2 S2 r2 h2 => by
    obtain ⟨d, ed, hi, av, ea, nd, hd⟩ := h2
    obtain ⟨a, dx, fs, rfl, ha⟩ := insOf_at S2.ex (S2.rdT r2 ed) hi
    refine ⟨a, dx, fs, rfl, ha, ?_⟩
    exact call_core S2 (.cons r2 (.cons (r1.mono e2) .nil)) ea nd rfl hd (fun G3 H3 v3 d3 os e3 S3 rv hq => by
      cases d3 with
      | bl b => cases rv; exact ⟨b, rfl, k G3 H3 _ (.val _) _ ((e1.trans e2).trans e3) S3 (.bl _) hq⟩
      | _ => exact hq.elim) (fun _ _ _ _ _ _ _ _ _ _ _ hq => hq.elim)) (x.grow e1)) x
theorem se_lenO (hc : SE K pa W tc dc) : SE K pa W (tCB (rLenO C (SpV K 1 dsp) L2.E0) (tCons tc tNil)) (dLenO C dsp dc) := fun F G σ H ρ Q q er S h k x =>
  hc F G σ H ρ _ _ er S h (fun G2 H2 w u ρ2 e2 S2 r2 h2 => by
    obtain ⟨d, ed, hi, av, ea, nd, hd⟩ := h2
    obtain ⟨a, dx, fs, rfl, ha⟩ := insOf_at S2.ex (S2.rdT r2 ed) hi
    refine ⟨a, dx, fs, rfl, ha, ?_⟩
    exact call_core S2 (.cons r2 .nil) ea nd rfl hd (fun G3 H3 v3 d3 os e3 S3 rv hq => by
      cases d3 with
      | int n => cases rv; exact ⟨n, rfl, hq.1.1, hq.1.2, k G3 H3 _ (.val _) _ (e2.trans e3) S3 (.int _) hq.2⟩
      | _ => exact hq.elim) (fun _ _ _ _ _ _ _ _ _ _ _ hq => hq.elim)) x
end

/-! ### xs[::-1] -/
def dRevL (de : DE) : DF := fun ρ q er => de ρ (fun t ρ1 => Opt (rd ρ1 t) fun d => match d with
  | .lst ds => q (.lst ds.reverse) ρ1
  | _ => False) er
section
variable {K : PySem.W.Frag} {pa : PaG} {W : WX} {te ta tb : TE} {de da db : DE}
theorem Reps.rev {G : Hp} : ∀ {vs : List V} {ds : List D}, Reps K G vs ds → Reps K G vs.reverse ds.reverse
  | _, _, .nil => .nil
  | _, _, .cons r rr => by rw [List.reverse_cons, List.reverse_cons]; exact (Reps.rev rr).append (.cons r .nil)
theorem sf_revL (he : SE K pa W te de) : SF K pa W (tRevL K te) (dRevL de) := fun F G σ H ρ Q q er S h k x =>
  he F G σ H ρ _ _ er S h (fun G1 H1 v t ρ1 e1 S1 r1 h1 => by
    obtain ⟨d, ed, h1⟩ := h1
    cases d with
    | lst ds =>
      obtain ⟨p, vs, rfl, hs, rr⟩ := (S1.rdT r1 ed).lst S1.ex
      refine ⟨p, vs, rfl, hs, fun b hb => ?_⟩
      exact k G1 _ b (.lst ds.reverse) ρ1 e1 (S1.new hb) ⟨fresh_back S1.ex hb, fresh_back S1.fx hb⟩ ⟨_, upd_same, rr.rev⟩ (fresh_no S1 hb) h1
    | _ => exact h1.elim) x

/-! ### reversed(range(..)) -/
def revR (i j : Int) : List D := (List.range (j - i).toNat).map fun (k : Nat) => .int (j - 1 - (k : Int))
def diRevR1 (da : DE) : DI := fun ρ q er => da ρ (fun t ρ1 => Opt (rd ρ1 t) fun d => match d with
  | .int j => (-(2 ^ 62) ≤ j ∧ j < 2 ^ 62) ∧ q (revR 0 j) ρ1
  | _ => False) er
theorem itOk_rngC {G : Hp} (lo c : Int) (n : Nat) : ItOk K G (Itc lo c n) ((List.range n).map fun (k : Nat) => .int (lo + (k : Int) * c)) :=
  .mk0 (fun i H e hi => by show i < n; simpa using hi) (fun i H e hi => by show n ≤ i; simpa using hi)
    fun i H x H' e h d hd => by
      obtain ⟨e1, e2⟩ := h
      subst e2
      rw [List.getElem?_map] at hd
      by_cases hi : i < n
      · rw [List.getElem?_range hi] at hd
        cases hd
        exact ⟨e1, .int _⟩
      · rw [List.getElem?_eq_none (by simpa using hi)] at hd
        cases hd
theorem revR_eq (j : Int) : revR 0 j = (List.range (j - 0).toNat).map fun (k : Nat) => D.int ((0 + (((j - 0).toNat : Nat) : Int) - 1) + (k : Int) * (-1)) := by
  unfold revR
  refine List.map_congr_left fun k hk => ?_
  have : k < (j - 0).toNat := by simpa using hk
  congr 1
  omega
theorem si_revR1 (ha : SE K pa W ta da) : SI K pa W (iRevR (tRg1 ta)) (diRevR1 da) := fun F G σ H ρ R q er S h k x =>
  ha F G σ H ρ _ _ er S h (fun G1 H1 v s ρ1 e1 S1 r1 h1 => by
    obtain ⟨d, ed, h2⟩ := h1
    cases d with
    | int j =>
      rw [(S1.rdT r1 ed).int]
      refine ⟨j, rfl, by decide, by decide, h2.1.1, h2.1.2, ?_⟩
      have h3 := h2.2
      rw [revR_eq] at h3
      exact k G1 H1 _ _ ρ1 e1 S1 (itOk_rngC _ _ _) h3
    | _ => exact h2.elim) x
end

/-! ### {k: v for ..} -/
def dcL (g : DG) (t : DT) (dk de : DE) (vs : List Nat) (q : List (Key × D) → Ro → Prop) : List D → List (Key × D) → Ro → Prop
  | [], acc, ρ => q acc ρ
  | d :: ds, acc, ρ => g (.val d) (wipeD ρ vs) fun ρ1 => t ρ1 (fun b ρ2 => if b = true then dk ρ2 (fun u ρ3 => match u with
      | .val y => Opt y.key fun kk => de ρ3 (fun s ρ4 => match s with
        | .val z => acc.length < sizeLine ∧ dcL g t dk de vs q ds (putKD acc kk z) (wipeD ρ4 vs)
        | .bor _ => False) (fun _ _ _ => False)
      | .bor _ => False) (fun _ _ _ => False) else dcL g t dk de vs q ds acc (wipeD ρ2 vs)) (fun _ _ _ => False)
def dDc (di : DI) (g : DG) (t : DT) (dk de : DE) (vs : List Nat) : DF := fun ρ q er => di ρ (fun ds ρ1 => dcL g t dk de vs (fun acc ρ2 => q (.dct acc) ρ2) ds [] ρ1) er
section
variable {K : PySem.W.Frag} {pa : PaG} {W : WX}
theorem sf_dc {wi : TI} {di : DI} {g : TG} {dg : DG} {tt : TT} {dt : DT} {te tk : TE} {de dk : DE} {vs ns : List Nat} (hn : ∀ i ∈ ns, i ∈ vs) (hi : SI K pa W wi di) (hg : SG K pa ns g dg) (ht : ST K pa W tt dt) (hk : SE K pa W tk dk) (he : SE K pa W te de) : SF K pa W (tDc wi g tt tk te vs) (dDc di dg dt dk de vs) := fun F G σ H ρ Q q er S h k x =>
  hi F G σ H ρ _ _ _ S h (fun G1 H1 J ds ρ1 e1 S1 ok h1 => by
    intro D hD
    have fF : F D = none := fresh_back S1.fx hD
    have S1' : Sim K pa F G1 σ (upd H1 D (.dK [])) ρ1 := S1.new hD
    refine ⟨fun i m H' => m = ds.length - i ∧ i ≤ ds.length ∧ ∃ G2 ρ2 acc av, Ex G1 G2 ∧ Sim K pa F G2 σ H' ρ2 ∧ G2 D = none ∧ H' D = some (.dK av) ∧ RepK K G2 av acc ∧ (∀ (i : Nat) (s : Sl) (d : DL.D), ρ2[i]? = some s → s.ownD = some d → σ[i]? ≠ some (some (.ref D))) ∧ dcL dg dt dk de vs (fun acc ρ3 => q (.dct acc) ρ3) (ds.drop i) acc ρ2, ⟨_, rfl, Nat.zero_le _, G1, ρ1, [], [], Ex.refl G1, S1', fresh_back S1.ex hD, upd_same, .nil, fresh_no S1 hD, h1⟩, ?_⟩
    rintro i m H' ⟨rfl, hi, G2, ρ2, acc, av, e2, S2, gD, hHD, ra, fr, h2⟩
    by_cases hlt : i < ds.length
    · rw [List.drop_eq_getElem_cons hlt] at h2
      refine .inr ⟨ok.go i H' (e2.trans S2.ex) hlt, fun H' => ∃ G2 ρ2 acc av, Ex G1 G2 ∧ Sim K pa F G2 σ H' ρ2 ∧ G2 D = none ∧ H' D = some (.dK av) ∧ RepK K G2 av acc ∧ (∀ (i : Nat) (s : Sl) (d : DL.D), ρ2[i]? = some s → s.ownD = some d → σ[i]? ≠ some (some (.ref D))) ∧ dcL dg dt dk de vs (fun acc ρ3 => q (.dct acc) ρ3) (ds.drop (i + 1)) acc ρ2,
        fun H3 hN => ⟨ds.length - (i + 1), by omega, rfl, hlt, hN⟩, fun x H3 hy => ?_⟩
      obtain ⟨G3, a, r⟩ := ok.yld i H' x H3 hy G2 e2 S2.ex ds[i] (by simp [hlt])
      have hD3 : H3 D = some (.dK av) := a.h D _ hHD
      have S3 : Sim K pa (upd F D (.dK av)) G3 (wipe σ vs) H3 (wipeD ρ2 vs) := ((S2.al a).frameIn (a.n D gD (by rw [hHD]; simp)) hD3 noCode_dK fr).wipeTo wipe_wipe.symm
      refine hg _ G3 _ H3 _ x (.val ds[i]) _ _ S3 r h2 fun G4 σ4 H4 ρ4 e4 S4 w4 h4 => ?_
      have ws : wipe σ4 vs = wipe σ vs := by rw [w4 vs hn, wipe_wipe]
      refine ⟨ws, ht _ G4 σ4 H4 ρ4 _ _ _ S4 h4 (fun G5 H5 b ρ5 e5 S5 h5 => ?_) xl_none⟩
      have back : ∀ {G6 H6 : Hp} {ρ6 : Ro}, Sim K pa (upd F D (.dK av)) G6 σ4 H6 ρ6 → H6 D = some (.dK av) ∧ G6 D = none ∧ Sim K pa F G6 σ H6 (wipeD ρ6 vs) ∧ (∀ (i : Nat) (s : Sl) (d : DL.D), (wipeD ρ6 vs)[i]? = some s → s.ownD = some d → σ[i]? ≠ some (some (.ref D))) := fun {G6 H6 ρ6} S6 => by
        have S7 := S6.wipeTo (σ' := σ) ws
        refine ⟨S6.fx D _ upd_same, S6.dj D _ upd_same, S7.frame (Ex.new fF), fun i s d h1 h2 h3 => ?_⟩
        have := S7.ofr i s d D h1 h2 h3
        rw [upd_same] at this
        cases this
      cases b with
      | false =>
        obtain ⟨b1, b2, b3, b4⟩ := back S5
        exact ⟨G5, _, acc, av, ((e2.trans a.g).trans e4).trans e5, b3, b2, b1, ra.mono ((a.g.trans e4).trans e5), b4, h5⟩
      | true =>
        refine hk _ G5 σ4 H5 ρ5 _ _ _ S5 h5 (fun G6 H6 y s ρ6 e6 S6 r6 h6 => ?_) xl_none
        cases s with
        | bor _ => exact h6.elim
        | val dy =>
          obtain ⟨kk, ek, h6⟩ := h6
          have r6 : Rep K G6 y dy := r6
          have ey := key_of (H := G6) (.inl r6) ek
          refine he _ G6 σ4 H6 ρ6 _ _ _ S6 h6 (fun G7 H7 z s2 ρ7 e7 S7 r7 h7 => ?_) xl_none
          obtain ⟨b1, b2, b3, b4⟩ := back S7
          cases s2 with
          | bor _ => exact h7.elim
          | val dz =>
            have r7 : Rep K G7 z dz := r7
            have ra7 := ra.mono ((((a.g.trans e4).trans e5).trans e6).trans e7)
            refine ⟨av, kk, ey, b1, by rw [ra.length]; exact h7.1, G7, _, putKD acc kk dz, putK av kk z, ((((e2.trans a.g).trans e4).trans e5).trans e6).trans e7, ?_, b2, upd_same, RepK.put r7 ra7, b4, h7.2⟩
            refine b3.grow (Ex.refl G7) (fun b o q => ?_) (fun b o q => ?_) (b3.dj.mut b1 noCode_dK) fun i s d p h1 h2 h3 => ⟨?_, ?_⟩
            · rw [upd_ne (fun z => by rw [z, b2] at q; cases q)]; exact b3.ex b o q
            · rw [upd_ne (fun z => by rw [z, fF] at q; cases q)]; exact b3.fx b o q
            · obtain ⟨b', q1, q2, _⟩ := b3.own i s d h1 h2
              rw [h3] at q1
              cases q1
              exact q2
            · exact upd_ne fun z => b4 i s d h1 h2 (by rw [h3, z])
    · have e : i = ds.length := by omega
      subst e
      rw [List.drop_length] at h2
      exact .inl ⟨ok.stop _ H' (e2.trans S2.ex) (Nat.le_refl _), k G2 H' D (.dct acc) ρ2 (e1.trans e2) S2 ⟨gD, fF⟩ ⟨av, hHD, ra⟩ fr h2⟩) x
end
end DL
set_option autoImplicit false
set_option Elab.async false
set_option linter.all false
set_option maxRecDepth 100000
/-! # enumerate over a tuple -/
namespace PySem
open Sem (wp)
open AutoSeq1 (wpAny_loadPart')
theorem dl_enumNewT (l : Addr) (us : Array Value) (k : Nat) (dc : Option Addr) (sls : Array (Option Value)) :
    Meets (Builtin.«enumerate.__new__» ⟨[.type "enumerate", .ref l], []⟩) (fun _ R s => s.heap.get? l = some { cls := .type "tuple", dict := dc, data := .seq us k, slots := sls } ∧
      R (.ok (.ret (.ref (s.heap.push { cls := .type "tuple_iterator", data := .fields #[.ref l, .int 0 0] }).objs.size)))
        { s with heap := (s.heap.push { cls := .type "tuple_iterator", data := .fields #[.ref l, .int 0 0] }).push { cls := .type "enumerate", data := .fields #[.none, .bool false, .ref s.heap.objs.size, rawInt 0, .none, .none] } }) :=
  .of_wp fun prog w A R s h => by
    obtain ⟨hp, g, d, tk, os⟩ := s; obtain ⟨hl, h⟩ := h
    have hsub := sub_enumerate
    have hT : Heap.IsTuple (Shared.heap ⟨hp, g, d, tk, os⟩) l us := ⟨_, hl, rfl, k, rfl⟩
    wp_walk using wpAny_loadPart' hl
    refine wpAny_stack_any fun st => wpAny_pure ?_
    split
    · rename_i c _ _ _ _ _
      cases (c == Value.type "enumerate") <;>
        (wp_walk using wpAny_loadPart' hl, wpAny_pyIter_tuple hT; exact ⟨_, rfl, h⟩)
    · wp_walk using wpAny_loadPart' hl, wpAny_pyIter_tuple hT
      exact ⟨_, rfl, h⟩
section
variable {prog : Program} {w : World} {A : Around} {E : Value → Shared → Prop} {s : Shared}
theorem dl_call_enumT {l : Addr} {us : Array Value} {Q : Value → Shared → Prop} (hL : s.heap.IsTuple l us)
    (h : ∀ h', IsEnum h' (s.heap.objs.size + 1) s.heap.objs.size 0 .none → h'.IsTupleIter s.heap.objs.size l 0 → (∀ b o, s.heap.get? b = some o → h'.get? b = some o) → Q (.ref (s.heap.objs.size + 1)) { s with heap := h' }) :
    wpAny (model prog w) A (call (.type "enumerate") [.ref l]) Q E s := by
  obtain ⟨⟨c, dc, dt, sls⟩, hl, hc, k, hd⟩ := hL
  replace hc : c = .type "tuple" := hc
  replace hd : dt = .seq us k := hd
  subst hc hd
  refine callType_new F.called_enumerate (by decide) (F.typeCall_enumerate_1 _) (F.newCall_enumerate_1 _) (fun obj => F.args_object_init_2 obj _) F.entry_enumerate_new (dl_enumNewT l us k dc sls) ⟨hl, ?_⟩
  generalize ho1 : ({ cls := .type "tuple_iterator", data := .fields #[.ref l, .int 0 0] } : Obj) = o1
  have hz : (s.heap.push o1).objs.size = s.heap.objs.size + 1 := Heap.size_push ..
  show _ ∧ _
  rw [hz]
  have he : IsEnum ((s.heap.push o1).push { cls := .type "enumerate", data := .fields #[.none, .bool false, .ref s.heap.objs.size, rawInt 0, .none, .none] }) (s.heap.objs.size + 1) s.heap.objs.size 0 .none := by
    have q := Heap.get?_push_size (s.heap.push o1) (o := { cls := .type "enumerate", data := .fields #[.none, .bool false, .ref s.heap.objs.size, rawInt 0, .none, .none] }) rfl
    rw [hz] at q; exact q
  refine ⟨⟨_, he, rfl⟩, h _ he ⟨o1, Heap.get?_push_of_some _ (Heap.get?_push_size _ (by subst ho1; rfl)), by subst ho1; rfl, by subst ho1; rfl⟩ fun b o x => Heap.get?_push_of_some _ (Heap.get?_push_of_some _ x)⟩
theorem dl_nextT {it t : Addr} {i : Nat} {us : Array Value} {x : Value} {Q : Value → Shared → Prop} (hit : s.heap.IsTupleIter it t i) (ht : s.heap.IsTuple t us) (hx : us[i]? = some x)
    (hQ : ∀ h', h'.IsTupleIter it t (i + 1) → Heap.SameBut it s.heap h' → Q x { s with heap := h' }) : wpAny (model prog w) A (Builtin.SmallTypes.nextOf (.ref it)) Q E s := by
  obtain ⟨o, ho, hc, hd⟩ := id hit; obtain ⟨ol, hol, _, nl, hdl⟩ := ht
  unfold Builtin.SmallTypes.nextOf; refine wpAny_bind (wpAny_callSpecial?_slot (name := Str.ofString "__next__") hit.typeIs F.slot_tuple_iterator_next (wpAny_call_entry F.slot_tuple_iterator_next hit.typeIs F.entry_tuple_iterator_next ?_ (F.args_tuple_iterator_next_1 _)))
  show wpAny _ _ (field (.ref it) 0 >>= _) _ _ s; refine wpAny_bind (wpAny_field ho hd (x := .ref t) rfl ?_)
  show wpAny _ _ (if (Value.ref t == Value.none) = true then _ else _) _ _ s; rw [if_neg (by exact fun z => Bool.false_ne_true z)]
  show wpAny _ _ (field (.ref it) 1 >>= _) _ _ s; refine wpAny_bind (wpAny_field ho hd (x := .int i 0) rfl ?_)
  show wpAny _ _ (seqItems? (.ref t) >>= _) _ _ s; refine wpAny_bind (wpAny_seqItems hol hdl ?_)
  simp only [Int.toNat_natCast, hx]; refine wpAny_bind (wpAny_setField ho hd (by simp) (wpAny_pure ⟨x, rfl, wpAny_pure (hQ _ ?_ (Heap.SameBut.update ..))⟩))
  exact ⟨_, Heap.get?_update_self _ ho (Obj.isFreed_of_fields (Obj.data_mapFields hd _)), (Obj.cls_mapFields ..).trans hc, by rw [Obj.data_mapFields hd]; simp [rawInt]⟩
theorem dl_nextTend {it t : Addr} {i : Nat} {us : Array Value} {Q : Value → Shared → Prop} (hh : A.handled = none) (hit : s.heap.IsTupleIter it t i) (ht : s.heap.IsTuple t us) (hx : us[i]? = none)
    (hE : ∀ h' e, Heap.ExtBut it s.heap h' → (∃ o, h'.get? e = some o ∧ o.cls = .type "StopIteration") → E (.ref e) { s with heap := h' }) : wpAny (model prog w) A (Builtin.SmallTypes.nextOf (.ref it)) Q E s := by
  obtain ⟨o, ho, hc, hd⟩ := id hit; obtain ⟨ol, hol, _, nl, hdl⟩ := ht
  unfold Builtin.SmallTypes.nextOf; refine wpAny_bind (wpAny_callSpecial?_slot (name := Str.ofString "__next__") hit.typeIs F.slot_tuple_iterator_next (wpAny_call_entry F.slot_tuple_iterator_next hit.typeIs F.entry_tuple_iterator_next ?_ (F.args_tuple_iterator_next_1 _)))
  show wpAny _ _ (field (.ref it) 0 >>= _) _ _ s; refine wpAny_bind (wpAny_field ho hd (x := .ref t) rfl ?_)
  show wpAny _ _ (if (Value.ref t == Value.none) = true then _ else _) _ _ s; rw [if_neg (by exact fun z => Bool.false_ne_true z)]
  show wpAny _ _ (field (.ref it) 1 >>= _) _ _ s; refine wpAny_bind (wpAny_field ho hd (x := .int i 0) rfl ?_)
  show wpAny _ _ (seqItems? (.ref t) >>= _) _ _ s; refine wpAny_bind (wpAny_seqItems hol hdl ?_)
  simp only [Int.toNat_natCast, hx]; refine wpAny_bind (wpAny_rule (wpAny_bind (wpAny_setField ho hd (by simp) ?_)))
  show wpAny _ _ (newExc (.type "StopIteration") [] >>= _) _ _ _; refine wpAny_bind ?_
  simp only [newExc, newTuple]; refine wpAny_bind (wpAny_newObj_type ?_ (by size_fits))
  refine wpAny_bind (m := firstArgMember _ _) (wpAny_of_eq (a := Value.none) (by first | rfl | (simp only [firstArgMember]; rfl)) (wpAny_newObj_type ?_ (by size_fits)))
  simp only [raiseNew]; refine wpAny_bind (wpAny_handled ?_)
  first | rw [show A.in1.handled = none from hh] | rw [hh]
  exact wpAny_bind (wpAny_pure (wpAny_throw (hE _ _ (((Heap.SameBut.update ..).extBut.push _).push _) ⟨_, Heap.get?_push_size _ rfl, rfl⟩)))
theorem dl_draws (hh : A.handled = none) (it l : Addr) (hne : l ≠ it) (us : Array Value) : Draws prog w A it [it, l] us.size (fun i v => us[i]? = some v) (fun i h => h.IsTupleIter it l i ∧ h.IsTuple l us) where
  live := fun _ _ ⟨⟨o, ho, _⟩, _⟩ => ⟨o, ho⟩
  frame := fun _ _ _ ⟨⟨o, ho, r⟩, ⟨o2, ho2, r2⟩⟩ hk => ⟨⟨o, hk it (by simp) o ho, r⟩, ⟨o2, hk l (by simp) o2 ho2, r2⟩⟩
  item := fun i s Q E hi st hQ => dl_nextT st.1 st.2 (x := us[i]) (by simp [hi]) fun h' hit' hs' => hQ _ h' s.toks (by simp [hi]) ⟨hit', st.2.extBut hs'.extBut hne⟩ hs'
  done := fun s Q E st hE => dl_nextTend hh st.1 st.2 (by simp) hE
theorem dl_enumTend {e it t : Addr} {i : Nat} {j : Int} {us : Array Value} {old : Value} {Q : Option Value → Shared → Prop} (hh : A.handled = none) (he : IsEnum s.heap e it j old) (hit : s.heap.IsTupleIter it t i) (ht : s.heap.IsTuple t us) (hx : us[i]? = none)
    (hQ : ∀ h', Heap.ExtBut it s.heap h' → Q none { s with heap := h' }) : wpAny (model prog w) A (pyNext (.ref e)) Q E s := by
  have tE : s.TypeIs (.ref e) "enumerate" := ⟨_, he, rfl⟩
  unfold pyNext; refine wpAny_bind (wpAny_attempt (wpAny_callSpecial?_slot (name := Str.ofString "__next__") tE F.slot_enumerate_next (wpAny_call_entry F.slot_enumerate_next tE F.entry_enumerate_next ?_ (F.args_enumerate_next_1 _))))
  show wpAny _ _ (field (.ref e) 2 >>= _) _ _ _; refine wpAny_bind (wpAny_field he rfl (x := .ref it) rfl ?_)
  refine wpAny_bind (dl_nextTend hh hit ht hx fun h' x he' ⟨o, ho, hc⟩ => ?_)
  exact wpAny_bind (wpAny_isInstance (T := "StopIteration") (b := true) ⟨o, ho, hc⟩ isSubtype_stop (wpAny_pure (hQ _ he')))
end
end PySem
namespace DL
open PySem L2 Evl
def Itt (K : PySem.W.Frag) (a : Addr) : It :=
  ⟨fun i H => ∃ (xs : List V) (x : V), SqT K H a xs ∧ xs[i]? = some x, fun i H v H' => ∃ T x, v = .ref T ∧ H T = none ∧ H' = upd H T (.tup [.int (i : Nat), x]) ∧ ∀ xs, SqT K H a xs → xs[i]? = some x, fun i H => ∃ xs : List V, SqT K H a xs ∧ xs.length ≤ i⟩
theorem tupIter_ne {h : Heap} {a b : Addr} {us : Array Value} {i : Nat} (x : h.IsTuple a us) (y : h.IsTupleIter b a i) : a ≠ b := fun z => by
  subst z
  obtain ⟨o, h1, h2, _⟩ := x
  obtain ⟨u, k1, k2, _⟩ := y
  rw [h1] at k1
  cases k1
  rw [h2] at k2
  exact absurd k2 (by simp)
theorem turn_enumT {P : Program} {w : World} {K : PySem.W.Frag} {elts : List Expr} {kk : Nat} {tpos : Pos} (a e it : Addr) :
    Turn P w K (.Tuple elts kk tpos) (Itt K a) [e, it] e (fun i h => (∃ old, IsEnum h e it ((i : Nat) : Int) old) ∧ h.IsTupleIter it a i ∧ e ≠ it) where
  mem := by simp
  obj := fun i h st b hb => by
    obtain ⟨⟨old, he⟩, ⟨o, ho, hc, hd⟩, _⟩ := st
    rcases (show b = e ∨ b = it by simpa using hb) with z | z
    · rw [z]; exact ⟨_, he, fun v q => nomatch q⟩
    · rw [z]; exact ⟨o, ho, fun v q => by rw [hd] at q; cases q⟩
  keep := fun i h h' ⟨⟨old, he⟩, ⟨o, ho, r⟩, hne⟩ k => ⟨⟨old, k e (by simp) _ he⟩, ⟨o, k it (by simp) o ho, r⟩, hne⟩
  item := by
    intro X hP hw hK hc i pins s σ H E I hf st hg
    subst hP hw hK
    obtain ⟨⟨old, he⟩, hit, hne⟩ := st
    obtain ⟨xs, x, hq, hx⟩ := hg
    obtain ⟨its, rv, p, hz⟩ := I.tuple hq
    obtain ⟨u, hu, ru⟩ := rv.get hx
    have p : s.heap.IsTuple a its.toArray := p
    have hel : e < s.heap.objs.size := Heap.lt_size he
    have hil : it < s.heap.objs.size := by obtain ⟨_, q, _⟩ := hit; exact Heap.lt_size q
    have hai : a ≠ it := tupIter_ne p hit
    have hae : e ≠ a := fun z => by
      obtain ⟨o, h1, h2, _⟩ := p
      have he2 : s.heap.get? e = _ := he
      rw [z, h1] at he2
      cases he2
      exact absurd h2 (by simp)
    have hlt : i < its.toArray.size := by
      have := (List.getElem?_eq_some_iff.mp hu).1
      simpa using this
    refine wpAny_pyNext_enum_itemD (fp := [it, a]) (dl_draws (A := X.A.in1) (show X.A.in1.handled = none from I.ok.hd hc) it a hai its.toArray) he ⟨hit, p⟩ hlt hne (by simp; exact ⟨hne, hae⟩) fun x' h' tk px ho hit' hT hsz hk => ?_
    have ex : x' = u := by
      have q : its[i]? = some x' := by simpa using px
      rw [hu] at q
      exact (Option.some.inj q).symm
    subst ex
    refine ⟨_, rfl, wpAny_letOwnedTupleGo_enum (s := { s with heap := h', toks := tk + 1 }) ho fun h'' he' sb => ?_⟩
    have hT2 : h''.get? s.heap.objs.size = some { cls := .type "tuple", data := .seq #[.int i tk, x'] } := (sb.2 _ (Nat.ne_of_gt hel)).trans hT
    have new : ObjOk X.prog X.w (upd H s.heap.objs.size (.tup [.int (i : Nat), x])) h'' s.heap.objs.size (.tup [.int (i : Nat), x]) :=
      ⟨by show 2 ≤ sizeLine; decide, [.int i tk, x'], .cons ⟨_, rfl⟩ (.cons ru .nil), ⟨_, hT2, rfl, _, rfl⟩⟩
    have I1 : Inv X pins σ (upd H s.heap.objs.size (.tup [.int (i : Nat), x])) { s with heap := h'', toks := tk + 1 } :=
      I.turnedNew (ch := [e, it]) (fun b ob hb q => (sb.2 b (fun z => hb (by simp [z]))).trans (hk b ob (fun z => hb (by simp [z])) (fun z => hb (by simp [z])) q)) hf (Nat.le_refl _) new
    refine ⟨.ref s.heap.objs.size, _, I1, rfl, ⟨_, x, rfl, I.hok.fresh (Nat.le_refl _), rfl, fun ys hy => by rw [I.tuple_inj hy hq]; exact hx⟩, ⟨⟨x', ?_⟩, ?_, hne⟩, fun b hb => ?_⟩
    · rw [show ((i + 1 : Nat) : Int) = (i : Int) + 1 by omega]; exact he'
    · obtain ⟨o, q1, r⟩ := hit'.1
      exact ⟨o, (sb.2 it (Ne.symm hne)).trans q1, r⟩
    · have hb' : b < s.heap.objs.size := by
        rcases (show b = e ∨ b = it by simpa using hb) with z | z
        · rw [z]; exact hel
        · rw [z]; exact hil
      rw [upd_ne (Nat.ne_of_lt hb')]
      exact (hf b hb).1
  done := by
    intro X hP hw hK hc i pins s σ H E I hf st hg
    subst hP hw hK
    obtain ⟨⟨old, he⟩, hit, hne⟩ := st
    obtain ⟨xs, hq, hx⟩ := hg
    obtain ⟨its, rv, p, hz⟩ := I.tuple hq
    have p : s.heap.IsTuple a its.toArray := p
    obtain ⟨f0, f1, f2, f3, f4, f5⟩ := hf it (by simp)
    have hl := rv.length
    exact dl_enumTend (I.ok.hd hc) he hit p (by simp; omega) fun h' eb => ⟨rfl, I.turned (t' := s.toks) (fun b o hb q => eb b o hb q) f0 f1 f3 f4 f5⟩
  self := fun A i s Q E ⟨⟨_, he⟩, _⟩ h => wpAny_pyIter_enum he h
section
open PySem.Spec PyProof.Rows
/-- enumerate of a list or of a tuple -/
def iEnumX (K : PySem.W.Frag) (ta : TA) : TI := fun σ H R => ta σ H fun vs H1 => ∃ a xs, vs = [.ref a] ∧ ((SqL K H1 a xs ∧ R (Ite K a) H1) ∨ (SqT K H1 a xs ∧ R (Itt K a) H1))
theorem pi_enumX {X : Cx} {e : Expr} {ta : TA} {p pos tpos : Pos} {elts : List Expr} {kk : Nat} (hg : Gl X "enumerate") (hm : X.mg "enumerate" = none) (ha : PA X [e] ta) (hs : starEach [e] X.env = [(false, eval e X.env)] := by rfl) :
    PI X (.Tuple elts kk tpos) (.Call (.Name "enumerate" p) [e] [] pos) (iEnumX X.K ta) := by
  refine ⟨fun pins s σ H R I h => ?_⟩
  refine Call_ (ld_blt I hg hm boot_enumerate (PyProof.Rows.callWith_type1 (thn (ha.run pos pins s σ H _ I h) fun us s1 ⟨vs, H1, I1, r1, q1⟩ => ?_) hs rfl))
  obtain ⟨a, xs, ex, q1⟩ := q1; subst ex
  cases r1 with
  | cons r rr =>
    cases rr; cases r
    have fin : ∀ {h' : Heap}, (∀ b o, s1.heap.get? b = some o → h'.get? b = some o) → Inv X pins σ H1 { s1 with heap := h' } ∧ ∀ b ∈ [s1.heap.objs.size + 1, s1.heap.objs.size], FpOk X pins H1 b := fun {h'} hk => by
      refine ⟨I1.kept (t' := s1.toks) hk, fun b hb => ?_⟩
      have hle : s1.heap.objs.size ≤ b := by
        rcases (show b = s1.heap.objs.size + 1 ∨ b = s1.heap.objs.size by simpa using hb) with z | z <;> omega
      exact I1.fpOk hle (I1.hok.fresh hle)
    rcases q1 with ⟨hq, q⟩ | ⟨hq, q⟩
    · obtain ⟨its, rv, p', hz⟩ := I1.list hq
      refine call_enumerate_list p'.isList fun h' he hit hsz hk => wpAny_pyIter_enum he ?_
      obtain ⟨I2, hf⟩ := fin hk
      exact ⟨s1.heap.objs.size + 1, [s1.heap.objs.size + 1, s1.heap.objs.size], _, _, H1, rfl, I2, turn_enum a (s1.heap.objs.size + 1) s1.heap.objs.size, ⟨⟨.none, he⟩, hit, Nat.succ_ne_self _⟩, hf, q⟩
    · obtain ⟨its, rv, p', hz⟩ := I1.tuple hq
      refine dl_call_enumT p' fun h' he hit hk => wpAny_pyIter_enum he ?_
      obtain ⟨I2, hf⟩ := fin hk
      exact ⟨s1.heap.objs.size + 1, [s1.heap.objs.size + 1, s1.heap.objs.size], _, _, H1, rfl, I2, turn_enumT a (s1.heap.objs.size + 1) s1.heap.objs.size, ⟨⟨.none, he⟩, hit, Nat.succ_ne_self _⟩, hf, q⟩
end
def diEnumX (de : DE) : DI := fun ρ q er => de ρ (fun t ρ1 => match t with
  | .val (.lst ds) => q (enumD ds) ρ1
  | .val (.tup ds) => q (enumD ds) ρ1
  | _ => False) er
section
variable {K : PySem.W.Frag} {pa : PaG} {W : WX} {te : TE} {de : DE}
theorem itOk_enumT {G : Hp} {a : Addr} {vs : List V} {ds : List D} (h : SqT K G a vs) (r : Reps K G vs ds) : ItOk K G (Itt K a) (enumD ds) where
  go := fun i H e hi => ⟨vs, vs[i]'(by rw [r.length, ← enumD_length]; exact hi), ex_t e h, by simp⟩
  stop := fun i H e hi => ⟨vs, ex_t e h, by rw [r.length, ← enumD_length]; exact hi⟩
  yld := fun i H x H' y G1 e1 e2 d hd => by
    obtain ⟨T, z, rfl, hT, rfl, hz⟩ := y
    obtain ⟨e, he, rfl⟩ := enumD_get hd
    obtain ⟨v, hv, rv⟩ := r.get he
    have q := hz vs (ex_t (e1.trans e2) h)
    rw [hv] at q
    obtain rfl : v = z := Option.some.inj q
    have a := Al.one (G := G1) (p := T) (o := .tup [.int (i : Int), v]) e2 hT
    exact ⟨_, a, .tup (SqT.of upd_same) (.cons (.int _) (.cons ((rv.mono e1).mono a.g) .nil))⟩
theorem si_enumX (he : SE K pa W te de) : SI K pa W (iEnumX K (tCons te tNil)) (diEnumX de) := fun F G σ H ρ R q er S h k x =>
  he F G σ H ρ _ _ er S h (fun G1 H1 v t ρ1 e1 S1 r1 h1 => by
    cases t with
    | bor i => exact h1.elim
    | val d =>
      have r1 : Rep K G1 v d := r1
      cases r1 with
      | lst hr rr => exact ⟨_, _, rfl, .inl ⟨ex_l S1.ex hr, k G1 H1 _ _ ρ1 e1 S1 (itOk_enum hr rr) h1⟩⟩
      | tup hr rr => exact ⟨_, _, rfl, .inr ⟨ex_t S1.ex hr, k G1 H1 _ _ ρ1 e1 S1 (itOk_enumT hr rr) h1⟩⟩
      | _ => exact h1.elim) x
end
end DL
set_option autoImplicit false
set_option Elab.async false
set_option linter.all false
set_option maxRecDepth 100000
namespace DL
open PySem L2 Evl ClX

/-! ### C.f, a constant of a class -/
section
variable {K : PySem.W.Frag} {pa : PaG} {W : WX} {C : Addr} {f : Str} {d : D}
structure CCon (K : PySem.W.Frag) (C : Addr) (f : Str) (d : D) : Prop where
  ex : ∃ mc v u, CRead K C mc ∧ CVal K C mc f v u ∧ ∀ G, Rep K G v d
theorem se_cval (h : CCon K C f d) : SE K pa W (tCVal K (tC (.ref C)) f) (dC d) := fun F G σ H ρ Q q er S h0 k x => by
  obtain ⟨mc, v, u, h1, h2, h3⟩ := h.ex
  exact ⟨C, mc, v, u, rfl, h1, h2, k G H v (.val d) ρ (Ex.refl G) S (h3 G) h0⟩
end

/-! ### all, any, sum, max of a list; abs -/
def D.bls : List D → Option (List Bool)
  | [] => some []
  | .bl b :: ds => (D.bls ds).map fun bs => b :: bs
  | _ :: _ => none
def D.ints : List D → Option (List Int)
  | [] => some []
  | .int b :: ds => (D.ints ds).map fun bs => b :: bs
  | _ :: _ => none
def D.all : List D → Option D
  | [.lst ds] => (D.bls ds).map fun bs => .bl (bs.all id)
  | _ => none
def D.any : List D → Option D
  | [.lst ds] => (D.bls ds).map fun bs => .bl (bs.any id)
  | _ => none
def D.sum : List D → Option D
  | [.lst ds] => (D.ints ds).map fun bs => .int bs.sum
  | _ => none
def maxI : Int → List Int → Int
  | m, [] => m
  | m, n :: ns => maxI (if n > m then n else m) ns
def D.max : List D → Option D
  | [.lst ds] => (D.ints ds).bind fun
    | [] => none
    | n :: ns => some (.int (maxI n ns))
  | _ => none
def D.abs : List D → Option D
  | [.int i] => some (.int (if i < 0 then -i else i))
  | _ => none
theorem maxI_ge : ∀ (ns : List Int) (m : Int), m ≤ maxI m ns ∧ ∀ y ∈ ns, y ≤ maxI m ns
  | [], m => ⟨Int.le_refl m, fun y h => by cases h⟩
  | n :: ns, m => by
    obtain ⟨h1, h2⟩ := maxI_ge ns (if n > m then n else m)
    refine ⟨?_, fun y hy => ?_⟩
    · show m ≤ maxI (if n > m then n else m) ns
      split at h1 <;> rename_i h <;> simp only [h, if_true, if_false] <;> omega
    · show y ≤ maxI (if n > m then n else m) ns
      rcases List.mem_cons.mp hy with e | hy
      · subst e; split at h1 <;> rename_i h <;> simp only [h, if_true, if_false] <;> omega
      · exact h2 y hy
theorem maxI_mem : ∀ (ns : List Int) (m : Int), maxI m ns ∈ m :: ns
  | [], m => List.mem_cons_self
  | n :: ns, m => by
    have h := maxI_mem ns (if n > m then n else m)
    show maxI (if n > m then n else m) ns ∈ m :: n :: ns
    rcases List.mem_cons.mp h with e | h
    · rw [e]; split <;> simp
    · exact List.mem_cons_of_mem _ (List.mem_cons_of_mem _ h)
section
variable {K : PySem.W.Frag} {G : Hp}
theorem reps_bls : ∀ {ds : List D} {vs : List V} {bs : List Bool}, Reps K G vs ds → D.bls ds = some bs → vs = bs.map V.bl
  | _, _, _, .nil, h => by cases h; rfl
  | .bl b :: ds, _, bs, .cons r rr, h => by
    have h : (D.bls ds).map (fun bs => b :: bs) = some bs := h
    cases q : D.bls ds with
    | none => rw [q] at h; cases h
    | some cs => rw [q] at h; cases h; cases r; rw [reps_bls rr q]; rfl
theorem reps_ints : ∀ {ds : List D} {vs : List V} {bs : List Int}, Reps K G vs ds → D.ints ds = some bs → vs = bs.map V.int
  | _, _, _, .nil, h => by cases h; rfl
  | .int b :: ds, _, bs, .cons r rr, h => by
    have h : (D.ints ds).map (fun bs => b :: bs) = some bs := h
    cases q : D.ints ds with
    | none => rw [q] at h; cases h
    | some cs => rw [q] at h; cases h; cases r; rw [reps_ints rr q]; rfl
theorem lst_one {H : Hp} {xs : List V} {ds : List D} (e : Ex G H) (rx : RepTs K G H xs [.lst ds]) : ∃ p vs, xs = [.ref p] ∧ SqL K H p vs ∧ Reps K G vs ds := by
  obtain ⟨x, rfl, r⟩ := rx.one
  obtain ⟨p, vs, rfl, hs, rr⟩ := r.lst e
  exact ⟨p, vs, rfl, hs, rr⟩
theorem sc_all : SC K (rAll K) D.all := fun G H xs ds z Q e rx q k => by
  match ds, q, rx with
  | [.lst ds], q, rx =>
    have q : (D.bls ds).map (fun bs => D.bl (bs.all id)) = some z := q
    obtain ⟨p, vs, rfl, hs, rr⟩ := lst_one e rx
    cases q2 : D.bls ds with
    | none => rw [q2] at q; cases q
    | some bs => rw [q2] at q; cases q; exact ⟨p, bs, rfl, reps_bls rr q2 ▸ hs, k G H _ (Al.refl e) (.bl _)⟩
theorem sc_any : SC K (rAny K) D.any := fun G H xs ds z Q e rx q k => by
  match ds, q, rx with
  | [.lst ds], q, rx =>
    have q : (D.bls ds).map (fun bs => D.bl (bs.any id)) = some z := q
    obtain ⟨p, vs, rfl, hs, rr⟩ := lst_one e rx
    cases q2 : D.bls ds with
    | none => rw [q2] at q; cases q
    | some bs => rw [q2] at q; cases q; exact ⟨p, bs, rfl, reps_bls rr q2 ▸ hs, k G H _ (Al.refl e) (.bl _)⟩
theorem sc_sum : SC K (rSum K) D.sum := fun G H xs ds z Q e rx q k => by
  match ds, q, rx with
  | [.lst ds], q, rx =>
    have q : (D.ints ds).map (fun bs => D.int bs.sum) = some z := q
    obtain ⟨p, vs, rfl, hs, rr⟩ := lst_one e rx
    cases q2 : D.ints ds with
    | none => rw [q2] at q; cases q
    | some bs => rw [q2] at q; cases q; exact ⟨p, bs, rfl, reps_ints rr q2 ▸ hs, k G H _ (Al.refl e) (.int _)⟩
theorem sc_max : SC K (rMax K) D.max := fun G H xs ds z Q e rx q k => by
  match ds, q, rx with
  | [.lst ds], q, rx =>
    obtain ⟨p, vs, rfl, hs, rr⟩ := lst_one e rx
    have q : ((D.ints ds).bind fun
      | [] => none
      | n :: ns => some (D.int (maxI n ns))) = some z := q
    cases q2 : D.ints ds with
    | none => rw [q2] at q; cases q
    | some bs =>
      rw [q2] at q
      cases bs with
      | nil => cases q
      | cons n ns =>
        cases q
        refine ⟨p, n :: ns, rfl, reps_ints rr q2 ▸ hs, by simp, fun m hm hy => ?_⟩
        have h1 := maxI_ge ns n
        have h2 := hy _ (maxI_mem ns n)
        have e1 : m = maxI n ns := by
          have : m ≤ maxI n ns := by rcases List.mem_cons.mp hm with e | h; rw [e]; exact h1.1; exact h1.2 m h
          omega
        rw [e1]
        exact k G H _ (Al.refl e) (.int _)
def rAbsX : List V → Hp → VK → Prop := fun xs H Q => ∃ i, xs = [.int i] ∧ Q (.int (if i < 0 then -i else i)) H
theorem call_absX {X : Cx} : CallR X (.builtin "abs") rAbsX := call_abs
theorem sc_abs : SC K rAbsX D.abs := fun G H xs ds z Q e rx q k => by
  match ds, q, rx with
  | [.int i], q, rx =>
    cases q
    obtain ⟨x, rfl, r⟩ := rx.one
    rw [r.int]
    exact ⟨i, rfl, k G H _ (Al.refl e) (.int _)⟩
end

/-! ### calls with keywords -/
def kwPerm {α : Type} (is : List Nat) (us ws : List α) : List α := us ++ is.filterMap fun i => ws[i]?
section
variable {K : PySem.W.Frag} {G : Hp} {σ : RSt}
theorem paired_get {vs : List V} {us : List Value} (r : Vals vs us) (i : Nat) : (vs[i]? = none ∧ us[i]? = none) ∨ ∃ v u, vs[i]? = some v ∧ us[i]? = some u ∧ RelV v u := by
  cases h : vs[i]? with
  | none =>
    refine .inl ⟨rfl, ?_⟩
    rw [List.getElem?_eq_none_iff] at h ⊢
    rw [← r.length]; exact h
  | some v =>
    obtain ⟨u, h1, h2⟩ := r.get h
    exact .inr ⟨v, u, rfl, h1, h2⟩
theorem kwPerm_vals {vs zs : List V} {us ws : List Value} (r : Vals vs us) (rz : Vals zs ws) : ∀ is : List Nat, Vals (kwPerm is vs zs) (kwPerm is us ws) := fun is => by
  refine r.append ?_
  induction is with
  | nil => exact .nil
  | cons i is ih =>
    rw [List.filterMap_cons, List.filterMap_cons]
    rcases paired_get rz i with ⟨h1, h2⟩ | ⟨v, u, h1, h2, h3⟩
    · rw [h1, h2]; exact ih
    · rw [h1, h2]; exact .cons h3 ih
theorem TkRs.get : ∀ {vs : List V} {ts : List T} (i : Nat), TkRs K G σ vs ts → (vs[i]? = none ∧ ts[i]? = none) ∨ ∃ v t, vs[i]? = some v ∧ ts[i]? = some t ∧ TkR K G σ v t
  | _, _, _, .nil => .inl ⟨by simp, by simp⟩
  | _, _, 0, .cons h _ => .inr ⟨_, _, rfl, rfl, h⟩
  | _, _, i + 1, .cons _ r => by
    rcases TkRs.get i r with ⟨h1, h2⟩ | ⟨v, t, h1, h2, h3⟩
    · exact .inl ⟨by simpa using h1, by simpa using h2⟩
    · exact .inr ⟨v, t, by simpa using h1, by simpa using h2, h3⟩
theorem TkRs.append : ∀ {vs ws : List V} {ts us : List T}, TkRs K G σ vs ts → TkRs K G σ ws us → TkRs K G σ (vs ++ ws) (ts ++ us)
  | _, _, _, _, .nil, r => r
  | _, _, _, _, .cons h t, r => .cons h (TkRs.append t r)
theorem kwPerm_tk {vs zs : List V} {us ws : List T} (r : TkRs K G σ vs us) (rz : TkRs K G σ zs ws) : ∀ is : List Nat, TkRs K G σ (kwPerm is vs zs) (kwPerm is us ws) := fun is => by
  refine r.append ?_
  induction is with
  | nil => exact .nil
  | cons i is ih =>
    rw [List.filterMap_cons, List.filterMap_cons]
    rcases TkRs.get i rz with ⟨h1, h2⟩ | ⟨v, u, h1, h2, h3⟩
    · rw [h1, h2]; exact ih
    · rw [h1, h2]; exact .cons h3 ih
end
def KwOk (K : PySem.W.Frag) (fd : FuncData) (ps : List Str) (n : Nat) (ks : List Str) (is : List Nat) : Prop := ∀ (s : Shared) (us ws : List Value), K.In s.heap → us.length = n → ws.length = ks.length → BindsTo s fd ⟨us, ks.zip ws⟩ (ps.zip (kwPerm is us ws))
theorem KwOk.kbn {K : PySem.W.Frag} {fd : FuncData} {ps : List Str} {n : Nat} {ks : List Str} {is : List Nat} (h : KwOk K fd ps n ks is) : KBn K fd ps n ks (kwPerm is) (kwPerm is) := ⟨h, fun r rz => kwPerm_vals r rz is⟩
def tKw (n m : Nat) (is : List Nat) (t tk : TA) : TA := fun σ H Q => t σ H fun vs H1 => tk σ H1 fun zs H2 => (vs.length = n ∧ zs.length = m) ∧ Q (kwPerm is vs zs) H2
def dKw (n m : Nat) (is : List Nat) (da dk : DA) : DA := fun ρ q er => da ρ (fun ts ρ1 => dk ρ1 (fun us ρ2 => (ts.length = n ∧ us.length = m) ∧ q (kwPerm is ts us) ρ2) er) er
section
variable {K : PySem.W.Frag} {pa : PaG} {W : WX} {ta tk : TA} {da dk : DA} {n m k : Nat} {is : List Nat} {te : TE} {de : DE} {C : Addr} {dsp : DSp} {f : Str}
theorem sa_kw (ha : SA K pa W ta da) (hk : SA K pa W tk dk) : SA K pa W (tKw n m is ta tk) (dKw n m is da dk) := fun F G σ H ρ Q q er S h k x =>
  ha F G σ H ρ _ _ er S h (fun G1 H1 vs ts ρ1 e1 S1 r1 h1 => hk F G1 σ H1 ρ1 _ _ er S1 h1 (fun G2 H2 zs us ρ2 e2 S2 r2 h2 =>
    ⟨⟨by rw [r1.length]; exact h2.1.1, by rw [r2.length]; exact h2.1.2⟩, k G2 H2 _ _ ρ2 (e1.trans e2) S2 (kwPerm_tk (r1.mono e2) r2 is) h2.2⟩) (x.grow e1)) x
/-- C(.., k = v) -/
theorem sf_makeK (ha : SA K pa W ta da) (hk : SA K pa W tk dk) : SF K pa W (tMakeK C n m (SpV K (k + 1) dsp) (kwPerm is) L2.E0 ta tk) (dMake C (noEr dsp) (dN k (dKw n m is da dk))) := fun F G σ H ρ Q q er S h kk x =>
  ha F G σ H ρ _ _ er S h (fun G1 H1 vs ts ρ1 e1 S1 r1 h1 => hk F G1 σ H1 ρ1 _ _ er S1 h1 (fun G2 H2 zs us ρ2 e2 S2 r2 h2 => by
    obtain ⟨⟨l1, l2⟩, hl, av, ea, nd, hd⟩ := h2
    refine ⟨by rw [r1.length]; exact l1, by rw [r2.length]; exact l2, ?_⟩
    intro x' dx hx hdx hne
    have r3 := kwPerm_tk (r1.mono e2) r2 is
    refine make_core S2 r3 ea nd (show (kwPerm is vs zs).length + 1 = k + 1 by rw [r3.length, hl]) hx hdx hne hd (fun G' H' o os e S' gp ow fr hq => ⟨rfl, kk G' H' x' o _ ((e1.trans e2).trans e) S' gp ow fr hq⟩) (fun d os hq => ?_) (fun G' H' C' y fv fs o os e S' h1 h2 hq => hq.elim) (fun C' fs os hq => hq.elim)
    cases os with
    | nil => cases d <;> exact hq.elim
    | cons o os => cases d <;> first | exact ⟨rfl, by simp⟩ | exact hq.elim) (x.grow e1)) x
end
section
variable {X : Cx} {CX : CXT} {k n : Nat} {f C : Addr} {fd : FuncData} {ps ks : List Str} {is : List Nat} {sp : Sp} {E : XK} {x m : Str} {p pos apos : Pos} {e o : Expr} {es : List Expr} {kws : List Keyword} {ta : TE} {t tk : TA}
theorem run_kw {pins : List (Addr × Obj)} {σ : RSt} {H : Hp} {s : Shared} {Q : VK} {us ws : List Value} {vs zs : List V} (F : FnOk X.prog X.w X.K X.mg X.base CX k f fd ps sp) (hr : Room k X.A) (hb : KwOk X.K fd ps n ks is) (hx : Passes CX X E) (I : Inv X pins σ H s) (r : Vals vs us) (rz : Vals zs ws)
    (l1 : vs.length = n) (l2 : zs.length = ks.length) (h : sp (kwPerm is vs zs) H Q E) : wpAny (model X.prog X.w) X.A (call (.ref f) us (ks.zip ws)) (EP X pins σ Q) X.xe s := by
  refine wpAny_call (codeAny_mono (F.run X.A X.stack s H ⟨us, ks.zip ws⟩ (kwPerm is us ws) (kwPerm is vs zs) Q E hr I.env0 (hb s us ws I.kIn (by rw [← r.length]; exact l1) (by rw [← rz.length]; exact l2)) (kwPerm_vals r rz is) h) fun r' s' hq => ?_)
  cases r' with
  | error e => exact hx pins σ H s e s' I hq
  | ok fl =>
    cases fl with
    | ret u => exact I.after hq
    | next => exact False.elim hq
    | brk => exact False.elim hq
    | cont => exact False.elim hq
/-- o.m(k = v, ..) -/
theorem pe_methK0 {pl : Sem Bool} (he : PE X o ta) (c : Cls X.K C) (hm : Meth X.K C m f) (F : FnOk X.prog X.w X.K X.mg X.base CX k f fd ps sp) (hr : Room k X.A) (hb : KwOk X.K fd ps 1 ks is) (hx : Passes CX X E) (hkw : PK X kws tk)
    (hall : (backToKw pos (keywordEach kws X.env)).all (·.1.isSome) = true := by rfl) (hks : (backToKw pos (keywordEach kws X.env)).filterMap (·.1) = ks := by rfl)
    (hpl : ((backTo pos (starEach [] X.env)).any (·.1) || (backToKw pos (keywordEach kws X.env)).any (·.1.isNone)) = false := by rfl)
    (ht : eval (.Call (.Attribute o m apos) [] kws pos) X.env = (do
      let ov ← eval o X.env
      standAt apos.atName
      let (f, first) ← holding [ov] (getMethod ov m pl)
      callWith pos f first (backTo pos (starEach [] X.env)) (backToKw pos (keywordEach kws X.env))) := by rfl) :
    PE X (.Call (.Attribute o m apos) [] kws pos) (tMeth C m sp [] E ta (tKw 0 ks.length is tNil tk)) := by
  refine ⟨fun pins s σ H Q I h => ?_⟩
  refine PySem.W.methodCall_KW (pl := pl) (thn (he.run pins s σ H _ I h) fun u s1 ⟨x, H1, I1, rx, a, dx, fs, ex, ea, l, q⟩ => ?_) ht
  subst ex
  obtain rfl : u = Value.ref a := rx
  refine getmeth_ok I1 ea c hm l (PySem.W.callWith_KW0 (first := [.ref a]) (h₀ := X.base) I1.ok.mod.kin hm.kp hall ?_ hpl)
  refine thn (hkw.run pos pins s1 σ H1 _ I1 q) fun ws s2 ⟨zs, H2, I2, rz, ⟨_, l2⟩, q2⟩ => ⟨I2.kIn, ?_⟩
  rw [hks]
  have q2 : sp (.ref a :: (kwPerm is [] zs ++ [])) H2 Q E := q2
  rw [List.append_nil] at q2
  exact run_kw (us := [.ref a]) (vs := [.ref a]) F hr hb hx I2 (.cons rfl .nil) rz rfl l2 q2
end
end DL
set_option autoImplicit false
set_option Elab.async false
set_option linter.all false
set_option maxRecDepth 100000
namespace DL
open PySem L2 Evl

/-- o.m(..) that hands over a new object -/
def dMethF (C : Addr) (m : Str) (dsp : DSp) (de : DE) (da : DA) : DF := fun ρ q er => de ρ (fun t ρ1 => Opt (rd ρ1 t) fun d => d.noF m C = true ∧ da ρ1 (fun ts ρ2 => Opt (argsOf ρ2 (t :: ts)) fun av => (bors (t :: ts)).Nodup ∧ dsp av (fun d os => q d (putOuts ρ2 (bors (t :: ts)) os)) (fun C' fs os => er C' fs (putOuts ρ2 (bors (t :: ts)) os))) er) er
section
variable {K : PySem.W.Frag} {pa : PaG} {W : WX} {ta : TA} {te : TE} {de : DE} {da : DA} {n : Nat} {dsp : DSp} {C : Addr} {m : Str}
theorem sf_meth (he : SE K pa W te de) (ha : SA K pa W ta da) : SF K pa W (tMeth C m (SpF K (n + 1) dsp) [] L2.E0 te ta) (dMethF C m (noEr dsp) de (dN n da)) := fun F G σ H ρ Q q er S h k x =>
  he F G σ H ρ _ _ er S h (fun G0 H0 v t ρ0 e0 S0 r0 h0 => by
    obtain ⟨d, ed, hf, h0⟩ := h0
    obtain ⟨a, dx, fs, rfl, ha1, hl1⟩ := noF_of S0.ex (S0.rdT r0 ed) hf
    refine ⟨a, dx, fs, rfl, ha1, hl1, ?_⟩
    exact ha F G0 σ H0 ρ0 _ _ er S0 h0 (fun G1 H1 vs ts ρ1 e1 S1 r1 h1 => by
      obtain ⟨hl, av, ea, nd, hd⟩ := h1
      rw [List.append_nil]
      exact call_coreF S1 (.cons (r0.mono e1) r1) ea nd (by rw [List.length_cons, r1.length, hl]) hd (fun G' H' p d os e S' gp ow fr hq => k G' H' p d _ ((e0.trans e1).trans e) S' gp ow fr hq) (fun G' H' C y fv fs os e S' h1 h2 hq => hq.elim)) (x.grow e0)) x
end
end DL
namespace DL
open PySem L2 Evl
/-- a law's promise: True at every script -/
def spTrue (K : PySem.W.Frag) : Sp := fun vs H Q _ => ∃ (a : Addr) (ns : List Int), vs = [.ref a] ∧ SqL K H a (ns.map V.int) ∧ ns.length ≤ 63 ∧ ∀ H', Q (.bl true) H'
theorem spTrue_of {K : PySem.W.Frag} {dsp : DSp} (h : ∀ ns : List Int, ns.length ≤ 63 → dsp [.val (.lst (ns.map D.int))] (fun d _ => d = .bl true) (fun _ _ _ => False)) : ∀ (vs : List V) (H : Hp) (Q : VK) (E : XK), spTrue K vs H Q E → SpV K 1 dsp vs H Q E := by
  rintro vs H Q E ⟨a, ns, rfl, hs, hl, k⟩
  refine ⟨[], fun _ => none, H, [.val (.lst (ns.map D.int))], rfl, Ex.refl H, (fun b o q => by cases q), ⟨fun b o q => (by cases q), fun p hp => (by cases hp), fun p hp => (by cases hp), fun z => absurd rfl z⟩, .val (.lst hs (Reps.ints ns)) .nil, List.nodup_nil, _, _, h ns hl, fun G' H' v d os _ _ _ _ _ r e => ?_, fun _ _ _ _ _ _ _ _ _ _ _ _ _ _ q => q.elim⟩
  subst e
  cases r
  exact k H'
end DL
set_option autoImplicit false
set_option Elab.async false
set_option linter.all false
set_option maxRecDepth 100000
/-! # max(xs, default=d) of a list of whole numbers -/
namespace DL
open PySem L2 Evl PyProof.Rows
theorem mxd_args (a v : Value) : argsOk "max" ⟨[a], [(Str.ofString "default", v)]⟩ := by unfold argsOk; kernel_rfl
section
variable {prog : Program} {w : World} {A : Around} {R : Result → Shared → Prop} {I S : Addr} {fp wr : List Addr} {n : Nat} {P : Nat → Value → Prop} {St : Nat → Heap → Prop}
theorem mxd_loop (Wk : Walks prog w A.in1 I fp wr n P St) (bt : Nat → Nat → Bool) (hc : CmpOf prog w A.in1 .Gt P bt) (hS : S ∉ fp) (dv : Value) :
    ∀ (k i : Nat) (s : Shared) (c : Nat) (ar : Array Value), n - i = k → i ≤ n → St i s.heap → ((i = 0 ∧ ar = #[]) ∨ ∃ j vb, i = j + 1 ∧ ar = #[vb, vb] ∧ P (argBest bt j) vb) →
    s.heap.get? S = some { cls := .type "list", dict := none, data := .seq ar c, slots := #[] } →
    (∀ v h' tk, (n = 0 → v = dv) → (0 < n → P (argBest bt (n - 1)) v) → (∀ b o, b ∉ wr → b ≠ S → s.heap.get? b = some o → h'.get? b = some o) → R (.ok (.ret v)) { s with heap := h', toks := tk }) →
    codeAny (model prog w) A (.builtin "max.loop" ⟨[.ref I, .none, .ref S], [(Str.ofString "default", dv)]⟩) R s := by
  have nm : (toString "max" ++ toString ".loop" : String) = "max.loop" := by decide
  have hSw : S ∉ wr := fun z => hS (Wk.sub _ z)
  intro k
  induction k with
  | zero =>
    intro i s c ar hk hi hst har hSo hR
    obtain rfl : i = n := by omega
    refine codeAny_builtin F.entry_max_loop ?_
    rw [Around.under_plainId F.plain_max_loop _]
    show wpAny _ A.in1 (seqItems? (.ref S) >>= _) _ _ s
    refine wpAny_bind (wpAny_seqItems hSo rfl ?_)
    show wpAny _ A.in1 (tryCatch (pyNext (.ref I)) _ >>= _) _ _ s
    refine wpAny_bind (wpAny_tryCatch (Wk.done s _ _ hst fun h1 t1 k1 => ?_))
    have hS1 := k1 S _ hSw hSo
    rcases har with ⟨rfl, rfl⟩ | ⟨j, vb, rfl, rfl, hP⟩
    · show wpAny _ A.in1 (rule _ >>= _) _ _ _
      exact wpAny_bind (wpAny_rule (wpAny_pure (hR dv _ t1 (fun _ => rfl) (fun z => absurd z (by omega)) fun b o x1 x2 e => k1 b o x1 e)))
    · show wpAny _ A.in1 (updateSeq S (fun _ => #[]) >>= _) _ _ _
      refine wpAny_bind (wpAny_updateSeq hS1 rfl (wpAny_bind (wpAny_letGo (wpAny_pure ?_))))
      exact hR vb _ t1 (fun z => absurd z (by omega)) (fun _ => hP) fun b o x1 x2 e => (Heap.get?_update_other _ _ (Ne.symm x2)).trans (k1 b o x1 e)
  | succ k ih =>
    intro i s c ar hk hi hst har hSo hR
    have hlt : i < n := by omega
    refine codeAny_builtin F.entry_max_loop ?_
    rw [Around.under_plainId F.plain_max_loop _]
    show wpAny _ A.in1 (seqItems? (.ref S) >>= _) _ _ s
    refine wpAny_bind (wpAny_seqItems hSo rfl ?_)
    show wpAny _ A.in1 (tryCatch (pyNext (.ref I)) _ >>= _) _ _ s
    refine wpAny_bind (wpAny_tryCatch (Wk.item i s _ _ hlt hst fun v h1 t1 hPv st1 k1 => ?_))
    have hS1 := k1 S _ hSw hSo
    have up : ∀ f : Array Value → Array Value, St (i + 1) (h1.update S (Obj.mapSeq f)) := fun f => Wk.frame _ _ _ st1 fun b hb o e => (Heap.get?_update_other _ _ (fun z : S = b => hS (by rw [z]; exact hb))).trans e
    have fin : ∀ (f : Array Value → Array Value) (v' : Value) (h2 : Heap) (t2 : Nat), (n = 0 → v' = dv) → (0 < n → P (argBest bt (n - 1)) v') →
        (∀ b o, b ∉ wr → b ≠ S → (h1.update S (Obj.mapSeq f)).get? b = some o → h2.get? b = some o) → R (.ok (.ret v')) { s with heap := h2, toks := t2 } := fun f v' h2 t2 q1 q2 k2 =>
      hR v' h2 t2 q1 q2 fun b o x1 x2 e => k2 b o x1 x2 ((Heap.get?_update_other _ _ (Ne.symm x2)).trans (k1 b o x1 e))
    rcases har with ⟨rfl, rfl⟩ | ⟨j, vb, rfl, rfl, hP⟩
    · show wpAny _ A.in1 (updateSeq S (fun _ => #[v, v]) >>= _) _ _ _
      refine wpAny_bind (wpAny_updateSeq hS1 rfl ?_)
      rw [nm]
      exact wpAny_pure ⟨plainId_quiet F.plain_max_loop _, ih 1 _ _ #[v, v] (by omega) (by omega) (up _) (.inr ⟨0, v, rfl, rfl, hPv⟩) (Heap.get?_update_self _ hS1 rfl) (fin _)⟩
    · show wpAny _ A.in1 (tryCatch (holding [v, v] (richCompare .Gt v vb >>= _)) _ >>= _) _ _ _
      refine wpAny_bind (wpAny_tryCatch (wpAny_holding (wpAny_bind (hc (j + 1) (argBest bt j) v vb _ _ _ hPv hP ?_))))
      refine wpAny_bind (wpAny_holding (wpAny_truthy_bool ?_))
      refine wpAny_bind (wpAny_letGo (wpAny_pure ?_))
      have eb : argBest bt (j + 1) = if bt (j + 1) (argBest bt j) = true then j + 1 else argBest bt j := rfl
      cases hb : bt (j + 1) (argBest bt j) with
      | true =>
        rw [hb, if_pos rfl] at eb
        rw [if_pos rfl]
        refine wpAny_bind (wpAny_updateSeq hS1 rfl (wpAny_bind (wpAny_letGo ?_)))
        rw [nm]
        exact wpAny_pure ⟨plainId_quiet F.plain_max_loop _, ih (j + 2) _ _ #[v, v] (by omega) (by omega) (up _) (.inr ⟨j + 1, v, rfl, rfl, by rw [eb]; exact hPv⟩) (Heap.get?_update_self _ hS1 rfl) (fin _)⟩
      | false =>
        rw [hb, if_neg (by decide)] at eb
        rw [if_neg (by decide)]
        refine wpAny_bind (wpAny_letGo ?_)
        rw [nm]
        exact wpAny_pure ⟨plainId_quiet F.plain_max_loop _, ih (j + 2) _ _ #[vb, vb] (by omega) (by omega) st1 (.inr ⟨j + 1, vb, rfl, rfl, by rw [eb]; exact hP⟩) hS1 fun v' h2 t2 q1 q2 k2 => hR v' h2 t2 q1 q2 fun b o x1 x2 e => k2 b o x1 x2 (k1 b o x1 e)⟩
end
section
variable {prog : Program} {w : World} {A : Around} {E : Value → Shared → Prop} {s : Shared}
theorem mxd_list {l : Addr} {xs : Array (Int × Tok)} {dv : Value} {Q : Value → Shared → Prop} (hh : A.handled = none) (hl : s.heap.IsList l (intItems xs))
    (h : ∀ v h' tk, (xs.size = 0 → v = dv) → (0 < xs.size → (intItems xs)[argBest (fun i j => decide (numAt xs i > numAt xs j)) (xs.size - 1)]? = some v) → (∀ b o, s.heap.get? b = some o → h'.get? b = some o) → Q v { s with heap := h', toks := tk }) :
    wpAny (model prog w) A (call (.builtin "max") [.ref l] [(Str.ofString "default", dv)]) Q E s := by
  have nm : (toString "max" ++ toString ".loop" : String) = "max.loop" := by decide
  refine kmk_tree F.kind_max F.plain_max F.entry_max (mxd_args _ _) ?_
  show wpAny _ A.in1 (Builtin.Builtins.bindParams "max" ["key", "default"] 0 ⟨[], [(Str.ofString "default", dv)]⟩ >>= _) _ _ s
  refine wpAny_bind (wpAny_of_eq (show Builtin.Builtins.bindParams "max" ["key", "default"] 0 ⟨[], [(Str.ofString "default", dv)]⟩ = pure [none, some dv] from rfl) ?_)
  refine wpAny_bind (wpAny_pure (wpAny_bind (iter_intList hl fun s₂ e st hfp hlI => ?_)))
  subst e
  refine wpAny_bind (wpAny_newObj_type ?_)
  rw [nm]
  have Wk := Walks.list (prog := prog) (w := w) (A := A.in1) hh s.heap.objs.size l hlI (intItems xs)
  have hsz : (intItems xs).size = xs.size := by simp [intItems]
  refine wpAny_pure ⟨plainId_quiet F.plain_max_loop _, mxd_loop Wk _ (CmpOf.ints_gt (numAt xs) fun _ _ => intItems_at) (S := _) (fun hm => Nat.lt_irrefl _ (hfp _ hm)) dv _ 0 _ _ #[] rfl (Nat.zero_le _) (Wk.frame _ _ _ st fun b _ o e => Heap.get?_push_of_some _ e) (.inl ⟨rfl, rfl⟩) (Heap.get?_push_size _ rfl) fun v h' tk q1 q2 hk => ?_⟩
  rw [hsz] at q1 q2
  refine h v h' tk q1 q2 fun b o e => ?_
  have hb := Heap.lt_size e
  refine hk b o (fun hm => ?_) (Nat.ne_of_lt (by show b < (s.heap.push _).objs.size; rw [Heap.size_push]; exact Nat.lt_succ_of_lt hb)) (Heap.get?_push_of_some _ (Heap.get?_push_of_some _ e))
  rw [List.mem_singleton] at hm
  exact absurd (hm ▸ hb) (Nat.lt_irrefl _)
end
section
variable {X : Cx} {K : PySem.W.Frag}
def rMaxDf (K : PySem.W.Frag) : List V → List V → Hp → VK → Prop := fun vs zs H Q => ∃ (a : Addr) (ns : List Int) (d : Int), vs = [V.ref a] ∧ zs = [V.int d] ∧ SqL K H a (ns.map V.int) ∧ ∀ m, (ns = [] → m = d) → (ns ≠ [] → m ∈ ns ∧ ∀ y ∈ ns, y ≤ m) → Q (.int m) H
theorem cr_maxDf (hc : X.calm = true) : CallRK X (.builtin "max") [Str.ofString "default"] (rMaxDf X.K) := by
  intro pins s σ H vs zs us ws Q I r r2 h
  obtain ⟨a, ns, d, rfl, rfl, hs, q⟩ := h
  obtain ⟨its, rv, hl, _⟩ := I.list hs
  rw [Vals.ref1 r]
  obtain ⟨u, rfl, t, rfl⟩ := vals1 r2
  have hi := rv.ints
  obtain ⟨xs, e⟩ := hi.allInts.items
  have hn : numsOf (intItems xs).toList = ns := by rw [← e]; exact hi.numsOf
  rw [nums_intItems] at hn
  subst hn
  have hl : s.heap.IsList a its.toArray := hl.isList
  rw [e] at hl
  refine mxd_list (I.ok.hd hc) hl fun v h' tk q1 q2 hk => ?_
  have hlen : (xs.toList.map (·.1)).length = xs.size := by simp
  by_cases hz : xs.size = 0
  · rw [q1 hz]
    have en : xs.toList.map (·.1) = [] := List.eq_nil_of_length_eq_zero (by rw [hlen]; exact hz)
    exact ⟨.int d, H, I.kept hk, ⟨_, rfl⟩, q d (fun _ => rfl) fun z => absurd en z⟩
  · have hp : 0 < xs.size := by omega
    have hv := q2 hp
    obtain ⟨t', rfl⟩ := intItems_at hv
    obtain ⟨h1, h2⟩ := argBest_gt (numAt xs) (xs.size - 1)
    refine ⟨.int _, H, I.kept hk, ⟨_, rfl⟩, q _ (fun z => ?_) fun _ => ⟨?_, fun y hy => ?_⟩⟩
    · rw [z] at hlen
      have : (0 : Nat) = xs.size := hlen
      omega
    · rw [numAt_eq]; exact PySem.getD_mem (by rw [hlen]; omega)
    · obtain ⟨j, hj, rfl⟩ := mem_getD hy
      rw [hlen] at hj
      rw [← numAt_eq]
      exact h2 j (by omega)
/-- as data -/
def D.maxDf : List D → List D → Option D
  | [.lst ds], [.int d] => (D.ints ds).map fun
    | [] => .int d
    | n :: ns => .int (maxI n ns)
  | _, _ => none
def dCKw (f : List D → List D → Option D) (da dk : DA) : DE := fun ρ q er => da ρ (fun ts ρ1 => dk ρ1 (fun us ρ2 => Opt (rds ρ2 ts) fun ds => Opt (rds ρ2 us) fun es => Opt (f ds es) fun z => q (.val z) ρ2) er) er
theorem TkRs.grow {K : PySem.W.Frag} {G G' : Hp} {σ : RSt} (e : Ex G G') {vs : List V} {ts : List T} (h : TkRs K G σ vs ts) : TkRs K G' σ vs ts := h.mono e
theorem se_maxDf {pa : PaG} {W : WX} {ta tk : TA} {da dk : DA} (ha : SA K pa W ta da) (hk : SA K pa W tk dk) : SE K pa W (tCKw (rMaxDf K) ta tk) (dCKw D.maxDf da dk) := fun F G σ H ρ Q q er S h k x =>
  ha F G σ H ρ _ _ er S h (fun G1 H1 vs ts ρ1 e1 S1 r1 h1 => hk F G1 σ H1 ρ1 _ _ er S1 h1 (fun G2 H2 ws us ρ2 e2 S2 r2 h2 => by
    obtain ⟨ds, ed, es, ee, z, ez, h3⟩ := h2
    have R1 := rds_reps S2 (r1.grow e2) ed
    have R2 := rds_reps S2 r2 ee
    match ds, es, ez, R1, R2 with
    | [.lst ds], [.int d], ez, R1, R2 =>
      obtain ⟨p, vs', rfl, hs, rr⟩ := lst_one S2.ex R1
      obtain ⟨y, rfl, ry⟩ := R2.one
      rw [ry.int]
      have ez : ((D.ints ds).map fun
        | [] => D.int d
        | n :: ns => .int (maxI n ns)) = some z := ez
      cases q2 : D.ints ds with
      | none => rw [q2] at ez; cases ez
      | some bs =>
        rw [q2] at ez
        refine ⟨p, bs, d, rfl, rfl, reps_ints rr q2 ▸ hs, fun m m1 m2 => ?_⟩
        cases bs with
        | nil =>
          cases ez
          rw [m1 rfl]
          exact k G2 H2 _ (.val (.int d)) ρ2 (e1.trans e2) S2 (.int d) h3
        | cons n ns =>
          cases ez
          obtain ⟨hm, hy⟩ := m2 (by simp)
          have g1 := maxI_ge ns n
          have g2 := hy _ (maxI_mem ns n)
          have e3 : m = maxI n ns := by
            have : m ≤ maxI n ns := by rcases List.mem_cons.mp hm with e | h; rw [e]; exact g1.1; exact g1.2 m h
            omega
          rw [e3]
          exact k G2 H2 _ (.val (.int (maxI n ns))) ρ2 (e1.trans e2) S2 (.int _) h3) (x.grow e1)) x
end
end DL
set_option autoImplicit false
set_option Elab.async false
set_option linter.all false
set_option maxRecDepth 100000
/-! # list(range(n)), xs.index(x) -/
namespace DL
open PySem L2 Evl PyProof.Rows
section
variable {K : PySem.W.Frag} {pa : PaG} {W : WX} {te tf : TE} {de df : DE} {tk : TA} {dk : DA}
def dListRg1 (da : DE) : DF := fun ρ q er => da ρ (fun t ρ1 => Opt (rd ρ1 t) fun d => match d with
  | .int j => RgOk 0 j ∧ q (.lst ((List.range j.toNat).map fun (k : Nat) => .int (k : Int))) ρ1
  | _ => False) er
theorem reps_nats {G : Hp} : ∀ (l : List Nat), Reps K G (l.map fun i => V.int (0 + (i : Nat))) (l.map fun (i : Nat) => D.int (i : Int))
  | [] => .nil
  | n :: l => by
    rw [List.map_cons, List.map_cons, show (0 : Int) + (n : Nat) = (n : Int) from Int.zero_add _]
    exact .cons (.int _) (reps_nats l)
theorem sf_listRg1 (he : SE K pa W te de) : SF K pa W (tLstRg (tRg1 te)) (dListRg1 de) := fun F G σ H ρ Q q er S h k x =>
  he F G σ H ρ _ _ er S h (fun G1 H1 v t ρ1 e1 S1 r1 h1 => by
    obtain ⟨d, ed, h1⟩ := h1
    cases d with
    | int j =>
      rw [(S1.rdT r1 ed).int]
      refine ⟨j, rfl, h1.1, fun b hb => ?_⟩
      refine k G1 _ b (.lst ((List.range j.toNat).map fun (k : Nat) => .int (k : Int))) ρ1 e1 (S1.new hb) ⟨fresh_back S1.ex hb, fresh_back S1.fx hb⟩ ⟨_, upd_same, ?_⟩ (fresh_no S1 hb) h1.2
      have e2 : rgV 0 j = (List.range j.toNat).map fun i => V.int (0 + (i : Nat)) := by unfold rgV; rw [Int.sub_zero]
      rw [e2]
      exact reps_nats (List.range j.toNat)
    | _ => exact h1.elim) x
/-! xs.index(x), x one of them -/
def D.index (a b : D) : Option D := match a.toP, b.toP with
  | some (.list ps), some p => if SeqAt.shaped (.list ps) = true ∧ SeqAt.shaped p = true then (ps.findIdx? fun z => PyData.eqv z p).map fun j => .int (j : Int) else none
  | _, _ => none
def dIndex (de df : DE) : DE := fun ρ q er => de ρ (fun s ρ1 => Opt (rd ρ1 s) fun a0 => a0.isLst = true ∧ df ρ1 (fun t ρ2 => Opt (rd ρ2 s) fun a => Opt (rd ρ2 t) fun b => Opt (D.index a b) fun z => q (.val z) ρ2) er) er
theorem index_some {a b z : D} (h : D.index a b = some z) : ∃ (ps : List PyData) (p y : PyData) (j : Nat), a.toP = some (.list ps) ∧ b.toP = some p ∧ SeqAt.shaped (.list ps) = true ∧ SeqAt.shaped p = true ∧ ps[j]? = some y ∧ PyData.eqv y p = true ∧
    (∀ (m : Nat) (y' : PyData), m < j → ps[m]? = some y' → PyData.eqv y' p = false) ∧ z = .int (j : Int) := by
  unfold D.index at h
  split at h
  · rename_i ps p h1 h2
    split at h
    · rename_i hs
      cases e : ps.findIdx? fun z => PyData.eqv z p with
      | none => rw [e] at h; cases h
      | some j =>
        rw [e] at h
        cases h
        obtain ⟨hj, g1, g2⟩ := List.findIdx?_eq_some_iff_getElem.mp e
        refine ⟨ps, p, ps[j], j, h1, h2, hs.1, hs.2, by simp [hj], g1, fun m y' hm hy => ?_, rfl⟩
        obtain ⟨hm2, rfl⟩ := List.getElem?_eq_some_iff.mp hy
        have := g2 m hm
        simpa using this
    · cases h
  · cases h
theorem toP_list {a : D} {ps : List PyData} (h : a.toP = some (.list ps)) : ∃ xs, a = .lst xs := by
  cases a with
  | lst xs => exact ⟨xs, rfl⟩
  | tup xs =>
    rw [D.toP] at h
    cases e : D.toPs xs with
    | none => rw [e] at h; cases h
    | some q => rw [e] at h; cases h
  | non => rw [D.toP] at h; cases h
  | bl _ => rw [D.toP] at h; cases h
  | int _ => rw [D.toP] at h; cases h
  | str _ => rw [D.toP] at h; cases h
  | byt _ => rw [D.toP] at h; cases h
  | dct _ => rw [D.toP] at h; cases h
  | ins _ _ => rw [D.toP] at h; cases h
  | ptr _ => rw [D.toP] at h; cases h
  | ty _ => rw [D.toP] at h; cases h
  | exc _ _ => rw [D.toP] at h; cases h
theorem se_index (he : SE K pa W te de) (hf : SE K pa W tf df) : SE K pa W (tBM K "list" (rIndexD K) te (tCons tf tNil)) (dIndex de df) := fun F G σ H ρ Q q er S h k x =>
  he F G σ H ρ _ _ er S h (fun G1 H1 v s ρ1 e1 S1 r1 h1 => by
    obtain ⟨a0, ea0, hl, h1⟩ := h1
    cases a0 with
    | lst xs =>
      obtain ⟨p, vs, rfl, hs, rr⟩ := (S1.rdT r1 ea0).lst S1.ex
      refine ⟨.inl ⟨rfl, vs, hs⟩, ?_⟩
      refine hf F G1 σ H1 ρ1 _ _ er S1 h1 (fun G2 H2 w t ρ2 e2 S2 r2 h2 => ?_) (x.grow e1)
      obtain ⟨a, ea, b, eb, z, ez, h3⟩ := h2
      obtain ⟨ps, pp, y, j, t1, t2, s1, s2, g1, g2, g3, rfl⟩ := index_some ez
      exact ⟨p, w, pp, ps, j, y, rfl, rfl, repT_dp S2.ex (S2.rdT (r1.mono e2) ea) t1, repT_dp S2.ex (S2.rdT r2 eb) t2, s1, s2, g1, g2, g3, k G2 H2 _ (.val (.int (j : Int))) ρ2 (e1.trans e2) S2 (.int _) h3⟩
    | _ => cases hl) x
end
end DL
set_option autoImplicit false
set_option Elab.async false
set_option linter.all false
set_option maxRecDepth 100000
/-! # what the operations on data give -/
namespace DL
open PySem L2 Evl
theorem D_add (i j : Int) : D.add (.int i) (.int j) = some (.int (i + j)) := rfl
theorem D_sub (i j : Int) : D.sub (.int i) (.int j) = some (.int (i - j)) := rfl
theorem D_mod {i j : Int} (h : 0 < j) : D.mod (.int i) (.int j) = some (.int (i % j)) := by unfold D.mod; simp [h]
theorem D_div {i j : Int} (h : CDivW i j) : D.fdiv (.int i) (.int j) = some (.int (i / j)) := by unfold D.fdiv; simp [h]
theorem D_pow {i j : Int} (h : CPow i j) : D.pow (.int i) (.int j) = some (.int (i ^ j.toNat)) := by unfold D.pow; simp [h]
theorem D_mul {i j : Int} (h : CMul i j) : D.mul (.int i) (.int j) = some (.int (i * j)) := by unfold D.mul; simp [h]
theorem D_addS {x y : Str} (h : x.length + y.length ≤ sizeLine) : D.add (.str x) (.str y) = some (.str (x ++ y)) := by unfold D.add; simp [h]
theorem D_addL {x y : List D} (h : x.length + y.length ≤ sizeLine) : D.add (.lst x) (.lst y) = some (.lst (x ++ y)) := by unfold D.add; simp [h]
theorem ixn {xs : List D} {n : Nat} {i : Int} (e : i = (n : Int)) (h : n < xs.length) : D.ix (.lst xs) (.int i) = xs[n]? := by
  subst e
  show (ixN xs.length (n : Int)).bind (fun j => xs[j]?) = _
  unfold ixN
  rw [if_pos (by omega), if_pos (by omega)]
  rfl
theorem ixt {xs : List D} {n : Nat} {i : Int} (e : i = (n : Int)) (h : n < xs.length) : D.ix (.tup xs) (.int i) = xs[n]? := ixn (xs := xs) e h
theorem ix_last {xs : List D} {x : D} : D.ix (.lst (xs ++ [x])) (.int (-1)) = some x := by
  show (ixN (xs ++ [x]).length (-1)).bind (fun j => (xs ++ [x])[j]?) = _
  have e : ixN (xs ++ [x]).length (-1) = some xs.length := by
    unfold ixN
    rw [if_neg (by omega), if_pos (by simp; omega)]
    simp
    omega
  rw [e]
  simp
theorem ix0 (x : D) (xs : List D) : D.ix (.lst (x :: xs)) (.int 0) = some x := ixn (n := 0) rfl (by simp)
theorem ix1 (x y : D) (xs : List D) : D.ix (.lst (x :: y :: xs)) (.int 1) = some y := ixn (n := 1) rfl (by simp)
theorem ix2 (x y z : D) (xs : List D) : D.ix (.lst (x :: y :: z :: xs)) (.int 2) = some z := ixn (n := 2) rfl (by simp)
theorem ix3 (x y z u : D) (xs : List D) : D.ix (.lst (x :: y :: z :: u :: xs)) (.int 3) = some u := ixn (n := 3) rfl (by simp)
theorem ix4 (x y z u v : D) (xs : List D) : D.ix (.lst (x :: y :: z :: u :: v :: xs)) (.int 4) = some v := ixn (n := 4) rfl (by simp)
theorem tx0 (x : D) (xs : List D) : D.ix (.tup (x :: xs)) (.int 0) = some x := ixn (n := 0) rfl (by simp)
theorem tx1 (x y : D) (xs : List D) : D.ix (.tup (x :: y :: xs)) (.int 1) = some y := ixn (n := 1) rfl (by simp)
theorem tx2 (x y z : D) (xs : List D) : D.ix (.tup (x :: y :: z :: xs)) (.int 2) = some z := ixn (n := 2) rfl (by simp)
theorem sx0 : ixN 3 0 = some 0 := rfl
theorem sx1 : ixN 3 1 = some 1 := rfl
theorem sx2 : ixN 3 2 = some 2 := rfl

/-! ### plain data -/
mutual
def D.nice : Nat → D → Bool
  | _, .non => true
  | _, .bl _ => true
  | _, .int _ => true
  | _, .str x => PyData.strOk x
  | 0, .lst _ => false
  | 0, .tup _ => false
  | n + 1, .lst xs => D.nices n xs
  | n + 1, .tup xs => D.nices n xs
  | _, _ => false
def D.nices : Nat → List D → Bool
  | _, [] => true
  | n, x :: xs => D.nice n x && D.nices n xs
end
mutual
theorem nice_p : ∀ {d : D} {n : Nat}, d.nice n = true → ∃ p, d.toP = some p ∧ p.canLay0 = true ∧ p.depth ≤ n
  | .non, n, _ => ⟨.none, rfl, rfl, Nat.zero_le _⟩
  | .bl b, n, _ => ⟨.bool b, rfl, rfl, Nat.zero_le _⟩
  | .int b, n, _ => ⟨.int b, rfl, rfl, Nat.zero_le _⟩
  | .str x, n, h => ⟨.str x, rfl, by cases n <;> exact h, Nat.zero_le _⟩
  | .lst xs, 0, h => by cases h
  | .lst xs, n + 1, h => by
    obtain ⟨ps, h1, h2, h3⟩ := nices_p (d := xs) (n := n) h
    exact ⟨.list ps, by rw [D.toP, h1]; rfl, h2, by rw [PyData.depth]; omega⟩
  | .tup xs, 0, h => by cases h
  | .tup xs, n + 1, h => by
    obtain ⟨ps, h1, h2, h3⟩ := nices_p (d := xs) (n := n) h
    exact ⟨.tuple ps, by rw [D.toP, h1]; rfl, h2, by rw [PyData.depth]; omega⟩
  | .byt _, n, h => by cases n <;> cases h
  | .dct _, n, h => by cases n <;> cases h
  | .ins _ _, n, h => by cases n <;> cases h
  | .ptr _, n, h => by cases n <;> cases h
  | .ty _, n, h => by cases n <;> cases h
theorem nices_p : ∀ {d : List D} {n : Nat}, D.nices n d = true → ∃ ps, D.toPs d = some ps ∧ PyData.canLayAll0 ps = true ∧ PyData.depthAll ps ≤ n
  | [], n, _ => ⟨[], rfl, rfl, Nat.zero_le _⟩
  | x :: xs, n, h => by
    have h : (D.nice n x && D.nices n xs) = true := by cases n <;> exact h
    rw [Bool.and_eq_true] at h
    obtain ⟨p, a1, a2, a3⟩ := nice_p h.1
    obtain ⟨ps, b1, b2, b3⟩ := nices_p h.2
    exact ⟨p :: ps, by rw [D.toPs, a1, b1]; rfl, by rw [PyData.canLayAll0, a2, b2]; rfl, by rw [PyData.depthAll]; omega⟩
end
theorem nice_sh {d : D} {n : Nat} (h : d.nice n = true) (hn : n ≤ 64) : ∃ p, d.toP = some p ∧ SeqAt.shaped p = true := by
  obtain ⟨p, h1, h2, h3⟩ := nice_p h
  exact ⟨p, h1, by unfold SeqAt.shaped; rw [h2]; simpa using Nat.le_trans h3 hn⟩
mutual
theorem eqv_refl : ∀ p : PyData, p.canLay0 = true → PyData.eqv p p = true
  | .none, _ => rfl
  | .bool b, _ => by simp [PyData.eqv]
  | .int b, _ => by simp [PyData.eqv]
  | .str b, _ => by simp [PyData.eqv]
  | .list xs, h => eqvAll_refl xs h
  | .tuple xs, h => eqvAll_refl xs h
  | .dict _, h => by cases h
theorem eqvAll_refl : ∀ p : List PyData, PyData.canLayAll0 p = true → PyData.eqvAll p p = true
  | [], _ => rfl
  | x :: xs, h => by
    rw [PyData.canLayAll0, Bool.and_eq_true] at h
    rw [PyData.eqvAll, eqv_refl x h.1, eqvAll_refl xs h.2]; rfl
end
theorem eqB_nice {a b : D} {n m : Nat} (ha : a.nice n = true) (hb : b.nice m = true) (hn : n ≤ 64) (hm : m ≤ 64) : ∃ p q, a.toP = some p ∧ b.toP = some q ∧ D.eqB a b = some (PyData.eqv p q) := by
  obtain ⟨p, h1, h2⟩ := nice_sh ha hn
  obtain ⟨q, k1, k2⟩ := nice_sh hb hm
  exact ⟨p, q, h1, k1, by unfold D.eqB; rw [h1, k1]; simp [h2, k2]⟩
theorem eq_self {a : D} {n : Nat} (ha : a.nice n = true) (hn : n ≤ 64) : D.eq a a = some (.bl true) ∧ D.ne a a = some (.bl false) := by
  obtain ⟨p, q, h1, h2, h3⟩ := eqB_nice ha ha hn hn
  rw [h1] at h2
  cases h2
  obtain ⟨p', k1, k2, _⟩ := nice_p ha
  rw [h1] at k1
  cases k1
  unfold D.eq D.ne
  rw [h3, eqv_refl p k2]
  exact ⟨rfl, rfl⟩
theorem eq_int (i j : Int) : D.eq (.int i) (.int j) = some (.bl (i == j)) := rfl
theorem ne_int (i j : Int) : D.ne (.int i) (.int j) = some (.bl (!(i == j))) := rfl
theorem eq_str {x y : Str} (hx : PyData.strOk x = true) (hy : PyData.strOk y = true) : D.eq (.str x) (.str y) = some (.bl (x == y)) ∧ D.ne (.str x) (.str y) = some (.bl (!(x == y))) := by
  have h : D.eqB (.str x) (.str y) = some (x == y) := by
    show (if SeqAt.shaped (.str x) = true ∧ SeqAt.shaped (.str y) = true then some (PyData.eqv (.str x) (.str y)) else none) = _
    have e : ∀ z : Str, PyData.strOk z = true → SeqAt.shaped (.str z) = true := fun z hz => by
      unfold SeqAt.shaped PyData.canLay0
      rw [hz]
      rfl
    rw [if_pos ⟨e x hx, e y hy⟩]
    rfl
  exact ⟨by unfold D.eq; rw [h]; rfl, by unfold D.ne; rw [h]; rfl⟩
theorem ne_nil {xs : List D} {n : Nat} (h : D.nices n xs = true) (hn : n ≤ 63) : D.ne (.lst xs) (.lst []) = some (.bl (!xs.isEmpty)) ∧ D.eq (.lst xs) (.lst []) = some (.bl xs.isEmpty) := by
  obtain ⟨p, q, h1, h2, h3⟩ := eqB_nice (a := .lst xs) (b := .lst []) (n := n + 1) (m := 1) h rfl (by omega) (by decide)
  cases h2
  cases xs with
  | nil => cases h1; unfold D.ne D.eq; rw [h3]; exact ⟨rfl, rfl⟩
  | cons x xs =>
    have h1 : (D.toPs (x :: xs)).map PyData.list = some p := by rw [← h1, D.toP]
    cases e : D.toPs (x :: xs) with
    | none => rw [e] at h1; cases h1
    | some ps =>
      rw [e] at h1
      cases h1
      have : ∃ y ys, ps = y :: ys := by
        rw [D.toPs] at e
        cases e1 : D.toP x with
        | none => rw [e1] at e; cases e
        | some y =>
          cases e2 : D.toPs xs with
          | none => rw [e1, e2] at e; cases e
          | some ys => rw [e1, e2] at e; cases e; exact ⟨_, _, rfl⟩
      obtain ⟨y, ys, rfl⟩ := this
      unfold D.ne D.eq
      rw [h3]
      exact ⟨rfl, rfl⟩
theorem nices_map {α : Type} {f : α → D} {n : Nat} (h : ∀ a, (f a).nice n = true) : ∀ xs : List α, D.nices n (xs.map f) = true
  | [] => by cases n <;> rfl
  | x :: xs => by
    have : D.nices n (f x :: xs.map f) = (D.nice n (f x) && D.nices n (xs.map f)) := by cases n <;> rfl
    rw [List.map_cons, this, h x, nices_map h xs]; rfl
theorem nices_all {n : Nat} : ∀ {xs : List D}, (∀ x ∈ xs, x.nice n = true) → D.nices n xs = true
  | [], _ => by cases n <;> rfl
  | x :: xs, h => by
    have e : D.nices n (x :: xs) = (D.nice n x && D.nices n xs) := by cases n <;> rfl
    rw [e, h x (List.mem_cons_self ..), nices_all fun y hy => h y (List.mem_cons_of_mem _ hy)]; rfl
/-- x in a list of plain things -/
theorem inLst_nice {x : D} {xs : List D} {n m : Nat} (hx : x.nice n = true) (hs : D.nices m xs = true) (hn : n ≤ 64) (hm : m ≤ 63) : ∃ p ps, x.toP = some p ∧ D.toPs xs = some ps ∧ D.inLst x (.lst xs) = some (ps.any fun z => PyData.eqv z p) := by
  obtain ⟨p, h1, h2⟩ := nice_sh hx hn
  obtain ⟨q, k1, k2⟩ := nice_sh (d := .lst xs) (n := m + 1) hs (by omega)
  rw [D.toP] at k1
  cases e : D.toPs xs with
  | none => rw [e] at k1; cases k1
  | some ps =>
    rw [e] at k1
    cases k1
    refine ⟨p, ps, h1, rfl, ?_⟩
    show ((x.toP).bind fun p => (D.toPs xs).bind fun ps => if SeqAt.shaped p = true ∧ SeqAt.shaped (.list ps) = true then some (ps.any fun z => PyData.eqv z p) else none) = _
    rw [h1, e]
    simp [h2, k2]
theorem toPs_map {α : Type} {f : α → D} {g : α → PyData} (h : ∀ a, (f a).toP = some (g a)) : ∀ xs : List α, D.toPs (xs.map f) = some (xs.map g)
  | [] => rfl
  | x :: xs => by rw [List.map_cons, D.toPs, h x, toPs_map h xs]; rfl
theorem in_strs {x : Str} {xs : List Str} (hx : PyData.strOk x = true) (hs : ∀ y ∈ xs, PyData.strOk y = true) : D.isIn (.str x) (.lst (xs.map .str)) = some (.bl (decide (x ∈ xs))) ∧ D.notIn (.str x) (.lst (xs.map .str)) = some (.bl (!decide (x ∈ xs))) := by
  obtain ⟨p, ps, h1, h2, h3⟩ := inLst_nice (x := .str x) (xs := xs.map .str) (n := 0) (m := 0) hx (nices_all fun d hd => by obtain ⟨y, hy, rfl⟩ := List.mem_map.mp hd; exact hs y hy) (by decide) (by decide)
  cases h1
  rw [toPs_map (g := PyData.str) (fun _ => rfl)] at h2
  cases h2
  have e : ((xs.map PyData.str).any fun z => PyData.eqv z (.str x)) = decide (x ∈ xs) := by
    rw [List.any_map, Bool.eq_iff_iff, List.any_eq_true, decide_eq_true_iff]
    constructor
    · rintro ⟨y, hy, e⟩
      have e : (y == x) = true := e
      rw [← beq_iff_eq.mp e]; exact hy
    · intro h; exact ⟨x, h, by show (x == x) = true; simp⟩
  unfold D.isIn D.notIn
  rw [show D.inStr (.str x) (.lst (xs.map .str)) = none from rfl, h3, e]
  exact ⟨rfl, rfl⟩
theorem in_ints (x : Int) (xs : List Int) : D.isIn (.int x) (.lst (xs.map .int)) = some (.bl (decide (x ∈ xs))) ∧ D.notIn (.int x) (.lst (xs.map .int)) = some (.bl (!decide (x ∈ xs))) := by
  obtain ⟨p, ps, h1, h2, h3⟩ := inLst_nice (x := .int x) (xs := xs.map .int) (n := 0) (m := 0) rfl (nices_map (fun _ => rfl) xs) (by decide) (by decide)
  cases h1
  rw [toPs_map (g := PyData.int) (fun _ => rfl)] at h2
  cases h2
  have e : ((xs.map PyData.int).any fun z => PyData.eqv z (.int x)) = decide (x ∈ xs) := by
    rw [List.any_map, Bool.eq_iff_iff, List.any_eq_true, decide_eq_true_iff]
    constructor
    · rintro ⟨y, hy, e⟩
      have e : (y == x) = true := e
      rw [← beq_iff_eq.mp e]; exact hy
    · intro h; exact ⟨x, h, by show (x == x) = true; simp⟩
  unfold D.isIn D.notIn
  rw [show D.inStr (.int x) (.lst (xs.map .int)) = none from rfl, h3, e]
  exact ⟨rfl, rfl⟩
end DL
set_option autoImplicit false
set_option Elab.async false
set_option linter.all false
set_option maxRecDepth 100000
namespace DL
open PySem L2 Evl
/-! ### where simp goes: into what is asked, not into what comes behind.
The last argument's type names what comes behind: so simp takes that for fixed. -/
def idd {α : Sort _} (a : α) : α := a
theorem idd_eq {α : Sort _} (a : α) : idd a = a := rfl
def Ph {α : Sort _} (_ : α) : Type := Unit
def OptF {α : Type} (o : Option α) (k : α → Prop) (_ : Ph k := ()) : Prop := Opt o k
theorem opt_f {α : Type} (o : Option α) (k : α → Prop) : Opt o k = OptF o k := rfl
theorem optF_some {α : Type} (a : α) (k : α → Prop) : OptF (some a) k = k a := propext Opt_some
def CdF (c : Bool) (a b : Prop) (_ : Ph a := ()) (_ : Ph b := ()) : Prop := if c = true then a else b
theorem ite_cd (c : Bool) (a b : Prop) : (if c = true then a else b) = CdF c a b := rfl
theorem cd_true (a b : Prop) : CdF true a b = a := rfl
theorem cd_false (a b : Prop) : CdF false a b = b := rfl
def forLF (g : DG) (db : DS) (DD : Do) (ds : List D) (ρ : Ro) (_ : Ph g := ()) (_ : Ph db := ()) (_ : Ph DD := ()) : Prop := forL g db DD ds ρ
theorem forL_f (g : DG) (db : DS) (DD : Do) (ds : List D) (ρ : Ro) : forL g db DD ds ρ = forLF g db DD ds ρ := rfl
def lcLF (g : DG) (t : DT) (de : DE) (vs : List Nat) (q : List D → Ro → Prop) (ds acc : List D) (ρ : Ro) (_ : Ph g := ()) (_ : Ph t := ()) (_ : Ph de := ()) (_ : Ph q := ()) : Prop := lcL g t de vs q ds acc ρ
theorem lcL_f (g : DG) (t : DT) (de : DE) (vs : List Nat) (q : List D → Ro → Prop) (ds acc : List D) (ρ : Ro) : lcL g t de vs q ds acc ρ = lcLF g t de vs q ds acc ρ := rfl
def dcLF (g : DG) (t : DT) (dk de : DE) (vs : List Nat) (q : List (Key × D) → Ro → Prop) (ds : List D) (acc : List (Key × D)) (ρ : Ro) (_ : Ph g := ()) (_ : Ph t := ()) (_ : Ph dk := ()) (_ : Ph de := ()) (_ : Ph q := ()) : Prop := dcL g t dk de vs q ds acc ρ
theorem dcL_f (g : DG) (t : DT) (dk de : DE) (vs : List Nat) (q : List (Key × D) → Ro → Prop) (ds : List D) (acc : List (Key × D)) (ρ : Ro) : dcL g t dk de vs q ds acc ρ = dcLF g t dk de vs q ds acc ρ := rfl
def Run (dsp : DSp) (av : List Sl) (q : D → List D → Prop) (er : Addr → List (Str × D) → List D → Prop) (_ : Ph dsp := ()) (_ : Ph q := ()) (_ : Ph er := ()) : Prop := dsp av q er
theorem noEr_run (dsp : DSp) (av : List Sl) (q : D → List D → Prop) (er : Addr → List (Str × D) → List D → Prop) : noEr dsp av q er = Run dsp av q (fun _ _ _ => False) := rfl
def getS (o : Option Sl) (f : D → Prop) (b : Prop) (_ : Ph f := ()) (_ : Ph b := ()) : Prop := match o with
  | some (.val d) => f d
  | some (.own _) => b
  | some (.par _) => b
  | _ => False
theorem getS_val (d : D) (f : D → Prop) (b : Prop) : getS (some (.val d)) f b = f d := rfl
theorem getS_own (d : D) (f : D → Prop) (b : Prop) : getS (some (.own d)) f b = b := rfl
theorem getS_par (d : D) (f : D → Prop) (b : Prop) : getS (some (.par d)) f b = b := rfl
theorem w_var {i : Nat} {ρ : Ro} {q : T → Ro → Prop} {er : ER} : dVar i ρ q er = getS ρ[i]? (fun d => q (.val d) ρ) (q (.bor i) ρ) := by
  unfold dVar getS
  cases ρ[i]? with
  | none => rfl
  | some s => cases s <;> rfl
/-! ### what is asked, by rows of their own -/
section
variable {ρ : Ro} {d : D} {i : Nat} {is : List Nat} {t : T} {ts : List T} {n m : Int} {b : Bool} {xs : List D}
theorem rd_val : rd ρ (.val d) = some d := rfl
theorem rd_bor : rd ρ (.bor i) = (ρ[i]?).bind Sl.ownD := rfl
theorem ownD_own : (Sl.own d).ownD = some d := rfl
theorem ownD_par : (Sl.par d).ownD = some d := rfl
theorem rds_nil : rds ρ [] = some [] := rfl
theorem rds_cons : rds ρ (t :: ts) = (rd ρ t).bind fun d => (rds ρ ts).map fun ds => d :: ds := rfl
theorem vals_nil : vals [] = some [] := rfl
theorem vals_val : vals (.val d :: ts) = (vals ts).map fun ds => d :: ds := rfl
theorem argsOf_nil : argsOf ρ [] = some [] := rfl
theorem argsOf_val : argsOf ρ (.val d :: ts) = (argsOf ρ ts).map fun a => .val d :: a := rfl
theorem argsOf_bor : argsOf ρ (.bor i :: ts) = (rd ρ (.bor i)).bind fun d => (argsOf ρ ts).map fun a => .par d :: a := rfl
theorem ownAt_def : ownAt ρ i = (ρ[i]?).bind Sl.ownD := rfl
def Sl.parD : Sl → Option D
  | .par d => some d
  | _ => none
theorem parD_par : (Sl.par d).parD = some d := rfl
theorem outs_nil : outs ρ [] = some [] := rfl
theorem outs_cons : outs ρ (i :: is) = ((ρ[i]?).bind Sl.parD).bind fun d => (outs ρ is).map fun ds => d :: ds := by
  rw [outs]
  cases ρ[i]? with
  | none => rfl
  | some s => cases s <;> rfl
theorem bool_bl : (D.bl b).bool = some b := rfl
theorem toInt_int : D.toInt [.int n] = some (.int n) := rfl
theorem toInt_bl : D.toInt [.bl b] = some (.int (if b = true then 1 else 0)) := rfl
theorem truth_bl : (D.bl b).truth = some b := rfl
theorem truth_int : (D.int n).truth = some (n != 0) := rfl
theorem truth_non : D.non.truth = some false := rfl
theorem cmp_int {p : Int → Int → Bool} : D.cmp p (.int n) (.int m) = some (.bl (p n m)) := rfl
theorem neg_int : D.neg (.int n) = some (.int (-n)) := rfl
theorem len_lst : D.len [.lst xs] = some (.int xs.length) := rfl
theorem len_tup : D.len [.tup xs] = some (.int xs.length) := rfl
theorem items_lst : (D.lst xs).items = some xs := rfl
theorem items_tup : (D.tup xs).items = some xs := rfl
end
/-! ### loops by an invariant -/
theorem forL_inv {g : DG} {db : DS} {nx0 : Ro → Prop} {rt : T → Ro → Prop} {rf : D → Ro → Prop} {bk ct : Ro → Prop} {er : ER} {ds : List D} {ρ : Ro} (I : Nat → Ro → Prop) (h0 : I 0 ρ)
    (step : ∀ (i : Nat) (d : D) (ρ : Ro) (nx : Ro → Prop), ds[i]? = some d → I i ρ → (∀ ρ', I (i + 1) ρ' → nx ρ') → g (.val d) ρ fun ρ1 => db ⟨nx, rt, rf, nx0, nx, er⟩ ρ1)
    (fin : ∀ ρ, I ds.length ρ → nx0 ρ) : forL g db ⟨nx0, rt, rf, bk, ct, er⟩ ds ρ := by
  have go : ∀ (n i : Nat) (ρ : Ro), ds.length - i = n → i ≤ ds.length → I i ρ → forL g db ⟨nx0, rt, rf, bk, ct, er⟩ (ds.drop i) ρ := by
    intro n
    induction n with
    | zero =>
      intro i ρ e hi h
      have ei : i = ds.length := by omega
      subst ei
      rw [List.drop_length]
      exact fin ρ h
    | succ n ih =>
      intro i ρ e hi h
      have hlt : i < ds.length := by omega
      rw [List.drop_eq_getElem_cons hlt]
      exact step i ds[i] ρ _ (by simp [hlt]) h fun ρ' h' => ih (i + 1) ρ' (by omega) hlt h'
  exact go _ 0 ρ rfl (Nat.zero_le _) h0
theorem lcL_inv {g : DG} {t : DT} {de : DE} {vs : List Nat} {q : List D → Ro → Prop} {ds : List D} {ρ : Ro} (I : Nat → List D → Ro → Prop) (h0 : I 0 [] ρ)
    (step : ∀ (i : Nat) (d : D) (acc : List D) (ρ : Ro) (nx : List D → Ro → Prop), ds[i]? = some d → I i acc ρ → (∀ acc' ρ', I (i + 1) acc' ρ' → nx acc' ρ') →
      g (.val d) (wipeD ρ vs) fun ρ1 => t ρ1 (fun b ρ2 => if b = true then de ρ2 (fun s ρ3 => match s with
        | .val y => acc.length < sizeLine ∧ nx (acc ++ [y]) (wipeD ρ3 vs)
        | .bor _ => False) (fun _ _ _ => False) else nx acc (wipeD ρ2 vs)) (fun _ _ _ => False))
    (fin : ∀ acc ρ, I ds.length acc ρ → q acc ρ) : lcL g t de vs q ds [] ρ := by
  have go : ∀ (n i : Nat) (acc : List D) (ρ : Ro), ds.length - i = n → i ≤ ds.length → I i acc ρ → lcL g t de vs q (ds.drop i) acc ρ := by
    intro n
    induction n with
    | zero =>
      intro i acc ρ e hi h
      have ei : i = ds.length := by omega
      subst ei
      rw [List.drop_length]
      exact fin acc ρ h
    | succ n ih =>
      intro i acc ρ e hi h
      have hlt : i < ds.length := by omega
      rw [List.drop_eq_getElem_cons hlt]
      exact step i ds[i] acc ρ (fun acc' ρ' => lcL g t de vs q (ds.drop (i + 1)) acc' ρ') (by simp [hlt]) h fun acc' ρ' h' => ih (i + 1) acc' ρ' (by omega) hlt h'
  exact go _ 0 [] ρ rfl (Nat.zero_le _) h0
theorem dcL_inv {g : DG} {t : DT} {dk de : DE} {vs : List Nat} {q : List (Key × D) → Ro → Prop} {ds : List D} {ρ : Ro} (I : Nat → List (Key × D) → Ro → Prop) (h0 : I 0 [] ρ)
    (step : ∀ (i : Nat) (d : D) (acc : List (Key × D)) (ρ : Ro) (nx : List (Key × D) → Ro → Prop), ds[i]? = some d → I i acc ρ → (∀ acc' ρ', I (i + 1) acc' ρ' → nx acc' ρ') →
      g (.val d) (wipeD ρ vs) fun ρ1 => t ρ1 (fun b ρ2 => if b = true then dk ρ2 (fun u ρ3 => match u with
        | .val y => Opt y.key fun kk => de ρ3 (fun s ρ4 => match s with
          | .val z => acc.length < sizeLine ∧ nx (putKD acc kk z) (wipeD ρ4 vs)
          | .bor _ => False) (fun _ _ _ => False)
        | .bor _ => False) (fun _ _ _ => False) else nx acc (wipeD ρ2 vs)) (fun _ _ _ => False))
    (fin : ∀ acc ρ, I ds.length acc ρ → q acc ρ) : dcL g t dk de vs q ds [] ρ := by
  have go : ∀ (n i : Nat) (acc : List (Key × D)) (ρ : Ro), ds.length - i = n → i ≤ ds.length → I i acc ρ → dcL g t dk de vs q (ds.drop i) acc ρ := by
    intro n
    induction n with
    | zero =>
      intro i acc ρ e hi h
      have ei : i = ds.length := by omega
      subst ei
      rw [List.drop_length]
      exact fin acc ρ h
    | succ n ih =>
      intro i acc ρ e hi h
      have hlt : i < ds.length := by omega
      rw [List.drop_eq_getElem_cons hlt]
      exact step i ds[i] acc ρ (fun acc' ρ' => dcL g t dk de vs q (ds.drop (i + 1)) acc' ρ') (by simp [hlt]) h fun acc' ρ' h' => ih (i + 1) acc' ρ' (by omega) hlt h'
  exact go _ 0 [] ρ rfl (Nat.zero_le _) h0
def Sl.isP : Sl → Bool
  | .par _ => true
  | _ => false
theorem isPar0 (a : Sl) (l : Ro) : isPar (a :: l) 0 = a.isP := by cases a <;> rfl
theorem isParS (a : Sl) (l : Ro) (n : Nat) : isPar (a :: l) (n + 1) = isPar l n := rfl
theorem isPN (l : Ro) : isPar [] 0 = false := rfl

/-! ### statements, what comes behind held as an atom -/
section
variable {nx : Ro → Prop} {rt : T → Ro → Prop} {rf : D → Ro → Prop} {bk ct : Ro → Prop} {er : ER} {a b : DS} {ρ : Ro} {t : DT} {de dk : DE} {df dh : DF} {da : DA} {di : DI} {g : DG} {i j l : Nat} {f : Str} {Cs : List Addr} {N : Nat} {av : List Sl} {q : D → List D → Prop} {er0 : Addr → List (Str × D) → List D → Prop}
theorem w_seq : dSeq a b ⟨nx, rt, rf, bk, ct, er⟩ ρ = a ⟨b ⟨nx, rt, rf, bk, ct, er⟩, rt, rf, bk, ct, er⟩ ρ := rfl
theorem w_next : dNext ⟨nx, rt, rf, bk, ct, er⟩ ρ = nx ρ := rfl
theorem w_brk : dBrk ⟨nx, rt, rf, bk, ct, er⟩ ρ = bk ρ := rfl
theorem w_cnt : dCnt ⟨nx, rt, rf, bk, ct, er⟩ ρ = ct ρ := rfl
theorem w_drop : dDrop de ⟨nx, rt, rf, bk, ct, er⟩ ρ = de ρ (fun _ ρ1 => nx ρ1) er := rfl
theorem w_ret : dRet de ⟨nx, rt, rf, bk, ct, er⟩ ρ = de ρ rt er := rfl
theorem w_retF : dRetF df ⟨nx, rt, rf, bk, ct, er⟩ ρ = df ρ rf er := rfl
theorem w_retN : dRetN ⟨nx, rt, rf, bk, ct, er⟩ ρ = rt (.val .non) ρ := rfl
theorem w_if : dIfS t a b ⟨nx, rt, rf, bk, ct, er⟩ ρ = t ρ (fun c ρ1 => if c = true then a ⟨nx, rt, rf, bk, ct, er⟩ ρ1 else b ⟨nx, rt, rf, bk, ct, er⟩ ρ1) er := rfl
theorem w_asg : dAsg de g ⟨nx, rt, rf, bk, ct, er⟩ ρ = de ρ (fun t ρ1 => g t ρ1 nx) er := rfl
theorem w_own : dOwn df i ⟨nx, rt, rf, bk, ct, er⟩ ρ = df ρ (fun d ρ1 => (isPar ρ1 i = false ∧ i < ρ1.length) ∧ nx (ρ1.set i (.own d))) er := rfl
theorem w_for : dFor di g b ⟨nx, rt, rf, bk, ct, er⟩ ρ = di ρ (fun ds ρ1 => forL g b ⟨nx, rt, rf, bk, ct, er⟩ ds ρ1) er := rfl
theorem w_setIx : dSetIx i dk de ⟨nx, rt, rf, bk, ct, er⟩ ρ = de ρ (fun t ρ1 => match t with
  | .val e => (ownAt ρ1 i).isSome = true ∧ dk ρ1 (fun u ρ2 => Opt (rd ρ2 u) fun k => Opt (ownAt ρ2 i) fun d => match d, k with
    | .lst ds, .int z => Opt (ixN ds.length z) fun j => nx (setD ρ2 i (.lst (ds.set j e)))
    | _, _ => False) er
  | .bor _ => False) er := rfl
theorem w_setF : dSetF Cs i f de ⟨nx, rt, rf, bk, ct, er⟩ ρ = de ρ (fun t ρ1 => match t with
  | .val e => Opt (ownAt ρ1 i) fun d => (match d with
    | .ins C es => C ∈ Cs ∧ es.length < 1000 ∧ nx (setD ρ1 i (.ins C (putFD f e es)))
    | _ => False)
  | .bor _ => False) er := rfl
theorem w_dput : dDPut i dk de ⟨nx, rt, rf, bk, ct, er⟩ ρ = de ρ (fun t ρ1 => match t with
  | .val e => (ownAt ρ1 i).isSome = true ∧ dk ρ1 (fun u ρ2 => Opt (rd ρ2 u) fun kd => Opt kd.key fun k => Opt (ownAt ρ2 i) fun d => (match d with
    | .dct kvs => kvs.length < sizeLine ∧ nx (setD ρ2 i (.dct (putKD kvs k e)))
    | _ => False)) er
  | .bor _ => False) er := rfl
theorem w_par : dPar i j da ⟨nx, rt, rf, bk, ct, er⟩ ρ = da ρ (fun ts ρ1 => match ts with
  | [.val a, .val b] => (isPar ρ1 i = false ∧ isPar ρ1 j = false) ∧ nx ((ρ1.set i (.val a)).set j (.val b))
  | _ => False) er := rfl
theorem w_par3 : dPar3 i j l da ⟨nx, rt, rf, bk, ct, er⟩ ρ = da ρ (fun ts ρ1 => match ts with
  | [.val a, .val b, .val c] => (isPar ρ1 i = false ∧ isPar ρ1 j = false ∧ isPar ρ1 l = false) ∧ nx (((ρ1.set i (.val a)).set j (.val b)).set l (.val c))
  | _ => False) er := rfl
theorem w_parVO : dParVO i j de df ⟨nx, rt, rf, bk, ct, er⟩ ρ = de ρ (fun t ρ1 => match t with
  | .val a => df ρ1 (fun b ρ2 => (isPar ρ2 i = false ∧ isPar ρ2 j = false) ∧ nx ((ρ2.set i (.val a)).set j (.own b))) er
  | .bor _ => False) er := rfl
theorem w_parOV : dParOV i j df de ⟨nx, rt, rf, bk, ct, er⟩ ρ = df ρ (fun a ρ1 => de ρ1 (fun t ρ2 => match t with
  | .val b => (isPar ρ2 i = false ∧ isPar ρ2 j = false) ∧ nx ((ρ2.set i (.own a)).set j (.val b))
  | .bor _ => False) er) er := rfl
theorem w_parOO : dParOO i j df dh ⟨nx, rt, rf, bk, ct, er⟩ ρ = df ρ (fun a ρ1 => dh ρ1 (fun b ρ2 => (isPar ρ2 i = false ∧ isPar ρ2 j = false) ∧ nx ((ρ2.set i (.own a)).set j (.own b))) er) er := rfl
theorem w_body : dBody N a av q er0 = a ⟨fun ρ => Opt (outs ρ (parIx av 0)) fun os => q .non os, fun t ρ => match t with
    | .val d => Opt (outs ρ (parIx av 0)) fun os => q d os
    | .bor _ => False, fun _ _ => False, fun _ => False, fun _ => False, fun C fs ρ => Opt (outs ρ (parIx av 0)) fun os => er0 C fs os⟩ (av ++ List.replicate (N - av.length) .no) := rfl
end
theorem isP_val (d : D) : (Sl.val d).isP = false := rfl
theorem isP_own (d : D) : (Sl.own d).isP = false := rfl
theorem isP_no : Sl.no.isP = false := rfl
theorem isP_par (d : D) : (Sl.par d).isP = true := rfl
/-! ### texts -/
/-- the text of these signs -/
def mk (l : List Nat) : Str := ⟨l.toArray⟩
theorem mk_len (l : List Nat) : (mk l).length = l.length := by simp [mk, Str.length]
theorem mk_of (x : Str) : x = mk x.cps.toList := by simp [mk]
theorem mk_app (a b : List Nat) : mk a ++ mk b = mk (a ++ b) := by
  show (⟨a.toArray ++ b.toArray⟩ : Str) = _
  simp [mk]
theorem mk_inj {a b : List Nat} (h : mk a = mk b) : a = b := by
  have := congrArg (fun s : Str => s.cps.toList) h
  simpa [mk] using this
theorem ixs {l : List Nat} {n : Nat} {i : Int} (e : i = (n : Int)) (h : n < l.length) (hl : l.length ≤ sizeLine) : D.ix (.str (mk l)) (.int i) = some (.str (mk [l[n]])) := by
  subst e
  show (if (mk l).length ≤ sizeLine then (atI (mk l).cps.toList (n : Int)).map fun c => D.str ⟨#[c]⟩ else none) = _
  rw [if_pos (by rw [mk_len]; exact hl)]
  have e2 : (mk l).cps.toList = l := by simp [mk]
  have e3 : atI l (n : Int) = some l[n] := by
    show (ixN l.length (n : Int)).bind (fun j => l[j]?) = _
    unfold ixN
    rw [if_pos (by omega), if_pos (by omega)]
    simp [h]
  rw [e2, e3]
  rfl
theorem len_mk {l : List Nat} (h : l.length ≤ sizeLine) : D.len [.str (mk l)] = some (.int (l.length : Int)) := by
  show (if (mk l).length ≤ sizeLine then some (D.int (mk l).length) else none) = _
  rw [mk_len, if_pos h]
theorem strOk_mk {l : List Nat} (h : ∀ c ∈ l, c < 0x110000) : PyData.strOk (mk l) = true := by
  unfold PyData.strOk mk
  simp
  exact h
theorem cutS_eq (l : List Nat) (lo hi : Option Int) : cutS (mk l) lo hi = mk ((l.drop (HT.sIx l.length 0 lo)).take (HT.sIx l.length l.length hi - HT.sIx l.length 0 lo)) := by
  unfold cutS
  rw [mk_len]
  rfl
theorem cut_lo {l : List Nat} {n : Nat} (h : n ≤ l.length) (hl : l.length ≤ sizeLine) : D.cut (.str (mk l)) none (some (n : Int)) = some (.str (mk (l.take n))) := by
  show (if (mk l).length ≤ sizeLine then some (D.str (cutS (mk l) none (some (n : Int)))) else none) = _
  rw [mk_len, if_pos hl, cutS_eq, HT.sIx_nat, HT.sIx_none, Nat.min_eq_left h]
  simp
theorem cut_hi {l : List Nat} {n : Nat} (h : n ≤ l.length) (hl : l.length ≤ sizeLine) : D.cut (.str (mk l)) (some (n : Int)) none = some (.str (mk (l.drop n))) := by
  show (if (mk l).length ≤ sizeLine then some (D.str (cutS (mk l) (some (n : Int)) none)) else none) = _
  rw [mk_len, if_pos hl, cutS_eq, HT.sIx_nat, HT.sIx_none, Nat.min_eq_left h]
  rw [List.take_of_length_le (by simp)]
theorem cutL {l : List D} (lo hi : Option Int) : D.cut (.lst l) lo hi = some (.lst ((l.drop (HT.sIx l.length 0 lo)).take (HT.sIx l.length l.length hi - HT.sIx l.length 0 lo))) := rfl
theorem cutL_lo {l : List D} {n : Nat} : D.cut (.lst l) none (some (n : Int)) = some (.lst (l.take n)) := by
  rw [cutL, HT.sIx_nat, HT.sIx_none, List.drop_zero, Nat.sub_zero]
  congr 2
  rcases Nat.le_total n l.length with h | h
  · rw [Nat.min_eq_left h]
  · rw [Nat.min_eq_right h, List.take_of_length_le (Nat.le_refl _), List.take_of_length_le h]
theorem cutL_hi {l : List D} {n : Nat} (h : n ≤ l.length) : D.cut (.lst l) (some (n : Int)) none = some (.lst (l.drop n)) := by
  rw [cutL, HT.sIx_nat, HT.sIx_none, Nat.min_eq_left h, List.take_of_length_le (by simp)]
end DL
namespace DL
open PySem L2 Evl
/-! ### names -/
def isAz (c : Nat) : Prop := 97 ≤ c ∧ c ≤ 122
def isDg (c : Nat) : Prop := 48 ≤ c ∧ c ≤ 57
def isAn (c : Nat) : Prop := isAz c ∨ isDg c
instance (c : Nat) : Decidable (isAz c) := by unfold isAz; infer_instance
instance (c : Nat) : Decidable (isDg c) := by unfold isDg; infer_instance
instance (c : Nat) : Decidable (isAn c) := by unfold isAn; infer_instance
/-- a name's signs -/
def IsNm (l : List Nat) : Prop := ∃ c cs, l = c :: cs ∧ isAz c ∧ (∀ d ∈ cs, isAn d) ∧ cs.length ≤ 7
theorem IsNm.ok {l : List Nat} (h : IsNm l) : PyData.strOk (mk l) = true ∧ 0 < l.length ∧ l.length ≤ 8 := by
  obtain ⟨c, cs, rfl, h1, h2, h3⟩ := h
  refine ⟨strOk_mk fun d hd => ?_, by simp, by simp; omega⟩
  rcases List.mem_cons.mp hd with e | hd
  · subst e; obtain ⟨a, b⟩ := h1; omega
  · rcases h2 d hd with ⟨a, b⟩ | ⟨a, b⟩ <;> omega
def L25 : List Nat := [97, 98, 99, 100, 101, 102, 103, 104, 105, 106, 107, 108, 109, 110, 111, 112, 114, 115, 116, 117, 118, 119, 120, 121, 122]
def L11 : List Nat := [113, 48, 49, 50, 51, 52, 53, 54, 55, 56, 57]
theorem str25 : PySem.Str.ofString "abcdefghijklmnoprstuvwxyz" = mk L25 := by decide +kernel
theorem str11 : PySem.Str.ofString "q0123456789" = mk L11 := by decide +kernel
theorem strq : PySem.Str.ofString "q" = mk [113] := by decide +kernel
theorem in25 : ∀ c ∈ L25, isAz c ∧ c ≠ 113 ∧ ¬ isDg c := by decide
theorem in36 : ∀ c ∈ L25 ++ L11, isAn c := by decide
/-- the signs of q with a number behind -/
def qn (j : Nat) : List Nat := if j < 10 then [113, 48 + j] else [113, 48 + j / 10, 48 + j % 10]
theorem qn_str : ∀ j : Fin 60, (toString ((j.val : Nat) : Int) : Str) = mk (qn j.val).tail := by decide +kernel
theorem qn_ok : ∀ j : Fin 60, (qn j.val).head? = some 113 ∧ (∀ d ∈ (qn j.val).tail, isDg d) ∧ (qn j.val).length ≤ 3 ∧ 113 :: (qn j.val).tail = qn j.val := by decide +kernel
theorem qn_inj : ∀ i j : Fin 60, qn i.val = qn j.val → i = j := by decide +kernel
theorem toStr_small : ∀ j : Fin 60, D.toStr [.int ((j.val : Nat) : Int)] = some (.str (mk (qn j.val).tail)) := fun j => by
  rw [← qn_str j]
  show (if _ then _ else _) = _
  rw [if_pos]
  have := j.isLt
  rw [Int.natAbs_natCast]
  rcases Nat.eq_zero_or_pos j.val with e | e
  · rw [e]; decide
  · have := (Nat.log2_lt (n := j.val) (k := 64) (by omega)).mpr (by omega)
    omega
/-- a name that is no q with a number -/
def NotQ (l : List Nat) : Prop := l.head? ≠ some 113 ∨ ∃ d ∈ l.tail, ¬ isDg d
theorem notq_ne {l : List Nat} (h : NotQ l) (j : Fin 60) : l ≠ qn j.val := fun e => by
  obtain ⟨a, b, _⟩ := qn_ok j
  rcases h with h | ⟨d, hd, h⟩
  · exact h (by rw [e]; exact a)
  · rw [e] at hd; exact h (b d hd)
/-- the names so far -/
structure Nms (k : Nat) (fs : List (List Nat)) : Prop where
  nd : fs.Nodup
  nm : ∀ l ∈ fs, IsNm l
  kd : ∀ l ∈ fs, NotQ l ∨ ∃ j : Fin 60, j.val < k ∧ l = qn j.val
theorem Nms.nil : Nms 0 [] := ⟨List.nodup_nil, (fun l h => by cases h), (fun l h => by cases h)⟩
theorem Nms.snoc {k : Nat} {fs : List (List Nat)} (N : Nms k fs) {l : List Nat} (h1 : IsNm l) (h2 : l ∉ fs) (h3 : NotQ l ∨ ∃ j : Fin 60, j.val = k ∧ l = qn j.val) : Nms (k + 1) (fs ++ [l]) where
  nd := by
    rw [List.nodup_append]
    exact ⟨N.nd, by simp, fun a ha b hb e => by rw [List.mem_singleton] at hb; subst hb; subst e; exact h2 ha⟩
  nm := fun a ha => by
    rcases List.mem_append.mp ha with h | h
    · exact N.nm a h
    · rw [List.mem_singleton] at h; subst h; exact h1
  kd := fun a ha => by
    rcases List.mem_append.mp ha with h | h
    · rcases N.kd a h with h | ⟨j, h, e⟩
      · exact .inl h
      · exact .inr ⟨j, by omega, e⟩
    · rw [List.mem_singleton] at h
      subst h
      rcases h3 with h | ⟨j, h, e⟩
      · exact .inl h
      · exact .inr ⟨j, by omega, e⟩
theorem Nms.q {k : Fin 60} {fs : List (List Nat)} (N : Nms k.val fs) : IsNm (qn k.val) ∧ qn k.val ∉ fs := by
  obtain ⟨a, b, c, d⟩ := qn_ok k
  refine ⟨⟨113, (qn k.val).tail, d.symm, by decide, fun x hx => .inr (b x hx), by rw [List.length_tail]; omega⟩, fun h => ?_⟩
  rcases N.kd _ h with h | ⟨j, h, e⟩
  · exact notq_ne h k rfl
  · have := qn_inj _ _ e
    rw [← this] at h
    omega
end DL
set_option autoImplicit false
set_option Elab.async false
set_option linter.all false
set_option maxRecDepth 100000
namespace DL
open PySem L2 Evl
/-! ### isinstance of plain things -/
section
variable {K : PySem.W.Frag} {Cs : List Addr} {n : Int} {x : Str} {xs : List D} {b : Bool} {s : String} {d : D} {ts : List T}
theorem kno_int : (D.int n).kno Cs = true := rfl
theorem kno_str : (D.str x).kno Cs = true := rfl
theorem kno_lst : (D.lst xs).kno Cs = true := rfl
theorem kno_tup : (D.tup xs).kno Cs = true := rfl
theorem kno_bl : (D.bl b).kno Cs = true := rfl
theorem kno_non : D.non.kno Cs = true := rfl
theorem tyV_int : (D.int n).tyV = some (.type "int") := rfl
theorem tyV_bl : (D.bl b).tyV = some (.type "bool") := rfl
theorem tyV_str : (D.str x).tyV = some (.type "str") := rfl
theorem tyV_lst : (D.lst xs).tyV = some (.type "list") := rfl
theorem tyV_tup : (D.tup xs).tyV = some (.type "tuple") := rfl
theorem tyV_non : D.non.tyV = some (.type "NoneType") := rfl
theorem clV_ty : (D.ty s).clV = some (.type s) := rfl
theorem clVT_nil : clVT [] = some [] := rfl
theorem clVT_val : clVT (.val d :: ts) = d.clV.bind fun u => (clVT ts).map fun us => u :: us := rfl
theorem kit_same (s : String) : PySem.W.kitOne K (.type s) (.type s) = some true := by unfold PySem.W.kitOne; rw [if_pos (by simp)]
theorem kit_int_bool : PySem.W.kitOne K (.type "int") (.type "bool") = some false := by rfl
theorem kit_bool_int : PySem.W.kitOne K (.type "bool") (.type "int") = some true := by rfl
theorem kit_list_tuple : PySem.W.kitOne K (.type "list") (.type "tuple") = some false := by rfl
theorem kit_tuple_list : PySem.W.kitOne K (.type "tuple") (.type "list") = some false := by rfl
theorem kits_list : PySem.W.kitAny K (.type "list") [.type "list", .type "tuple"] = some true := by unfold PySem.W.kitAny; rw [kit_same]
theorem kits_tuple : PySem.W.kitAny K (.type "tuple") [.type "list", .type "tuple"] = some true := by
  unfold PySem.W.kitAny
  rw [kit_tuple_list]
  show PySem.W.kitAny K (.type "tuple") [.type "tuple"] = some true
  unfold PySem.W.kitAny
  rw [kit_same]
end
/-! ### signs -/
def L26 : List Nat := [97, 98, 99, 100, 101, 102, 103, 104, 105, 106, 107, 108, 109, 110, 111, 112, 113, 114, 115, 116, 117, 118, 119, 120, 121, 122]
def L10 : List Nat := [48, 49, 50, 51, 52, 53, 54, 55, 56, 57]
theorem str26 : PySem.Str.ofString "abcdefghijklmnopqrstuvwxyz" = mk L26 := by decide +kernel
theorem str10 : PySem.Str.ofString "0123456789" = mk L10 := by decide +kernel
theorem az26 {c : Nat} (h : isAz c) : c ∈ L26 := by
  obtain ⟨a, b⟩ := h
  have : c = 97 ∨ c = 98 ∨ c = 99 ∨ c = 100 ∨ c = 101 ∨ c = 102 ∨ c = 103 ∨ c = 104 ∨ c = 105 ∨ c = 106 ∨ c = 107 ∨ c = 108 ∨ c = 109 ∨ c = 110 ∨ c = 111 ∨ c = 112 ∨ c = 113 ∨ c = 114 ∨ c = 115 ∨ c = 116 ∨ c = 117 ∨ c = 118 ∨ c = 119 ∨ c = 120 ∨ c = 121 ∨ c = 122 := by omega
  simp [L26, this]
theorem an36 {c : Nat} (h : isAn c) : c ∈ L26 ++ L10 := by
  rcases h with h | ⟨a, b⟩
  · exact List.mem_append.mpr (.inl (az26 h))
  · have : c = 48 ∨ c = 49 ∨ c = 50 ∨ c = 51 ∨ c = 52 ∨ c = 53 ∨ c = 54 ∨ c = 55 ∨ c = 56 ∨ c = 57 := by omega
    exact List.mem_append.mpr (.inr (by simp [L10, this]))
theorem occ26 : ∀ c ∈ L26, (!(Builtin.Str.occurrences (mk L26) (mk [c]) 0 (mk L26).length 1).isEmpty) = true := by decide +kernel
theorem occ36 : ∀ c ∈ L26 ++ L10, (!(Builtin.Str.occurrences (mk (L26 ++ L10)) (mk [c]) 0 (mk (L26 ++ L10)).length 1).isEmpty) = true := by decide +kernel
theorem in26 {c : Nat} (h : isAz c) : D.isIn (.str (mk [c])) (.str (mk L26)) = some (.bl true) := by
  unfold D.isIn D.inStr
  simp only [Option.or_some, Option.map_some]
  rw [occ26 c (az26 h)]; rfl
theorem in36s {c : Nat} (h : isAn c) : D.isIn (.str (mk [c])) (.str (mk (L26 ++ L10))) = some (.bl true) := by
  unfold D.isIn D.inStr
  simp only [Option.or_some, Option.map_some]
  rw [occ36 c (an36 h)]; rfl
theorem add36 : D.add (.str (mk L26)) (.str (mk L10)) = some (.str (mk (L26 ++ L10))) := by
  rw [D_addS (by rw [mk_len, mk_len]; decide), mk_app]
theorem items_str (l : List Nat) : (D.str (mk l)).items = some (l.map fun c => .str (mk [c])) := by
  show some ((mk l).cps.toList.map fun c => D.str ⟨#[c]⟩) = _
  simp [mk]
theorem all_true (n : Nat) : D.all [.lst (List.replicate n (.bl true))] = some (.bl true) := by
  have h : ∀ n : Nat, D.bls (List.replicate n (.bl true)) = some (List.replicate n true) := by
    intro n
    induction n with
    | zero => rfl
    | succ n ih => rw [List.replicate_succ, List.replicate_succ, D.bls, ih]; rfl
  show (D.bls (List.replicate n (.bl true))).map (fun bs => D.bl (bs.all id)) = _
  rw [h]
  simp
end DL
namespace DL
open PySem L2 Evl
/-! ### dicts -/
theorem valD_nil (k : Key) : valD [] k = none := rfl
theorem valD_app {es fs : List (Key × D)} {k : Key} (h : valD es k = none) : valD (es ++ fs) k = valD fs k := by
  unfold valD at *
  rw [List.find?_append]
  cases e : es.find? fun kv => decide (kv.1 = k) with
  | none => rfl
  | some x => rw [e] at h; cases h
theorem putKD_new {es : List (Key × D)} {k : Key} {v : D} (h : valD es k = none) : putKD es k v = es ++ [(k, v)] := by
  unfold putKD
  have : (es.find? fun kv => decide (kv.1 = k)).isSome = false := by
    unfold valD at h
    cases e : es.find? fun kv => decide (kv.1 = k) with
    | none => rfl
    | some x => rw [e] at h; cases h
  rw [this]
  simp
/-- names with something behind each -/
def kvs {α : Type} (f : α → List Nat) (g : α → D) (xs : List α) : List (Key × D) := xs.map fun a => (.inr (mk (f a)), g a)
theorem kvs_none {α : Type} {f : α → List Nat} {g : α → D} {xs : List α} {l : List Nat} (h : l ∉ xs.map f) : valD (kvs f g xs) (.inr (mk l)) = none := by
  unfold valD kvs
  rw [Option.map_eq_none_iff, List.find?_eq_none]
  intro kv hkv
  obtain ⟨a, ha, rfl⟩ := List.mem_map.mp hkv
  simp only [decide_eq_true_iff]
  intro e
  injection e with e
  exact h (List.mem_map.mpr ⟨a, ha, mk_inj e⟩)
theorem kvs_some {α : Type} {f : α → List Nat} {g : α → D} : ∀ {xs : List α} {i : Nat} {a : α}, (xs.map f).Nodup → xs[i]? = some a → valD (kvs f g xs) (.inr (mk (f a))) = some (g a)
  | [], i, a, _, h => by simp at h
  | x :: xs, 0, a, _, h => by
    simp at h; subst h
    unfold valD kvs
    simp
  | x :: xs, i + 1, a, nd, h => by
    have h : xs[i]? = some a := by simpa using h
    have nd2 := List.nodup_cons.mp nd
    have ih := kvs_some (f := f) (g := g) nd2.2 h
    have hne : ¬ f x = f a := fun e => nd2.1 (by rw [e]; exact List.mem_map_of_mem (List.mem_of_getElem? h))
    unfold valD kvs at *
    rw [List.map_cons, List.find?_cons]
    have : decide ((Sum.inr (mk (f x)) : Key) = .inr (mk (f a))) = false := decide_eq_false fun e => by injection e with e; exact hne (mk_inj e)
    rw [this]
    exact ih
theorem isN_non : D.isN .non .non = some (.bl true) := rfl
theorem isNN_non : D.isNotN .non .non = some (.bl false) := rfl
theorem key_str (x : Str) : (D.str x).key = some (.inr x) := rfl
theorem key_int (x : Int) : (D.int x).key = some (.inl x) := rfl
end DL
namespace DL
open PySem L2 Evl
theorem lk_self (k : Str) (a : D) (r : List (Str × D)) : List.lookup k ((k, a) :: r) = some a := by simp
theorem lk_ne {k k' : Str} (h : (k == k') = false) (a : D) (r : List (Str × D)) : List.lookup k ((k', a) :: r) = List.lookup k r := by rw [List.lookup_cons, h]
theorem pf_nil (f : Str) (e : D) : putFD f e [] = [(f, e)] := rfl
theorem pf_ne {f g : Str} (h : ¬ g = f) (e x : D) (r : List (Str × D)) : putFD f e ((g, x) :: r) = (g, x) :: putFD f e r := by rw [putFD, if_neg h]
theorem toTup_lst (xs : List D) : D.toTuple [.lst xs] = some (.tup xs) := rfl
theorem toTup_tup (xs : List D) : D.toTuple [.tup xs] = some (.tup xs) := rfl
theorem insOf_ins (C : Addr) (fs : List (Str × D)) : (D.ins C fs).insOf C = true := by unfold D.insOf; simp
theorem noF_ins {C : Addr} {fs : List (Str × D)} {m : Str} (h : fs.lookup m = none) : (D.ins C fs).noF m C = true := by unfold D.noF; simp [h]
end DL
set_option autoImplicit false
set_option Elab.async false
set_option linter.all false
/-! # lines and subtrees of levels in preorder -/
namespace DL
def lv (ls : List Int) (i : Nat) : Int := ls.getD i 0
theorem lv_get {ls : List Int} {i : Nat} (h : i < ls.length) : lv ls i = ls[i] := by unfold lv; simp [h]
/-- the last place before k whose level is less than v -/
def lastB (ls : List Int) (v : Int) : Nat → Option Nat
  | 0 => none
  | k + 1 => if lv ls k < v then some k else lastB ls v k
theorem lastB_some {ls : List Int} {v : Int} : ∀ {k p : Nat}, lastB ls v k = some p → p < k ∧ lv ls p < v ∧ ∀ j, p < j → j < k → v ≤ lv ls j
  | 0, p, h => by cases h
  | k + 1, p, h => by
    unfold lastB at h
    split at h
    · rename_i hk
      cases h
      exact ⟨Nat.lt_succ_self _, hk, fun j h1 h2 => by omega⟩
    · rename_i hk
      obtain ⟨a, b, c⟩ := lastB_some h
      refine ⟨Nat.lt_succ_of_lt a, b, fun j h1 h2 => ?_⟩
      by_cases e : j = k
      · subst e; omega
      · exact c j h1 (by omega)
theorem lastB_none {ls : List Int} {v : Int} : ∀ {k : Nat}, lastB ls v k = none → ∀ j, j < k → v ≤ lv ls j
  | 0, _, j, h => by cases h
  | k + 1, h, j, hj => by
    unfold lastB at h
    split at h
    · cases h
    · by_cases e : j = k
      · subst e; omega
      · exact lastB_none h j (by omega)
/-- from a place up to its root -/
def linF (ls : List Int) : Nat → Nat → List Nat
  | 0, _ => []
  | f + 1, i => i :: (match lastB ls (lv ls i) i with
    | none => []
    | some p => linF ls f p)
theorem linF_eq {ls : List Int} : ∀ {f g i : Nat}, i < f → i < g → linF ls f i = linF ls g i
  | 0, _, _, h, _ => by cases h
  | _ + 1, 0, _, _, h => by cases h
  | f + 1, g + 1, i, h1, h2 => by
    unfold linF
    cases e : lastB ls (lv ls i) i with
    | none => rfl
    | some p =>
      have := (lastB_some e).1
      simp only
      rw [linF_eq (f := f) (g := g) (i := p) (by omega) (by omega)]
def lin (ls : List Int) (i : Nat) : List Nat := linF ls (i + 1) i
theorem lin_eq (ls : List Int) (i : Nat) : lin ls i = i :: (match lastB ls (lv ls i) i with
    | none => []
    | some p => lin ls p) := by
  unfold lin
  rw [linF]
  cases e : lastB ls (lv ls i) i with
  | none => rfl
  | some p =>
    have := (lastB_some e).1
    simp only
    rw [linF_eq (f := i) (g := p + 1) (i := p) (by omega) (by omega)]
theorem lin_lt {ls : List Int} : ∀ {i j : Nat}, j ∈ lin ls i → j ≤ i := by
  intro i
  induction i using Nat.strongRecOn with
  | ind i ih =>
    intro j hj
    rw [lin_eq] at hj
    cases e : lastB ls (lv ls i) i with
    | none => rw [e] at hj; simp at hj; omega
    | some p =>
      rw [e] at hj
      have hp := (lastB_some e).1
      rcases List.mem_cons.mp hj with h | h
      · omega
      · have := ih p hp h; omega
/-- who is above whom -/
theorem above_iff {ls : List Int} : ∀ (l u : Nat), u ∈ (lin ls l).tail ↔ u < l ∧ ∀ j, u < j → j ≤ l → lv ls u < lv ls j := by
  intro l
  induction l using Nat.strongRecOn with
  | ind l ih =>
    intro u
    rw [lin_eq, List.tail_cons]
    cases e : lastB ls (lv ls l) l with
    | none =>
      simp only [List.not_mem_nil, false_iff, not_and]
      intro h1 h2
      have a := lastB_none e u h1
      have b := h2 l h1 (Nat.le_refl _)
      omega
    | some p =>
      obtain ⟨a, b, c⟩ := lastB_some e
      simp only
      have hm : u ∈ lin ls p ↔ u = p ∨ u ∈ (lin ls p).tail := by
        rw [lin_eq ls p]; simp
      rw [hm, ih p a u]
      constructor
      · rintro (rfl | ⟨h1, h2⟩)
        · refine ⟨a, fun j g1 g2 => ?_⟩
          by_cases ej : j = l
          · subst ej; exact b
          · have := c j g1 (by omega); omega
        · refine ⟨by omega, fun j g1 g2 => ?_⟩
          by_cases g3 : j ≤ p
          · exact h2 j g1 g3
          · have hp := h2 p h1 (Nat.le_refl _)
            by_cases ej : j = l
            · subst ej; omega
            · have := c j (by omega) (by omega); omega
      · rintro ⟨h1, h2⟩
        by_cases g : u = p
        · exact .inl g
        · have hup : u < p := by
            rcases Nat.lt_trichotomy u p with h | h | h
            · exact h
            · exact absurd h g
            · have x := c u h h1
              have y := h2 l h1 (Nat.le_refl _)
              omega
          exact .inr ⟨hup, fun j g1 g2 => h2 j g1 (by omega)⟩
/-- levels step up by one at most -/
structure PreO (ls : List Int) : Prop where
  nn : ∀ i, i < ls.length → 0 ≤ lv ls i
  zero : 0 < ls.length → lv ls 0 = 0
  step : ∀ i, i + 1 < ls.length → lv ls (i + 1) ≤ lv ls i + 1
/-- the nearest lower level is just one less -/
theorem PreO.par {ls : List Int} (P : PreO ls) {i p : Nat} (hi : i < ls.length) (e : lastB ls (lv ls i) i = some p) : lv ls p = lv ls i - 1 := by
  obtain ⟨a, b, c⟩ := lastB_some e
  have h1 := P.step p (by omega)
  by_cases ep : p + 1 = i
  · subst ep; omega
  · have := c (p + 1) (by omega) (by omega); omega
theorem PreO.root {ls : List Int} (P : PreO ls) {i : Nat} (hi : i < ls.length) (e : lastB ls (lv ls i) i = none) : lv ls i = 0 := by
  have h0 := P.nn i hi
  rcases Nat.eq_zero_or_pos i with z | z
  · subst z; exact P.zero (by omega)
  · have := lastB_none e 0 z
    rw [P.zero (by omega)] at this
    omega
theorem lin_len {ls : List Int} : ∀ i : Nat, (lin ls i).length ≤ i + 1 := by
  intro i
  induction i using Nat.strongRecOn with
  | ind i ih =>
    rw [lin_eq]
    cases e : lastB ls (lv ls i) i with
    | none => simp
    | some p =>
      have hp := (lastB_some e).1
      have := ih p hp
      simp only [List.length_cons]
      omega
theorem lin_self {ls : List Int} (i : Nat) : i ∈ lin ls i := by rw [lin_eq]; exact List.mem_cons_self
theorem filt_some {P : Nat → Bool} {p : Nat} (h1 : P p = true) : ∀ {k : Nat}, p < k → (∀ j, p < j → j < k → P j = false) → (List.range k).filter P = (List.range p).filter P ++ [p]
  | 0, h, _ => by cases h
  | k + 1, h, h2 => by
    rw [List.range_succ, List.filter_append]
    by_cases e : p = k
    · subst e; simp [h1]
    · rw [filt_some h1 (k := k) (by omega) fun j a b => h2 j a (by omega)]
      simp [h2 k (by omega) (by omega)]
theorem filt_none {P : Nat → Bool} {k : Nat} (h : ∀ j, j < k → P j = false) : (List.range k).filter P = [] := by
  rw [List.filter_eq_nil_iff]
  intro a ha
  rw [h a (by simpa using ha)]
  simp
/-- the places before i that are one level above it -/
theorem PreO.filt {ls : List Int} (P : PreO ls) {i : Nat} (hi : i < ls.length) : (lastB ls (lv ls i) i = none ∧ (List.range i).filter (fun a => decide (lv ls a = lv ls i - 1)) = []) ∨
    ∃ p pre, lastB ls (lv ls i) i = some p ∧ (List.range i).filter (fun a => decide (lv ls a = lv ls i - 1)) = pre ++ [p] := by
  cases e : lastB ls (lv ls i) i with
  | none =>
    refine .inl ⟨rfl, filt_none fun j hj => decide_eq_false ?_⟩
    have := lastB_none e j hj
    omega
  | some p =>
    obtain ⟨a, b, c⟩ := lastB_some e
    refine .inr ⟨p, _, rfl, filt_some (decide_eq_true (P.par hi e)) a fun j h1 h2 => decide_eq_false ?_⟩
    have := c j h1 h2
    omega
theorem lin_sorted {ls : List Int} : ∀ i : Nat, (lin ls i).Pairwise (fun a b => b < a) := by
  intro i
  induction i using Nat.strongRecOn with
  | ind i ih =>
    rw [lin_eq]
    cases e : lastB ls (lv ls i) i with
    | none => simp
    | some p =>
      have hp := (lastB_some e).1
      simp only
      rw [List.pairwise_cons]
      exact ⟨fun a ha => by have := lin_lt ha; omega, ih p hp⟩
theorem sorted_eq : ∀ {xs ys : List Nat}, xs.Pairwise (fun a b => b < a) → ys.Pairwise (fun a b => b < a) → (∀ x, x ∈ xs ↔ x ∈ ys) → xs = ys
  | [], [], _, _, _ => rfl
  | [], y :: ys, _, _, h => by have := (h y).mpr List.mem_cons_self; cases this
  | x :: xs, [], _, _, h => by have := (h x).mp List.mem_cons_self; cases this
  | x :: xs, y :: ys, h1, h2, h => by
    rw [List.pairwise_cons] at h1 h2
    have e : x = y := by
      rcases List.mem_cons.mp ((h x).mp List.mem_cons_self) with e | e
      · exact e
      · rcases List.mem_cons.mp ((h y).mpr List.mem_cons_self) with e2 | e2
        · exact e2.symm
        · have a := h2.1 x e
          have b := h1.1 y e2
          omega
    subst e
    congr 1
    refine sorted_eq h1.2 h2.2 fun z => ?_
    constructor
    · intro hz
      rcases List.mem_cons.mp ((h z).mp (List.mem_cons_of_mem _ hz)) with e | e
      · have := h1.1 z hz; omega
      · exact e
    · intro hz
      rcases List.mem_cons.mp ((h z).mpr (List.mem_cons_of_mem _ hz)) with e | e
      · have := h2.1 z hz; omega
      · exact e
end DL
set_option autoImplicit false
set_option Elab.async false
set_option linter.all false
set_option maxRecDepth 100000
/-! # comprehensions, whole; slices by places -/
namespace DL
open PySem L2 Evl
theorem lcL_fm {g : DG} {t : DT} {de : DE} {vs : List Nat} {q : List D → Ro → Prop} {ds : List D} {ρ : Ro} (f : D → Option D) (P : Ro → Prop) (h0 : P ρ) (hz : ds.length ≤ sizeLine)
    (step : ∀ (i : Nat) (d : D) (ρ : Ro) (nx : D → Ro → Prop) (el : Ro → Prop) (small : Nat → Prop), ds[i]? = some d → P ρ → (∀ y, f d = some y → ∀ ρ', P ρ' → nx y ρ') → (f d = none → ∀ ρ', P ρ' → el ρ') →
      g (.val d) (wipeD ρ vs) fun ρ1 => t ρ1 (fun b ρ2 => if b = true then de ρ2 (fun s ρ3 => match s with
        | .val y => nx y (wipeD ρ3 vs)
        | .bor _ => False) (fun _ _ _ => False) else el (wipeD ρ2 vs)) (fun _ _ _ => False))
    (fin : ∀ ρ, P ρ → q (ds.filterMap f) ρ) : lcL g t de vs q ds [] ρ := by
  refine lcL_inv (fun i acc ρ => acc = (ds.take i).filterMap f ∧ P ρ) ⟨rfl, h0⟩ ?_ ?_
  · rintro i d acc ρ nx hd ⟨rfl, hP⟩ hnx
    obtain ⟨hi, hr⟩ := List.getElem?_eq_some_iff.mp hd
    have hlen : ((ds.take i).filterMap f).length < sizeLine := by
      refine Nat.lt_of_le_of_lt (List.length_filterMap_le _ _) ?_
      rw [List.length_take]; omega
    have e : (ds.take (i + 1)).filterMap f = (ds.take i).filterMap f ++ (f d).toList := by
      rw [List.take_succ_eq_append_getElem hi, hr, List.filterMap_append]
      cases h : f d with
      | none => simp [h]
      | some y => simp [h]
    refine step i d ρ (fun y ρ' => ((ds.take i).filterMap f).length < sizeLine ∧ nx ((ds.take i).filterMap f ++ [y]) ρ') (fun ρ' => nx ((ds.take i).filterMap f) ρ') (fun _ => True) hd hP (fun y hy ρ' hP' => ⟨hlen, ?_⟩) (fun hn ρ' hP' => ?_)
    · exact hnx _ _ ⟨by rw [e, hy]; rfl, hP'⟩
    · exact hnx _ _ ⟨by rw [e, hn]; simp, hP'⟩
  · rintro acc ρ ⟨rfl, hP⟩
    rw [List.take_length]
    exact fin ρ hP
theorem lcL_ix {g : DG} {t : DT} {de : DE} {vs : List Nat} {q : List D → Ro → Prop} {ds : List D} {ρ : Ro} (f : Nat → Option D) (P : Nat → Ro → Prop) (h0 : P 0 ρ) (hz : ds.length ≤ sizeLine)
    (step : ∀ (i : Nat) (d : D) (ρ : Ro) (nx : D → Ro → Prop) (el : Ro → Prop), ds[i]? = some d → P i ρ → (∀ y, f i = some y → ∀ ρ', P (i + 1) ρ' → nx y ρ') → (f i = none → ∀ ρ', P (i + 1) ρ' → el ρ') →
      g (.val d) (wipeD ρ vs) fun ρ1 => t ρ1 (fun b ρ2 => if b = true then de ρ2 (fun s ρ3 => match s with
        | .val y => nx y (wipeD ρ3 vs)
        | .bor _ => False) (fun _ _ _ => False) else el (wipeD ρ2 vs)) (fun _ _ _ => False))
    (fin : ∀ ρ, P ds.length ρ → q ((List.range ds.length).filterMap f) ρ) : lcL g t de vs q ds [] ρ := by
  refine lcL_inv (fun i acc ρ => acc = (List.range i).filterMap f ∧ P i ρ) ⟨rfl, h0⟩ ?_ ?_
  · rintro i d acc ρ nx hd ⟨rfl, hP⟩ hnx
    obtain ⟨hi, hr⟩ := List.getElem?_eq_some_iff.mp hd
    have hlen : ((List.range i).filterMap f).length < sizeLine := by
      refine Nat.lt_of_le_of_lt (List.length_filterMap_le _ _) ?_
      rw [List.length_range]; omega
    have e : (List.range (i + 1)).filterMap f = (List.range i).filterMap f ++ (f i).toList := by
      rw [List.range_succ, List.filterMap_append]
      cases h : f i with
      | none => simp [h]
      | some y => simp [h]
    refine step i d ρ (fun y ρ' => ((List.range i).filterMap f).length < sizeLine ∧ nx ((List.range i).filterMap f ++ [y]) ρ') (fun ρ' => nx ((List.range i).filterMap f) ρ') hd hP (fun y hy ρ' hP' => ⟨hlen, ?_⟩) (fun hn ρ' hP' => ?_)
    · exact hnx _ _ ⟨by rw [e, hy]; rfl, hP'⟩
    · exact hnx _ _ ⟨by rw [e, hn]; simp, hP'⟩
  · rintro acc ρ ⟨rfl, hP⟩
    exact fin ρ hP
theorem filterMap_all {α β : Type} {f : α → Option β} {g : α → β} : ∀ {l : List α}, (∀ x ∈ l, f x = some (g x)) → l.filterMap f = l.map g
  | [], _ => rfl
  | x :: xs, h => by
    rw [List.filterMap_cons, h x List.mem_cons_self, List.map_cons, filterMap_all fun y hy => h y (List.mem_cons_of_mem _ hy)]
/-- .. of rows given by a map -/
theorem fm_map {α : Type} {r : α → D} {f : D → Option D} {g : α → D} {xs : List α} (h : ∀ x ∈ xs, f (r x) = some (g x)) : (xs.map r).filterMap f = xs.map g := by
  rw [List.filterMap_map]
  exact filterMap_all h
theorem cutL_ab {l : List D} {a b : Nat} (hb : b ≤ l.length) (hab : a ≤ b) : D.cut (.lst l) (some (a : Int)) (some (b : Int)) = some (.lst ((l.drop a).take (b - a))) := by
  rw [cutL, HT.sIx_nat, HT.sIx_nat, Nat.min_eq_left hb, Nat.min_eq_left (by omega)]
theorem cutT {l : List D} (lo hi : Option Int) : D.cut (.tup l) lo hi = some (.tup ((l.drop (HT.sIx l.length 0 lo)).take (HT.sIx l.length l.length hi - HT.sIx l.length 0 lo))) := rfl
theorem cutT_ab {l : List D} {a b : Nat} (hb : b ≤ l.length) (hab : a ≤ b) : D.cut (.tup l) (some (a : Int)) (some (b : Int)) = some (.tup ((l.drop a).take (b - a))) := by
  rw [cutT, HT.sIx_nat, HT.sIx_nat, Nat.min_eq_left hb, Nat.min_eq_left (by omega)]
theorem ints_map {α : Type} {f : α → Int} : ∀ xs : List α, D.ints (xs.map fun x => D.int (f x)) = some (xs.map f)
  | [] => rfl
  | x :: xs => by
    have e : D.ints (D.int (f x) :: xs.map fun x => D.int (f x)) = (D.ints (xs.map fun x => D.int (f x))).map fun bs => f x :: bs := rfl
    rw [List.map_cons, e, ints_map xs]; rfl
theorem sum_map {α : Type} {f : α → Int} (xs : List α) : D.sum [.lst (xs.map fun x => D.int (f x))] = some (.int (xs.map f).sum) := by
  show (D.ints (xs.map fun x => D.int (f x))).map (fun bs => D.int bs.sum) = _
  rw [ints_map]; rfl
/-! ### where a subtree ends, by levels -/
structure IsEnd (ls : List Int) (n i e : Nat) : Prop where
  lt : i < e
  le : e ≤ n
  ab : ∀ j, i < j → j < e → lv ls i < lv ls j
  at' : e = n ∨ lv ls e ≤ lv ls i
theorem IsEnd.uniq {ls : List Int} {n i e e' : Nat} (h : IsEnd ls n i e) (h' : IsEnd ls n i e') : e = e' := by
  rcases Nat.lt_trichotomy e e' with hl | hl | hl
  · rcases h.at' with z | z
    · have := h'.le; omega
    · have := h'.ab e h.lt hl; omega
  · exact hl
  · rcases h'.at' with z | z
    · have := h.le; omega
    · have := h.ab e' h'.lt hl; omega
theorem isEnd_ex (ls : List Int) (n i : Nat) (hi : i < n) : ∃ e, IsEnd ls n i e := by
  have go : ∀ k j, n - j = k → i < j → j ≤ n → (∀ x, i < x → x < j → lv ls i < lv ls x) → ∃ e, IsEnd ls n i e := by
    intro k
    induction k with
    | zero => intro j hk h1 h2 h3; exact ⟨j, h1, h2, h3, .inl (by omega)⟩
    | succ k ih =>
      intro j hk h1 h2 h3
      by_cases h : lv ls j ≤ lv ls i
      · exact ⟨j, h1, h2, h3, .inr h⟩
      · exact ih (j + 1) (by omega) (by omega) (by omega) fun x a b => by
          by_cases e : x = j
          · subst e; omega
          · exact h3 x a (by omega)
  exact go _ (i + 1) rfl (by omega) (by omega) fun x a b => by omega
noncomputable def en (ls : List Int) (n i : Nat) : Nat := if h : i < n then (isEnd_ex ls n i h).choose else 0
theorem en_is {ls : List Int} {n i : Nat} (h : i < n) : IsEnd ls n i (en ls n i) := by
  unfold en
  rw [dif_pos h]
  exact (isEnd_ex ls n i h).choose_spec
theorem en_eq {ls : List Int} {n i e : Nat} (h : i < n) (h' : IsEnd ls n i e) : e = en ls n i := h'.uniq (en_is h)
/-! ### words left out before -/
def getW (o : Option Sl) (f : D → Prop) (_ : Ph f := ()) : Prop := match o with
  | some (.own d) => f d
  | _ => False
theorem getW_own (d : D) (f : D → Prop) : getW (some (.own d)) f = f d := rfl
theorem w_frz {i : Nat} {s : DS} {DD : Do} {ρ : Ro} : dFrz i s DD ρ = getW ρ[i]? fun d => s DD (ρ.set i (.val d)) := by
  unfold dFrz getW
  cases ρ[i]? with
  | none => rfl
  | some z => cases z <;> rfl
theorem kwP1 (x : T) : kwPerm [0] [] [x] = [x] := rfl
theorem kwP10 (x y : T) : kwPerm [1, 0] [] [x, y] = [y, x] := rfl
theorem seq_lst {xs : List D} : (D.lst xs).seq = some xs := rfl
theorem seq_tup {xs : List D} : (D.tup xs).seq = some xs := rfl
def hgt0 : Int → List Int → Int
  | d, [] => d
  | _, n :: ns => maxI n ns
def colV : D → Option D
  | .tup [_, v, _] => some v
  | _ => none
def colL1 : D → Option D
  | .tup [_, _, .int l] => some (.int (l + 1))
  | _ => none
theorem maxDf_map {α : Type} {f : α → Int} (d : Int) (xs : List α) : D.maxDf [.lst (xs.map fun x => D.int (f x))] [.int d] = some (.int (hgt0 d (xs.map f))) := by
  show (D.ints (xs.map fun x => D.int (f x))).map (fun
    | [] => D.int d
    | n :: ns => .int (maxI n ns)) = _
  rw [ints_map]
  cases xs.map f <;> rfl
theorem max_map {α : Type} {f : α → Int} (n : Int) (xs : List α) : D.max [.lst (.int n :: xs.map fun x => D.int (f x))] = some (.int (maxI n (xs.map f))) := by
  have e : D.ints (.int n :: xs.map fun x => D.int (f x)) = some (n :: xs.map f) := by
    show (D.ints (xs.map fun x => D.int (f x))).map (fun bs => n :: bs) = _
    rw [ints_map]; rfl
  show (D.ints (.int n :: xs.map fun x => D.int (f x))).bind (fun
    | [] => none
    | n :: ns => some (D.int (maxI n ns))) = _
  rw [e]; rfl
end DL
set_option autoImplicit false
set_option Elab.async false
set_option linter.all false
set_option maxRecDepth 100000
/-! # == and != by an own __eq__; own two-place operators -/
namespace DLN
open PySem PySem.Calls PyProof.Rows Builtin PySem.W
section
variable {prog : Program} {w : World} {A : Around} {E : Value → Shared → Prop} {s : Shared} {K : Frag} {x C f : Addr} {ox : Obj} {od : Option Obj} {b tb : Value}
theorem ne_entry {Q : PySem.Fin → Shared → Prop} (hu : A.units < cLine) (X : K.In s.heap) (I : InstAt s.heap x ox C od) (hs : findIn K (.ref C) "__eq__" = some (some (.ref f))) (hf : isFn K (.ref f) = true)
    (h : wpAny (model prog w) A (call (.ref f) [.ref x, b]) (fun v s' => ∃ c, v = .bool c ∧ Q (.done (.ret (.bool (!c)))) s') E s) : wpAny (model prog w) A (Builtin.«object.__ne__» ⟨[.ref x, b], []⟩) Q E s := by
  unfold Builtin.«object.__ne__»
  repeat (first
    | with_reducible refine wpAny_cRoomFor hu ?_
    | (refine wpAny_bind (m := callSpecialIfBound? (.ref x) (Str.ofString "__eq__") [b]) (ifBound_K X I hs hf (wpAny_mono h (fun r s' hr => by
        obtain ⟨c, rfl, q⟩ := hr
        repeat (first | exact q | exact wpAny_pure q | exact wpAny_truthy_bool q | (refine wpAny_bind (m := truthy (.bool _)) (wpAny_truthy_bool ?_)) | wp_step)) fun _ _ e => e)))
    | wp_step)
theorem ne_call {Q : Value → Shared → Prop} (hu : A.units + 1 < cLine) (X : K.In s.heap) (I : InstAt s.heap x ox C od) (hm : mroIn K C (.type "object") = some true) (hs : findIn K (.ref C) "__eq__" = some (some (.ref f))) (hf : isFn K (.ref f) = true)
    (h : wpAny (model prog w) A.in1 (call (.ref f) [.ref x, b]) (fun v s' => ∃ c, v = .bool c ∧ Q (.bool (!c)) s') E s) : wpAny (model prog w) A (call (.builtin "object.__ne__") [.ref x, b]) Q E s := by
  refine wpAny_call (codeAny_call_builtin F.cmp_object.ne.plain F.cmpEntry_ne ?_)
  exact check_slot F.cmpKind_ne F.cmpSplit_ne (I.type.andThen (looks_mroIn X hm)) (F.cmpArgs_ne _ _) (ne_entry (A := A.in1) hu X I hs hf (wpAny_mono h (fun v s' z => z) fun _ _ e => e))
theorem ne_bound {args : List Value} {Q : Option Value → Shared → Prop} (X : K.In s.heap) (I : InstAt s.heap x ox C od) (hne : findIn K (.ref C) "__ne__" = some (some (.builtin "object.__ne__")))
    (h : wpAny (model prog w) A (call (.builtin "object.__ne__") (.ref x :: args)) (fun v => Q (some v)) E s) : wpAny (model prog w) A (callSpecialIfBound? (.ref x) "__ne__" args) Q E s := by
  unfold callSpecialIfBound? bindSpecialIfBound?
  have fin : wpAny (model prog w) A (do let v ← call (.builtin "object.__ne__") ([.ref x] ++ args); pure (some v)) Q E s := wpAny_bind (wpAny_mono h (fun v s' z => wpAny_pure z) fun _ _ e => e)
  refine wpAny_holding (wpAny_bind (wpAny_bind (wpAny_bind (I.type.here ((looks_findIn X hne).here (wpAny_bind (wpAny_askSetting (wpAny_ite ?_))))))))
  split
  · exact wpAny_bind (wpAny_of_eq (F.cmp_object.ne.bind _) (wpAny_pure (by exact fin)))
  · exact wpAny_tryCatch (wpAny_bind (wpAny_of_eq (F.cmp_object.ne.bind _) (wpAny_pure (by exact fin))))
theorem ne_K {Q : Value → Shared → Prop} (hu : A.units + 1 < cLine) (X : K.In s.heap) (I : InstAt s.heap x ox C od) (hb : Looks (model prog w) s.heap (typeOf b) tb) (hn : notFirst K C tb = true) (hm : mroIn K C (.type "object") = some true)
    (hne : findIn K (.ref C) "__ne__" = some (some (.builtin "object.__ne__"))) (hs : findIn K (.ref C) "__eq__" = some (some (.ref f))) (hf : isFn K (.ref f) = true)
    (h : wpAny (model prog w) A.in1 (call (.ref f) [.ref x, b]) (fun v s' => ∃ c, v = .bool c ∧ Q (.bool (!c)) s') E s) : wpAny (model prog w) A (richCompare .NotEq (.ref x) b) Q E s := by
  have one : wpAny (model prog w) A (tryCompare (.ref x) (cmpInfo .NotEq).2.1 b) (fun r s' => ∃ c, r = some (.bool (!c)) ∧ Q (.bool (!c)) s') E s := by
    unfold tryCompare
    refine wpAny_bind (ne_bound X I hne (ne_call hu X I hm hs hf (wpAny_mono h (fun v s' z => ?_) fun _ _ e => e)))
    obtain ⟨c, rfl, q⟩ := z
    exact ⟨c, rfl, wpAny_pure ⟨c, rfl, q⟩⟩
  have last : wpAny (model prog w) A (tryCompare (.ref x) (cmpInfo .NotEq).2.1 b) (fun r s' => match r with
    | some v => Q v s'
    | none => False) E s := wpAny_mono one (fun r s' z => by obtain ⟨c, rfl, q⟩ := z; exact q) fun _ _ e => e
  unfold richCompare
  simp only [oneThing_ref]
  refine wpAny_holding (wpAny_bind (wpAny_cRoomFor (Nat.lt_of_succ_lt hu) (I.type.here (wpAny_bind (hb.here ?_)) |> wpAny_bind)))
  split
  · rename_i q
    have e : subIn K tb (.ref C) = some false := by
      rcases Bool.or_eq_true_iff.mp hn with z | z
      · exact absurd q (by rw [beq_iff_eq.mp z]; simp)
      · exact beq_iff_eq.mp z
    refine wpAny_bind ((looks_subIn X e).here ?_)
    simp only [Bool.false_eq_true, if_false]
    refine wpAny_bind (wpAny_mono one (fun r s' z => ?_) fun _ _ y => y)
    obtain ⟨c, rfl, q2⟩ := z
    exact wpAny_pure q2
  · refine wpAny_bind (wpAny_pure ?_)
    simp only [Bool.false_eq_true, if_false]
    refine wpAny_bind (wpAny_mono one (fun r s' z => ?_) fun _ _ y => y)
    obtain ⟨c, rfl, q2⟩ := z
    exact wpAny_pure q2
end
end DLN
set_option autoImplicit false
set_option Elab.async false
set_option linter.all false
set_option maxRecDepth 100000
namespace DL
open PySem L2 Evl
/-- a class with an __eq__ of its own, at f, and no __ne__ -/
structure CmpC (K : PySem.W.Frag) (C f : Addr) : Prop where
  hs : PySem.W.findIn K (.ref C) "__eq__" = some (some (.ref f))
  hf : PySem.W.isFn K (.ref f) = true
  hne : PySem.W.findIn K (.ref C) "__ne__" = some (some (.builtin "object.__ne__"))
  hm : PySem.W.mroIn K C (.type "object") = some true
def rEqO (K : PySem.W.Frag) (g : Bool → Bool) (C : Addr) (sp : Sp) (E : XK) : R2 := fun x y H Q => ∃ a dx fs tb, x = .ref a ∧ H a = some (.ins C dx fs) ∧ TyX K H y tb ∧ PySem.W.notFirst K C tb = true ∧ sp [x, y] H (fun v H1 => ∃ b, v = .bl b ∧ Q (.bl (g b)) H1) E
def rBinO (C : Addr) (sp : Sp) (E : XK) : R2 := fun x y H Q => ∃ a dx fs c dy gs, x = .ref a ∧ H a = some (.ins C dx fs) ∧ y = .ref c ∧ H c = some (.ins C dy gs) ∧ sp [x, y] H Q E
section
variable {X : Cx} {CX : CXT} {k : Nat} {f C : Addr} {fd : FuncData} {ps : List Str} {sp : Sp} {E : XK}
theorem op_eqO (M : CmpC X.K C f) (F : FnOk X.prog X.w X.K X.mg X.base CX k f fd ps sp) (hr : Room k X.A) (hb : Binds X.K fd ps []) (hx : Passes CX X E) : OpR X (compareOp .Eq) (rEqO X.K (fun b => b) C sp E) := by
  intro pins s σ H x y v u Q I rx ry h
  obtain ⟨a, dx, fs, tb, rfl, ha, ty, hn, h⟩ := h
  have hv : v = Value.ref a := rx
  subst hv
  obtain ⟨P, kx, hP, _⟩ := kit_of I ry ty
  obtain ⟨mA, J, _⟩ := ins_get I.hok ha
  obtain ⟨od, J, _⟩ := J.look
  obtain ⟨m, hF⟩ := I.fr
  show wpAny (model X.prog X.w) X.A (richCompare .Eq (.ref a) u) (EP X pins σ Q) X.xe s
  refine PySem.W.cmp_K (op := .Eq) (tb := tb) hr.units0 hF I.ok.mod.kin J (kx.ty _ _ I.kIn hP) hn M.hs M.hf ?_
  refine wpAny_mono (run_sub F hr rfl hb hx I (vs := [V.ref a, y]) (.cons (show RelV (V.ref a) (Value.ref a) from rfl) (.cons ry .nil)) h) (fun r s1 q => ?_) fun _ _ z => z
  obtain ⟨w, H1, I1, rw1, b, ew, q⟩ := q
  subst ew
  have e1 : r = Value.bool b := rw1
  subst e1
  exact ⟨V.bl b, H1, I1, rfl, q⟩
theorem op_neO (M : CmpC X.K C f) (F : FnOk X.prog X.w X.K X.mg X.base CX k f fd ps sp) (hr : Room (k + 1) X.A) (hb : Binds X.K fd ps []) (hx : Passes CX X E) : OpR X (compareOp .NotEq) (rEqO X.K (fun b => !b) C sp E) := by
  intro pins s σ H x y v u Q I rx ry h
  obtain ⟨a, dx, fs, tb, rfl, ha, ty, hn, h⟩ := h
  have hv : v = Value.ref a := rx
  subst hv
  obtain ⟨P, kx, hP, _⟩ := kit_of I ry ty
  obtain ⟨mA, J, _⟩ := ins_get I.hok ha
  obtain ⟨od, J, _⟩ := J.look
  have hu : X.A.units + 1 < cLine := by have := hr.un; omega
  show wpAny (model X.prog X.w) X.A (richCompare .NotEq (.ref a) u) (EP X pins σ Q) X.xe s
  refine DLN.ne_K hu I.kIn J (kx.ty _ _ I.kIn hP) hn M.hm M.hne M.hs M.hf ?_
  refine wpAny_mono (run_sub F hr.in1 rfl hb hx I (vs := [V.ref a, y]) (.cons (show RelV (V.ref a) (Value.ref a) from rfl) (.cons ry .nil)) h) (fun r s1 q => ?_) fun _ _ z => z
  obtain ⟨w, H1, I1, rw1, b, ew, q⟩ := q
  subst ew
  exact ⟨b, rw1, V.bl (!b), H1, I1, rfl, q⟩
theorem op_binO {op : Operator} {nm : Str} (hop : PySem.dunder op.info.2 = nm) (M : Spec1 X.K C nm f) (hc : PySem.W.selfFirst X.K C = true) (F : FnOk X.prog X.w X.K X.mg X.base CX k f fd ps sp) (hr : Room k X.A) (hb : Binds X.K fd ps []) (hx : Passes CX X E) : OpR X (binaryOp op) (rBinO C sp E) := by
  intro pins s σ H x y v u Q I rx ry h
  obtain ⟨a, dx, fs, c, dy, gs, rfl, ha, rfl, hc2, h⟩ := h
  have hv : v = Value.ref a := rx
  subst hv
  have hu : u = Value.ref c := ry
  subst hu
  obtain ⟨mA, J, _⟩ := ins_get I.hok ha
  obtain ⟨od, J, _⟩ := J.look
  obtain ⟨mB, J2, _⟩ := ins_get I.hok hc2
  obtain ⟨od2, J2, _⟩ := J2.look
  obtain ⟨m, hF⟩ := I.fr
  refine PySem.W.binop_K (op := op) hF I.ok.mod.kin J J2.type hc (by rw [hop]; exact M.hs) M.hf ?_
  refine wpAny_mono (run_sub F hr rfl hb hx I (vs := [V.ref a, V.ref c]) (.cons (show RelV (V.ref a) (Value.ref a) from rfl) (.cons (show RelV (V.ref c) (Value.ref c) from rfl) .nil)) h) (fun r s1 q => ?_) fun _ _ z => z
  obtain ⟨w, H1, I1, rw1, q⟩ := q
  exact SlX.cmpback rw1 ⟨w, H1, I1, rw1, q⟩
end
/-! ### as data -/
def dEqO (K : PySem.W.Frag) (g : Bool → Bool) (Cs : List Addr) (C : Addr) (dsp : DSp) (da db : DE) : DE := fun ρ q er => da ρ (fun t ρ1 => db ρ1 (fun u ρ2 => Opt (rd ρ2 t) fun d => d.insOf C = true ∧ Opt (rd ρ2 u) fun y => y.kno Cs = true ∧ Opt y.tyV fun ty => PySem.W.notFirst K C ty = true ∧ Opt (argsOf ρ2 [t, u]) fun av => (bors [t, u]).Nodup ∧
  noEr dsp av (fun r os => Opt r.bool fun b => q (.val (.bl (g b))) (putOuts ρ2 (bors [t, u]) os)) (fun _ _ _ => False)) er) er
def dBinO (C : Addr) (dsp : DSp) (da db : DE) : DE := fun ρ q er => da ρ (fun t ρ1 => db ρ1 (fun u ρ2 => Opt (rd ρ2 t) fun d => d.insOf C = true ∧ Opt (rd ρ2 u) fun y => y.insOf C = true ∧ Opt (argsOf ρ2 [t, u]) fun av => (bors [t, u]).Nodup ∧
  noEr dsp av (fun r os => q (.val r) (putOuts ρ2 (bors [t, u]) os)) (fun _ _ _ => False)) er) er
section
variable {K : PySem.W.Frag} {pa : PaG} {W : WX} {te tc : TE} {dx dc : DE} {C : Addr} {dsp : DSp} {g : Bool → Bool} {Cs : List Addr}
theorem se_eqO (hK : IsiK K) (hC : ∀ C ∈ Cs, IsiC K C) (hx : SE K pa W te dx) (hc : SE K pa W tc dc) : SE K pa W (tOp (rEqO K g C (SpV K 2 dsp) L2.E0) te tc) (dEqO K g Cs C dsp dx dc) := fun F G σ H ρ Q q er S h k x =>
  hx F G σ H ρ _ _ er S h (fun G1 H1 v t ρ1 e1 S1 r1 h1 => hc F G1 σ H1 ρ1 _ _ er S1 h1 (fun G2 H2 w u ρ2 e2 S2 r2 h2 => by
    obtain ⟨d, ed, hi, y, ey, hk, ty, ety, hn, av, ea, nd, hd⟩ := h2
    obtain ⟨a, dx, fs, rfl, ha⟩ := insOf_at S2.ex (S2.rdT (r1.mono e2) ed) hi
    refine ⟨a, dx, fs, ty, rfl, ha, tyX_of hK (kno_of hC hk) S2.ex (S2.rdT r2 ey) ety, hn, ?_⟩
    exact call_core S2 (.cons (r1.mono e2) (.cons r2 .nil)) ea nd rfl hd (fun G3 H3 v3 d3 os e3 S3 rv hq => by
      obtain ⟨b, eb, hq⟩ := hq
      cases bool_of eb
      cases rv
      exact ⟨b, rfl, k G3 H3 _ (.val _) _ ((e1.trans e2).trans e3) S3 (.bl _) hq⟩) (fun _ _ _ _ _ _ _ _ _ _ _ hq => hq.elim)) (x.grow e1)) x
theorem se_binO (hx : SE K pa W te dx) (hc : SE K pa W tc dc) : SE K pa W (tOp (rBinO C (SpV K 2 dsp) L2.E0) te tc) (dBinO C dsp dx dc) := fun F G σ H ρ Q q er S h k x =>
  hx F G σ H ρ _ _ er S h (fun G1 H1 v t ρ1 e1 S1 r1 h1 => hc F G1 σ H1 ρ1 _ _ er S1 h1 (fun G2 H2 w u ρ2 e2 S2 r2 h2 => by
    obtain ⟨d, ed, hi, y, ey, hi2, av, ea, nd, hd⟩ := h2
    obtain ⟨a, dx, fs, rfl, ha⟩ := insOf_at S2.ex (S2.rdT (r1.mono e2) ed) hi
    obtain ⟨c, dy, gs, rfl, hc⟩ := insOf_at S2.ex (S2.rdT r2 ey) hi2
    refine ⟨a, dx, fs, c, dy, gs, rfl, ha, rfl, hc, ?_⟩
    exact call_core S2 (.cons (r1.mono e2) (.cons r2 .nil)) ea nd rfl hd (fun G3 H3 v3 d3 os e3 S3 rv hq => k G3 H3 v3 (.val d3) _ ((e1.trans e2).trans e3) S3 rv hq) (fun _ _ _ _ _ _ _ _ _ _ _ hq => hq.elim)) (x.grow e1)) x
end
end DL
namespace DL
open PySem L2 Evl
/-! ### what is never asked -/
theorem pe_nev {X : Cx} {e : Expr} : PE X e (fun _ _ _ => False) := ⟨fun _ _ _ _ _ _ h => h.elim⟩
def dNev : DE := fun _ _ _ => False
theorem se_nev {K : PySem.W.Frag} {pa : PaG} {W : WX} : SE K pa W (fun _ _ _ => False) dNev := fun _ _ _ _ _ _ _ _ _ h _ _ => h.elim
/-! ### of no class below an own one -/
theorem nf_same (K : PySem.W.Frag) (C : Addr) : PySem.W.notFirst K C (.ref C) = true := by unfold PySem.W.notFirst; simp
theorem nf_ty {K : PySem.W.Frag} {C : Addr} {n : String} {l : List String} (h : fastBuiltinMro n = some (l.map Value.type)) : PySem.W.notFirst K C (.type n) = true := by
  have e : PySem.W.subIn K (.type n) (.ref C) = some false := by
    show (fastBuiltinMro n).map (·.contains (.ref C)) = some false
    rw [h]
    have : (l.map Value.type).contains (Value.ref C) = false := by
      rw [Bool.eq_false_iff]
      intro z
      rw [List.contains_iff_mem] at z
      obtain ⟨x, -, hx⟩ := List.mem_map.mp z
      cases hx
    simp [this]
  unfold PySem.W.notFirst
  rw [e]
  simp
theorem nf_none (K : PySem.W.Frag) (C : Addr) : PySem.W.notFirst K C (.type "NoneType") = true := nf_ty (l := ["NoneType", "object"]) (by decide +kernel)
theorem nf_int (K : PySem.W.Frag) (C : Addr) : PySem.W.notFirst K C (.type "int") = true := nf_ty (l := ["int", "object"]) (by decide +kernel)
theorem nf_bool (K : PySem.W.Frag) (C : Addr) : PySem.W.notFirst K C (.type "bool") = true := nf_ty (l := ["bool", "int", "object"]) (by decide +kernel)
theorem nf_str (K : PySem.W.Frag) (C : Addr) : PySem.W.notFirst K C (.type "str") = true := nf_ty (l := ["str", "object"]) (by decide +kernel)
theorem nf_byt (K : PySem.W.Frag) (C : Addr) : PySem.W.notFirst K C (.type "bytes") = true := nf_ty (l := ["bytes", "object"]) (by decide +kernel)
theorem nf_lst (K : PySem.W.Frag) (C : Addr) : PySem.W.notFirst K C (.type "list") = true := nf_ty (l := ["list", "object"]) (by decide +kernel)
theorem nf_tup (K : PySem.W.Frag) (C : Addr) : PySem.W.notFirst K C (.type "tuple") = true := nf_ty (l := ["tuple", "object"]) (by decide +kernel)
theorem nf_dct (K : PySem.W.Frag) (C : Addr) : PySem.W.notFirst K C (.type "dict") = true := nf_ty (l := ["dict", "object"]) (by decide +kernel)
theorem ne_bl (a b : Bool) : D.ne (.bl a) (.bl b) = some (.bl (!(a == b))) := by cases a <;> cases b <;> rfl
theorem eq_bl (a b : Bool) : D.eq (.bl a) (.bl b) = some (.bl (a == b)) := by cases a <;> cases b <;> rfl
theorem tyV_dct {x : List (Key × D)} : (D.dct x).tyV = some (.type "dict") := rfl
theorem tyV_ins {C : Addr} {x : List (Str × D)} : (D.ins C x).tyV = some (.ref C) := rfl
theorem kno_dct {Cs : List Addr} {x : List (Key × D)} : (D.dct x).kno Cs = true := rfl
theorem kit_sameR (K : PySem.W.Frag) (C : Addr) : PySem.W.kitOne K (.ref C) (.ref C) = some true := by unfold PySem.W.kitOne; rw [if_pos (by simp)]
theorem clV_ptr {C : Addr} : (D.ptr C).clV = some (.ref C) := rfl
/-- nothing built-in is of the class at C -/
structure KitB (K : PySem.W.Frag) (C : Addr) : Prop where
  non : PySem.W.kitOne K (.type "NoneType") (.ref C) = some false
  bl : PySem.W.kitOne K (.type "bool") (.ref C) = some false
  int : PySem.W.kitOne K (.type "int") (.ref C) = some false
  str : PySem.W.kitOne K (.type "str") (.ref C) = some false
  byt : PySem.W.kitOne K (.type "bytes") (.ref C) = some false
  lst : PySem.W.kitOne K (.type "list") (.ref C) = some false
  tup : PySem.W.kitOne K (.type "tuple") (.ref C) = some false
  dct : PySem.W.kitOne K (.type "dict") (.ref C) = some false
theorem sub_ty {K : PySem.W.Frag} {C : Addr} {n : String} {l : List String} (h : fastBuiltinMro n = some (l.map Value.type)) : PySem.W.subIn K (.type n) (.ref C) = some false := by
  show (fastBuiltinMro n).map (·.contains (.ref C)) = some false
  rw [h]
  have : (l.map Value.type).contains (Value.ref C) = false := by
    rw [Bool.eq_false_iff]
    intro z
    rw [List.contains_iff_mem] at z
    obtain ⟨x, -, hx⟩ := List.mem_map.mp z
    cases hx
  simp [this]
theorem kit_sub {K : PySem.W.Frag} {C : Addr} {t : Value} (h1 : PySem.W.isClsIn K C = true) (h2 : PySem.W.typeIn K (.ref C) = some (.type "type")) (hn : t ≠ .ref C) (hs : PySem.W.subIn K t (.ref C) = some false) : PySem.W.kitOne K t (.ref C) = some false := by
  have hc : (PySem.W.clsIn K C).isSome = true := h1
  unfold PySem.W.kitOne
  rw [if_neg (by simpa using hn)]
  show (if ((PySem.W.clsIn K C).isSome && PySem.W.typeIn K (.ref C) == some (.type "type")) = true then PySem.W.subIn K t (.ref C) else none) = some false
  rw [hc, h2, hs]
  simp
theorem kitB_of {K : PySem.W.Frag} {C : Addr} (h1 : PySem.W.isClsIn K C = true) (h2 : PySem.W.typeIn K (.ref C) = some (.type "type")) : KitB K C where
  non := kit_sub h1 h2 (by simp) (sub_ty (l := ["NoneType", "object"]) (by decide +kernel))
  bl := kit_sub h1 h2 (by simp) (sub_ty (l := ["bool", "int", "object"]) (by decide +kernel))
  int := kit_sub h1 h2 (by simp) (sub_ty (l := ["int", "object"]) (by decide +kernel))
  str := kit_sub h1 h2 (by simp) (sub_ty (l := ["str", "object"]) (by decide +kernel))
  byt := kit_sub h1 h2 (by simp) (sub_ty (l := ["bytes", "object"]) (by decide +kernel))
  lst := kit_sub h1 h2 (by simp) (sub_ty (l := ["list", "object"]) (by decide +kernel))
  tup := kit_sub h1 h2 (by simp) (sub_ty (l := ["tuple", "object"]) (by decide +kernel))
  dct := kit_sub h1 h2 (by simp) (sub_ty (l := ["dict", "object"]) (by decide +kernel))
theorem kit_pair {K : PySem.W.Frag} {C D : Addr} (h1 : PySem.W.isClsIn K D = true) (h2 : PySem.W.typeIn K (.ref D) = some (.type "type")) (hs : PySem.W.subIn K (.ref C) (.ref D) = some false) (hn : C ≠ D) : PySem.W.kitOne K (.ref C) (.ref D) = some false :=
  kit_sub h1 h2 (fun z => hn (by cases z; rfl)) hs
end DL
set_option autoImplicit false
set_option Elab.async false
set_option linter.all false
set_option maxRecDepth 100000
namespace DL
open PySem L2 Evl
/-! ### an exception is made and let go -/
/-- what its __init__ does: one field, or two -/
def spX1 (K : PySem.W.Frag) (f : Str) : Sp := fun vs H Q _ => ∃ a C y, vs = [.ref a, y] ∧ OexC K C ∧ PySem.W.findIn K (.ref C) f = some none ∧ H a = some (exo a C none) ∧
  ∀ dx, H dx = none → dx ≠ a → Q .non (upd (upd H dx (exd dx [(f, y)])) a (exo a C (some dx)))
def spX2 (K : PySem.W.Frag) (f g : Str) : Sp := fun vs H Q _ => ∃ a C y z, vs = [.ref a, y, z] ∧ OexC K C ∧ PySem.W.findIn K (.ref C) f = some none ∧ PySem.W.findIn K (.ref C) g = some none ∧ H a = some (exo a C none) ∧
  ∀ dx, H dx = none → dx ≠ a → Q .non (upd (upd (upd H dx (exd dx [(f, y)])) a (exo a C (some dx))) dx (exd dx [(g, z), (f, y)]))
theorem spX1_len {K : PySem.W.Frag} {f : Str} : ∀ vs H Q E, spX1 K f vs H Q E → vs.length = 2 := fun vs H Q E h => by
  obtain ⟨a, C, y, rfl, _⟩ := h; rfl
theorem spX2_len {K : PySem.W.Frag} {f g : Str} : ∀ vs H Q E, spX2 K f g vs H Q E → vs.length = 3 := fun vs H Q E h => by
  obtain ⟨a, C, y, z, rfl, _⟩ := h; rfl
theorem bodyX1 {K : PySem.W.Frag} {f n1 n2 : Str} {vs : List V} {H : Hp} {Q : VK} {E : XK} (h : spX1 K f vs H Q E) : tSeq (tOst K f (tVar 0) (tVar 1)) tNext { nx := fun _ H' => Q .non H', rt := Q } (L2.start [n1, n2] vs) H := by
  obtain ⟨a, C, y, rfl, T, hf, ha, k⟩ := h
  exact ⟨y, rfl, _, rfl, a, C, rfl, T, hf, .inl ⟨ha, fun dx hn hd => k dx hn hd⟩⟩
theorem bodyX2 {K : PySem.W.Frag} {f g n1 n2 n3 : Str} {vs : List V} {H : Hp} {Q : VK} {E : XK} (h : spX2 K f g vs H Q E) :
    tSeq (tOst K f (tVar 0) (tVar 1)) (tSeq (tOst K g (tVar 0) (tVar 2)) tNext) { nx := fun _ H' => Q .non H', rt := Q } (L2.start [n1, n2, n3] vs) H := by
  obtain ⟨a, C, y, z, rfl, T, hf, hg, ha, k⟩ := h
  refine ⟨y, rfl, _, rfl, a, C, rfl, T, hf, .inl ⟨ha, fun dx hn hd => ?_⟩⟩
  exact ⟨z, rfl, _, rfl, a, C, rfl, T, hg, .inr ⟨dx, [(f, y)], upd_same, by rw [upd_ne hd, upd_same], by simp, k dx hn hd⟩⟩
def x1 (f : Str) : List D → Option (List (Str × D))
  | [y] => some [(f, y)]
  | _ => none
def x2 (f g : Str) : List D → Option (List (Str × D))
  | [y, z] => some [(g, z), (f, y)]
  | _ => none
/-- raise C(..) -/
def dRz (C : Addr) (mk : List D → Option (List (Str × D))) (da : DA) : DS := fun DD ρ => da ρ (fun ts ρ1 => Opt (vals ts) fun ds => Opt (mk ds) fun fs => DD.er C fs ρ1) DD.er
/-- the heap behind it: the exception itself is gone, its dict stands -/
theorem exc_heap {H : Hp} {a d C : Addr} {o1 o2 : HO} {f : HO} (ha : H a = none) (hn : d ≠ a) : upd (del (upd (upd (upd H a o1) d o2) a (exo a C (some d))) a) d f = upd H d f := by
  funext b
  by_cases hb : b = d
  · rw [hb, upd_same, upd_same]
  · rw [upd_ne hb, upd_ne hb]
    by_cases hc : b = a
    · rw [hc, del_same, ha]
    · rw [del_ne hc, upd_ne hc, upd_ne hb, upd_ne hc]
theorem exc_heap2 {H : Hp} {a d C : Addr} {o1 o2 o3 : HO} {f : HO} (ha : H a = none) (hn : d ≠ a) : upd (del (upd (upd (upd (upd H a o1) d o2) a (exo a C (some d))) d o3) a) d f = upd H d f := by
  funext b
  by_cases hb : b = d
  · rw [hb, upd_same, upd_same]
  · rw [upd_ne hb, upd_ne hb]
    by_cases hc : b = a
    · rw [hc, del_same, ha]
    · rw [del_ne hc, upd_ne hb, upd_ne hc, upd_ne hb, upd_ne hc]
section
variable {K : PySem.W.Frag} {pa : PaG} {W : WX} {ta : TA} {da : DA} {C : Addr} {f g : Str}
theorem ss_raise1 (T : OexC K C) (hf : PySem.W.findIn K (.ref C) f = some none) (ha : SA K pa W ta da) : SS K pa W (fun _ σ H => tMkO C (spX1 K f) [] ta σ H fun cls d H' => W cls d σ H') (dRz C (x1 f) da) := fun F G σ H ρ D DD S h l =>
  ha F G σ H ρ _ _ DD.er S h (fun G1 H1 vs ts ρ1 e1 S1 r1 h1 => by
    obtain ⟨ds, ed, fs, ef, h2⟩ := h1
    have R := vals_reps r1 ed
    cases R with
    | nil => cases ef
    | @cons vy dy _ _ ry R =>
      cases R with
      | cons _ _ => cases ef
      | nil =>
        cases ef
        refine ⟨by simp, fun a hn => ⟨a, C, _, rfl, T, hf, upd_same, fun dx hd hne => ⟨rfl, dx, _, upd_same, by rw [upd_ne hne, upd_same], by rw [upd_ne hne] at hd; exact hd, ?_⟩⟩⟩
        rw [upd_ne hne] at hd
        rw [exc_heap hn hne]
        have al := Al.one (o := .xd [(f, vy)]) S1.ex hd
        exact l.er _ σ _ ρ1 C dx _ _ (e1.trans al.g) (S1.al al) h2 upd_same (.cons (ry.mono al.g) .nil)) (l.xl σ)
theorem ss_raise2 (T : OexC K C) (hf : PySem.W.findIn K (.ref C) f = some none) (hg : PySem.W.findIn K (.ref C) g = some none) (ha : SA K pa W ta da) : SS K pa W (fun _ σ H => tMkO C (spX2 K f g) [] ta σ H fun cls d H' => W cls d σ H') (dRz C (x2 f g) da) := fun F G σ H ρ D DD S h l =>
  ha F G σ H ρ _ _ DD.er S h (fun G1 H1 vs ts ρ1 e1 S1 r1 h1 => by
    obtain ⟨ds, ed, fs, ef, h2⟩ := h1
    have R := vals_reps r1 ed
    cases R with
    | nil => cases ef
    | @cons vy dy _ _ ry R =>
      cases R with
      | nil => cases ef
      | @cons vz dz _ _ rz R =>
        cases R with
        | cons _ _ => cases ef
        | nil =>
          cases ef
          refine ⟨by simp, fun a hn => ⟨a, C, _, _, rfl, T, hf, hg, upd_same, fun dx hd hne => ⟨rfl, dx, _, by rw [upd_ne (Ne.symm hne), upd_same], upd_same, by rw [upd_ne hne] at hd; exact hd, ?_⟩⟩⟩
          rw [upd_ne hne] at hd
          rw [exc_heap2 hn hne]
          have al := Al.one (o := .xd [(g, vz), (f, vy)]) S1.ex hd
          exact l.er _ σ _ ρ1 C dx _ _ (e1.trans al.g) (S1.al al) h2 upd_same (.cons (rz.mono al.g) (.cons (ry.mono al.g) .nil))) (l.xl σ)
end
end DL
set_option autoImplicit false
set_option Elab.async false
set_option linter.all false
set_option maxRecDepth 100000
namespace DL
open PySem L2 Evl PySem.Spec PyProof.Rows
/-! ### try: .. except A as e: .. except B as e: .. -/
/-- behind a clause its name is gone -/
def shut (i : Nat) (D : Ends) : Ends := ⟨fun σ H => D.nx (σ.set i none) H, D.rt, fun σ H => D.bk (σ.set i none) H, fun σ H => D.ct (σ.set i none) H⟩
def wJ (X : Cx) (Wo : WX) (D : Ends) : List ExceptHandler → WX
  | [] => Wo
  | h :: r => fun cls d σ H => ∃ (x n : Str) (c : Value) (i : Nat) (st : Stmt) (su : List Stmt) (p1 p2 : Pos) (b : Bool), h = .ExceptHandler (some (.Name x p1)) (some n) (st :: su) p2 ∧ X.N[i]? = some n ∧ X.env.kindOf n = some .local ∧ Names X x c ∧ PySem.W.exmOne X.K cls c = some b ∧
    (b = true → ∀ (a : Addr) (oe : Obj) (pn : List (Addr × Obj)), H a = none → Zc cls d oe → (∃ vs, oe.data = .fields vs) → ∃ t, PSs (X.suite a ((a, oe) :: pn)) (st :: su) t ∧ t (shut i D) (σ.set i (some (.ref a))) H) ∧ (b = false → wJ X Wo D r cls d σ H)
/-- try, its body read once what is wanted of its exceptions is known -/
def tTryJ (X : Cx) (Wo : WX) (body : List Stmt) (hds : List ExceptHandler) : TS := fun D σ H => ∀ (pn : List (Addr × Obj)) (xe : Value → Shared → Prop), Takes (X.tr pn xe) (wJ X Wo D hds) → PassesOwn (model X.prog X.w) X.A X.env xe → ∃ t, PSs (X.tr pn xe) body t ∧ t D σ H
section
variable {X : Cx} {Wo : WX} {D : Ends} {pins : List (Addr × Obj)} {τ : RSt} {H : Hp} {a : Addr} {B g : Heap} {cls : Value} {d : Option Addr} {t u : Shared}
/-- the caught exception is no frame -/
theorem caught_out {o : Obj} {vs : Array Value} (hf : X.env.frame = some X.env.locals) (ff : g.FunFrames B (X.env :: X.outer)) (ha : g.get? a = some o) (hd : o.data = .fields vs) : a ≠ X.env.locals ∧ a ∉ X.fs := by
  have key : a ∉ frs (X.env :: X.outer) := fun m => by
    obtain ⟨_, o2, e2, no⟩ := ff.mem m
    rw [ha] at e2
    cases e2
    exact no _ hd
  constructor
  · intro z; subst z
    exact key (List.mem_filterMap.mpr ⟨X.env, List.mem_cons_self, hf⟩)
  · intro m
    obtain ⟨e, m1, m2⟩ := List.mem_filterMap.mp m
    exact key (List.mem_filterMap.mpr ⟨e, List.mem_cons_of_mem _ m1, m2⟩)
theorem names_go (hs : X.stack = X.env :: X.outer) (hf : X.env.frame = some X.env.locals) (hN : X.N.Nodup) (tk : Takes X Wo) (J : Inv X pins τ H t) (nb : ∀ b o, t.heap.get? b = some o → b ∉ frs X.stack → B.get? b = some o) (up : t.heap.UpToSlots g)
    (fl : HandSPX.FlyingZ B (X.env :: X.outer) a (Zc cls d) g) (na : H a = none) (os : u.os = t.os) (ag : AllBare u.gens) :
    ∀ {hds : List ExceptHandler}, wJ X Wo D hds cls d τ H → wpAny (model X.prog X.w) X.A (handleBy (.ref a) X.env hds) (SP X pins D) X.xe { u with heap := g } := by
  have J1 : Inv X pins τ H { u with heap := g } := J.landed nb fl.1 up os ag
  obtain ⟨o1, v1, x1, y1, z1⟩ := fl.there
  obtain ⟨nl, nf⟩ := caught_out hf fl.2.2.1 x1 z1
  intro hds
  induction hds with
  | nil =>
    intro w
    obtain ⟨-, -, -, oe, vs, T, oT, us, q1, q2, q3, q4, -⟩ := id fl
    have out : wpAny (model X.prog X.w) X.A (setFlight (.ref a) X.env.frame) (fun _ s4 => wpAny (model X.prog X.w) X.A (throw (.ref a) : Sem Flow) (SP X pins D) X.xe s4) X.xe { u with heap := g } :=
      hf ▸ HandSPX.setFlight_upZ fl fun h4 hh4 up4 => wpAny_throw (tk _ _ ⟨a, B, t, pins, τ, H, cls, d, rfl, J, nb, up.trans up4, .inr (.inr (hs ▸ hh4)), na, os, ag, w⟩)
    refine wpAny_handleBy_nil ?_
    unfold PySem.passOn
    refine wpAny_bind (wpAny_field q1 q3 q4 (by
      rw [if_neg (by simp)]
      first | exact wpAny_bind (wpAny_pure (wpAny_bind out)) | exact wpAny_bind out))
  | cons hd hds ih =>
    intro w
    obtain ⟨x, n, c, i, st, su, p1, p2, b, rfl, hi, hk, hc, eb, hy, hn⟩ := w
    have S1 := J1.suite x1 z1 na nl nf
    have ty : PySem.W.Looks (model X.prog X.w) g (typeOf (.ref a)) cls := fun A Q E s k q => wpAny_typeOf_ref (k _ _ x1) (by rw [y1.1]; exact q)
    have look : ∀ {Q : Value → Shared → Prop} {E : Value → Shared → Prop}, Q c { u with heap := g } → wpAny (model X.prog X.w) (X.A.mark (some (.ref a))) (eval (.Name x p1) X.env) Q E { u with heap := g } := fun {Q E} q => by
      obtain ⟨c1, c2, c3⟩ := hc
      rcases c3 with c3 | ⟨c3, c4, c5⟩
      · exact ld_glob (X := X.suite a ((a, o1) :: (X.pn ++ pins))) S1 c1 c3 q c2
      · exact ld_blt (X := X.suite a ((a, o1) :: (X.pn ++ pins))) S1 c1 c3 c4 q c5 c2
    refine wpAny_handleBy_cons (codeAny_handlers_test (look ((PySem.W.exm_one (M := model X.prog X.w) J1.kIn ty eb).here ?_))) fun q => by cases q
    cases b with
    | false => exact ih (hn rfl)
    | true =>
      refine codeAny_handlers_suite_as (HandSPX.lands_againZ fl fun g2 fl2 up2 => ?_)
      have J2 : Inv X pins τ H { u with heap := g2 } := J.landed nb fl2.1 (up.trans up2) os ag
      obtain ⟨o2, v2, x2, y2, z2⟩ := fl2.there
      refine store_ok (X := X.suite a ((a, o2) :: (X.pn ++ pins))) (v := .ref a) (J2.suite x2 z2 na nl nf) hN hi (.inl hk) rfl (fun s5 S5 => ?_) (.inr hk)
      obtain ⟨ts, hsu, hts⟩ := hy rfl a o2 (X.pn ++ pins) na y2 ⟨_, z2⟩
      refine wpAny_mono (hsu.run [] s5 _ H _ S5 hts) (fun f s6 r6 => ?_) (fun _ _ z => z.elim)
      have fin : ∀ {τ6 : RSt} {H6 : Hp} {Q : Shared → Prop}, Inv (X.suite a ((a, o2) :: (X.pn ++ pins))) [] τ6 H6 s6 → (∀ s7, Inv X pins (τ6.set i none) H6 s7 → Q s7) →
          wpAny (model X.prog X.w) X.A (do bindName X.env n .none; unbindBehindTheSuite X.env n p2) (fun _ s7 => Q s7) X.xe s6 := fun {τ6 H6 Q} I6 q => gone_ok (I6.unsuite J.ok) hN hi hk q
      cases f with
      | ret v =>
        obtain ⟨v6, τ6, H6, I6, q6, k6⟩ := r6
        exact fin I6 fun s7 J7 => ⟨_, _, _, J7, q6, k6⟩
      | next => obtain ⟨τ6, H6, I6, k6⟩ := r6; exact fin I6 fun s7 J7 => ⟨_, _, J7, k6⟩
      | brk => obtain ⟨τ6, H6, I6, k6⟩ := r6; exact fin I6 fun s7 J7 => ⟨_, _, J7, k6⟩
      | cont => obtain ⟨τ6, H6, I6, k6⟩ := r6; exact fin I6 fun s7 J7 => ⟨_, _, J7, k6⟩
theorem ps_tryJ {body : List Stmt} {h0 : ExceptHandler} {hds : List ExceptHandler} {pos : Pos} (hs : X.stack = X.env :: X.outer) (hf : X.env.frame = some X.env.locals) (hN : X.N.Nodup) (tk : Takes X Wo) : PS X (.Try body (h0 :: hds) [] [] pos) (tTryJ X Wo body (h0 :: hds)) := by
  refine ⟨fun pins s σ H D I h => wpAny_Try_except ?_⟩
  obtain ⟨t, ht, h⟩ := h (X.pn ++ pins) (fun e s₁ => wpAny (model X.prog X.w) X.A (noteFrame e X.env) (fun _ s₂ => wpAny (model X.prog X.w) X.A (setFlight e none) (fun _ s₃ => wpAny (model X.prog X.w) X.A (handleBy e X.env (h0 :: hds)) (SP X pins D) X.xe s₃) X.xe s₂) X.xe s₁)
    (fun v s' xx => by
      obtain ⟨a, B, t, pins', τ, H', cls, d, rfl, J', nb, up, sky, na, os, ag, w⟩ := xx
      have J : Inv X pins τ H' t := J'.ofTry I.ok
      exact Sky.land Zc.steady (by rw [I.ok.frames, hs]) hf (hs ▸ sky) fun h3 fl3 up3 => names_go hs hf hN tk J nb (up.trans up3) fl3 na os ag w) PassesOwn.looking
  refine wpAny_mono (ht.run [] s σ H D (I.toTry _) h) (fun f s1 q => ?_) fun e s1 z => z
  cases f with
  | ret v => obtain ⟨w, τ, H', J', r, k⟩ := q; exact ⟨w, τ, H', J'.ofTry I.ok, r, k⟩
  | next => obtain ⟨τ, H', J', k⟩ := q; exact wpAny_execs_nil ⟨τ, H', J'.ofTry I.ok, k⟩
  | brk => obtain ⟨τ, H', J', k⟩ := q; exact ⟨τ, H', J'.ofTry I.ok, k⟩
  | cont => obtain ⟨τ, H', J', k⟩ := q; exact ⟨τ, H', J'.ofTry I.ok, k⟩
end
end DL
set_option autoImplicit false
set_option Elab.async false
set_option linter.all false
set_option maxRecDepth 100000
namespace DL
open PySem L2 Evl
/-! ### try as data -/
abbrev DSui := Addr → Addr → List (Str × D) → DS
def shutD (i : Nat) (DD : Do) : Do := ⟨fun ρ => DD.nx (ρ.set i .no), DD.rt, DD.rf, fun ρ => DD.bk (ρ.set i .no), fun ρ => DD.ct (ρ.set i .no), fun _ _ _ => False⟩
def erH (K : PySem.W.Frag) (DD : Do) : List (Value × Nat × DSui) → ER
  | [] => DD.er
  | h :: r => fun C fs ρ => Opt (PySem.W.exmOne K (.ref C) h.1) fun b => if b = true then isPar ρ h.2.1 = false ∧ ∀ a, h.2.2 a C fs (shutD h.2.1 DD) (ρ.set h.2.1 (.val (.ptr a))) else erH K DD r C fs ρ
def dTry (K : PySem.W.Frag) (b : DS) (hs : List (Value × Nat × DSui)) : DS := fun DD ρ => b { DD with er := erH K DD hs } ρ
/-- .. from which nothing is let out -/
def dTry0 (K : PySem.W.Frag) (b : DS) (hs : List (Value × Nat × DSui)) : DS := fun DD ρ => b { DD with er := erH K { DD with er := fun _ _ _ => False } hs } ρ
inductive HdJ (X : Cx) (K : PySem.W.Frag) : List ExceptHandler → List (Value × Nat × DSui) → Prop
  | nil : HdJ X K [] []
  | cons {x n : Str} {c : Value} {i : Nat} {st : Stmt} {su : List Stmt} {p1 p2 : Pos} {s : DSui} {hds : List ExceptHandler} {l : List (Value × Nat × DSui)} (hi : X.N[i]? = some n) (hk : X.env.kindOf n = some .local) (hc : Names X x c)
      (h : ∀ (a : Addr) (oe : Obj) (C dd : Addr) (pn : List (Addr × Obj)) (fs : List (Str × D)) (vs : List (Str × V)) (G : Hp), Zc (.ref C) (some dd) oe → (∃ vs, oe.data = .fields vs) → G dd = some (.xd vs) → RepF K G vs fs →
        ∃ t, PSs (X.suite a ((a, oe) :: pn)) (st :: su) t ∧ ∀ f T, SS K ⟨f, G, T⟩ (fun _ _ _ _ => False) t (s a C fs)) (r : HdJ X K hds l) : HdJ X K (.ExceptHandler (some (.Name x p1)) (some n) (st :: su) p2 :: hds) ((c, i, s) :: l)
section
variable {K : PySem.W.Frag} {pa : PaG} {W : WX} {F G G' H H' : Hp} {σ : RSt} {ρ : Ro} {D : Ends} {DD : Do}
theorem Sim.know (S : Sim K pa F G σ H ρ) {g : Hp} (e : Ex g G) : Sim K ⟨pa.f, g, pa.T⟩ F G σ H ρ := ⟨S.len, S.ex, S.fx, S.dj, S.val, S.own, S.ofr, S.par, e, S.dis⟩
theorem Sim.unknow {g : Hp} (S : Sim K ⟨pa.f, g, pa.T⟩ F G σ H ρ) (e : Ex pa.g g) : Sim K pa F G σ H ρ := ⟨S.len, S.ex, S.fx, S.dj, S.val, S.own, S.ofr, S.par, e.trans S.gx, S.dis⟩
theorem Sim.clear (S : Sim K pa F G σ H ρ) (i : Nat) : Sim K pa F G (σ.set i none) H (ρ.set i .no) := S.wipeTo (vs := [i]) (wipe_set List.mem_cons_self).symm
theorem er_hs {X : Cx} {l : List ExceptHandler} {hs : List (Value × Nat × DSui)} {C d : Addr} {vs : List (Str × V)} {fs : List (Str × DL.D)} (hK : X.K = K) (hh : HdJ X K l hs) (k : Lk K pa F W G D DD) (e : Ex G G') (S : Sim K pa F G' σ H' ρ) (h1 : G' d = some (.xd vs)) (h2 : RepF K G' vs fs) :
    erH K DD hs C fs ρ → wJ X W D l (.ref C) (some d) σ H' := by
  induction hh with
  | nil => exact fun q => k.er G' σ H' ρ C d vs fs e S q h1 h2
  | @cons x n c i st su p1 p2 s hds l hi hk hc h r ih =>
    intro q
    obtain ⟨b, eb, q⟩ := q
    refine ⟨x, n, c, i, st, su, p1, p2, b, rfl, hi, hk, hc, hK ▸ eb, fun hb a oe pn na hz hf => ?_, fun hb => ?_⟩
    · rw [if_pos hb] at q
      obtain ⟨t, ht, hs⟩ := h a oe C d pn fs vs G' hz hf h1 h2
      refine ⟨t, ht, hs pa.f pa.T F G' _ H' _ (shut i D) (shutD i DD) ((S.store q.1 (.ptr a)).know (Ex.refl G')) (q.2 a) ?_⟩
      have un : ∀ {G2 H2 : Hp} {σ2 : RSt} {ρ2 : Ro}, Sim K ⟨pa.f, G', pa.T⟩ F G2 σ2 H2 ρ2 → Sim K pa F G2 σ2 H2 ρ2 := fun S2 => S2.unknow S.gx
      exact ⟨fun G2 σ2 H2 ρ2 e2 S2 z => k.nx G2 _ H2 _ (e.trans e2) ((un S2).clear i) z, fun G2 σ2 H2 ρ2 e2 S2 z => k.bk G2 _ H2 _ (e.trans e2) ((un S2).clear i) z, fun G2 σ2 H2 ρ2 e2 S2 z => k.ct G2 _ H2 _ (e.trans e2) ((un S2).clear i) z,
        fun G2 σ2 H2 ρ2 v t e2 S2 z1 z => k.rt G2 σ2 H2 ρ2 v t (e.trans e2) (un S2) z1 z, fun G2 σ2 H2 ρ2 p d e2 S2 z1 z2 z3 z => k.rf G2 σ2 H2 ρ2 p d (e.trans e2) (un S2) z1 z2 z3 z, fun _ _ _ _ _ _ _ _ _ _ z => z.elim⟩
    · rw [if_neg (by rw [hb]; decide)] at q
      exact ih q
theorem ss_tryJ {X : Cx} {body : List Stmt} {l : List ExceptHandler} {hs : List (Value × Nat × DSui)} {db : DS} (hK : X.K = K)
    (hb : ∀ (W : WX) (pn : List (Addr × Obj)) (xe : Value → Shared → Prop), Takes (X.tr pn xe) W → PassesOwn (model X.prog X.w) X.A X.env xe → ∃ t, PSs (X.tr pn xe) body t ∧ SS K pa W t db) (hh : HdJ X K l hs) : SS K pa W (tTryJ X W body l) (dTry K db hs) := fun F G σ H ρ D DD S h k pn xe tk po => by
  obtain ⟨t, ht, q⟩ := hb _ pn xe tk po
  exact ⟨t, ht, q F G σ H ρ D _ S h ⟨k.nx, k.bk, k.ct, k.rt, k.rf, fun G' σ' H' ρ' C d vs fs e S' q h1 h2 => er_hs hK hh k e S' h1 h2 q⟩⟩
theorem ss_tryJ0 {X : Cx} {body : List Stmt} {l : List ExceptHandler} {hs : List (Value × Nat × DSui)} {db : DS} (hK : X.K = K)
    (hb : ∀ (W : WX) (pn : List (Addr × Obj)) (xe : Value → Shared → Prop), Takes (X.tr pn xe) W → PassesOwn (model X.prog X.w) X.A X.env xe → ∃ t, PSs (X.tr pn xe) body t ∧ SS K pa W t db) (hh : HdJ X K l hs) : SS K pa W (tTryJ X (fun _ _ _ _ => False) body l) (dTry0 K db hs) := fun F G σ H ρ D DD S h k pn xe tk po => by
  obtain ⟨t, ht, q⟩ := hb _ pn xe tk po
  have k0 : Lk K pa F (fun _ _ _ _ => False) G D { DD with er := fun _ _ _ => False } := ⟨k.nx, k.bk, k.ct, k.rt, k.rf, fun _ _ _ _ _ _ _ _ _ _ z => z.elim⟩
  exact ⟨t, ht, q F G σ H ρ D _ S h ⟨k.nx, k.bk, k.ct, k.rt, k.rf, fun G' σ' H' ρ' C d vs fs e S' q h1 h2 => er_hs hK hh k0 e S' h1 h2 q⟩⟩
end
/-! ### in a suite: e.f, isinstance(e, C) -/
theorem RepF.lookup_at {K : PySem.W.Frag} {G : Hp} {f : Str} {d : D} : ∀ {vs : List (Str × V)} {ds : List (Str × D)}, RepF K G vs ds → ds.lookup f = some d → ∃ v, vs.lookup f = some v ∧ Rep K G v d
  | _, _, .nil, h => by cases h
  | _, _, .cons (k := k) (v := v) (d := e) (vs := vs) (ds := ds) r rr, h => by
    rw [List.lookup_cons] at h ⊢
    cases hk : (f == k) with
    | true => rw [hk] at h; cases h; exact ⟨v, rfl, r⟩
    | false => rw [hk] at h; exact RepF.lookup_at rr h
def dXf (C0 a C : Addr) (fs : List (Str × D)) (f : Str) (de : DE) : DE := fun ρ q er => de ρ (fun t ρ1 => Opt (rd ρ1 t) fun x => x = .ptr a ∧ C = C0 ∧ Opt (fs.lookup f) fun z => q (.val z) ρ1) er
/-- what isinstance asks of an exception's class -/
structure XcC (K : PySem.W.Frag) (C : Addr) : Prop where
  xf : XfC K C
  ha : PySem.W.findIn K (.ref C) "__class__" = some (some (.builtin "object.__class__"))
  hm : PySem.W.mroIn K C (.type "object") = some true
def rIsX (K : PySem.W.Frag) (a : Addr) (cls : Value) (d : Option Addr) : List V → Hp → VK → Prop := fun xs H Q => ∃ (C dd : Addr) (fs : List (Str × V)) (c : V) (cv : Value) (b : Bool),
  cls = .ref C ∧ d = some dd ∧ XcC K C ∧ IsiK K ∧ xs = [.ref a, c] ∧ ClsV c cv ∧ H dd = some (.xd fs) ∧ PySem.W.kitOne K (.ref C) cv = some b ∧ Q (.bl b) H
theorem call_isX {X : Cx} {a : Addr} {oe : Obj} {pn : List (Addr × Obj)} {cls : Value} {d : Option Addr} (hz : Zc cls d oe) (hf : ∃ vs, oe.data = .fields vs) : CallR (X.suite a ((a, oe) :: pn)) (.builtin "isinstance") (rIsX X.K a cls d) := by
  intro pins s σ H xs us Q I r h
  obtain ⟨C, dd, fs, c, cv, b, rfl, rfl, T, T0, rfl, hcv, hd, e, q⟩ := h
  cases r with
  | cons rx rr =>
    cases rr with
    | cons rt rr =>
      cases rr
      cases rx
      obtain ⟨hget, _⟩ := I.pin (a, oe) (List.mem_append.mpr (.inl List.mem_cons_self))
      obtain ⟨vs, hv⟩ := hf
      have hx : ObjOk X.prog X.w H s.heap dd (.xd fs) := I.hok dd _ hd
      obtain ⟨mA, hns, _⟩ := hx
      obtain ⟨od, ho, _⟩ := lookIn_ns hns
      have J : PySem.W.InstAt s.heap a oe C (some od) := ⟨hget, hz.1, by unfold PySem.W.notCls; rw [hv] <;> rfl, by rw [hz.2]; exact ho⟩
      obtain ⟨cd, hc, _⟩ := PySem.W.any_some T.xf.hdC
      obtain rfl := hcv.eq rt
      exact PySem.W.kia_one (PySem.W.kitx_exc (by rw [hc]; rfl) T.xf.ga T.xf.gg T.xf.exC T.ha T0.hn T0.htk T.hm) I.kIn J e (fun z => nomatch z) fun tk => ⟨.bl b, H, I.kept (t' := tk) fun _ _ z => z, rfl, q⟩
def dIsX (K : PySem.W.Frag) (Cs : List Addr) (a C : Addr) (de dc : DE) : DE := fun ρ q er => de ρ (fun t ρ1 => dc ρ1 (fun u ρ2 => Opt (rd ρ2 t) fun x => Opt (rd ρ2 u) fun c => x = .ptr a ∧ C ∈ Cs ∧ Opt c.clV fun cv => Opt (PySem.W.kitOne K (.ref C) cv) fun b => q (.val (.bl b)) ρ2) er) er
section
variable {K : PySem.W.Frag} {pa : PaG} {W : WX} {te tc : TE} {de dc : DE} {a C dd : Addr} {fs : List (Str × D)} {vs : List (Str × V)} {Cs : List Addr} {f : Str} {C0 : Addr}
theorem se_xf (h1 : pa.g dd = some (.xd vs)) (h2 : RepF K pa.g vs fs) (he : SE K pa W te de) : SE K pa W (tXf a (.ref C) (some dd) C0 f te) (dXf C0 a C fs f de) := fun F G σ H ρ Q q er S h k x =>
  he F G σ H ρ _ _ er S h (fun G1 H1 v t ρ1 e1 S1 r1 h3 => by
    obtain ⟨z, ez, rfl, rfl, y, ey, h3⟩ := h3
    obtain ⟨w, l, rw1⟩ := h2.lookup_at ey
    exact ⟨(S1.rdT r1 ez).ptr, rfl, dd, vs, w, rfl, S1.ex _ _ (S1.gx _ _ h1), l, k G1 H1 w (.val y) ρ1 e1 S1 (rw1.mono S1.gx) h3⟩) x
theorem se_isX (h1 : pa.g dd = some (.xd vs)) (hK : IsiK K) (hC : ∀ C ∈ Cs, XcC K C) (he : SE K pa W te de) (hc : SE K pa W tc dc) : SE K pa W (tCB (rIsX K a (.ref C) (some dd)) (tCons te (tCons tc tNil))) (dIsX K Cs a C de dc) := fun F G σ H ρ Q q er S h k x =>
  he F G σ H ρ _ _ er S h (fun G1 H1 v t ρ1 e1 S1 r1 h1' => hc F G1 σ H1 ρ1 _ _ er S1 h1' (fun G2 H2 w u ρ2 e2 S2 r2 h2 => by
    obtain ⟨z, ez, c, ec, rfl, hm, cv, ecv, b, eb, h3⟩ := h2
    have ev := (S2.rdT (r1.mono e2) ez).ptr
    subst ev
    exact ⟨C, dd, vs, w, cv, b, rfl, rfl, hC C hm, hK, rfl, clV_of (S2.rdT r2 ec) ecv, S2.ex _ _ (S2.gx _ _ h1), eb, k G2 H2 _ (.val _) ρ2 (e1.trans e2) S2 (.bl b) h3⟩) (x.grow e1)) x
end
/-! ### calls that may let something out -/
def hot (dsp : DSp) : DSp := dsp
section
variable {X : Cx} {CX : CXT} {k : Nat} {f C : Addr} {fd : FuncData} {ps : List Str} {sp : Sp} {E : RSt → XK} {te tc : TE} {a b : Expr} {pos : Pos}
theorem run_subS {A : Around} {pins : List (Addr × Obj)} {σ : RSt} {H : Hp} {s : Shared} {Q : VK} {us : List Value} {vs : List V} {E : XK} (F : FnOk X.prog X.w X.K X.mg X.base CX k f fd ps sp) (hr : Room k A) (hA : A.frames = X.A.frames) (hb : Binds X.K fd ps []) (hx : PassesAt CX X σ E)
    (I : Inv X pins σ H s) (r : Vals vs us) (h : sp vs H Q E) : wpAny (model X.prog X.w) A (call (.ref f) us) (EP X pins σ Q) X.xe s := by
  have hl : us.length = ps.length := by rw [← r.length]; exact F.len _ _ _ _ h
  have e0 : Env0 X.prog X.w X.K X.mg X.base A X.stack s H := ⟨by rw [hA]; exact I.env0.frames, I.env0.mod, I.env0.bs, I.env0.bsz, I.env0.funs, I.env0.frf, I.env0.hok, I.env0.bare⟩
  refine wpAny_call (codeAny_mono (F.run A X.stack s H ⟨us, []⟩ us vs Q E hr e0 (by have z := hb s us I.kIn (by simpa using hl); simpa using z) r h) fun r s' hq => ?_)
  cases r with
  | error e => exact hx pins H s e s' I hq
  | ok fl =>
    cases fl with
    | ret u => exact I.after hq
    | next => exact False.elim hq
    | brk => exact False.elim hq
    | cont => exact False.elim hq
def tBinS (C : Addr) (sp : Sp) (E : RSt → XK) (ta tb : TE) : TE := fun σ H Q => ta σ H fun x H1 => tb σ H1 fun y H2 => rBinO C sp (E σ) x y H2 Q
theorem pe_binS {op : Operator} {nm : Str} (hop : PySem.dunder op.info.2 = nm) (M : Spec1 X.K C nm f) (hc : PySem.W.selfFirst X.K C = true) (F : FnOk X.prog X.w X.K X.mg X.base CX k f fd ps sp) (hr : Room k X.A) (hb : Binds X.K fd ps []) (hx : ∀ σ, PassesAt CX X σ (E σ))
    (h1 : PE X a te) (h2 : PE X b tc) : PE X (.BinOp a op b pos) (tBinS C sp E te tc) := by
  refine ⟨fun pins s σ H Q I h => wpAny_BinOp (binT h1 h2 I h fun v u s2 x y H2 I2 rx ry q => ?_)⟩
  obtain ⟨a, dx, fs, c, dy, gs, rfl, ha, rfl, hc2, h⟩ := q
  have hv : v = Value.ref a := rx
  subst hv
  have hu : u = Value.ref c := ry
  subst hu
  obtain ⟨mA, J, _⟩ := ins_get I2.hok ha
  obtain ⟨od, J, _⟩ := J.look
  obtain ⟨mB, J2, _⟩ := ins_get I2.hok hc2
  obtain ⟨od2, J2, _⟩ := J2.look
  obtain ⟨m, hF⟩ := I2.fr
  refine PySem.W.binop_K (op := op) hF I2.ok.mod.kin J J2.type hc (by rw [hop]; exact M.hs) M.hf ?_
  refine wpAny_mono (run_subS F hr rfl hb (hx σ) I2 (vs := [V.ref a, V.ref c]) (.cons (show RelV (V.ref a) (Value.ref a) from rfl) (.cons (show RelV (V.ref c) (Value.ref c) from rfl) .nil)) h) (fun r s1 q => ?_) fun _ _ z => z
  obtain ⟨w, H1, I1, rw1, q⟩ := q
  exact SlX.cmpback rw1 ⟨w, H1, I1, rw1, q⟩
theorem passE {E : XK} (tk : Takes X (fun cls d _ H => E cls d H)) : Passes (L2.CX X.prog X.w) X E := passes_call tk fun _ _ _ _ h => h
end
def dBinS (C : Addr) (dsp : DSp) (da db : DE) : DE := fun ρ q er => da ρ (fun t ρ1 => db ρ1 (fun u ρ2 => Opt (rd ρ2 t) fun d => d.insOf C = true ∧ Opt (rd ρ2 u) fun y => y.insOf C = true ∧ Opt (argsOf ρ2 [t, u]) fun av => (bors [t, u]).Nodup ∧
  hot dsp av (fun r os => q (.val r) (putOuts ρ2 (bors [t, u]) os)) (fun C' fs os => er C' fs (putOuts ρ2 (bors [t, u]) os))) er) er
section
variable {K : PySem.W.Frag} {pa : PaG} {W : WX} {te tc : TE} {dx dc : DE} {ta : TA} {da : DA} {C : Addr} {dsp : DSp} {n : Nat}
theorem se_binS (hx : SE K pa W te dx) (hc : SE K pa W tc dc) : SE K pa W (tBinS C (SpV K 2 dsp) (WE W) te tc) (dBinS C dsp dx dc) := fun F G σ H ρ Q q er S h k x =>
  hx F G σ H ρ _ _ er S h (fun G1 H1 v t ρ1 e1 S1 r1 h1 => hc F G1 σ H1 ρ1 _ _ er S1 h1 (fun G2 H2 w u ρ2 e2 S2 r2 h2 => by
    obtain ⟨d, ed, hi, y, ey, hi2, av, ea, nd, hd⟩ := h2
    obtain ⟨a, dx, fs, rfl, ha⟩ := insOf_at S2.ex (S2.rdT (r1.mono e2) ed) hi
    obtain ⟨c, dy, gs, rfl, hc⟩ := insOf_at S2.ex (S2.rdT r2 ey) hi2
    refine ⟨a, dx, fs, c, dy, gs, rfl, ha, rfl, hc, ?_⟩
    exact call_core S2 (.cons (r1.mono e2) (.cons r2 .nil)) ea nd rfl hd (fun G3 H3 v3 d3 os e3 S3 rv hq => k G3 H3 v3 (.val d3) _ ((e1.trans e2).trans e3) S3 rv hq)
      (fun G3 H3 C3 y3 fv fs3 os e3 S3 z1 z2 hq => x G3 H3 _ C3 y3 fv fs3 ((e1.trans e2).trans e3) S3 hq z1 z2)) (x.grow e1)) x
theorem se_callH (ha : SA K pa W ta da) : SE K pa W (tCallS (SpV K n dsp) (WE W) ta) (dCall (hot dsp) (dN n da)) := se_callS ha
theorem sf_callH (ha : SA K pa W ta da) : SF K pa W (tCallS (SpF K n dsp) (WE W) ta) (dCallF (hot dsp) (dN n da)) := sf_callS ha
theorem sf_makeH {E : XK} (ha : SA K pa (fun cls d _ H => E cls d H) ta da) : SF K pa (fun cls d _ H => E cls d H) (tMake C (SpV K (n + 1) dsp) [] E ta) (dMake C (hot dsp) (dN n da)) := by
  have e : tMake C (SpV K (n + 1) dsp) [] E ta = tMakeS C (SpV K (n + 1) dsp) (WE fun cls d _ H => E cls d H) ta := by
    funext σ H Q
    unfold tMake tMakeS
    simp only [List.append_nil]
  rw [e]
  exact sf_makeS ha
end
/-! ### rows -/
section
variable {K : PySem.W.Frag} {b : DS} {hs : List (Value × Nat × DSui)} {nx bk ct : Ro → Prop} {rt : T → Ro → Prop} {rf : D → Ro → Prop} {er : ER} {ρ : Ro} {c : Value} {i : Nat} {s : DSui} {C : Addr} {fs : List (Str × D)}
theorem w_try : dTry K b hs ⟨nx, rt, rf, bk, ct, er⟩ ρ = b ⟨nx, rt, rf, bk, ct, erH K ⟨nx, rt, rf, bk, ct, er⟩ hs⟩ ρ := rfl
theorem w_try0 : dTry0 K b hs ⟨nx, rt, rf, bk, ct, er⟩ ρ = b ⟨nx, rt, rf, bk, ct, erH K ⟨nx, rt, rf, bk, ct, fun _ _ _ => False⟩ hs⟩ ρ := rfl
theorem erH_nil : erH K ⟨nx, rt, rf, bk, ct, er⟩ [] C fs ρ = er C fs ρ := rfl
theorem erH_cons : erH K ⟨nx, rt, rf, bk, ct, er⟩ ((c, i, s) :: hs) C fs ρ = Opt (PySem.W.exmOne K (.ref C) c) fun b => if b = true then isPar ρ i = false ∧ ∀ a, s a C fs (shutD i ⟨nx, rt, rf, bk, ct, er⟩) (ρ.set i (.val (.ptr a))) else erH K ⟨nx, rt, rf, bk, ct, er⟩ hs C fs ρ := rfl
theorem shutD_mk : shutD i ⟨nx, rt, rf, bk, ct, er⟩ = ⟨fun ρ => nx (ρ.set i .no), rt, rf, fun ρ => bk (ρ.set i .no), fun ρ => ct (ρ.set i .no), fun _ _ _ => False⟩ := rfl
theorem hot_run (dsp : DSp) (av : List Sl) (q : D → List D → Prop) (er : Addr → List (Str × D) → List D → Prop) : hot dsp av q er = Run dsp av q er := rfl
theorem x1_mk {f : Str} {y : D} : x1 f [y] = some [(f, y)] := rfl
theorem x2_mk {f g : Str} {y z : D} : x2 f g [y, z] = some [(g, z), (f, y)] := rfl
theorem w_rz {mk : List D → Option (List (Str × D))} {da : DA} : dRz C mk da ⟨nx, rt, rf, bk, ct, er⟩ ρ = da ρ (fun ts ρ1 => Opt (vals ts) fun ds => Opt (mk ds) fun fs => er C fs ρ1) er := rfl
end
/-! ### facts of classes -/
theorem kit_subT {K : PySem.W.Frag} {C : Addr} {t : Value} {b : Bool} (h1 : PySem.W.isClsIn K C = true) (h2 : PySem.W.typeIn K (.ref C) = some (.type "type")) (hn : t ≠ .ref C) (hs : PySem.W.subIn K t (.ref C) = some b) : PySem.W.kitOne K t (.ref C) = some b := by
  have hc : (PySem.W.clsIn K C).isSome = true := h1
  unfold PySem.W.kitOne
  rw [if_neg (by simpa using hn)]
  show (if ((PySem.W.clsIn K C).isSome && PySem.W.typeIn K (.ref C) == some (.type "type")) = true then PySem.W.subIn K t (.ref C) else none) = some b
  rw [hc, h2, hs]
  simp
end DL
set_option autoImplicit false
set_option Elab.async false
set_option linter.all false
set_option maxRecDepth 100000
set_option maxHeartbeats 2000000
namespace DL
open PySem L2 Evl PySem.Spec PyProof.Rows
/-! ### exceptions as values -/
/-- at a: an exception of the class at C with these fields -/
def ExAt (H : Hp) (a C : Addr) (vs : List (Str × V)) : Prop := (∃ d, H a = some (exo a C (some d)) ∧ H d = some (exd d vs)) ∨ (H a = some (ExO (.ref C) a) ∧ vs = [])
section
variable {X : Cx} {pins : List (Addr × Obj)} {σ : RSt} {H : Hp} {s : Shared} {a C : Addr} {vs : List (Str × V)}
theorem ex_inst (I : Inv X pins σ H s) (h : ExAt H a C vs) : ∃ ox od, PySem.W.InstAt s.heap a ox C od ∧ (∀ (f : Str) (v : V), vs.lookup f = some v → ∃ o u, od = some o ∧ PySem.W.lookIn f o = some (some u) ∧ RelV v u) ∧ ∀ f : Str, vs.lookup f = none → PySem.W.shadowIn od f = some false := by
  rcases h with ⟨d, h1, h2⟩ | ⟨h1, rfl⟩
  · obtain ⟨t1, g1⟩ := exo_at I.hok h1
    obtain ⟨mA, g2, rel⟩ := exd_at I.hok h2
    obtain ⟨o, g3, g4⟩ := lookIn_ns g2
    refine ⟨_, some o, ⟨g1, rfl, rfl, g3⟩, fun f v hv => ?_, fun f hf => ?_⟩
    · have r := rel f
      rw [hv] at r
      obtain ⟨u, hu, ru⟩ := RelO.some_of (v := v) (o := mA f) r
      exact ⟨o, u, rfl, by rw [g4, hu], ru⟩
    · have r := rel f
      rw [hf] at r
      show (PySem.W.lookIn f o).map (·.isSome) = some false
      rw [g4, RelO.none_of r]
      rfl
  · obtain ⟨⟨oe, ws, g1, g2, g3, -⟩, _, _⟩ := I.hok a _ h1
    refine ⟨oe, none, ⟨g1, g2.1, by unfold PySem.W.notCls; rw [g3] <;> rfl, by rw [g2.2]; trivial⟩, fun f v hv => (by cases hv), fun f _ => rfl⟩
end
/-! making -/
def tMkV (C : Addr) (sp : Sp) (ta : TA) : TE := fun σ H Q => ta σ H fun vs H1 => vs.length ≤ 1000 ∧ ∀ a, H1 a = none → sp (.ref a :: vs) (upd H1 a (exo a C none)) (fun v H2 => v = .non ∧ Q (.ref a) H2) (fun _ _ _ => False)
def tMk0 (C : Addr) : TE := fun _ H Q => ∀ a, H a = none → Q (.ref a) (upd H a (ExO (.ref C) a))
section
variable {X : Cx} {e : Expr} {es : List Expr} {ta : TA} {p pos : Pos}
theorem pe_mkV {CX : CXT} {x : Str} {C fI : Addr} {k : Nat} {fd : FuncData} {ps : List Str} {sp : Sp} (T : OexC X.K C) (iC : PySem.W.findIn X.K (.ref C) "__init__" = some (some (.ref fI))) (tI : PySem.W.typeIn X.K (.ref fI) = some (.type "function")) (Fn : FnOk X.prog X.w X.K X.mg X.base CX k fI fd ps sp) (hr : Room (k + 1) X.A)
    (hb : Binds X.K fd ps []) (hx : Passes CX X (fun _ _ _ => False)) (hg : Gl X x) (hm : X.mg x = some (.ref C)) (ha : PA X (e :: es) ta) (hdb : (x == ("__debug__" : Str)) = false := by decide)
    (he : starEach (e :: es) X.env = (false, eval e X.env) :: starEach es X.env := by rfl) (hpl : (backTo pos (starEach es X.env)).any (·.1) = false := by rfl) : PE X (.Call (.Name x p) (e :: es) [] pos) (tMkV C sp ta) := by
  refine ⟨fun pins s σ H Q I h => wpAny_Call_Name_kw (ld_glob I hg hm (PySem.W.callWith_K (h₀ := X.base) I.ok.mod.kin T.kC (thn (ha.run pos pins s σ H _ I h) fun us s1 ⟨vs, H1, I1, r1, hz, q1⟩ => ⟨I1.kIn, ?_⟩) he hpl) hdb)⟩
  show wpAny (model X.prog X.w) X.A (call (.ref C) us) (EP X pins σ Q) X.xe s1
  obtain ⟨nm, q, N, bs, bm, sn, sub, ab, col, dd, k0, k1, k2, k3, k5, hC, hbm⟩ := T.cls
  obtain ⟨g, gn, dr, tk, os⟩ := s1
  have le : g.objs.size ≤ g.objs.size + 1 := by omega
  have no : H1 (g.objs.size + 1) = none := I1.hok.fresh le
  have go := q1 (g.objs.size + 1) no
  have J : Inv X pins σ (upd H1 (g.objs.size + 1) (exo (g.objs.size + 1) C none)) ⟨(g.push (PySem.W.kdv_tup us)).push (PySem.HandSPX.excO C g.objs.size), gn, dr, tk, os⟩ :=
    I1.laid (t' := tk) (fun b o z => Heap.get?_push_of_some _ (Heap.get?_push_of_some _ z)) le (exo_ok (show ((g.push (PySem.W.kdv_tup us)).push (PySem.HandSPX.excO C g.objs.size)).get? (g.objs.size + 1) = some (PySem.HandSPX.excO C g.objs.size) by heap_get))
  have rv : Vals (V.ref (g.objs.size + 1) :: vs) (Value.ref (g.objs.size + 1) :: us) := .cons rfl r1
  have el : (Value.ref (g.objs.size + 1) :: us).length = ps.length := by rw [← rv.length]; exact Fn.len _ _ _ _ go
  have bd := hb _ (Value.ref (g.objs.size + 1) :: us) J.kIn (by rw [List.append_nil]; exact el)
  rw [List.append_nil] at bd
  refine wpAny_call (PySem.HandSPX.call_own F.excBase_ValueError (fun Y => PySem.HandSPX.refsVE_contains Y bm hbm) (I1.kIn _ _ hC) (PySem.W.looks_findIn I1.kIn iC) (fun self => PySem.W.bind_fn I1.kIn self tI) (show us.length ≤ sizeLine by rw [← Paired.length r1, sizeLine_eq]; omega) (codeAny_mono
    (Fn.run _ X.stack _ _ ⟨Value.ref (g.objs.size + 1) :: us, []⟩ (Value.ref (g.objs.size + 1) :: us) _ _ (fun _ _ _ => False) (hr.make C us []) (J.env0.make C us []) bd rv go) fun r s' z => ?_))
  cases r with
  | error y => exact hx pins σ _ _ y s' J z
  | ok fl =>
    cases fl with
    | ret u =>
      obtain ⟨v, H2, J2, rv2, ev, q2⟩ := J.after z
      subst ev
      exact ⟨rv2, ⟨V.ref (g.objs.size + 1), H2, J2, rfl, q2⟩⟩
    | _ => exact z.elim
theorem pe_mk0 {x : Str} {C : Addr} {bmB : List Value} {B newId initId : String} (Fb : ExcBaseFacts B newId initId bmB) (q : PySem.W.excIn X.K C bmB newId = true) (gC : X.mg x = some (.ref C)) (kC : PySem.W.keepIn X.K (.ref C) = true) (hg : Gl X x) (hdb : (x == ("__debug__" : Str)) = false := by decide) :
    PE X (.Call (.Name x p) [] [] pos) (tMk0 C) := by
  refine ⟨fun pins s σ H Q I h => wpAny_Call_Name_kw (ld_glob I hg gC (PySem.W.callWith_K0 I.kIn kC ?_) hdb)⟩
  show wpAny (model X.prog X.w) X.A (call (.ref C) []) (EP X pins σ Q) X.xe s
  obtain ⟨bm, N, nm, qn, bs, hdct, sn, sub, ab, col, dd, k0, k1, k2, k3, k5, mN, hC, hN, hni, T⟩ := exc_obj I.kIn q
  refine wpAny_call_exc_subT Fb T hC hN hni (fun h' a hm => ?_) (Nat.zero_le _)
  have no : H a = none := I.hok.gone hm.new
  obtain ⟨t, ht, -, -⟩ := hm.there
  exact ⟨.ref a, _, I.laidN hm.keeps hm.new no (exO_ok ht ⟨rfl, rfl⟩ rfl rfl rfl (show 4 < 6 by decide)), rfl, h a no⟩
end
/-! fields, isinstance, methods -/
def tFldX (C : Addr) (f : Str) (te : TE) : TE := fun σ H Q => te σ H fun x H1 => ∃ a vs v, x = .ref a ∧ ExAt H1 a C vs ∧ vs.lookup f = some v ∧ Q v H1
theorem pe_fldX {X : Cx} {C : Addr} {e : Expr} {te : TE} {pos : Pos} {n : Str} (T : XfC X.K C) (hno : PySem.W.findIn X.K (.ref C) n = some none) (he : PE X e te) (hb : attributeBase e n X.env (eval e X.env) = eval e X.env := by rfl) : PE X (.Attribute e n pos) (tFldX C n te) := by
  refine ⟨fun pins s σ H Q I h => attr_of hb (thn (he.run pins s σ H _ I h) fun u s1 hh => ?_)⟩
  obtain ⟨x, H1, I1, rx, a, vs, v, rfl, hx, l, q⟩ := hh
  have hu : u = Value.ref a := rx
  subst hu
  obtain ⟨ox, od, J, g1, -⟩ := ex_inst I1 hx
  obtain ⟨o, z, rfl, g2, ru⟩ := g1 n v l
  exact HandSPX.exc_get I1.kIn J T.ga T.gg T.exC (PySem.W.findObj_own T.hdC hno rfl g2) (handed_of ru) ⟨v, H1, I1.tok _, ru, q⟩
def rIsV (K : PySem.W.Frag) : List V → Hp → VK → Prop := fun xs H Q => ∃ (a C : Addr) (vs : List (Str × V)) (c : V) (cv : Value) (b : Bool), XcC K C ∧ IsiK K ∧ xs = [.ref a, c] ∧ ClsV c cv ∧ ExAt H a C vs ∧ PySem.W.kitOne K (.ref C) cv = some b ∧ Q (.bl b) H
theorem call_isV {X : Cx} : CallR X (.builtin "isinstance") (rIsV X.K) := by
  intro pins s σ H xs us Q I r h
  obtain ⟨a, C, vs, c, cv, b, T, T0, rfl, hcv, hx, e, q⟩ := h
  cases r with
  | cons rx rr =>
    cases rr with
    | cons rt rr =>
      cases rr
      cases rx
      obtain rfl := hcv.eq rt
      obtain ⟨ox, od, J, -, -⟩ := ex_inst I hx
      obtain ⟨cd, hc, -⟩ := PySem.W.any_some T.xf.hdC
      exact PySem.W.kia_one (PySem.W.kitx_exc (by rw [hc]; rfl) T.xf.ga T.xf.gg T.xf.exC T.ha T0.hn T0.htk T.hm) I.kIn J e (fun z => nomatch z) fun tk => ⟨.bl b, H, I.kept (t' := tk) fun _ _ z => z, rfl, q⟩
def tMethX (l : List (Addr × Sp)) (m : Str) (te : TE) : TE := fun σ H Q => te σ H fun x H1 => ∃ a C vs sp, x = .ref a ∧ (C, sp) ∈ l ∧ ExAt H1 a C vs ∧ vs.lookup m = none ∧ sp [x] H1 Q L2.E0
/-- what a method of an exception's class must have -/
structure MethX (P : Program) (w : World) (K : PySem.W.Frag) (mg : Str → Option Value) (base : Heap) (k : Nat) (m : Str) (C : Addr) (sp : Sp) : Prop where
  xf : XfC K C
  fn : ∃ f fd ps, PySem.W.findIn K (.ref C) m = some (some (.ref f)) ∧ PySem.W.isFn K (.ref f) = true ∧ PySem.W.keepIn K (.ref f) = true ∧ FnOk P w K mg base CX0 k f fd ps sp ∧ Binds K fd ps []
theorem pe_methX {X : Cx} {l : List (Addr × Sp)} {m : Str} {k : Nat} {o : Expr} {te : TE} {apos pos : Pos} {pl : Sem Bool} (hl : ∀ q ∈ l, MethX X.prog X.w X.K X.mg X.base k m q.1 q.2) (hr : Room k X.A) (he : PE X o te)
    (ht : eval (.Call (.Attribute o m apos) [] [] pos) X.env = (do
      let ov ← eval o X.env
      standAt apos.atName
      let (f, first) ← holding [ov] (getMethod ov m pl)
      callWith pos f first (backTo pos (starEach [] X.env)) (backToKw pos (keywordEach [] X.env))) := by rfl) : PE X (.Call (.Attribute o m apos) [] [] pos) (tMethX l m te) := by
  refine ⟨fun pins s σ H Q I h => PySem.W.methodCall_KW (pl := pl) (thn (he.run pins s σ H _ I h) fun u s1 hh => ?_) ht⟩
  obtain ⟨x, H1, I1, rx, a, C, vs, sp, rfl, hm, hx, hk, q⟩ := hh
  have hu : u = Value.ref a := rx
  subst hu
  obtain ⟨T, f, fd, ps, g1, g2, g3, g4, g5⟩ := hl _ hm
  obtain ⟨ox, od, J, -, sh⟩ := ex_inst I1 hx
  obtain ⟨m', fr⟩ := I1.fr
  exact PySem.W.method_exc fr I1.ok.mod.kin J T.ga T.gg g1 g2 (sh m hk) (PySem.W.callWith_K0 (first := [.ref a]) I1.kIn g3 (run_fn (us := [.ref a]) (vs := [.ref a]) g4 hr g5 .nil pass0 I1 (.cons rfl .nil) q))
/-! ### as data -/
theorem exAt_of {K : PySem.W.Frag} {G H : Hp} {v : V} {C : Addr} {fs : List (Str × D)} (e : Ex G H) (r : RepT K G H v (.exc C fs)) : ∃ a vs, v = .ref a ∧ ExAt H a C vs ∧ RepF K G vs fs := by
  rcases r with r | ⟨p, _, _, r⟩
  · cases r with
    | exc h1 h2 rr => exact ⟨_, _, rfl, .inl ⟨_, e _ _ h1, e _ _ h2⟩, rr⟩
    | exc0 h1 => exact ⟨_, [], rfl, .inr ⟨e _ _ h1, rfl⟩, .nil⟩
  · exact r.elim
def dMkV (C : Addr) (mk : List D → Option (List (Str × D))) (da : DA) : DE := fun ρ q er => da ρ (fun ts ρ1 => Opt (vals ts) fun ds => Opt (mk ds) fun fs => q (.val (.exc C fs)) ρ1) er
def dMk0 (C : Addr) : DE := fun ρ q _ => q (.val (.exc C [])) ρ
def D.excOf (C : Addr) : D → Option (List (Str × D))
  | .exc C' fs => if C' = C then some fs else none
  | _ => none
def dFldX (C : Addr) (f : Str) (de : DE) : DE := fun ρ q er => de ρ (fun t ρ1 => Opt (rd ρ1 t) fun x => Opt (x.excOf C) fun fs => Opt (fs.lookup f) fun z => q (.val z) ρ1) er
def D.excC : D → Option Addr
  | .exc C _ => some C
  | _ => none
def dIsV (K : PySem.W.Frag) (Cs : List Addr) (de dc : DE) : DE := fun ρ q er => de ρ (fun t ρ1 => dc ρ1 (fun u ρ2 => Opt (rd ρ2 t) fun x => Opt (rd ρ2 u) fun c => Opt x.excC fun C => C ∈ Cs ∧ Opt c.clV fun cv => Opt (PySem.W.kitOne K (.ref C) cv) fun b => q (.val (.bl b)) ρ2) er) er
def dMethX (l : List (Addr × DSp)) (m : Str) (de : DE) : DE := fun ρ q er => de ρ (fun t ρ1 => match t with
  | .val (.exc C fs) => fs.lookup m = none ∧ ∃ dsp, (C, dsp) ∈ l ∧ noEr dsp [.val (.exc C fs)] (fun d os => q (.val d) (putOuts ρ1 [] os)) (fun _ _ _ => False)
  | _ => False) er
section
variable {K : PySem.W.Frag} {pa : PaG} {W : WX} {te tc : TE} {de dc : DE} {ta : TA} {da : DA} {C : Addr} {f g : Str} {Cs : List Addr}
theorem ex_heap {H : Hp} {a d C : Addr} {o1 : HO} {o2 : HO} (hn : d ≠ a) : upd (upd (upd H a o1) d o2) a (exo a C (some d)) = upd (upd H d o2) a (exo a C (some d)) := by
  funext b
  by_cases hb : b = a
  · rw [hb, upd_same, upd_same]
  · rw [upd_ne hb, upd_ne hb]
    by_cases hc : b = d
    · rw [hc, upd_same, upd_same]
    · rw [upd_ne hc, upd_ne hc, upd_ne hb]
theorem ex_heap2 {H : Hp} {a d C : Addr} {o1 o2 o3 : HO} (hn : d ≠ a) : upd (upd (upd (upd H a o1) d o2) a (exo a C (some d))) d o3 = upd (upd H d o3) a (exo a C (some d)) := by
  funext b
  by_cases hb : b = a
  · rw [hb, upd_same, upd_ne (Ne.symm hn), upd_same]
  · rw [upd_ne hb]
    by_cases hc : b = d
    · rw [hc, upd_same, upd_same]
    · rw [upd_ne hc, upd_ne hc, upd_ne hb, upd_ne hc, upd_ne hb]
theorem ex_al {G H : Hp} {a d C : Addr} {vs : List (Str × V)} {fs : List (Str × D)} (e : Ex G H) (ha : H a = none) (hd : H d = none) (hn : d ≠ a) (r : RepF K G vs fs) : ∃ G', Al G H G' (upd (upd H d (exd d vs)) a (exo a C (some d))) ∧ Rep K G' (.ref a) (.exc C fs) := by
  have a1 := Al.one (o := exd d vs) e hd
  have a2 := Al.one (p := a) (o := exo a C (some d)) a1.gh (by rw [upd_ne (Ne.symm hn)]; exact ha)
  exact ⟨_, a1.trans a2, .exc upd_same (by rw [upd_ne hn, upd_same]) (r.mono (a1.g.trans a2.g))⟩
theorem se_mk1 (T : OexC K C) (hf : PySem.W.findIn K (.ref C) f = some none) (ha : SA K pa W ta da) : SE K pa W (tMkV C (spX1 K f) ta) (dMkV C (x1 f) da) := fun F G σ H ρ Q q er S h k x =>
  ha F G σ H ρ _ _ er S h (fun G1 H1 vs ts ρ1 e1 S1 r1 h1 => by
    obtain ⟨ds, ed, fs, ef, h2⟩ := h1
    have R := vals_reps r1 ed
    cases R with
    | nil => cases ef
    | @cons vy dy _ _ ry R =>
      cases R with
      | cons _ _ => cases ef
      | nil =>
        cases ef
        refine ⟨by simp, fun a hn => ⟨a, C, _, rfl, T, hf, upd_same, fun dx hd hne => ⟨rfl, ?_⟩⟩⟩
        rw [upd_ne hne] at hd
        rw [ex_heap hne]
        obtain ⟨G2, al, rp⟩ := ex_al (C := C) (vs := [(f, vy)]) (fs := [(f, dy)]) S1.ex hn hd hne (.cons ry .nil)
        exact k G2 _ _ (.val _) ρ1 (e1.trans al.g) (S1.al al) rp h2) x
theorem se_mk2 (T : OexC K C) (hf : PySem.W.findIn K (.ref C) f = some none) (hg : PySem.W.findIn K (.ref C) g = some none) (ha : SA K pa W ta da) : SE K pa W (tMkV C (spX2 K f g) ta) (dMkV C (x2 f g) da) := fun F G σ H ρ Q q er S h k x =>
  ha F G σ H ρ _ _ er S h (fun G1 H1 vs ts ρ1 e1 S1 r1 h1 => by
    obtain ⟨ds, ed, fs, ef, h2⟩ := h1
    have R := vals_reps r1 ed
    cases R with
    | nil => cases ef
    | @cons vy dy _ _ ry R =>
      cases R with
      | nil => cases ef
      | @cons vz dz _ _ rz R =>
        cases R with
        | cons _ _ => cases ef
        | nil =>
          cases ef
          refine ⟨by simp, fun a hn => ⟨a, C, _, _, rfl, T, hf, hg, upd_same, fun dx hd hne => ⟨rfl, ?_⟩⟩⟩
          rw [upd_ne hne] at hd
          rw [ex_heap2 hne]
          obtain ⟨G2, al, rp⟩ := ex_al (C := C) (vs := [(g, vz), (f, vy)]) (fs := [(g, dz), (f, dy)]) S1.ex hn hd hne (.cons rz (.cons ry .nil))
          exact k G2 _ _ (.val _) ρ1 (e1.trans al.g) (S1.al al) rp h2) x
theorem se_mk0 : SE K pa W (tMk0 C) (dMk0 C) := fun F G σ H ρ Q q er S h k x a hn => by
  have al := Al.one (p := a) (o := ExO (.ref C) a) S.ex hn
  exact k _ _ _ (.val _) ρ al.g (S.al al) (.exc0 upd_same) h
theorem se_fldX (he : SE K pa W te de) : SE K pa W (tFldX C f te) (dFldX C f de) := fun F G σ H ρ Q q er S h k x =>
  he F G σ H ρ _ _ er S h (fun G1 H1 v t ρ1 e1 S1 r1 h1 => by
    obtain ⟨d, ed, fs, ef, z, ez, h2⟩ := h1
    cases d with
    | exc C' fs' =>
      have ef : (if C' = C then some fs' else none) = some fs := ef
      by_cases hC : C' = C
      · subst hC
        rw [if_pos rfl] at ef
        have ef := Option.some.inj ef
        subst ef
        obtain ⟨a, vs, rfl, hx, rf⟩ := exAt_of S1.ex (S1.rdT r1 ed)
        obtain ⟨w, l, rw1⟩ := rf.lookup ez
        exact ⟨a, vs, w, rfl, hx, l, k G1 H1 w (.val z) ρ1 e1 S1 rw1 h2⟩
      · rw [if_neg hC] at ef
        exact nomatch ef
    | _ => cases ef) x
theorem se_isV (hK : IsiK K) (hC : ∀ C ∈ Cs, XcC K C) (he : SE K pa W te de) (hc : SE K pa W tc dc) : SE K pa W (tCB (rIsV K) (tCons te (tCons tc tNil))) (dIsV K Cs de dc) := fun F G σ H ρ Q q er S h k x =>
  he F G σ H ρ _ _ er S h (fun G1 H1 v t ρ1 e1 S1 r1 h1 => hc F G1 σ H1 ρ1 _ _ er S1 h1 (fun G2 H2 w u ρ2 e2 S2 r2 h2 => by
    obtain ⟨d, ed, c, ec, C, eC, hm, cv, ecv, b, eb, h3⟩ := h2
    cases d with
    | exc C' fs =>
      cases eC
      obtain ⟨a, vs, rfl, hx, _⟩ := exAt_of S2.ex (S2.rdT (r1.mono e2) ed)
      exact ⟨a, C, vs, w, cv, b, hC C hm, hK, rfl, clV_of (S2.rdT r2 ec) ecv, hx, eb, k G2 H2 _ (.val _) ρ2 (e1.trans e2) S2 (.bl b) h3⟩
    | _ => cases eC) (x.grow e1)) x
theorem se_methX {l : List (Addr × DSp)} {m : Str} (he : SE K pa W te de) : SE K pa W (tMethX (l.map fun q => (q.1, SpV K 1 q.2)) m te) (dMethX l m de) := fun F G σ H ρ Q q er S h k x =>
  he F G σ H ρ _ _ er S h (fun G1 H1 v t ρ1 e1 S1 r1 h1 => by
    cases t with
    | bor i => exact h1.elim
    | val d =>
      cases d with
      | exc C fs =>
        obtain ⟨hl, dsp, hm, hd⟩ := h1
        obtain ⟨a, vs, rfl, hx, rf⟩ := exAt_of S1.ex (S1.rdT r1 rfl)
        refine ⟨a, C, vs, SpV K 1 dsp, rfl, List.mem_map.mpr ⟨_, hm, rfl⟩, hx, rf.lookup_none hl, ?_⟩
        exact call_core (ts := [.val (.exc C fs)]) S1 (.cons r1 .nil) rfl (by simp [bors]) rfl hd (fun G' H' v d os e S' rv hq => k G' H' v (.val d) _ (e1.trans e) S' rv hq) (fun _ _ _ _ _ _ _ _ _ _ _ hq => hq.elim)
      | _ => exact h1.elim) x
end
theorem kit_any {K : PySem.W.Frag} {C X : Addr} {b : Bool} (h1 : PySem.W.isClsIn K X = true) (h2 : PySem.W.typeIn K (.ref X) = some (.type "type")) (hs : PySem.W.subIn K (.ref C) (.ref X) = some b) (hx : PySem.W.subIn K (.ref X) (.ref X) = some true) : PySem.W.kitOne K (.ref C) (.ref X) = some b := by
  by_cases e : C = X
  · subst e
    rw [hx] at hs
    cases hs
    exact kit_sameR K C
  · exact kit_subT h1 h2 (fun z => e (by cases z; rfl)) hs
theorem kit_tyT {K : PySem.W.Frag} {C : Addr} {n : String} {b : Bool} (hm : PySem.W.kitMeta n = true) (hs : PySem.W.subIn K (.ref C) (.type n) = some b) : PySem.W.kitOne K (.ref C) (.type n) = some b := by
  unfold PySem.W.kitOne
  rw [if_neg (by simp)]
  show (if PySem.W.kitMeta n = true then PySem.W.subIn K (.ref C) (.type n) else none) = some b
  rw [if_pos hm]
  exact hs
end DL
set_option autoImplicit false
set_option Elab.async false
set_option linter.all false
set_option maxRecDepth 100000
namespace DL
open PySem L2 Evl
/-! ### a list of new lists: asked as a whole, then its items are changed -/
section
variable {K : PySem.W.Frag} {pa : PaG} {F G G' H H' : Hp} {σ σ' : RSt} {ρ ρ' : Ro}
/-- an object that nobody knows is changed -/
theorem Sim.out (S : Sim K pa F G σ H ρ) {p : Addr} {o : HO} (nc : ∀ u, H p = some u → NoCode u) (gp : G p = none) (fp : F p = none) (fr : ∀ (i : Nat) (s : Sl) (d : D), ρ[i]? = some s → s.ownD = some d → σ[i]? ≠ some (some (.ref p))) : Sim K pa F G σ (upd H p o) ρ where
  len := S.len
  ex := fun b u q => by
    rw [upd_ne (fun z => by rw [z, gp] at q; cases q)]; exact S.ex b u q
  fx := fun b u q => by
    rw [upd_ne (fun z => by rw [z, fp] at q; cases q)]; exact S.fx b u q
  dj := S.dj.out nc
  val := S.val
  own := fun i s d h hd => by
    obtain ⟨b, h1, h2, h3⟩ := S.own i s d h hd
    exact ⟨b, h1, h2, h3.mono (Ex.refl G) (upd_ne (fun z => fr i s d h hd (by rw [h1, z]))).symm⟩
  ofr := S.ofr
  par := S.par
  gx := S.gx
  dis := S.dis
/-- slots forgotten, or told otherwise -/
theorem Sim.sub (S : Sim K pa F G σ H ρ) (hl : ρ'.length = ρ.length) (h : ∀ (j : Nat) (s : Sl), ρ'[j]? = some s → s = .no ∨ ρ[j]? = some s ∨ ∃ d v, s = .val d ∧ σ[j]? = some (some v) ∧ Rep K G v d) : Sim K pa F G σ H ρ' := by
  have old : ∀ (j : Nat) (s : Sl) (d : D), ρ'[j]? = some s → s.ownD = some d → ρ[j]? = some s := fun j s d q hd => by
    rcases h j s q with e | e | ⟨d', v, e, _⟩
    · subst e; cases hd
    · exact e
    · subst e; cases hd
  refine ⟨hl.trans S.len, S.ex, S.fx, S.dj, fun i d q => ?_, fun i s d q hd => S.own i s d (old i s d q hd) hd, fun i s d p q hd hp => S.ofr i s d p (old i s d q hd) hd hp, fun i d q => S.par i d (old i _ d q rfl), S.gx, fun i j s t d e p hij h1 h2 h3 h4 h5 h6 => S.dis i j s t d e p hij (old i s d h1 h2) h2 (old j t e h3 h4) h4 h5 h6⟩
  rcases h i _ q with e | e | ⟨d', v, e, hv, r⟩
  · cases e
  · exact S.val i d e
  · cases e; exact ⟨v, hv, r⟩
/-- lists that nobody knows -/
def Wr (F G H : Hp) (σ : RSt) (ρ : Ro) (ps : List Addr) : Prop := ∀ p ∈ ps, (∃ vs, H p = some (.lst vs) ∧ vs.length < sizeLine) ∧ G p = none ∧ F p = none ∧ ∀ (i : Nat) (s : Sl) (d : D), ρ[i]? = some s → s.ownD = some d → σ[i]? ≠ some (some (.ref p))
theorem Wr.move {ps ps' : List Addr} (w : Wr F G H σ ρ ps) (ho : ∀ (i : Nat) (s : Sl) (d : D), ρ'[i]? = some s → s.ownD = some d → ρ[i]? = some s ∧ σ'[i]? = σ[i]?) (hp : ∀ p ∈ ps', p ∈ ps ∧ H' p = H p ∧ G' p = none) : Wr F G' H' σ' ρ' ps' := fun p m => by
  obtain ⟨m1, e, g⟩ := hp p m
  obtain ⟨⟨vs, h1, h2⟩, _, h4, h5⟩ := w p m1
  refine ⟨⟨vs, by rw [e]; exact h1, h2⟩, g, h4, fun i s d hs hd => ?_⟩
  obtain ⟨k1, k2⟩ := ho i s d hs hd
  rw [k2]
  exact h5 i s d k1 hd
theorem Reps.ptrs : ∀ ps : List Addr, Reps K G (ps.map fun p => V.ref p) (ps.map D.ptr)
  | [] => .nil
  | p :: ps => .cons (.ptr p) (Reps.ptrs ps)
end
def oL : Option Nat → List Nat
  | none => []
  | some j => [j]
theorem oL_none : oL none = [] := rfl
theorem oL_some {j : Nat} : oL (some j) = [j] := rfl
def ltO : Option Nat → Ro → Prop
  | none, _ => True
  | some j, ρ => j < ρ.length
theorem ltO_none {ρ : Ro} : ltO none ρ = True := rfl
theorem ltO_some {j : Nat} {ρ : Ro} : ltO (some j) ρ = (j < ρ.length) := rfl
/-- what changes the items behind the asking -/
def STl (K : PySem.W.Frag) (pa : PaG) (tt : TS) (i n : Nat) (jo : Option Nat) : Prop := ∀ (F G : Hp) (σ : RSt) (H : Hp) (ρ : Ro) (D : Ends) (ps : List Addr), Sim K pa F G σ H ρ → ρ[i]? = some (.val (.lst (ps.map DL.D.ptr))) → ps.length = n → ps.Nodup → Wr F G H σ ρ ps → ltO jo ρ →
  (∀ G' σ' H', Ex G G' → Sim K pa F G' σ' H' (wipeD ρ (oL jo)) → D.nx σ' H') → tt D σ H
section
variable {K : PySem.W.Frag} {pa : PaG}
theorem told_at {F G H : Hp} {σ : RSt} {ρ : Ro} {i : Nat} {ps : List Addr} (S : Sim K pa F G σ H ρ) (hi : ρ[i]? = some (.val (.lst (ps.map D.ptr)))) : ∃ a, σ[i]? = some (some (.ref a)) ∧ SqL K G a (ps.map V.ref) := by
  obtain ⟨v, hv, rv⟩ := S.val i _ hi
  cases rv with
  | lst hr rr =>
    have : ∀ {vs : List V} {ps : List Addr}, Reps K G vs (ps.map D.ptr) → vs = ps.map V.ref := by
      intro vs ps
      induction ps generalizing vs with
      | nil => intro r; cases r; rfl
      | cons p ps ih => intro r; cases r with | cons h t => cases h; rw [ih t]; rfl
    rw [this rr] at hr
    exact ⟨_, hv, hr⟩
/-- for some in told: some.append(None) -/
theorem stl_for {i n j : Nat} : STl K pa (tFor (iAny K (tVar i)) (gName j) (tDrop (tBM K "list" rAppend (tVar j) (tCons (tC .non) tNil)))) i n (some j) := fun F G σ H ρ Ee ps S hi hn nd w hj k => by
  obtain ⟨a, hv, hr⟩ := told_at S hi
  have ok := itOk_list (K := K) hr (Reps.ptrs ps)
  have S0 : Sim K pa F G σ H (ρ.set j .no) := S.sub (by simp) fun m s q => by
    by_cases hm : j = m
    · subst hm; rw [List.getElem?_set_self hj] at q; cases q; exact .inl rfl
    · rw [List.getElem?_set_ne hm] at q; exact .inr (.inl q)
  have own0 : ∀ (m : Nat) (s : Sl) (d : D), (ρ.set j .no)[m]? = some s → s.ownD = some d → m ≠ j ∧ ρ[m]? = some s := fun m s d q hd => by
    by_cases hm : j = m
    · subst hm; rw [List.getElem?_set_self hj] at q; cases q; cases hd
    · rw [List.getElem?_set_ne hm] at q; exact ⟨fun z => hm z.symm, q⟩
  have w0 : Wr F G H σ (ρ.set j .no) ps := w.move (fun m s d q hd => ⟨(own0 m s d q hd).2, rfl⟩) fun p m => ⟨m, rfl, (w p m).2.1⟩
  have hl : (ps.map D.ptr).length = ps.length := List.length_map ..
  refine ⟨_, hv, .inl ⟨a, rfl, ⟨_, ex_l S.ex hr⟩, ?_⟩⟩
  refine ⟨fun x m σ' H' => m = ps.length - x ∧ x ≤ ps.length ∧ ∃ G2, Ex G G2 ∧ Sim K pa F G2 σ' H' (ρ.set j .no) ∧ Wr F G2 H' σ' (ρ.set j .no) (ps.drop x), ⟨_, rfl, Nat.zero_le _, G, Ex.refl G, S0, w0⟩, ?_⟩
  rintro x m σ' H' ⟨rfl, hx, G2, e2, S2, w2⟩
  by_cases hlt : x < ps.length
  · refine .inr ⟨ok.go x H' (e2.trans S2.ex) (by rw [hl]; exact hlt), fun σ' H' => ∃ G2, Ex G G2 ∧ Sim K pa F G2 σ' H' (ρ.set j .no) ∧ Wr F G2 H' σ' (ρ.set j .no) (ps.drop (x + 1)), fun σ3 H3 hN => ⟨ps.length - (x + 1), by omega, rfl, hlt, hN⟩, fun y H3 hy => ?_⟩
    obtain ⟨G3, al, r⟩ := ok.yld x H' y H3 hy G2 e2 S2.ex (.ptr ps[x]) (by rw [List.getElem?_map]; simp [hlt])
    cases r
    have S3 := S2.al al
    have hd : ps.drop x = ps[x] :: ps.drop (x + 1) := List.drop_eq_getElem_cons hlt
    have nd2 : (ps[x] :: ps.drop (x + 1)).Nodup := by rw [← hd]; exact nd.sublist (List.drop_sublist _ _)
    have in0 : ps[x] ∈ ps.drop x := by rw [hd]; exact List.mem_cons_self
    obtain ⟨⟨vs, hv1, hv2⟩, gp, fp, fr⟩ := w2 _ in0
    have S4 := S3.store (i := j) (v := .ref ps[x]) (d := .ptr ps[x]) (by unfold isPar; rw [List.getElem?_set_self hj]) (.ptr _)
    have hset : ((ρ.set j .no).set j (.val (.ptr ps[x]))) = ρ.set j (.val (.ptr ps[x])) := List.set_set ..
    have hjσ : j < σ'.length := by rw [← S2.len, List.length_set]; exact hj
    have h3 : H3 ps[x] = some (.lst vs) := al.h _ _ hv1
    have g3 : G3 ps[x] = none := al.n _ gp (by rw [hv1]; simp)
    have own1 : ∀ (m : Nat) (s : Sl) (d : D), ((ρ.set j .no).set j (.val (.ptr ps[x])))[m]? = some s → s.ownD = some d → m ≠ j ∧ (ρ.set j .no)[m]? = some s ∧ (σ'.set j (some (.ref ps[x])))[m]? = σ'[m]? := fun m s d q hd => by
      by_cases hm : j = m
      · subst hm
        rw [List.getElem?_set_self (by rw [List.length_set]; exact hj)] at q; cases q; cases hd
      · rw [List.getElem?_set_ne hm] at q; exact ⟨fun z => hm z.symm, q, List.getElem?_set_ne hm⟩
    have S5 := S4.out (p := ps[x]) (o := .lst (vs ++ [.non])) (fun u q => by rw [h3] at q; cases q; exact noCode_lst) g3 fp fun m s d q hd => by
      obtain ⟨_, k2, k3⟩ := own1 m s d q hd
      rw [k3]
      exact fr m s d k2 hd
    refine ⟨.ref ps[x], List.getElem?_set_self hjσ, .inl ⟨rfl, vs, SqL.of h3⟩, ?_⟩
    refine ⟨ps[x], vs, .non, rfl, rfl, h3, hv2, ?_⟩
    refine ⟨G3, e2.trans al.g, ?_, ?_⟩
    · refine S5.sub (by simp) fun m s q => ?_
      by_cases hm : j = m
      · subst hm; rw [List.getElem?_set_self hj] at q; cases q; exact .inl rfl
      · rw [List.getElem?_set_ne hm] at q
        exact .inr (.inl (by rw [List.getElem?_set_ne hm, List.getElem?_set_ne hm]; exact q))
    · refine w2.move (fun m s d q hd => ?_) fun p hp => ?_
      · obtain ⟨k1, k2⟩ := own0 m s d q hd
        exact ⟨q, List.getElem?_set_ne (fun z => k1 z.symm)⟩
      · have hin : p ∈ ps.drop x := by rw [hd]; exact List.mem_cons_of_mem _ hp
        have hne : p ≠ ps[x] := fun z => (List.nodup_cons.mp nd2).1 (z ▸ hp)
        obtain ⟨⟨ws, q1, _⟩, gq, _⟩ := w2 p hin
        exact ⟨hin, by rw [upd_ne hne, al.h _ _ q1, q1], al.n _ gq (by rw [q1]; simp)⟩
  · have e : x = ps.length := by omega
    subst e
    exact .inl ⟨ok.stop _ H' (e2.trans S2.ex) (by rw [hl]; exact Nat.le_refl _), k G2 σ' H' e2 S2⟩
/-- told[0].append(None); told[1].clear() -/
theorem stl_two {i : Nat} : STl K pa (tSeq (tDrop (tBM K "list" rAppend (tOp (rIx K) (tVar i) (tC (.int 0))) (tCons (tC .non) tNil))) (tDrop (tBM0 K "list" rClear (tOp (rIx K) (tVar i) (tC (.int 1)))))) i 2 none := fun F G σ H ρ Ee ps S hi hn nd w hj k => by
  obtain ⟨a, hv, hr⟩ := told_at S hi
  match ps, hn with
  | [p, q], _ =>
    have hpq : q ≠ p := fun z => by rw [z] at nd; exact (List.nodup_cons.mp nd).1 List.mem_cons_self
    obtain ⟨⟨vs, hv1, hv2⟩, gp, fp, fr⟩ := w p List.mem_cons_self
    obtain ⟨⟨ws, hw1, hw2⟩, gq, fq, frq⟩ := w q (List.mem_cons_of_mem _ List.mem_cons_self)
    have S1 := S.out (o := .lst (vs ++ [.non])) (fun u q => by rw [hv1] at q; cases q; exact noCode_lst) gp fp fr
    have S2 := S1.out (p := q) (o := .lst []) (fun u e => by rw [upd_ne hpq, hw1] at e; cases e; exact noCode_lst) gq fq frq
    have ha1 : SqL K (upd H p (.lst (vs ++ [.non]))) a [.ref p, .ref q] := ex_l S1.ex hr
    have hq1 : upd H p (.lst (vs ++ [.non])) q = some (.lst ws) := by rw [upd_ne hpq]; exact hw1
    refine ⟨_, hv, .inl ⟨a, _, 0, .ref p, rfl, rfl, ex_l S.ex hr, rfl, ?_⟩⟩
    refine ⟨.inl ⟨rfl, vs, SqL.of hv1⟩, p, vs, .non, rfl, rfl, hv1, hv2, ?_⟩
    refine ⟨_, hv, .inl ⟨a, _, 1, .ref q, rfl, rfl, ha1, rfl, ?_⟩⟩
    refine ⟨.inl ⟨rfl, ws, SqL.of hq1⟩, q, ws, rfl, rfl, hq1, ?_⟩
    exact k G σ _ (Ex.refl G) S2
end

/-! ### the frame of the list and of its items -/
def FN (F : Hp) : List (Addr × HO) → Hp
  | [] => F
  | x :: L => FN (upd F x.1 x.2) L
inductive NOk (K : PySem.W.Frag) : Hp → Hp → List (Addr × HO) → List D → Prop
  | nil {F G : Hp} : NOk K F G [] []
  | cons {F G : Hp} {p : Addr} {vs : List V} {es : List D} {L : List (Addr × HO)} {ds : List D} : F p = none → Reps K G vs es → es.length < sizeLine → NOk K (upd F p (.lst vs)) G L ds → NOk K F G ((p, .lst vs) :: L) (.lst es :: ds)
section
variable {K : PySem.W.Frag} {pa : PaG} {F G G' H H' : Hp} {σ σ' : RSt} {ρ ρ' : Ro} {L : List (Addr × HO)} {ds : List D}
theorem NOk.mono (e : Ex G G') (h : NOk K F G L ds) : NOk K F G' L ds := by
  induction h with
  | nil => exact .nil
  | cons h1 h2 h3 _ ih => exact .cons h1 (h2.mono e) h3 (ih e)
theorem NOk.ex (h : NOk K F G L ds) : Ex F (FN F L) := by
  induction h with
  | nil => exact Ex.refl _
  | cons h1 _ _ _ ih => exact (Ex.new h1).trans ih
theorem NOk.at_ (h : NOk K F G L ds) : ∀ x ∈ L, FN F L x.1 = some x.2 ∧ F x.1 = none := by
  induction h with
  | nil => intro x hx; cases hx
  | @cons F G p vs es L ds h1 _ _ hN ih =>
    intro x hx
    rcases List.mem_cons.mp hx with e | hx
    · subst e
      exact ⟨hN.ex _ _ upd_same, h1⟩
    · obtain ⟨k1, k2⟩ := ih x hx
      have hne : x.1 ≠ p := fun z => by rw [z, upd_same] at k2; cases k2
      exact ⟨k1, by rw [upd_ne hne] at k2; exact k2⟩
theorem NOk.nodup (h : NOk K F G L ds) : (L.map fun x => x.1).Nodup := by
  induction h with
  | nil => exact List.nodup_nil
  | @cons F G p vs es L ds h1 _ _ hN ih =>
    refine List.nodup_cons.mpr ⟨fun m => ?_, ih⟩
    obtain ⟨x, hx, e⟩ := List.mem_map.mp m
    have := (hN.at_ x hx).2
    rw [e, upd_same] at this
    cases this
theorem NOk.length (h : NOk K F G L ds) : L.length = ds.length := by
  induction h with
  | nil => rfl
  | cons _ _ _ _ ih => rw [List.length_cons, List.length_cons, ih]
theorem NOk.lists (h : NOk K F G L ds) : ∀ x ∈ L, ∃ vs, x.2 = .lst vs ∧ vs.length < sizeLine := by
  induction h with
  | nil => intro x hx; cases hx
  | cons h1 h2 h3 _ ih =>
    intro x hx
    rcases List.mem_cons.mp hx with e | hx
    · subst e; exact ⟨_, rfl, by rw [h2.length]; exact h3⟩
    · exact ih x hx
theorem NOk.reps (h : NOk K F G L ds) : ∀ {G' : Hp}, Ex G G' → (∀ x ∈ L, G' x.1 = some x.2) → Reps K G' (L.map fun x => V.ref x.1) ds := by
  induction h with
  | nil => intro G' _ _; exact .nil
  | cons h1 h2 h3 _ ih =>
    intro G' e k
    exact .cons (.lst (SqL.of (k _ List.mem_cons_self)) (h2.mono e)) (ih e fun x hx => k x (List.mem_cons_of_mem _ hx))
end
/-- the new lists, one behind the other -/
abbrev DN := Ro → (List D → Ro → Prop) → Prop
def SN (K : PySem.W.Frag) (pa : PaG) (ta : TA) (dn : DN) : Prop := ∀ (F G : Hp) (σ : RSt) (H : Hp) (ρ : Ro) (Q : List V → Hp → Prop) (q : List D → Ro → Prop), Sim K pa F G σ H ρ → dn ρ q →
  (∀ G' H' L ds ρ', Ex G G' → NOk K F G' L ds → Sim K pa (FN F L) G' σ H' ρ' → q ds ρ' → Q (L.map fun x => V.ref x.1) H') → ta σ H Q
def dnNil : DN := fun ρ q => q [] ρ
def dnCons (df : DF) (dn : DN) : DN := fun ρ q => df ρ (fun d ρ1 => match d with
  | .lst es => es.length < sizeLine ∧ dn ρ1 (fun ds ρ2 => q (.lst es :: ds) ρ2)
  | _ => False) (fun _ _ _ => False)
section
variable {K : PySem.W.Frag} {pa : PaG} {W : WX}
theorem sn_nil : SN K pa tNil dnNil := fun F G σ H ρ Q q S h k => k G H [] [] ρ (Ex.refl G) .nil S h
theorem sn_cons {te : TE} {df : DF} {ta : TA} {dn : DN} (h1 : SF K pa (fun _ _ _ _ => False) te df) (h2 : SN K pa ta dn) : SN K pa (tCons te ta) (dnCons df dn) := fun F G σ H ρ Q q S h k =>
  h1 F G σ H ρ _ _ _ S h (fun G1 H1 p d ρ1 e1 S1 gf ow fr hq => by
    cases d with
    | lst es =>
      obtain ⟨vs, hv, rr⟩ := ow
      refine h2 (upd F p (.lst vs)) G1 σ H1 ρ1 _ _ (S1.frameIn gf.1 hv noCode_lst fr) hq.2 fun G2 H2 L ds ρ2 e2 N S2 hq2 => ?_
      exact k G2 H2 ((p, .lst vs) :: L) (.lst es :: ds) ρ2 (e1.trans e2) (.cons gf.2 (rr.mono e2) hq.1 N) S2 hq2
    | _ => exact hq.elim) xl_none
end

/-! ### asked, then changed -/
def Sl.hid : Sl → Sl
  | .val d => .val d
  | _ => .no
theorem hid_val {d : D} : (Sl.val d).hid = .val d := rfl
theorem hid_own {d : D} : (Sl.own d).hid = .no := rfl
theorem hid_par {d : D} : (Sl.par d).hid = .no := rfl
theorem hid_no : Sl.no.hid = .no := rfl
def hidL (ρ : Ro) : Ro := ρ.map Sl.hid
theorem hidL_nil : hidL [] = [] := rfl
theorem hidL_cons {a : Sl} {l : Ro} : hidL (a :: l) = a.hid :: hidL l := rfl
def hideR (ρ : Ro) (i : Nat) (d : D) : Ro := (hidL ρ).set i (.val d)
abbrev DNS := List D → Addr → DS
def SSN (K : PySem.W.Frag) (pa : PaG) (W : WX) (i : Nat) (ts : TS) (dn : DNS) : Prop := ∀ (F G : Hp) (σ : RSt) (H : Hp) (ρ : Ro) (D : Ends) (DD : Do) (p : Addr) (L : List (Addr × HO)) (es : List DL.D), NOk K F G L es → FN F L p = none →
  Sim K pa (upd (FN F L) p (.lst (L.map fun x => V.ref x.1))) G σ H ρ → ρ[i]? = some (.val (.ptr p)) → dn es p DD ρ → Lk K pa F W G D DD → ts D σ H
def dnSeq (i : Nat) (ds : DS) (dn : DNS) : DNS := fun es p DD ρ => ds { nx := fun ρ1 => ρ1[i]? = some (.val (.ptr p)) ∧ dn es p DD ρ1, rt := fun _ _ => False } ρ
def dnT (i n : Nat) (jo : Option Nat) (dt : DT) : DNS := fun es _ DD ρ => es.length = n ∧ dt (hideR ρ i (.lst es)) (fun b _ => if b = true then DD.rt (.val (.bl false)) ρ else ltO jo ρ ∧ DD.nx (wipeD ρ (i :: oL jo))) (fun _ _ _ => False)
def dNest (i : Nat) (dn : DN) (s : DNS) : DS := fun DD ρ => dn ρ (fun es ρ1 => (isPar ρ1 i = false ∧ i < ρ1.length ∧ es.length ≤ sizeLine) ∧ ∀ p, s es p DD (ρ1.set i (.val (.ptr p))))
section
variable {K : PySem.W.Frag} {pa : PaG} {W : WX} {i n : Nat} {jo : Option Nat}
theorem ssn_seq {ts us : TS} {ds : DS} {dn : DNS} (h1 : SS K pa (fun _ _ _ _ => False) ts ds) (h2 : SSN K pa W i us dn) : SSN K pa W i (tSeq ts us) (dnSeq i ds dn) := fun F G σ H ρ D DD p L es N hp S hi h l =>
  h1 _ G σ H ρ { D with nx := us D } _ S h ⟨fun G' σ' H' ρ' e S' h' => h2 F G' σ' H' ρ' D DD p L es (N.mono e) hp S' h'.1 h'.2 (l.grow e), fun _ _ _ _ _ _ h => h.elim, fun _ _ _ _ _ _ h => h.elim, fun _ _ _ _ _ _ _ _ _ h => h.elim, fun _ _ _ _ _ _ _ _ _ _ _ h => h.elim, fun _ _ _ _ _ _ _ _ _ _ h => h.elim⟩
theorem hideR_get {ρ : Ro} {d : D} {k : Nat} {s : Sl} (hi : i < ρ.length) (h : (hideR ρ i d)[k]? = some s) : (k = i ∧ s = .val d) ∨ ∃ s0, ρ[k]? = some s0 ∧ s = s0.hid := by
  unfold hideR hidL at h
  by_cases hk : i = k
  · subst hk
    rw [List.getElem?_set_self (by rw [List.length_map]; exact hi)] at h
    cases h
    exact .inl ⟨rfl, rfl⟩
  · rw [List.getElem?_set_ne hk, List.getElem?_map] at h
    cases q : ρ[k]? with
    | none => rw [q] at h; cases h
    | some s0 => rw [q] at h; cases h; exact .inr ⟨s0, rfl, rfl⟩
theorem hid_noOwn {s : Sl} : s.hid.ownD = none := by cases s <;> rfl
theorem ssn_test {tt : TT} {dt : DT} {tl : TS} (ht : ST K pa (fun _ _ _ _ => False) tt dt) (hl : STl K pa tl i n jo) : SSN K pa W i (tSeq (tIfS tt (tRet (tC (.bl false))) tNext) tl) (dnT i n jo dt) := fun F G σ H ρ D DD p L es N hp S hi h l => by
  obtain ⟨hn, h⟩ := h
  have hF : ∀ b o, FN F L b = some o → b ≠ p := fun b o q z => by rw [z, hp] at q; cases q
  have hFp : F p = none := fresh_back N.ex hp
  generalize hF2 : upd (FN F L) p (.lst (L.map fun x => V.ref x.1)) = F2 at S
  have f2p : F2 p = some (.lst (L.map fun x => V.ref x.1)) := by rw [← hF2]; exact upd_same
  have f2L : ∀ x ∈ L, F2 x.1 = some x.2 ∧ F x.1 = none ∧ x.1 ≠ p := fun x hx => by
    obtain ⟨k1, k2⟩ := N.at_ x hx
    have hne := hF _ _ k1
    exact ⟨by rw [← hF2, upd_ne hne]; exact k1, k2, hne⟩
  have exF : Ex F F2 := fun b o q => by
    have q1 := N.ex b o q
    rw [← hF2, upd_ne (hF _ _ q1)]; exact q1
  -- the asking: the nest known, the owned ones in the frame
  let Gp : Hp := fun b => match F b, F2 b with | none, some o => some o | _, _ => G b
  let Fh : Hp := fun b => match F b, F2 b with | none, some _ => none | _, _ => calF F2 H σ ρ [] b
  have gpN : ∀ b o, F b = none → F2 b = some o → Gp b = some o := fun b o h1 h2 => by simp only [Gp, h1, h2]
  have gpO : ∀ b, (F b ≠ none ∨ F2 b = none) → Gp b = G b := fun b h1 => by
    simp only [Gp]
    rcases h1 with h1 | h1
    · cases q : F b with
      | none => exact absurd q h1
      | some o => rfl
    · rw [h1]; cases F b <;> rfl
  have fhN : ∀ b o, F b = none → F2 b = some o → Fh b = none := fun b o h1 h2 => by simp only [Fh, h1, h2]
  have fhO : ∀ b, (F b ≠ none ∨ F2 b = none) → Fh b = calF F2 H σ ρ [] b := fun b h1 => by
    simp only [Fh]
    rcases h1 with h1 | h1
    · cases q : F b with
      | none => exact absurd q h1
      | some o => rfl
    · rw [h1]; cases F b <;> rfl
  have spl : ∀ b, (∃ o, F b = none ∧ F2 b = some o) ∨ (F b ≠ none ∨ F2 b = none) := fun b => by
    cases q : F b with
    | some o => exact .inr (.inl (by simp))
    | none =>
      cases q2 : F2 b with
      | none => exact .inr (.inr rfl)
      | some o => exact .inl ⟨o, rfl, rfl⟩
  have eG : Ex G Gp := fun b o q => by
    rcases spl b with ⟨o', h1, h2⟩ | h1
    · rw [S.dj b o' h2] at q; cases q
    · rw [gpO b h1]; exact q
  have eH : Ex Gp H := fun b o q => by
    rcases spl b with ⟨o', h1, h2⟩ | h1
    · rw [gpN b o' h1 h2] at q; cases q; exact S.fx b _ h2
    · rw [gpO b h1] at q; exact S.ex b o q
  have eFh : Ex Fh H := fun b o q => by
    rcases spl b with ⟨o', h1, h2⟩ | h1
    · rw [fhN b o' h1 h2] at q; cases q
    · rw [fhO b h1] at q; exact calF_ex S [] b o q
  have dj0 : ∀ b o, Fh b = some o → Gp b = none := fun b o q => by
    rcases spl b with ⟨o', h1, h2⟩ | h1
    · rw [fhN b o' h1 h2] at q; cases q
    · rw [fhO b h1] at q; rw [gpO b h1]; exact calF_dj S [] b o q
  have dj : DjT pa.T Fh Gp H := ⟨dj0, fun q hq => ⟨by rw [fhO _ (.inr (S.dj.ft q hq).1)]; exact ((calF_dj S []).ft q hq).1, by rw [gpO _ (.inr (S.dj.ft q hq).1)]; exact (S.dj.ft q hq).2⟩, S.dj.tb, fun ht b c q z => by
    rcases spl b with ⟨o', h1, h2⟩ | h1
    · rw [fhN b o' h1 h2] at z; cases z
    · rw [fhO b h1] at z; exact (calF_dj S []).nc ht b c q z⟩
  have hil : i < ρ.length := (List.getElem?_eq_some_iff.mp hi).1
  have hσ : σ[i]? = some (some (.ref p)) := by
    obtain ⟨v, h1, h2⟩ := S.val i _ hi
    cases h2
    exact h1
  have rN : Rep K Gp (.ref p) (.lst es) := .lst (SqL.of (gpN p _ hFp f2p)) (N.reps eG fun x hx => gpN _ _ (f2L x hx).2.1 (f2L x hx).1)
  have noOwn : ∀ (k : Nat) (s : Sl) (d : DL.D), (hideR ρ i (.lst es))[k]? = some s → s.ownD = some d → False := fun k s d q hd => by
    rcases hideR_get hil q with ⟨_, e⟩ | ⟨s0, _, e⟩
    · subst e; cases hd
    · subst e; rw [hid_noOwn] at hd; cases hd
  have S1 : Sim K pa Fh Gp σ H (hideR ρ i (.lst es)) := by
    refine ⟨by unfold hideR hidL; rw [List.length_set, List.length_map]; exact S.len, eH, eFh, dj, fun k d q => ?_, fun k s d q hd => (noOwn k s d q hd).elim, fun k s d b q hd _ => (noOwn k s d q hd).elim, fun k d q => (noOwn k (.par d) d q rfl).elim, S.gx.trans eG, fun k m s t d e b _ h1 h2 _ _ _ _ => (noOwn k s d h1 h2).elim⟩
    rcases hideR_get hil q with ⟨e1, e⟩ | ⟨s0, q0, e⟩
    · rw [e1]; cases e; exact ⟨_, hσ, rN⟩
    · cases s0 with
      | val d' =>
        cases e
        obtain ⟨v, k1, k2⟩ := S.val k d q0
        exact ⟨v, k1, k2.mono eG⟩
      | _ => cases e
  refine ht Fh Gp σ H _ _ _ _ S1 h (fun G4 H4 b ρ4 e4 S4 hb => ?_) xl_none
  -- back
  have fx4 : Ex (calF F2 H σ ρ []) H4 := fun c o q => by
    rcases spl c with ⟨o', h1, h2⟩ | h1
    · have q2 := calF_ex S [] c o q
      have q3 := S.fx c o' h2
      rw [q2] at q3
      cases q3
      exact S4.ex c _ (e4 c _ (gpN c _ h1 h2))
    · exact S4.fx c o (by rw [fhO c h1]; exact q)
  have S5 : Sim K pa F2 G σ H4 ρ := by
    have := S.behind (is := []) (os := []) (Ex.refl G) ((eG.trans e4).trans S4.ex) fx4 ((calF_dj S []).at_ S4.dj.tb) .nil
    unfold putOuts at this
    exact this
  have S6 := S5.frame exF
  cases b with
  | true =>
    have hb : DD.rt (.val (.bl false)) ρ := hb
    exact l.rt G σ H4 ρ (.bl false) (.val (.bl false)) (Ex.refl G) S6 (.bl false) hb
  | false =>
    have hb : ltO jo ρ ∧ DD.nx (wipeD ρ (i :: oL jo)) := hb
    show tl D σ H4
    have gp0 : G p = none := S.dj p _ f2p
    have h4p : H4 p = some (.lst (L.map fun x => V.ref x.1)) := S5.fx p _ f2p
    have e7 : Ex G (upd G p (.lst (L.map fun x => V.ref x.1))) := Ex.new gp0
    have S7 : Sim K pa F (upd G p (.lst (L.map fun x => V.ref x.1))) σ H4 ρ := S6.grow e7 (fun c o q => by
        by_cases hc : c = p
        · subst hc; rw [upd_same] at q; cases q; exact h4p
        · rw [upd_ne hc] at q; exact S6.ex c o q) S6.fx (S6.dj.gadd hFp (S6.dj.ne h4p noCode_lst)) fun k s d b q hd hb' => by
        have hne : b ≠ p := fun z => by
          have := S5.ofr k s d b q hd hb'
          rw [z, f2p] at this
          cases this
        obtain ⟨b', k1, k2, _⟩ := S6.own k s d q hd
        rw [hb'] at k1
        cases k1
        exact ⟨by rw [upd_ne hne]; exact k2, rfl⟩
    have ptrs : (L.map fun x => V.ref x.1) = ((L.map fun x => x.1).map V.ref) := by rw [List.map_map]; rfl
    have rP : Rep K (upd G p (.lst (L.map fun x => V.ref x.1))) (.ref p) (.lst ((L.map fun x => x.1).map DL.D.ptr)) := .lst (SqL.of upd_same) (by rw [ptrs]; exact Reps.ptrs _)
    have S8 : Sim K pa F (upd G p (.lst (L.map fun x => V.ref x.1))) σ H4 (ρ.set i (.val (.lst ((L.map fun x => x.1).map DL.D.ptr)))) := S7.sub (by simp) fun k s q => by
      by_cases hk : i = k
      · subst hk; rw [List.getElem?_set_self hil] at q; cases q; exact .inr (.inr ⟨_, _, rfl, hσ, rP⟩)
      · rw [List.getElem?_set_ne hk] at q; exact .inr (.inl q)
    refine hl F _ σ H4 _ D (L.map fun x => x.1) S8 (List.getElem?_set_self hil) (by rw [List.length_map, N.length]; exact hn) N.nodup ?_ ?_ fun G' σ' H' e' S' => ?_
    · intro b hm
      obtain ⟨x, hx, rfl⟩ := List.mem_map.mp hm
      obtain ⟨k1, k2, k3⟩ := f2L x hx
      obtain ⟨vs, v1, v2⟩ := N.lists x hx
      refine ⟨⟨vs, by rw [S5.fx _ _ k1, v1], v2⟩, by rw [upd_ne k3]; exact S.dj _ _ k1, k2, fun k s d q hd hb' => ?_⟩
      by_cases hk : i = k
      · subst hk; rw [List.getElem?_set_self hil] at q; cases q; cases hd
      · rw [List.getElem?_set_ne hk] at q
        have := S5.ofr k s d _ q hd hb'
        rw [k1] at this
        cases this
    · cases jo with
      | none => trivial
      | some j => show j < (ρ.set i _).length; rw [List.length_set]; exact hb.1
    · refine l.nx G' σ' H' (wipeD ρ (i :: oL jo)) (e7.trans e') (S'.sub (by rw [wipeD_length, wipeD_length, List.length_set]) fun k s q => ?_) hb.2
      rw [wipeD_get] at q
      by_cases hk : k ∈ i :: oL jo
      · rw [if_pos hk] at q
        by_cases hlt : k < ρ.length
        · rw [if_pos hlt] at q; cases q; exact .inl rfl
        · rw [if_neg hlt] at q; cases q
      · rw [if_neg hk] at q
        refine .inr (.inl ?_)
        rw [wipeD_get, if_neg (fun z => hk (List.mem_cons_of_mem _ z)), List.getElem?_set_ne (fun z => hk (by rw [← z]; exact List.mem_cons_self))]
        exact q
theorem ss_nest {ta : TA} {dn : DN} {ts : TS} {s : DNS} (hs : SN K pa ta dn) (hn : SSN K pa W i ts s) : SS K pa W (tSeq (tAsg (tLst ta) (gName i)) ts) (dNest i dn s) := fun F G σ H ρ D DD S h l =>
  hs F G σ H ρ _ _ S h fun G1 H1 L es ρ1 e1 N S1 h1 => by
    refine ⟨by rw [List.length_map, N.length]; exact h1.1.2.2, fun p hp => ?_⟩
    have hpF : FN F L p = none := fresh_back S1.fx hp
    have S2 := ((S1.new (p := p) (o := .lst (L.map fun x => V.ref x.1)) hp).frameIn (fresh_back S1.ex hp) upd_same noCode_lst (fresh_no S1 hp)).store (i := i) (v := .ref p) (d := .ptr p) h1.1.1 (.ptr p)
    exact hn F G1 _ _ _ D DD p L es N hpF S2 (List.getElem?_set_self h1.1.2.1) (h1.2 p) (l.grow e1)
end
def AllP (f : Addr → Prop) (_ : Ph f := ()) : Prop := ∀ p, f p
theorem w_nest {i : Nat} {dn : DN} {s : DNS} {DD : Do} {ρ : Ro} : dNest i dn s DD ρ = dn ρ (fun es ρ1 => (isPar ρ1 i = false ∧ i < ρ1.length ∧ es.length ≤ sizeLine) ∧ AllP fun p => s es p DD (ρ1.set i (.val (.ptr p)))) := rfl
theorem w_dnSeq {i : Nat} {ds : DS} {dn : DNS} {es : List D} {p : Addr} {DD : Do} {ρ : Ro} : dnSeq i ds dn es p DD ρ = ds ⟨fun ρ1 => ρ1[i]? = some (.val (.ptr p)) ∧ dn es p DD ρ1, fun _ _ => False, fun _ _ => False, fun _ => False, fun _ => False, fun _ _ _ => False⟩ ρ := rfl
theorem w_dnT {i n : Nat} {jo : Option Nat} {dt : DT} {es : List D} {p : Addr} {nx : Ro → Prop} {rt : T → Ro → Prop} {rf : D → Ro → Prop} {bk ct : Ro → Prop} {er : ER} {ρ : Ro} : dnT i n jo dt es p ⟨nx, rt, rf, bk, ct, er⟩ ρ = (es.length = n ∧ dt (hideR ρ i (.lst es)) (fun b _ => if b = true then rt (.val (.bl false)) ρ else ltO jo ρ ∧ nx (wipeD ρ (i :: oL jo))) (fun _ _ _ => False)) := rfl
def dnFrz (k : Nat) (dn : DNS) : DNS := fun es p => dFrz k (dn es p)
theorem w_dnFrz {k : Nat} {dn : DNS} {es : List D} {p : Addr} {DD : Do} {ρ : Ro} : dnFrz k dn es p DD ρ = dFrz k (dn es p) DD ρ := rfl
section
variable {K : PySem.W.Frag} {pa : PaG} {W : WX} {i k : Nat}
theorem ssn_frz {ts : TS} {dn : DNS} (h : SSN K pa W i ts dn) : SSN K pa W i ts (dnFrz k dn) := fun F G σ H ρ D DD p L es N hp S hi hd l => by
  have hd : dFrz k (dn es p) DD ρ := hd
  unfold dFrz at hd
  cases q : ρ[k]? with
  | none => rw [q] at hd; exact hd.elim
  | some s =>
    rw [q] at hd
    cases s with
    | own d =>
      obtain ⟨G', e, S'⟩ := S.frz q
      have hk : k ≠ i := fun z => by rw [z, hi] at q; cases q
      exact h F G' σ H (ρ.set k (.val d)) D DD p L es (N.mono e) hp S' (by rw [List.getElem?_set_ne hk]; exact hi) hd (l.grow e)
    | _ => exact hd.elim
end
end DL
set_option autoImplicit false
set_option Elab.async false
set_option linter.all false
set_option maxRecDepth 100000
namespace DL
open PySem L2 Evl
/-! ### data without lists -/
mutual
def D.noL : D → Bool
  | .lst _ => false
  | .tup xs => D.noLs xs
  | .dct es => D.noLk es
  | .ins _ fs => D.noLf fs
  | .exc _ fs => D.noLf fs
  | _ => true
def D.noLs : List D → Bool
  | [] => true
  | x :: xs => D.noL x && D.noLs xs
def D.noLk : List (Key × D) → Bool
  | [] => true
  | (_, x) :: xs => D.noL x && D.noLk xs
def D.noLf : List (Str × D) → Bool
  | [] => true
  | (_, x) :: xs => D.noL x && D.noLf xs
end
section
variable {K : PySem.W.Frag} {G G1 : Hp}
mutual
theorem Rep.noL (h : ∀ b, (∀ xs, G b ≠ some (.lst xs)) → G1 b = G b) : ∀ {v : V} {d : D}, Rep K G v d → d.noL = true → Rep K G1 v d
  | _, _, .non, _ => .non
  | _, _, .bl b, _ => .bl b
  | _, _, .int i, _ => .int i
  | _, _, .str i, _ => .str i
  | _, _, .byt i, _ => .byt i
  | _, _, .ty i, _ => .ty i
  | _, _, .ptr i, _ => .ptr i
  | _, _, .lst _ _, e => by cases e
  | _, _, .tup (a := a) (vs := vs) q r, e => .tup (q.elim (fun z => .inl (z.elim (fun z => .inl (by
      rw [h a (fun xs w => by rw [z] at w; cases w)]; exact z)) (fun ⟨o, z⟩ => .inr ⟨o, by
      rw [h a (fun xs w => by rw [z] at w; cases w)]; exact z⟩))) .inr) (Reps.noL h r e)
  | _, _, .dct q r, e => .dct (by rw [h _ (fun xs w => by rw [q] at w; cases w)]; exact q) (RepK.noL h r e)
  | _, _, .ins q r, e => .ins (by rw [h _ (fun xs w => by rw [q] at w; cases w)]; exact q) (RepF.noL h r e)
  | _, _, .exc q k r, e => .exc (by rw [h _ (fun xs w => by rw [q] at w; cases w)]; exact q) (by rw [h _ (fun xs w => by rw [k] at w; cases w)]; exact k) (RepF.noL h r e)
  | _, _, .exc0 q, _ => .exc0 (by rw [h _ (fun xs w => by rw [q] at w; cases w)]; exact q)
theorem Reps.noL (h : ∀ b, (∀ xs, G b ≠ some (.lst xs)) → G1 b = G b) : ∀ {v : List V} {d : List D}, Reps K G v d → D.noLs d = true → Reps K G1 v d
  | _, _, .nil, _ => .nil
  | _, _, .cons r t, e => by
    have e := (Bool.and_eq_true ..).mp (show (D.noL _ && D.noLs _) = true from e)
    exact .cons (Rep.noL h r e.1) (Reps.noL h t e.2)
theorem RepK.noL (h : ∀ b, (∀ xs, G b ≠ some (.lst xs)) → G1 b = G b) : ∀ {v : List (Key × V)} {d : List (Key × D)}, RepK K G v d → D.noLk d = true → RepK K G1 v d
  | _, _, .nil, _ => .nil
  | _, _, .cons r t, e => by
    have e := (Bool.and_eq_true ..).mp (show (D.noL _ && D.noLk _) = true from e)
    exact .cons (Rep.noL h r e.1) (RepK.noL h t e.2)
theorem RepF.noL (h : ∀ b, (∀ xs, G b ≠ some (.lst xs)) → G1 b = G b) : ∀ {v : List (Str × V)} {d : List (Str × D)}, RepF K G v d → D.noLf d = true → RepF K G1 v d
  | _, _, .nil, _ => .nil
  | _, _, .cons r t, e => by
    have e := (Bool.and_eq_true ..).mp (show (D.noL _ && D.noLf _) = true from e)
    exact .cons (Rep.noL h r e.1) (RepF.noL h t e.2)
end
end
/-! ### [new list for x in xs] -/
section
variable {K : PySem.W.Frag} {pa : PaG} {F G G' H H' : Hp} {σ σ' : RSt} {ρ ρ' : Ro} {L : List (Addr × HO)} {ds : List D}
theorem FN_snoc (F : Hp) (p : Addr) (o : HO) : ∀ L : List (Addr × HO), FN F (L ++ [(p, o)]) = upd (FN F L) p o := by
  intro L
  induction L generalizing F with
  | nil => rfl
  | cons x L ih => exact ih (upd F x.1 x.2)
theorem NOk.snoc {p : Addr} {vs : List V} {es : List D} (h : NOk K F G L ds) (hp : FN F L p = none) (r : Reps K G vs es) (hl : es.length < sizeLine) : NOk K F G (L ++ [(p, .lst vs)]) (ds ++ [.lst es]) := by
  induction h with
  | nil => exact .cons hp r hl .nil
  | cons h1 h2 h3 _ ih => exact .cons h1 h2 h3 (ih hp r)
end
def SNL (K : PySem.W.Frag) (pa : PaG) (te : TE) (dn : DN) : Prop := ∀ (F G : Hp) (σ : RSt) (H : Hp) (ρ : Ro) (Q : VK) (q : List D → Ro → Prop), Sim K pa F G σ H ρ → dn ρ q →
  (∀ G' H' L es ρ' p, Ex G G' → NOk K F G' L es → FN F L p = none → Sim K pa (upd (FN F L) p (.lst (L.map fun x => V.ref x.1))) G' σ H' ρ' → q es ρ' → Q (.ref p) H') → te σ H Q
def lcN (g : DG) (df : DF) (vs : List Nat) (q : List D → Ro → Prop) : List D → List D → Ro → Prop
  | [], acc, ρ => q acc ρ
  | d :: ds, acc, ρ => g (.val d) (wipeD ρ vs) fun ρ1 => df ρ1 (fun e ρ2 => match e with
    | .lst es => (es.length < sizeLine ∧ acc.length < sizeLine) ∧ lcN g df vs q ds (acc ++ [.lst es]) (wipeD ρ2 vs)
    | _ => False) (fun _ _ _ => False)
def dnLc (di : DI) (g : DG) (df : DF) (vs : List Nat) : DN := fun ρ q => di ρ (fun ds ρ1 => lcN g df vs q ds [] ρ1) (fun _ _ _ => False)
section
variable {K : PySem.W.Frag} {pa : PaG} {W : WX}
theorem if_yes {A B : Prop} (h : A) : if true = true then A else B := by rw [if_pos rfl]; exact h
theorem sn_lc {wi : TI} {di : DI} {g : TG} {dg : DG} {te : TE} {df : DF} {vs ns : List Nat} (hn : ∀ i ∈ ns, i ∈ vs) (hi : SI K pa (fun _ _ _ _ => False) wi di) (hg : SG K pa ns g dg) (he : SF K pa (fun _ _ _ _ => False) te df) : SNL K pa (tLc wi g tYes te vs) (dnLc di dg df vs) := fun F G σ H ρ Q q S h k =>
  hi F G σ H ρ _ _ _ S h (fun G1 H1 J ds ρ1 e1 S1 ok h1 => by
    intro D hD
    have fF : F D = none := fresh_back S1.fx hD
    have S1' : Sim K pa F G1 σ (upd H1 D (.lst [])) ρ1 := S1.new hD
    refine ⟨fun i m H' => m = ds.length - i ∧ i ≤ ds.length ∧ ∃ G2 ρ2 acc L, Ex G1 G2 ∧ NOk K F G2 L acc ∧ Sim K pa (FN F L) G2 σ H' ρ2 ∧ G2 D = none ∧ FN F L D = none ∧ H' D = some (.lst (L.map fun x => V.ref x.1)) ∧ (∀ (i : Nat) (s : Sl) (d : DL.D), ρ2[i]? = some s → s.ownD = some d → σ[i]? ≠ some (some (.ref D))) ∧ lcN dg df vs q (ds.drop i) acc ρ2,
      ⟨_, rfl, Nat.zero_le _, G1, ρ1, [], [], Ex.refl G1, .nil, S1', fresh_back S1.ex hD, fF, upd_same, fresh_no S1 hD, h1⟩, ?_⟩
    rintro i m H' ⟨rfl, hi, G2, ρ2, acc, L, e2, N, S2, gD, fD, hHD, fr, h2⟩
    by_cases hlt : i < ds.length
    · rw [List.drop_eq_getElem_cons hlt] at h2
      refine .inr ⟨ok.go i H' (e2.trans S2.ex) hlt, fun H' => ∃ G2 ρ2 acc L, Ex G1 G2 ∧ NOk K F G2 L acc ∧ Sim K pa (FN F L) G2 σ H' ρ2 ∧ G2 D = none ∧ FN F L D = none ∧ H' D = some (.lst (L.map fun x => V.ref x.1)) ∧ (∀ (i : Nat) (s : Sl) (d : DL.D), ρ2[i]? = some s → s.ownD = some d → σ[i]? ≠ some (some (.ref D))) ∧ lcN dg df vs q (ds.drop (i + 1)) acc ρ2,
        fun H3 hN => ⟨ds.length - (i + 1), by omega, rfl, hlt, hN⟩, fun x H3 hy => ?_⟩
      obtain ⟨G3, a, r⟩ := ok.yld i H' x H3 hy G2 e2 S2.ex ds[i] (by simp [hlt])
      have hD3 : H3 D = some (.lst (L.map fun x => V.ref x.1)) := a.h D _ hHD
      have S3 : Sim K pa (upd (FN F L) D (.lst (L.map fun x => V.ref x.1))) G3 (wipe σ vs) H3 (wipeD ρ2 vs) := ((S2.al a).frameIn (a.n D gD (by rw [hHD]; simp)) hD3 noCode_lst fr).wipeTo wipe_wipe.symm
      refine hg _ G3 _ H3 _ x (.val ds[i]) _ _ S3 r h2 fun G4 σ4 H4 ρ4 e4 S4 w4 h4 => ?_
      have ws : wipe σ4 vs = wipe σ vs := by rw [w4 vs hn, wipe_wipe]
      refine ⟨ws, ?_⟩
      unfold tYes
      dsimp only
      rw [if_pos rfl]
      refine he _ G4 σ4 H4 ρ4 _ _ _ S4 h4 (fun G6 H6 p e ρ6 e6 S6 gf ow fr6 h6 => ?_) xl_none
      cases e with
      | lst es =>
        obtain ⟨⟨hl1, hl2⟩, h7⟩ := h6
        obtain ⟨vs', hv, rr⟩ := ow
        have hpD : p ≠ D := fun z => by have := gf.2; rw [z, upd_same] at this; cases this
        have fp : FN F L p = none := by have := gf.2; rw [upd_ne hpD] at this; exact this
        have S7 := (S6.frameIn gf.1 hv noCode_lst fr6).wipeTo (σ' := σ) ws
        have b1 : H6 D = some (.lst (L.map fun x => V.ref x.1)) := S6.fx D _ upd_same
        have b2 : G6 D = none := S6.dj D _ upd_same
        have b4 : ∀ (i : Nat) (s : Sl) (d : DL.D), (wipeD ρ6 vs)[i]? = some s → s.ownD = some d → σ[i]? ≠ some (some (.ref D)) := fun i s d h1 h2 h3 => by
          have := S7.ofr i s d D h1 h2 h3
          rw [upd_ne (fun z => hpD z.symm), upd_same] at this
          cases this
        have S8 : Sim K pa (upd (FN F L) p (.lst vs')) G6 σ H6 (wipeD ρ6 vs) := S7.frame fun b u q => by
          by_cases hb : b = p
          · subst hb; rw [upd_same] at q ⊢; exact q
          · rw [upd_ne hb] at q ⊢
            rw [upd_ne (fun z => by rw [z, fD] at q; cases q)]; exact q
        have fD2 : upd (FN F L) p (.lst vs') D = none := by rw [upd_ne (fun z => hpD z.symm)]; exact fD
        have S9 := S8.out (o := .lst ((L.map fun x => V.ref x.1) ++ [.ref p])) (fun u q => by rw [b1] at q; cases q; exact noCode_lst) b2 fD2 b4
        have eL : (L ++ [(p, HO.lst vs')]).map (fun x => V.ref x.1) = (L.map fun x => V.ref x.1) ++ [.ref p] := by rw [List.map_append]; rfl
        refine ⟨L.map fun x => V.ref x.1, b1, by rw [List.length_map, N.length]; exact hl2, G6, _, acc ++ [.lst es], L ++ [(p, .lst vs')], ((e2.trans a.g).trans e4).trans e6, (N.mono ((a.g.trans e4).trans e6)).snoc fp rr hl1, ?_, b2, by rw [FN_snoc]; exact fD2, by rw [upd_same, eL], b4, h7⟩
        rw [FN_snoc]
        exact S9
      | _ => exact h6.elim
    · have e : i = ds.length := by omega
      subst e
      rw [List.drop_length] at h2
      exact .inl ⟨ok.stop _ H' (e2.trans S2.ex) (Nat.le_refl _), k G2 H' L acc ρ2 D (e1.trans e2) N fD (S2.frameIn gD hHD noCode_lst fr) h2⟩) xl_none
def dNestL (i : Nat) (dn : DN) (s : DNS) : DS := fun DD ρ => dn ρ (fun es ρ1 => (isPar ρ1 i = false ∧ i < ρ1.length) ∧ ∀ p, s es p DD (ρ1.set i (.val (.ptr p))))
theorem ss_nestL {te : TE} {dn : DN} {ts : TS} {s : DNS} {i : Nat} (hs : SNL K pa te dn) (hn : SSN K pa W i ts s) : SS K pa W (tSeq (tAsg te (gName i)) ts) (dNestL i dn s) := fun F G σ H ρ D DD S h l =>
  hs F G σ H ρ _ _ S h fun G1 H1 L es ρ1 p e1 N hp S1 h1 => by
    have S2 := S1.store (i := i) (v := .ref p) (d := .ptr p) h1.1.1 (.ptr p)
    exact hn F G1 _ _ _ D DD p L es N hp S2 (List.getElem?_set_self h1.1.2) (h1.2 p) (l.grow e1)

/-! ### asked for data without lists -/
theorem NOk.isL {F G : Hp} {L : List (Addr × HO)} {es : List D} {b : Addr} {o : HO} (N : NOk K F G L es) : F b = none → FN F L b = some o → ∃ xs, o = .lst xs := by
  induction N with
  | nil => intro a b; rw [FN] at b; rw [a] at b; cases b
  | @cons F G q vs es L ds h1 _ _ hN ih =>
    intro hb1 hb2
    by_cases e : b = q
    · subst e
      have := hN.ex b (.lst vs) upd_same
      rw [show FN F ((b, HO.lst vs) :: L) = FN (upd F b (.lst vs)) L from rfl, this] at hb2
      cases hb2
      exact ⟨vs, rfl⟩
    · exact ih (by rw [upd_ne e]; exact hb1) hb2
theorem ask_in {F G : Hp} {σ : RSt} {H : Hp} {ρ : Ro} {i : Nat} {p : Addr} {L : List (Addr × HO)} {es : List D} (N : NOk K F G L es) (hp : FN F L p = none)
    (S : Sim K pa (upd (FN F L) p (.lst (L.map fun x => V.ref x.1))) G σ H ρ) (hi : ρ[i]? = some (.val (.ptr p))) :
    ∃ Fh Gp, Ex G Gp ∧ Sim K pa Fh Gp σ H (hideR ρ i (.lst es)) ∧ ∀ G4 H4 ρ4, Ex Gp G4 → Sim K pa Fh G4 σ H4 ρ4 → ∃ G5, Ex G G5 ∧ Sim K pa (upd (FN F L) p (.lst (L.map fun x => V.ref x.1))) G5 σ H4 ρ ∧ ∀ v d, Rep K G4 v d → d.noL = true → Rep K G5 v d := by
  have hF : ∀ b o, FN F L b = some o → b ≠ p := fun b o q z => by rw [z, hp] at q; cases q
  have hFp : F p = none := fresh_back N.ex hp
  generalize hF2 : upd (FN F L) p (.lst (L.map fun x => V.ref x.1)) = F2 at S ⊢
  have f2p : F2 p = some (.lst (L.map fun x => V.ref x.1)) := by rw [← hF2]; exact upd_same
  have f2L : ∀ x ∈ L, F2 x.1 = some x.2 ∧ F x.1 = none ∧ x.1 ≠ p := fun x hx => by
    obtain ⟨k1, k2⟩ := N.at_ x hx
    have hne := hF _ _ k1
    exact ⟨by rw [← hF2, upd_ne hne]; exact k1, k2, hne⟩
  -- what lies in the nest is a list
  have isL : ∀ b o, F b = none → F2 b = some o → ∃ xs, o = .lst xs := fun b o h1 h2 => by
    by_cases hb : b = p
    · subst hb; rw [f2p] at h2; cases h2; exact ⟨_, rfl⟩
    · rw [← hF2, upd_ne hb] at h2
      exact N.isL h1 h2
  let Gp : Hp := fun b => match F b, F2 b with | none, some o => some o | _, _ => G b
  let Fh : Hp := fun b => match F b, F2 b with | none, some _ => none | _, _ => calF F2 H σ ρ [] b
  have gpN : ∀ b o, F b = none → F2 b = some o → Gp b = some o := fun b o h1 h2 => by simp only [Gp, h1, h2]
  have gpO : ∀ b, (F b ≠ none ∨ F2 b = none) → Gp b = G b := fun b h1 => by
    simp only [Gp]
    rcases h1 with h1 | h1
    · cases q : F b with
      | none => exact absurd q h1
      | some o => rfl
    · rw [h1]; cases F b <;> rfl
  have fhN : ∀ b o, F b = none → F2 b = some o → Fh b = none := fun b o h1 h2 => by simp only [Fh, h1, h2]
  have fhO : ∀ b, (F b ≠ none ∨ F2 b = none) → Fh b = calF F2 H σ ρ [] b := fun b h1 => by
    simp only [Fh]
    rcases h1 with h1 | h1
    · cases q : F b with
      | none => exact absurd q h1
      | some o => rfl
    · rw [h1]; cases F b <;> rfl
  have spl : ∀ b, (∃ o, F b = none ∧ F2 b = some o) ∨ (F b ≠ none ∨ F2 b = none) := fun b => by
    cases q : F b with
    | some o => exact .inr (.inl (by simp))
    | none =>
      cases q2 : F2 b with
      | none => exact .inr (.inr rfl)
      | some o => exact .inl ⟨o, rfl, rfl⟩
  have eG : Ex G Gp := fun b o q => by
    rcases spl b with ⟨o', h1, h2⟩ | h1
    · rw [S.dj b o' h2] at q; cases q
    · rw [gpO b h1]; exact q
  have eH : Ex Gp H := fun b o q => by
    rcases spl b with ⟨o', h1, h2⟩ | h1
    · rw [gpN b o' h1 h2] at q; cases q; exact S.fx b _ h2
    · rw [gpO b h1] at q; exact S.ex b o q
  have eFh : Ex Fh H := fun b o q => by
    rcases spl b with ⟨o', h1, h2⟩ | h1
    · rw [fhN b o' h1 h2] at q; cases q
    · rw [fhO b h1] at q; exact calF_ex S [] b o q
  have dj0 : ∀ b o, Fh b = some o → Gp b = none := fun b o q => by
    rcases spl b with ⟨o', h1, h2⟩ | h1
    · rw [fhN b o' h1 h2] at q; cases q
    · rw [fhO b h1] at q; rw [gpO b h1]; exact calF_dj S [] b o q
  have dj : DjT pa.T Fh Gp H := ⟨dj0, fun q hq => ⟨by rw [fhO _ (.inr (S.dj.ft q hq).1)]; exact ((calF_dj S []).ft q hq).1, by rw [gpO _ (.inr (S.dj.ft q hq).1)]; exact (S.dj.ft q hq).2⟩, S.dj.tb, fun ht b c q z => by
    rcases spl b with ⟨o', h1, h2⟩ | h1
    · rw [fhN b o' h1 h2] at z; cases z
    · rw [fhO b h1] at z; exact (calF_dj S []).nc ht b c q z⟩
  have hil : i < ρ.length := (List.getElem?_eq_some_iff.mp hi).1
  have hσ : σ[i]? = some (some (.ref p)) := by
    obtain ⟨v, h1, h2⟩ := S.val i _ hi
    cases h2
    exact h1
  have rN : Rep K Gp (.ref p) (.lst es) := .lst (SqL.of (gpN p _ hFp f2p)) (N.reps eG fun x hx => gpN _ _ (f2L x hx).2.1 (f2L x hx).1)
  have noOwn : ∀ (k : Nat) (s : Sl) (d : DL.D), (hideR ρ i (.lst es))[k]? = some s → s.ownD = some d → False := fun k s d q hd => by
    rcases hideR_get hil q with ⟨_, e⟩ | ⟨s0, _, e⟩
    · subst e; cases hd
    · subst e; rw [hid_noOwn] at hd; cases hd
  refine ⟨Fh, Gp, eG, ?_, fun G4 H4 ρ4 e4 S4 => ?_⟩
  · refine ⟨by unfold hideR hidL; rw [List.length_set, List.length_map]; exact S.len, eH, eFh, dj, fun k d q => ?_, fun k s d q hd => (noOwn k s d q hd).elim, fun k s d b q hd _ => (noOwn k s d q hd).elim, fun k d q => (noOwn k (.par d) d q rfl).elim, S.gx.trans eG, fun k m s t d e b _ h1 h2 _ _ _ _ => (noOwn k s d h1 h2).elim⟩
    rcases hideR_get hil q with ⟨e1, e⟩ | ⟨s0, q0, e⟩
    · rw [e1]; cases e; exact ⟨_, hσ, rN⟩
    · cases s0 with
      | val d' =>
        cases e
        obtain ⟨v, k1, k2⟩ := S.val k d q0
        exact ⟨v, k1, k2.mono eG⟩
      | _ => cases e
  let G5 : Hp := fun b => match F b, F2 b with | none, some _ => none | _, _ => G4 b
  have g5N : ∀ b o, F b = none → F2 b = some o → G5 b = none := fun b o h1 h2 => by simp only [G5, h1, h2]
  have g5O : ∀ b, (F b ≠ none ∨ F2 b = none) → G5 b = G4 b := fun b h1 => by
    simp only [G5]
    rcases h1 with h1 | h1
    · cases q : F b with
      | none => exact absurd q h1
      | some o => rfl
    · rw [h1]; cases F b <;> rfl
  have e5 : Ex G G5 := fun b o q => by
    rcases spl b with ⟨o', h1, h2⟩ | h1
    · rw [S.dj b o' h2] at q; cases q
    · rw [g5O b h1]; exact e4 b o (eG b o q)
  have e54 : Ex G5 G4 := fun b o q => by
    rcases spl b with ⟨o', h1, h2⟩ | h1
    · rw [g5N b o' h1 h2] at q; cases q
    · rw [g5O b h1] at q; exact q
  have fx4 : Ex (calF F2 H σ ρ []) H4 := fun c o q => by
    rcases spl c with ⟨o', h1, h2⟩ | h1
    · have q2 := calF_ex S [] c o q
      have q3 := S.fx c o' h2
      rw [q2] at q3
      cases q3
      exact S4.ex c _ (e4 c _ (gpN c _ h1 h2))
    · exact S4.fx c o (by rw [fhO c h1]; exact q)
  have dj50 : ∀ b o, calF F2 H σ ρ [] b = some o → G5 b = none := fun b o q => by
    rcases spl b with ⟨o', h1, h2⟩ | h1
    · exact g5N b o' h1 h2
    · rw [g5O b h1]; exact S4.dj b o (by rw [fhO b h1]; exact q)
  have dj5 : DjT pa.T (calF F2 H σ ρ []) G5 H4 := ⟨dj50, fun q hq => ⟨((calF_dj S []).ft q hq).1, by rw [g5O _ (.inr (S.dj.ft q hq).1)]; exact (S4.dj.ft q hq).2⟩, S4.dj.tb, (calF_dj S []).nc⟩
  have S5 : Sim K pa F2 G5 σ H4 ρ := by
    have := S.behind (is := []) (os := []) e5 (e54.trans S4.ex) fx4 dj5 .nil
    unfold putOuts at this
    exact this
  refine ⟨G5, e5, S5, fun v d r hd => r.noL (fun b hb => ?_) hd⟩
  rcases spl b with ⟨o', h1, h2⟩ | h1
  · obtain ⟨xs, rfl⟩ := isL b o' h1 h2
    exact absurd (e4 b _ (gpN b _ h1 h2)) (hb xs)
  · exact g5O b h1
theorem Lk.frame {F F2 G : Hp} {D : Ends} {DD : Do} (l : Lk K pa F W G D DD) (e : Ex F F2) : Lk K pa F2 W G D DD :=
  ⟨fun G' σ' H' ρ' eg S h => l.nx G' σ' H' ρ' eg (S.frame e) h, fun G' σ' H' ρ' eg S h => l.bk G' σ' H' ρ' eg (S.frame e) h, fun G' σ' H' ρ' eg S h => l.ct G' σ' H' ρ' eg (S.frame e) h,
   fun G' σ' H' ρ' v t eg S r h => l.rt G' σ' H' ρ' v t eg (S.frame e) r h, fun G' σ' H' ρ' p d eg S gf ow fr h => l.rf G' σ' H' ρ' p d eg (S.frame e) ⟨gf.1, fresh_back e gf.2⟩ ow fr h,
   fun G' σ' H' ρ' C d vs fs eg S h => l.er G' σ' H' ρ' C d vs fs eg (S.frame e) h⟩
theorem nest_ex {F G : Hp} {L : List (Addr × HO)} {es : List D} {p : Addr} {o : HO} (N : NOk K F G L es) (hp : FN F L p = none) : Ex F (upd (FN F L) p o) := fun b u q => by
  have q1 := N.ex b u q
  rw [upd_ne (fun z => by rw [z, hp] at q1; cases q1)]; exact q1
/-- a statement that does not ask the list, with its ways out -/
def dnSeq2 (i : Nat) (ds : DS) (dn : DNS) : DNS := fun es p DD ρ => ds { DD with nx := fun ρ1 => ρ1[i]? = some (.val (.ptr p)) ∧ dn es p DD ρ1 } ρ
theorem ssn_seq2 {ts us : TS} {ds : DS} {dn : DNS} {i : Nat} (h1 : SS K pa W ts ds) (h2 : SSN K pa W i us dn) : SSN K pa W i (tSeq ts us) (dnSeq2 i ds dn) := fun F G σ H ρ D DD p L es N hp S hi h l => by
  have l2 := l.frame (nest_ex (o := .lst (L.map fun x => V.ref x.1)) N hp)
  exact h1 _ G σ H ρ { D with nx := us D } { DD with nx := fun ρ1 => ρ1[i]? = some (.val (.ptr p)) ∧ dn es p DD ρ1 } S h ⟨fun G' σ' H' ρ' e S' h' => h2 F G' σ' H' ρ' D DD p L es (N.mono e) hp S' h'.1 h'.2 (l.grow e), l2.bk, l2.ct, l2.rt, l2.rf, l2.er⟩
/-- x, y = (what is asked of the list), e -/
def dnPar1 (i i1 i2 : Nat) (de1 de2 : DE) (dn : DNS) : DNS := fun es p DD ρ => de1 (hideR ρ i (.lst es)) (fun t _ => match t with
  | .val d => d.noL = true ∧ de2 ρ (fun u ρ2 => match u with
    | .val d2 => (isPar ρ2 i1 = false ∧ isPar ρ2 i2 = false) ∧ ((ρ2.set i1 (.val d)).set i2 (.val d2))[i]? = some (.val (.ptr p)) ∧ dn es p DD ((ρ2.set i1 (.val d)).set i2 (.val d2))
    | .bor _ => False) (fun _ _ _ => False)
  | .bor _ => False) (fun _ _ _ => False)
theorem isPar_set' {ρ : Ro} {i j : Nat} {d : D} (h : isPar ρ j = false) : isPar (ρ.set i (.val d)) j = false := by
  unfold isPar at h ⊢
  by_cases e : i = j
  · subst e
    by_cases hl : i < ρ.length
    · rw [List.getElem?_set_self hl]
    · rw [List.getElem?_eq_none (by rw [List.length_set]; omega)]
  · rw [List.getElem?_set_ne e]; exact h
theorem ssn_par1 {te1 te2 : TE} {de1 de2 : DE} {us : TS} {dn : DNS} {i i1 i2 : Nat} (h1 : SE K pa (fun _ _ _ _ => False) te1 de1) (h2 : SE K pa (fun _ _ _ _ => False) te2 de2) (h3 : SSN K pa W i us dn) : SSN K pa W i (tSeq (tPar i1 i2 (tCons te1 (tCons te2 tNil))) us) (dnPar1 i i1 i2 de1 de2 dn) := fun F G σ H ρ D DD p L es N hp S hi h l => by
  obtain ⟨Fh, Gp, eG, S1, back⟩ := ask_in N hp S hi
  refine h1 Fh Gp σ H _ _ _ _ S1 h (fun G4 H4 v t ρ4 e4 S4 r4 h4 => ?_) xl_none
  cases t with
  | bor _ => exact h4.elim
  | val d =>
    obtain ⟨G5, e5, S5, tr⟩ := back G4 H4 ρ4 e4 S4
    have rd : Rep K G5 v d := tr v d r4 h4.1
    refine h2 _ G5 σ H4 ρ _ _ _ S5 h4.2 (fun G6 H6 w u ρ6 e6 S6 r6 h6 => ?_) xl_none
    cases u with
    | bor _ => exact h6.elim
    | val d2 =>
      refine ⟨v, w, rfl, ?_⟩
      have r6 : Rep K G6 w d2 := r6
      exact h3 F G6 _ H6 _ D DD p L es (N.mono (e5.trans e6)) hp ((S6.store h6.1.1 (rd.mono e6)).store (isPar_set' h6.1.2) r6) h6.2.1 h6.2.2 (l.grow (e5.trans e6))
/-- for x in told: x.append(None); told.clear() -/
theorem for_app {F G : Hp} {σ : RSt} {H : Hp} {ρ : Ro} {D : Ends} {ps : List Addr} {a : Addr} {i j : Nat} (S : Sim K pa F G σ H ρ) (hv : σ[i]? = some (some (.ref a))) (hF : F a = some (.lst (ps.map V.ref))) (nd : ps.Nodup) (w : Wr F G H σ ρ ps) (hj : j < ρ.length)
    (k : ∀ σ' H', Sim K pa F G σ' H' (ρ.set j .no) → D.nx σ' H') : tFor (iAny K (tVar i)) (gName j) (tDrop (tBM K "list" rAppend (tVar j) (tCons (tC .non) tNil))) D σ H := by
  let G0 : Hp := upd (fun _ => none) a (.lst (ps.map V.ref))
  have g0 : ∀ {X : Hp}, X a = some (.lst (ps.map V.ref)) → Ex G0 X := fun h b o q => by
    by_cases hb : b = a
    · subst hb; rw [show G0 b = some (.lst (ps.map V.ref)) from upd_same] at q; cases q; exact h
    · rw [show G0 b = none from upd_ne hb] at q; cases q
  have ok := itOk_list (K := K) (G := G0) (SqL.of upd_same) (Reps.ptrs ps)
  have S0 : Sim K pa F G σ H (ρ.set j .no) := S.sub (by simp) fun m s q => by
    by_cases hm : j = m
    · subst hm; rw [List.getElem?_set_self hj] at q; cases q; exact .inl rfl
    · rw [List.getElem?_set_ne hm] at q; exact .inr (.inl q)
  have own0 : ∀ (m : Nat) (s : Sl) (d : DL.D), (ρ.set j .no)[m]? = some s → s.ownD = some d → m ≠ j ∧ ρ[m]? = some s := fun m s d q hd => by
    by_cases hm : j = m
    · subst hm; rw [List.getElem?_set_self hj] at q; cases q; cases hd
    · rw [List.getElem?_set_ne hm] at q; exact ⟨fun z => hm z.symm, q⟩
  have w0 : Wr F G H σ (ρ.set j .no) ps := w.move (fun m s d q hd => ⟨(own0 m s d q hd).2, rfl⟩) fun p m => ⟨m, rfl, (w p m).2.1⟩
  have hl : (ps.map DL.D.ptr).length = ps.length := List.length_map ..
  refine ⟨_, hv, .inl ⟨a, rfl, ⟨_, SqL.of (S.fx a _ hF)⟩, ?_⟩⟩
  refine ⟨fun x m σ' H' => m = ps.length - x ∧ x ≤ ps.length ∧ Sim K pa F G σ' H' (ρ.set j .no) ∧ Wr F G H' σ' (ρ.set j .no) (ps.drop x), ⟨_, rfl, Nat.zero_le _, S0, w0⟩, ?_⟩
  rintro x m σ' H' ⟨rfl, hx, S2, w2⟩
  by_cases hlt : x < ps.length
  · refine .inr ⟨ok.go x H' (g0 (S2.fx a _ hF)) (by rw [hl]; exact hlt), fun σ' H' => Sim K pa F G σ' H' (ρ.set j .no) ∧ Wr F G H' σ' (ρ.set j .no) (ps.drop (x + 1)), fun σ3 H3 hN => ⟨ps.length - (x + 1), by omega, rfl, hlt, hN⟩, fun y H3 hy => ?_⟩
    obtain ⟨G3, al, r⟩ := ok.yld x H' y H3 hy G0 (Ex.refl _) (g0 (S2.fx a _ hF)) (.ptr ps[x]) (by rw [List.getElem?_map]; simp [hlt])
    cases r
    have S3 : Sim K pa F G σ' H3 (ρ.set j .no) := S2.al ⟨Ex.refl G, al.h, S2.ex.trans al.h, fun _ h _ => h⟩
    have hd : ps.drop x = ps[x] :: ps.drop (x + 1) := List.drop_eq_getElem_cons hlt
    have nd2 : (ps[x] :: ps.drop (x + 1)).Nodup := by rw [← hd]; exact nd.sublist (List.drop_sublist _ _)
    have in0 : ps[x] ∈ ps.drop x := by rw [hd]; exact List.mem_cons_self
    obtain ⟨⟨vs, hv1, hv2⟩, gp, fp, fr⟩ := w2 _ in0
    have S4 := S3.store (i := j) (v := .ref ps[x]) (d := .ptr ps[x]) (by unfold isPar; rw [List.getElem?_set_self hj]) (.ptr _)
    have hjσ : j < σ'.length := by rw [← S2.len, List.length_set]; exact hj
    have h3 : H3 ps[x] = some (.lst vs) := al.h _ _ hv1
    have own1 : ∀ (m : Nat) (s : Sl) (d : DL.D), ((ρ.set j .no).set j (.val (.ptr ps[x])))[m]? = some s → s.ownD = some d → m ≠ j ∧ (ρ.set j .no)[m]? = some s ∧ (σ'.set j (some (.ref ps[x])))[m]? = σ'[m]? := fun m s d q hd => by
      by_cases hm : j = m
      · subst hm
        rw [List.getElem?_set_self (by rw [List.length_set]; exact hj)] at q; cases q; cases hd
      · rw [List.getElem?_set_ne hm] at q; exact ⟨fun z => hm z.symm, q, List.getElem?_set_ne hm⟩
    have S5 := S4.out (p := ps[x]) (o := .lst (vs ++ [.non])) (fun u q => by rw [h3] at q; cases q; exact noCode_lst) gp fp fun m s d q hd => by
      obtain ⟨_, k2, k3⟩ := own1 m s d q hd
      rw [k3]
      exact fr m s d k2 hd
    refine ⟨.ref ps[x], List.getElem?_set_self hjσ, .inl ⟨rfl, vs, SqL.of h3⟩, ?_⟩
    refine ⟨ps[x], vs, .non, rfl, rfl, h3, hv2, ?_, ?_⟩
    · refine S5.sub (by simp) fun m s q => ?_
      by_cases hm : j = m
      · subst hm; rw [List.getElem?_set_self hj] at q; cases q; exact .inl rfl
      · rw [List.getElem?_set_ne hm] at q
        exact .inr (.inl (by rw [List.getElem?_set_ne hm, List.getElem?_set_ne hm]; exact q))
    · refine w2.move (fun m s d q hd => ?_) fun p hp => ?_
      · obtain ⟨k1, k2⟩ := own0 m s d q hd
        exact ⟨q, List.getElem?_set_ne (fun z => k1 z.symm)⟩
      · have hin : p ∈ ps.drop x := by rw [hd]; exact List.mem_cons_of_mem _ hp
        have hne : p ≠ ps[x] := fun z => (List.nodup_cons.mp nd2).1 (z ▸ hp)
        obtain ⟨⟨ws, q1, _⟩, gq, _⟩ := w2 p hin
        exact ⟨hin, by rw [upd_ne hne, al.h _ _ q1, q1], gq⟩
  · have e : x = ps.length := by omega
    subst e
    exact .inl ⟨ok.stop _ H' (g0 (S2.fx a _ hF)) (by rw [hl]; exact Nat.le_refl _), k σ' H' S2⟩
def dnFC (i j : Nat) (ds : DS) : DNS := fun _ _ DD ρ => (j < ρ.length ∧ i ≠ j) ∧ ds DD (wipeD ρ [i, j])
theorem ssn_forclear {us : TS} {ds : DS} {i j : Nat} (h : SS K pa W us ds) : SSN K pa W i (tSeq (tFor (iAny K (tVar i)) (gName j) (tDrop (tBM K "list" rAppend (tVar j) (tCons (tC .non) tNil)))) (tSeq (tDrop (tBM0 K "list" rClear (tVar i))) us)) (dnFC i j ds) := fun F G σ H ρ D DD p L es N hp S hi hd l => by
  obtain ⟨⟨hj, hij⟩, hd⟩ := hd
  have hF : ∀ b o, FN F L b = some o → b ≠ p := fun b o q z => by rw [z, hp] at q; cases q
  have hFp : F p = none := fresh_back N.ex hp
  have eP : Ex (upd F p (.lst (L.map fun x => V.ref x.1))) (upd (FN F L) p (.lst (L.map fun x => V.ref x.1))) := fun b o q => by
    by_cases hb : b = p
    · subst hb; rw [upd_same] at q ⊢; exact q
    · rw [upd_ne hb] at q ⊢; exact N.ex b o q
  have S1 := S.frame eP
  have hσ : σ[i]? = some (some (.ref p)) := by
    obtain ⟨v, h1, h2⟩ := S.val i _ hi
    cases h2
    exact h1
  have ptrs : (L.map fun x => V.ref x.1) = ((L.map fun x => x.1).map V.ref) := by rw [List.map_map]; rfl
  have gp0 : G p = none := S.dj p _ upd_same
  refine for_app (a := p) (ps := L.map fun x => x.1) S1 hσ (by rw [upd_same, ptrs]) N.nodup (fun b hm => ?_) hj fun σ' H' S' => ?_
  · obtain ⟨x, hx, rfl⟩ := List.mem_map.mp hm
    obtain ⟨k1, k2⟩ := N.at_ x hx
    have k3 := hF _ _ k1
    have k1' : upd (FN F L) p (.lst (L.map fun x => V.ref x.1)) x.1 = some x.2 := by rw [upd_ne k3]; exact k1
    obtain ⟨vs, v1, v2⟩ := N.lists x hx
    refine ⟨⟨vs, by rw [S.fx _ _ k1', v1], v2⟩, S.dj _ _ k1', by rw [upd_ne k3]; exact k2, fun k s d q hd hb' => ?_⟩
    have := S.ofr k s d _ q hd hb'
    rw [k1'] at this
    cases this
  · have hσ' : σ'[i]? = some (some (.ref p)) := by
      obtain ⟨v, h1, h2⟩ := S'.val i (.ptr p) (by rw [List.getElem?_set_ne (fun z => hij z.symm)]; exact hi)
      cases h2
      exact h1
    have hH : H' p = some (.lst (L.map fun x => V.ref x.1)) := S'.fx p _ upd_same
    have S2 : Sim K pa F G σ' H' (ρ.set j .no) := S'.frame (Ex.new hFp)
    have S3 := S2.out (p := p) (o := .lst []) (fun u q => by rw [hH] at q; cases q; exact noCode_lst) gp0 hFp fun k s d q hd hb' => by
      have := S'.ofr k s d _ q hd hb'
      rw [upd_same] at this
      cases this
    refine ⟨.ref p, hσ', .inl ⟨rfl, _, SqL.of hH⟩, p, _, rfl, rfl, hH, ?_⟩
    refine h F G σ' _ (wipeD ρ [i, j]) D DD (S3.sub (by rw [wipeD_length, List.length_set]) fun k s q => ?_) hd l
    rw [wipeD_get] at q
    by_cases hk : k ∈ [i, j]
    · rw [if_pos hk] at q
      by_cases hlt : k < ρ.length
      · rw [if_pos hlt] at q; cases q; exact .inl rfl
      · rw [if_neg hlt] at q; cases q
    · rw [if_neg hk] at q
      exact .inr (.inl (by rw [List.getElem?_set_ne (fun z => hk (by rw [← z]; exact List.mem_cons_of_mem _ List.mem_cons_self))]; exact q))
end
end DL
set_option autoImplicit false
set_option Elab.async false
set_option linter.all false
set_option maxRecDepth 100000
set_option maxHeartbeats 2000000
namespace PySem.SeqAt
open PySem PySem.Calls PyProof.Rows

section
variable {prog : Program} {w : World} {A : Around} {s : Shared} {E : Value → Shared → Prop}
/-- dict.__eq__ declines what is no dict -/
theorem dict_declines {a : Addr} {v : Value} {T : String} (da : s.TypeIs (.ref a) "dict") (tv : s.TypeIs v T) (sub : isSubtype (.type T) (.type "dict") = pure false) (Q : Value → Shared → Prop) (q : Q .notImplemented s) :
    wpAny (model prog w) A (call (.builtin "dict.__eq__") [.ref a, v]) Q E s := by
  refine wpAny_call_entry PySem.F.slot_dict_eq da PySem.F.entry_dict_eq ?_ (PySem.F.args_dict_eq_2 _ _)
  show wpAny _ _ (Builtin.Dict.dictSlotArgs "__eq__" ⟨[.ref a, v], []⟩ >>= _) _ _ s
  refine wpAny_bind ?_
  unfold Builtin.Dict.dictSlotArgs
  refine wpAny_bind (wpAny_notOrdered_dict da ?_)
  show wpAny _ _ (pure (Value.ref a, v)) _ _ s
  refine wpAny_pure (wpAny_bind (wpAny_isInstance (T := T) tv sub ?_))
  simp only [Bool.not_false, if_true]
  exact wpAny_bind (wpAny_rule (wpAny_pure ⟨_, rfl, q⟩))
end
section
variable {A : Around} {s : Shared} {es : Array DictEntry} {ep : Nat}
theorem int_declines_dict (b : Int) (u : Tok) (l : Addr) (c : Value) (es : Array DictEntry) (ep : Nat) (dd : Option Addr) (sl : Array (Option Value)) :
    Meets (Builtin.«int.__eq__» ⟨[.int b u, .ref l], []⟩) (fun _ R s => s.heap.get? l = some { cls := c, dict := dd, data := .dict es ep, slots := sl } ∧ R (.ok (.ret .notImplemented)) s) :=
  .of_wp fun prog w A R s h => by obtain ⟨hp, g, d, tk, os⟩ := s; obtain ⟨hl, h⟩ := h; wp_walk using AutoSeq1.wpAny_loadPart' hl, wpAny_load hl; exact ⟨_, rfl, h⟩
theorem bool_declines_dict (b : Bool) (l : Addr) (c : Value) (es : Array DictEntry) (ep : Nat) (dd : Option Addr) (sl : Array (Option Value)) :
    Meets (Builtin.«int.__eq__» ⟨[.bool b, .ref l], []⟩) (fun _ R s => s.heap.get? l = some { cls := c, dict := dd, data := .dict es ep, slots := sl } ∧ R (.ok (.ret .notImplemented)) s) :=
  .of_wp fun prog w A R s h => by obtain ⟨hp, g, d, tk, os⟩ := s; obtain ⟨hl, h⟩ := h; wp_walk using AutoSeq1.wpAny_loadPart' hl, wpAny_load hl; exact ⟨_, rfl, h⟩
theorem str_declines_dict (b : Str) (u : Tok) (l : Addr) (c : Value) (es : Array DictEntry) (ep : Nat) (dd : Option Addr) (sl : Array (Option Value)) :
    Meets (Builtin.«str.__eq__» ⟨[.str b u, .ref l], []⟩) (fun _ R s => s.heap.get? l = some { cls := c, dict := dd, data := .dict es ep, slots := sl } ∧ R (.ok (.ret .notImplemented)) s) :=
  .of_wp fun prog w A R s h => by obtain ⟨hp, g, d, tk, os⟩ := s; obtain ⟨hl, h⟩ := h; wp_walk using AutoSeq1.wpAny_loadPart' hl, wpAny_load hl; exact ⟨_, rfl, h⟩
theorem list_declines_dict (l b : Addr) (items : Array Value) (n : Nat) (dd dd2 : Option Addr) (sl sl2 : Array (Option Value)) (es : Array DictEntry) (ep : Nat) :
    Meets (Builtin.«list.__eq__» ⟨[.ref l, .ref b], []⟩) (fun _ R s => s.heap.get? l = some { cls := .type "list", dict := dd, data := .seq items n, slots := sl } ∧ s.heap.get? b = some { cls := .type "dict", dict := dd2, data := .dict es ep, slots := sl2 } ∧ R (.ok (.ret .notImplemented)) s) :=
  .of_wp fun prog w A R s h => by obtain ⟨hp, g, d, tk, os⟩ := s; obtain ⟨hl, hb, h⟩ := h; have f1 := PySem.F.sub_dict_list; wp_walk using AutoSeq1.wpAny_loadPart' hl, AutoSeq1.wpAny_loadPart' hb; exact ⟨_, rfl, h⟩
theorem tuple_declines_dict (l b : Addr) (items : Array Value) (n : Nat) (dd dd2 : Option Addr) (sl sl2 : Array (Option Value)) (es : Array DictEntry) (ep : Nat) :
    Meets (Builtin.«tuple.__eq__» ⟨[.ref l, .ref b], []⟩) (fun _ R s => s.heap.get? l = some { cls := .type "tuple", dict := dd, data := .seq items n, slots := sl } ∧ s.heap.get? b = some { cls := .type "dict", dict := dd2, data := .dict es ep, slots := sl2 } ∧ R (.ok (.ret .notImplemented)) s) :=
  .of_wp fun prog w A R s h => by obtain ⟨hp, g, d, tk, os⟩ := s; obtain ⟨hl, hb, h⟩ := h; have f1 := PySem.F.sub_dict_tuple; wp_walk using AutoSeq1.wpAny_loadPart' hl, AutoSeq1.wpAny_loadPart' hb; exact ⟨_, rfl, h⟩
end
section
variable {A : Around} {s : Shared}
theorem isSame_dict {M : Model} {E : Value → Shared → Prop} {x y : Addr} {ox oy : Obj} {R : Bool → Shared → Prop} (hxy : x ≠ y) (hx : s.heap.get? x = some ox) (hy : s.heap.get? y = some oy) (h : R false s) (hnt : ox.cls ≠ .type "tuple" := by simp) :
    wpAny M A (isSame (.ref x) (.ref y)) R E s := wpAny_isSame_ref_other hxy hx hy hnt h
def IsDct (s : Shared) (a : Addr) : Prop := ∃ (dd : Option Addr) (es : Array DictEntry) (ep : Nat) (sl : Array (Option Value)), s.heap.get? a = some { cls := .type "dict", dict := dd, data := .dict es ep, slots := sl }
theorem RcAt.dict_none {a : Addr} (h0 : IsDct s a) (hu : A.units < cLine) : RcAt A s (.ref a) (.none) false := fun prog w E Q h => by
  obtain ⟨dd, es, ep, sl, ho⟩ := h0
  exact rc_eq_decline_or (k := false) ⟨_, ho, rfl⟩ (typeIs_none s) (by decide) PySem.F.sub_NoneType_dict PySem.F.slot_dict_eq PySem.F.slot_NoneType_eq_refl (fun _ hq => dict_declines ⟨_, ho, rfl⟩ (typeIs_none s) PySem.F.sub_NoneType_dict _ hq) (fun _ hq => call_gives PySem.F.slot_NoneType_eq_refl rfl PySem.F.entry_NoneType_eq (PySem.F.args_NoneType_eq_2 _ _) (NoneType___eq___none_ref_0 a) hq)
    (fun _ hq => wpAny_of_eq (rfl : isSame (.ref a) (.none) = pure false) hq) (.inr hu) h
theorem RcAt.none_dict {a : Addr} (h0 : IsDct s a) (hu : A.units < cLine) : RcAt A s (.none) (.ref a) false := fun prog w E Q h => by
  obtain ⟨dd, es, ep, sl, ho⟩ := h0
  exact rc_eq_decline_or (k := false) (typeIs_none s) ⟨_, ho, rfl⟩ (by decide) PySem.F.sub_dict_NoneType PySem.F.slot_NoneType_eq PySem.F.slot_dict_eq_refl (fun _ hq => call_gives PySem.F.slot_NoneType_eq rfl PySem.F.entry_NoneType_eq (PySem.F.args_NoneType_eq_2 _ _) (NoneType___eq___none_ref_0 a) hq) (fun _ hq => dict_declines ⟨_, ho, rfl⟩ (typeIs_none s) PySem.F.sub_NoneType_dict _ hq)
    (fun _ hq => wpAny_of_eq (rfl : isSame (.none) (.ref a) = pure false) hq) (.inr hu) h
theorem EqAt.dict_none {a : Addr} (h0 : IsDct s a) (hu : A.units < cLine) : EqAt A s (.ref a) (.none) false := fun prog w E Q h => by
  unfold eqBool
  exact wpAny_holding (wpAny_ite_split (fun hab => absurd (eq_of_beq hab) nofun) fun _ => wpAny_bind (RcAt.dict_none h0 hu prog w E _ (wpAny_truthy_bool h)))
theorem EqAt.none_dict {a : Addr} (h0 : IsDct s a) (hu : A.units < cLine) : EqAt A s (.none) (.ref a) false := fun prog w E Q h => by
  unfold eqBool
  exact wpAny_holding (wpAny_ite_split (fun hab => absurd (eq_of_beq hab) nofun) fun _ => wpAny_bind (RcAt.none_dict h0 hu prog w E _ (wpAny_truthy_bool h)))
theorem RcAt.dict_bool {a : Addr} (b : Bool) (h0 : IsDct s a) (hu : A.units < cLine) : RcAt A s (.ref a) (.bool b) false := fun prog w E Q h => by
  obtain ⟨dd, es, ep, sl, ho⟩ := h0
  exact rc_eq_decline_or (k := false) ⟨_, ho, rfl⟩ (typeIs_bool s b) (by decide) PySem.F.sub_bool_dict PySem.F.slot_dict_eq PySem.F.slot_bool_eq_refl (fun _ hq => dict_declines ⟨_, ho, rfl⟩ (typeIs_bool s b) PySem.F.sub_bool_dict _ hq) (fun _ hq => call_meets PySem.F.slot_bool_eq_refl (typeIs_bool s b) PySem.F.entry_int_eq (PySem.F.args_int_eq_2 _ _) (bool_declines_dict b a _ es ep dd sl) ⟨ho, hq⟩)
    (fun _ hq => wpAny_of_eq (rfl : isSame (.ref a) (.bool b) = pure false) hq) (.inr hu) h
theorem RcAt.bool_dict {a : Addr} (b : Bool) (h0 : IsDct s a) (hu : A.units < cLine) : RcAt A s (.bool b) (.ref a) false := fun prog w E Q h => by
  obtain ⟨dd, es, ep, sl, ho⟩ := h0
  exact rc_eq_decline_or (k := false) (typeIs_bool s b) ⟨_, ho, rfl⟩ (by decide) PySem.F.sub_dict_bool PySem.F.slot_bool_eq PySem.F.slot_dict_eq_refl (fun _ hq => call_meets PySem.F.slot_bool_eq (typeIs_bool s b) PySem.F.entry_int_eq (PySem.F.args_int_eq_2 _ _) (bool_declines_dict b a _ es ep dd sl) ⟨ho, hq⟩) (fun _ hq => dict_declines ⟨_, ho, rfl⟩ (typeIs_bool s b) PySem.F.sub_bool_dict _ hq)
    (fun _ hq => wpAny_of_eq (rfl : isSame (.bool b) (.ref a) = pure false) hq) (.inr hu) h
theorem EqAt.dict_bool {a : Addr} (b : Bool) (h0 : IsDct s a) (hu : A.units < cLine) : EqAt A s (.ref a) (.bool b) false := fun prog w E Q h => by
  unfold eqBool
  exact wpAny_holding (wpAny_ite_split (fun hab => absurd (eq_of_beq hab) nofun) fun _ => wpAny_bind (RcAt.dict_bool b h0 hu prog w E _ (wpAny_truthy_bool h)))
theorem EqAt.bool_dict {a : Addr} (b : Bool) (h0 : IsDct s a) (hu : A.units < cLine) : EqAt A s (.bool b) (.ref a) false := fun prog w E Q h => by
  unfold eqBool
  exact wpAny_holding (wpAny_ite_split (fun hab => absurd (eq_of_beq hab) nofun) fun _ => wpAny_bind (RcAt.bool_dict b h0 hu prog w E _ (wpAny_truthy_bool h)))
theorem RcAt.dict_int {a : Addr} (b : Int) (u : Tok) (h0 : IsDct s a) (hu : A.units < cLine) : RcAt A s (.ref a) (.int b u) false := fun prog w E Q h => by
  obtain ⟨dd, es, ep, sl, ho⟩ := h0
  exact rc_eq_decline_or (k := false) ⟨_, ho, rfl⟩ (typeIs_int s b u) (by decide) PySem.F.sub_int_dict PySem.F.slot_dict_eq PySem.F.slot_int_eq_refl (fun _ hq => dict_declines ⟨_, ho, rfl⟩ (typeIs_int s b u) PySem.F.sub_int_dict _ hq) (fun _ hq => call_meets PySem.F.slot_int_eq_refl (typeIs_int s b u) PySem.F.entry_int_eq (PySem.F.args_int_eq_2 _ _) (int_declines_dict b u a _ es ep dd sl) ⟨ho, hq⟩)
    (fun _ hq => wpAny_of_eq (rfl : isSame (.ref a) (.int b u) = pure false) hq) (.inr hu) h
theorem RcAt.int_dict {a : Addr} (b : Int) (u : Tok) (h0 : IsDct s a) (hu : A.units < cLine) : RcAt A s (.int b u) (.ref a) false := fun prog w E Q h => by
  obtain ⟨dd, es, ep, sl, ho⟩ := h0
  exact rc_eq_decline_or (k := false) (typeIs_int s b u) ⟨_, ho, rfl⟩ (by decide) PySem.F.sub_dict_int PySem.F.slot_int_eq PySem.F.slot_dict_eq_refl (fun _ hq => call_meets PySem.F.slot_int_eq (typeIs_int s b u) PySem.F.entry_int_eq (PySem.F.args_int_eq_2 _ _) (int_declines_dict b u a _ es ep dd sl) ⟨ho, hq⟩) (fun _ hq => dict_declines ⟨_, ho, rfl⟩ (typeIs_int s b u) PySem.F.sub_int_dict _ hq)
    (fun _ hq => wpAny_of_eq (rfl : isSame (.int b u) (.ref a) = pure false) hq) (.inr hu) h
theorem EqAt.dict_int {a : Addr} (b : Int) (u : Tok) (h0 : IsDct s a) (hu : A.units < cLine) : EqAt A s (.ref a) (.int b u) false := fun prog w E Q h => by
  unfold eqBool
  exact wpAny_holding (wpAny_ite_split (fun hab => absurd (eq_of_beq hab) nofun) fun _ => wpAny_bind (RcAt.dict_int b u h0 hu prog w E _ (wpAny_truthy_bool h)))
theorem EqAt.int_dict {a : Addr} (b : Int) (u : Tok) (h0 : IsDct s a) (hu : A.units < cLine) : EqAt A s (.int b u) (.ref a) false := fun prog w E Q h => by
  unfold eqBool
  exact wpAny_holding (wpAny_ite_split (fun hab => absurd (eq_of_beq hab) nofun) fun _ => wpAny_bind (RcAt.int_dict b u h0 hu prog w E _ (wpAny_truthy_bool h)))
theorem RcAt.dict_str {a : Addr} (b : Str) (u : Tok) (h0 : IsDct s a) (hu : A.units < cLine) : RcAt A s (.ref a) (.str b u) false := fun prog w E Q h => by
  obtain ⟨dd, es, ep, sl, ho⟩ := h0
  exact rc_eq_decline_or (k := false) ⟨_, ho, rfl⟩ (typeIs_str s b u) (by decide) PySem.F.sub_str_dict PySem.F.slot_dict_eq PySem.F.slot_str_eq_refl (fun _ hq => dict_declines ⟨_, ho, rfl⟩ (typeIs_str s b u) PySem.F.sub_str_dict _ hq) (fun _ hq => call_meets PySem.F.slot_str_eq_refl (typeIs_str s b u) PySem.F.entry_str_eq (PySem.F.args_str_eq_2 _ _) (str_declines_dict b u a _ es ep dd sl) ⟨ho, hq⟩)
    (fun _ hq => wpAny_of_eq (rfl : isSame (.ref a) (.str b u) = pure false) hq) (.inr hu) h
theorem RcAt.str_dict {a : Addr} (b : Str) (u : Tok) (h0 : IsDct s a) (hu : A.units < cLine) : RcAt A s (.str b u) (.ref a) false := fun prog w E Q h => by
  obtain ⟨dd, es, ep, sl, ho⟩ := h0
  exact rc_eq_decline_or (k := false) (typeIs_str s b u) ⟨_, ho, rfl⟩ (by decide) PySem.F.sub_dict_str PySem.F.slot_str_eq PySem.F.slot_dict_eq_refl (fun _ hq => call_meets PySem.F.slot_str_eq (typeIs_str s b u) PySem.F.entry_str_eq (PySem.F.args_str_eq_2 _ _) (str_declines_dict b u a _ es ep dd sl) ⟨ho, hq⟩) (fun _ hq => dict_declines ⟨_, ho, rfl⟩ (typeIs_str s b u) PySem.F.sub_str_dict _ hq)
    (fun _ hq => wpAny_of_eq (rfl : isSame (.str b u) (.ref a) = pure false) hq) (.inr hu) h
theorem EqAt.dict_str {a : Addr} (b : Str) (u : Tok) (h0 : IsDct s a) (hu : A.units < cLine) : EqAt A s (.ref a) (.str b u) false := fun prog w E Q h => by
  unfold eqBool
  exact wpAny_holding (wpAny_ite_split (fun hab => absurd (eq_of_beq hab) nofun) fun _ => wpAny_bind (RcAt.dict_str b u h0 hu prog w E _ (wpAny_truthy_bool h)))
theorem EqAt.str_dict {a : Addr} (b : Str) (u : Tok) (h0 : IsDct s a) (hu : A.units < cLine) : EqAt A s (.str b u) (.ref a) false := fun prog w E Q h => by
  unfold eqBool
  exact wpAny_holding (wpAny_ite_split (fun hab => absurd (eq_of_beq hab) nofun) fun _ => wpAny_bind (RcAt.str_dict b u h0 hu prog w E _ (wpAny_truthy_bool h)))
theorem ne_dict_list {a l : Addr} {items : Array Value} (h0 : IsDct s a) (hl : s.heap.IsList l items) : a ≠ l := fun z => by
  obtain ⟨dd, es, ep, sl, ho⟩ := h0
  obtain ⟨o2, ho2, hc2, n2, hd2⟩ := hl
  subst z
  rw [ho] at ho2
  cases ho2
  exact absurd (show Value.type "dict" = Value.type "list" from hc2) (by decide)
theorem RcAt.dict_list {a l : Addr} {items : Array Value} (h0 : IsDct s a) (hl : s.heap.IsList l items) (hu : A.units < cLine) : RcAt A s (.ref a) (.ref l) false := fun prog w E Q h => by
  have hne := ne_dict_list h0 hl
  obtain ⟨dd, es, ep, sl, ho⟩ := h0
  obtain ⟨⟨cls2, dd2, data2, sl2⟩, ho2, hc2, n2, hd2⟩ := id hl
  simp only at hc2 hd2
  subst hc2 hd2
  exact rc_eq_decline_or (k := false) ⟨_, ho, rfl⟩ ⟨_, ho2, rfl⟩ (by decide) PySem.F.sub_list_dict PySem.F.slot_dict_eq PySem.F.slot_list_eq_refl (fun _ hq => dict_declines (v := .ref l) (T := "list") ⟨_, ho, rfl⟩ ⟨_, ho2, rfl⟩ PySem.F.sub_list_dict _ hq)
    (fun _ hq => call_meets PySem.F.slot_list_eq_refl ⟨_, ho2, rfl⟩ PySem.F.entry_list_eq (PySem.F.args_list_eq_2 _ _) (list_declines_dict l a items n2 dd2 dd sl2 sl es ep) ⟨ho2, ho, hq⟩) (fun _ hq => isSame_dict hne ho ho2 hq) (.inr hu) h
theorem RcAt.list_dict {a l : Addr} {items : Array Value} (h0 : IsDct s a) (hl : s.heap.IsList l items) (hu : A.units < cLine) : RcAt A s (.ref l) (.ref a) false := fun prog w E Q h => by
  have hne := ne_dict_list h0 hl
  obtain ⟨dd, es, ep, sl, ho⟩ := h0
  obtain ⟨⟨cls2, dd2, data2, sl2⟩, ho2, hc2, n2, hd2⟩ := id hl
  simp only at hc2 hd2
  subst hc2 hd2
  exact rc_eq_decline_or (k := false) ⟨_, ho2, rfl⟩ ⟨_, ho, rfl⟩ (by decide) PySem.F.sub_dict_list PySem.F.slot_list_eq PySem.F.slot_dict_eq_refl
    (fun _ hq => call_meets PySem.F.slot_list_eq ⟨_, ho2, rfl⟩ PySem.F.entry_list_eq (PySem.F.args_list_eq_2 _ _) (list_declines_dict l a items n2 dd2 dd sl2 sl es ep) ⟨ho2, ho, hq⟩) (fun _ hq => dict_declines (v := .ref l) (T := "list") ⟨_, ho, rfl⟩ ⟨_, ho2, rfl⟩ PySem.F.sub_list_dict _ hq) (fun _ hq => wpAny_isSame_ref_other' (Ne.symm hne) ho2 ho (by simp) hq) (.inr hu) h
theorem EqAt.dict_list {a l : Addr} {items : Array Value} (h0 : IsDct s a) (hl : s.heap.IsList l items) (hu : A.units < cLine) : EqAt A s (.ref a) (.ref l) false := .of_refs (ne_dict_list h0 hl) (.dict_list h0 hl hu)
theorem EqAt.list_dict {a l : Addr} {items : Array Value} (h0 : IsDct s a) (hl : s.heap.IsList l items) (hu : A.units < cLine) : EqAt A s (.ref l) (.ref a) false := .of_refs (ne_dict_list h0 hl).symm (.list_dict h0 hl hu)
theorem ne_dict_tuple {a l : Addr} {items : Array Value} (h0 : IsDct s a) (hl : s.heap.IsTuple l items) : a ≠ l := fun z => by
  obtain ⟨dd, es, ep, sl, ho⟩ := h0
  obtain ⟨o2, ho2, hc2, n2, hd2⟩ := hl
  subst z
  rw [ho] at ho2
  cases ho2
  exact absurd (show Value.type "dict" = Value.type "tuple" from hc2) (by decide)
theorem RcAt.dict_tuple {a l : Addr} {items : Array Value} (h0 : IsDct s a) (hl : s.heap.IsTuple l items) (hu : A.units < cLine) : RcAt A s (.ref a) (.ref l) false := fun prog w E Q h => by
  have hne := ne_dict_tuple h0 hl
  obtain ⟨dd, es, ep, sl, ho⟩ := h0
  obtain ⟨⟨cls2, dd2, data2, sl2⟩, ho2, hc2, n2, hd2⟩ := id hl
  simp only at hc2 hd2
  subst hc2 hd2
  exact rc_eq_decline_or (k := false) ⟨_, ho, rfl⟩ ⟨_, ho2, rfl⟩ (by decide) PySem.F.sub_tuple_dict PySem.F.slot_dict_eq PySem.F.slot_tuple_eq_refl (fun _ hq => dict_declines (v := .ref l) (T := "tuple") ⟨_, ho, rfl⟩ ⟨_, ho2, rfl⟩ PySem.F.sub_tuple_dict _ hq)
    (fun _ hq => call_meets PySem.F.slot_tuple_eq_refl ⟨_, ho2, rfl⟩ PySem.F.entry_tuple_eq (PySem.F.args_tuple_eq_2 _ _) (tuple_declines_dict l a items n2 dd2 dd sl2 sl es ep) ⟨ho2, ho, hq⟩) (fun _ hq => isSame_dict hne ho ho2 hq) (.inr hu) h
theorem RcAt.tuple_dict {a l : Addr} {items : Array Value} (h0 : IsDct s a) (hl : s.heap.IsTuple l items) (hu : A.units < cLine) : RcAt A s (.ref l) (.ref a) false := fun prog w E Q h => by
  have hne := ne_dict_tuple h0 hl
  obtain ⟨dd, es, ep, sl, ho⟩ := h0
  obtain ⟨⟨cls2, dd2, data2, sl2⟩, ho2, hc2, n2, hd2⟩ := id hl
  simp only at hc2 hd2
  subst hc2 hd2
  exact rc_eq_decline_or (k := false) ⟨_, ho2, rfl⟩ ⟨_, ho, rfl⟩ (by decide) PySem.F.sub_dict_tuple PySem.F.slot_tuple_eq PySem.F.slot_dict_eq_refl
    (fun _ hq => call_meets PySem.F.slot_tuple_eq ⟨_, ho2, rfl⟩ PySem.F.entry_tuple_eq (PySem.F.args_tuple_eq_2 _ _) (tuple_declines_dict l a items n2 dd2 dd sl2 sl es ep) ⟨ho2, ho, hq⟩) (fun _ hq => dict_declines (v := .ref l) (T := "tuple") ⟨_, ho, rfl⟩ ⟨_, ho2, rfl⟩ PySem.F.sub_tuple_dict _ hq) (fun _ hq => wpAny_isSame_ref_other' (Ne.symm hne) ho2 ho (by simp) hq) (.inr hu) h
theorem EqAt.dict_tuple {a l : Addr} {items : Array Value} (h0 : IsDct s a) (hl : s.heap.IsTuple l items) (hu : A.units < cLine) : EqAt A s (.ref a) (.ref l) false := .of_refs (ne_dict_tuple h0 hl) (.dict_tuple h0 hl hu)
theorem EqAt.tuple_dict {a l : Addr} {items : Array Value} (h0 : IsDct s a) (hl : s.heap.IsTuple l items) (hu : A.units < cLine) : EqAt A s (.ref l) (.ref a) false := .of_refs (ne_dict_tuple h0 hl).symm (.tuple_dict h0 hl hu)
end
end PySem.SeqAt
set_option autoImplicit false
set_option Elab.async false
set_option linter.all false
set_option maxRecDepth 100000
set_option maxHeartbeats 2000000
namespace DL
open PySem L2 Evl PySem.Spec PyProof.Rows
/-! ### == of nested data, dicts among it -/
def flEq : V → V → Option Bool
  | .non, .non => some true
  | .non, .bl _ => some false
  | .non, .int _ => some false
  | .non, .str _ => some false
  | .bl _, .non => some false
  | .bl a, .bl b => some (a == b)
  | .bl a, .int j => some ((if a then 1 else 0) == j)
  | .bl _, .str _ => some false
  | .int _, .non => some false
  | .int i, .bl b => some (i == (if b then 1 else 0))
  | .int i, .int j => some (i == j)
  | .int _, .str _ => some false
  | .str _, .non => some false
  | .str _, .bl _ => some false
  | .str _, .int _ => some false
  | .str x, .str y => some (x == y)
  | _, _ => none
def flV : V → Bool
  | .non => true
  | .bl _ => true
  | .int _ => true
  | .str _ => true
  | _ => false
inductive CK where
  | l | t | d
def Cont (K : PySem.W.Frag) (H : Hp) (a : Addr) : CK → Prop
  | .l => ∃ xs, SqL K H a xs
  | .t => ∃ xs, SqT K H a xs
  | .d => ∃ kvs, H a = some (.dK kvs)
def lkV (kb : List (Key × V)) (k : Key) : Option V := (kb.find? fun p => decide (p.1 = k)).map (·.2)
inductive VEq (K : PySem.W.Frag) (H : Hp) : Nat → V → V → Bool → Prop
  | flat {n : Nat} {x y : V} {b : Bool} : flEq x y = some b → VEq K H n x y b
  | fc {n : Nat} {x : V} {a : Addr} (k : CK) : flV x = true → Cont K H a k → VEq K H n x (.ref a) false
  | cf {n : Nat} {x : V} {a : Addr} (k : CK) : flV x = true → Cont K H a k → VEq K H n (.ref a) x false
  | cc {n : Nat} {a b : Addr} (k k' : CK) : k ≠ k' → Cont K H a k → Cont K H b k' → VEq K H n (.ref a) (.ref b) false
  | ll {n : Nat} {a b : Addr} {xs ys : List V} (e : Nat → Bool) : SqL K H a xs → SqL K H b ys → xs.length = ys.length → (∀ (j : Nat) (x y : V), xs[j]? = some x → ys[j]? = some y → VEq K H n x y (e j)) → VEq K H (n + 1) (.ref a) (.ref b) ((List.range xs.length).all e)
  | lx {n : Nat} {a b : Addr} {xs ys : List V} : SqL K H a xs → SqL K H b ys → xs.length ≠ ys.length → VEq K H (n + 1) (.ref a) (.ref b) false
  | tt {n : Nat} {a b : Addr} {xs ys : List V} (e : Nat → Bool) : SqT K H a xs → SqT K H b ys → xs.length = ys.length → (∀ (j : Nat) (x y : V), xs[j]? = some x → ys[j]? = some y → VEq K H n x y (e j)) → VEq K H (n + 1) (.ref a) (.ref b) ((List.range xs.length).all e)
  | dd {n : Nat} {a b : Addr} {ka kb : List (Key × V)} (e : Key → Bool) : H a = some (.dK ka) → H b = some (.dK kb) → (ka.map (·.1)).Nodup → (∀ (k : Key) (x y : V), (k, x) ∈ ka → lkV kb k = some y → VEq K H n x y (e k)) →
      VEq K H (n + 1) (.ref a) (.ref b) (ka.length == kb.length && ka.all fun p => (lkV kb p.1).isSome && e p.1)
section
variable {X : Cx} {pins : List (Addr × Obj)} {σ : RSt} {H : Hp} {s : Shared}
theorem flEq_same {x : V} {b : Bool} (h : flEq x x = some b) : b = true := by
  cases x with
  | non => cases h; rfl
  | bl a => cases h; simp
  | int a => cases h; simp
  | str a => cases h; simp
  | _ => cases h
theorem lkV_mem {kb : List (Key × V)} (nd : (kb.map (·.1)).Nodup) {k : Key} {v : V} (h : (k, v) ∈ kb) : lkV kb k = some v := by
  induction kb with
  | nil => cases h
  | cons p kb ih =>
    unfold lkV
    rw [List.find?_cons]
    have nd' := List.nodup_cons.mp nd
    rcases List.mem_cons.mp h with e | h
    · subst e; simp
    · have hne : p.1 ≠ k := fun z => nd'.1 (by show p.1 ∈ _; rw [z]; exact List.mem_map.mpr ⟨(k, v), h, rfl⟩)
      rw [show decide (p.1 = k) = false from decide_eq_false hne]
      exact ih nd'.2 h
theorem cont_one (I : Inv X pins σ H s) {a : Addr} {k k' : CK} (h : Cont X.K H a k) (h' : Cont X.K H a k') : k = k' := by
  have lt : ∀ {xs ys : List V}, SqL X.K H a xs → SqT X.K H a ys → False := fun {xs ys} h1 h2 => by
    obtain ⟨i1, _, p1, _⟩ := I.list h1
    obtain ⟨i2, _, p2, _⟩ := I.tuple h2
    exact SeqAt.ne_of_list_tuple p1.isList p2 rfl
  have dct : ∀ {kvs : List (Key × V)}, H a = some (.dK kvs) → SeqAt.IsDct s a := fun {kvs} h => by
    obtain ⟨_, _, va, _, da⟩ := (show ObjOk X.prog X.w H s.heap a (.dK kvs) from I.hok a _ h)
    obtain ⟨⟨c, d, dt, sl⟩, es, ep, ho, hc, hd, _⟩ := da
    have hc : c = .type "dict" := hc.1
    dsimp only at hd
    subst hc hd
    exact ⟨d, es, ep, sl, ho⟩
  have ld : ∀ {xs : List V} {kvs : List (Key × V)}, SqL X.K H a xs → H a = some (.dK kvs) → False := fun {xs kvs} h1 h2 => by
    obtain ⟨i1, _, p1, _⟩ := I.list h1
    exact SeqAt.ne_dict_list (dct h2) p1.isList rfl
  have td : ∀ {xs : List V} {kvs : List (Key × V)}, SqT X.K H a xs → H a = some (.dK kvs) → False := fun {xs kvs} h1 h2 => by
    obtain ⟨i1, _, p1, _⟩ := I.tuple h1
    exact SeqAt.ne_dict_tuple (dct h2) p1 rfl
  cases k <;> cases k' <;> first
    | rfl
    | exact (by obtain ⟨_, h⟩ := h; obtain ⟨_, h'⟩ := h'; exact (lt h h').elim)
    | exact (by obtain ⟨_, h⟩ := h; obtain ⟨_, h'⟩ := h'; exact (lt h' h).elim)
    | exact (by obtain ⟨_, h⟩ := h; obtain ⟨_, h'⟩ := h'; exact (ld h h').elim)
    | exact (by obtain ⟨_, h⟩ := h; obtain ⟨_, h'⟩ := h'; exact (ld h' h).elim)
    | exact (by obtain ⟨_, h⟩ := h; obtain ⟨_, h'⟩ := h'; exact (td h h').elim)
    | exact (by obtain ⟨_, h⟩ := h; obtain ⟨_, h'⟩ := h'; exact (td h' h).elim)
theorem veq_same (I : Inv X pins σ H s) {n : Nat} {x y : V} {b : Bool} (h : VEq X.K H n x y b) : x = y → b = true := by
  induction h with
  | flat h => intro e; subst e; exact flEq_same h
  | fc k hf hc => intro e; subst e; cases hf
  | cf k hf hc => intro e; subst e; cases hf
  | cc k k' hn h1 h2 => intro e; cases e; exact absurd (cont_one I h1 h2) hn
  | @ll n a b xs ys e h1 h2 hl _ ih =>
    intro q; cases q
    have := I.list_inj h1 h2
    subst this
    rw [List.all_eq_true]
    intro j hj
    have hj : j < xs.length := List.mem_range.mp hj
    exact ih j xs[j] xs[j] (List.getElem?_eq_getElem hj) (List.getElem?_eq_getElem hj) rfl
  | @lx n a b xs ys h1 h2 hl => intro q; cases q; exact absurd (congrArg List.length (I.list_inj h1 h2)) hl
  | @tt n a b xs ys e h1 h2 hl _ ih =>
    intro q; cases q
    have := I.tuple_inj h1 h2
    subst this
    rw [List.all_eq_true]
    intro j hj
    have hj : j < xs.length := List.mem_range.mp hj
    exact ih j xs[j] xs[j] (List.getElem?_eq_getElem hj) (List.getElem?_eq_getElem hj) rfl
  | @dd n a b ka kb e h1 h2 nd _ ih =>
    intro q; cases q
    rw [h1] at h2
    cases h2
    rw [beq_self_eq_true, Bool.true_and, List.all_eq_true]
    intro p hp
    have hk := lkV_mem nd (k := p.1) (v := p.2) hp
    rw [hk]
    exact (by simpa using ih p.1 p.2 p.2 hp hk rfl)
theorem kv_at : ∀ {kb : List (Key × V)} {vb : List (Key × Value)} {k : Key}, KV kb vb → (lkV kb k = none ∧ PySem.valueAt vb k = none) ∨ ∃ y u, lkV kb k = some y ∧ PySem.valueAt vb k = some u ∧ RelV y u
  | _, _, _, .nil => .inl ⟨rfl, rfl⟩
  | _, _, k, .cons (a := p) (b := q) (l₁ := kb) (l₂ := vb) h r => by
    by_cases e : p.1 = k
    · refine .inr ⟨p.2, q.2, ?_, ?_, h.2⟩
      · unfold lkV; rw [List.find?_cons, decide_eq_true e]; rfl
      · unfold PySem.valueAt; rw [List.find?_cons, decide_eq_true (h.1 ▸ e)]; rfl
    · have e' : q.1 ≠ k := fun z => e (h.1.trans z)
      have ih := kv_at (k := k) r
      have h1 : lkV (p :: kb) k = lkV kb k := by unfold lkV; rw [List.find?_cons, decide_eq_false e]
      have h2 : PySem.valueAt (q :: vb) k = PySem.valueAt vb k := by unfold PySem.valueAt; rw [List.find?_cons, decide_eq_false e']
      rw [h1, h2]
      exact ih
theorem flat_at {A : Around} : ∀ (x y : V) (v u : Value) (b : Bool), flEq x y = some b → RelV x v → RelV y u → SeqAt.EqAt A s v u b
  | .non, .non, _, _, _, h, rx, ry => by
    obtain rfl := rx
    obtain rfl := ry
    have h := Option.some.inj h
    subst h
    exact SeqAt.EqAt.same _
  | .non, .bl b, _, _, _, h, rx, ry => by
    obtain rfl := rx
    obtain rfl := ry
    have h := Option.some.inj h
    subst h
    exact SeqAt.EqAt.none_bool b
  | .non, .int b, _, _, _, h, rx, ry => by
    obtain rfl := rx
    obtain ⟨t2, rfl⟩ := ry
    have h := Option.some.inj h
    subst h
    exact SeqAt.EqAt.none_int b t2
  | .non, .str b, _, _, _, h, rx, ry => by
    obtain rfl := rx
    obtain ⟨t2, rfl⟩ := ry
    have h := Option.some.inj h
    subst h
    exact SeqAt.EqAt.none_str b t2
  | .bl a, .non, _, _, _, h, rx, ry => by
    obtain rfl := rx
    obtain rfl := ry
    have h := Option.some.inj h
    subst h
    exact SeqAt.EqAt.bool_none a
  | .bl a, .bl b, _, _, _, h, rx, ry => by
    obtain rfl := rx
    obtain rfl := ry
    have h := Option.some.inj h
    subst h
    exact SeqAt.EqAt.bool_bool a b
  | .bl a, .int b, _, _, _, h, rx, ry => by
    obtain rfl := rx
    obtain ⟨t2, rfl⟩ := ry
    have h := Option.some.inj h
    subst h
    exact SeqAt.EqAt.bool_int a b t2
  | .bl a, .str b, _, _, _, h, rx, ry => by
    obtain rfl := rx
    obtain ⟨t2, rfl⟩ := ry
    have h := Option.some.inj h
    subst h
    exact SeqAt.EqAt.bool_str a b t2
  | .int a, .non, _, _, _, h, rx, ry => by
    obtain ⟨t, rfl⟩ := rx
    obtain rfl := ry
    have h := Option.some.inj h
    subst h
    exact SeqAt.EqAt.int_none a t
  | .int a, .bl b, _, _, _, h, rx, ry => by
    obtain ⟨t, rfl⟩ := rx
    obtain rfl := ry
    have h := Option.some.inj h
    subst h
    exact SeqAt.EqAt.int_bool a t b
  | .int a, .int b, _, _, _, h, rx, ry => by
    obtain ⟨t, rfl⟩ := rx
    obtain ⟨t2, rfl⟩ := ry
    have h := Option.some.inj h
    subst h
    exact SeqAt.EqAt.int_int a t b t2
  | .int a, .str b, _, _, _, h, rx, ry => by
    obtain ⟨t, rfl⟩ := rx
    obtain ⟨t2, rfl⟩ := ry
    have h := Option.some.inj h
    subst h
    exact SeqAt.EqAt.int_str a t b t2
  | .str a, .non, _, _, _, h, rx, ry => by
    obtain ⟨t, rfl⟩ := rx
    obtain rfl := ry
    have h := Option.some.inj h
    subst h
    exact SeqAt.EqAt.str_none a t
  | .str a, .bl b, _, _, _, h, rx, ry => by
    obtain ⟨t, rfl⟩ := rx
    obtain rfl := ry
    have h := Option.some.inj h
    subst h
    exact SeqAt.EqAt.str_bool a t b
  | .str a, .int b, _, _, _, h, rx, ry => by
    obtain ⟨t, rfl⟩ := rx
    obtain ⟨t2, rfl⟩ := ry
    have h := Option.some.inj h
    subst h
    exact SeqAt.EqAt.str_int a t b t2
  | .str a, .str b, _, _, _, h, rx, ry => by
    obtain ⟨t, rfl⟩ := rx
    obtain ⟨t2, rfl⟩ := ry
    have h := Option.some.inj h
    subst h
    exact SeqAt.EqAt.str_str a t b t2
  | .flt _, _, _, _, _, h, _, _ => by cases h
  | .byt _, _, _, _, _, h, _, _ => by cases h
  | .ref _, _, _, _, _, h, _, _ => by cases h
  | .ty _, _, _, _, _, h, _, _ => by cases h
  | .non, .flt _, _, _, _, h, _, _ => by cases h
  | .non, .byt _, _, _, _, h, _, _ => by cases h
  | .non, .ref _, _, _, _, h, _, _ => by cases h
  | .non, .ty _, _, _, _, h, _, _ => by cases h
  | .bl _, .flt _, _, _, _, h, _, _ => by cases h
  | .bl _, .byt _, _, _, _, h, _, _ => by cases h
  | .bl _, .ref _, _, _, _, h, _, _ => by cases h
  | .bl _, .ty _, _, _, _, h, _, _ => by cases h
  | .int _, .flt _, _, _, _, h, _, _ => by cases h
  | .int _, .byt _, _, _, _, h, _, _ => by cases h
  | .int _, .ref _, _, _, _, h, _, _ => by cases h
  | .int _, .ty _, _, _, _, h, _, _ => by cases h
  | .str _, .flt _, _, _, _, h, _, _ => by cases h
  | .str _, .byt _, _, _, _, h, _, _ => by cases h
  | .str _, .ref _, _, _, _, h, _, _ => by cases h
  | .str _, .ty _, _, _, _, h, _, _ => by cases h
theorem flat_tree {n : Nat} {x y : V} {v u : Value} {b : Bool} (h : flEq x y = some b) (rx : RelV x v) (ry : RelV y u) : PySem.W.EqTree X.prog X.w s n v u b := .leaf fun A _ => flat_at x y v u b h rx ry
end
end DL
set_option autoImplicit false
set_option Elab.async false
set_option linter.all false
set_option maxRecDepth 100000
set_option maxHeartbeats 400000
namespace DL
open PySem L2 Evl PySem.Spec PyProof.Rows
section
variable {X : Cx} {pins : List (Addr × Obj)} {σ : RSt} {H : Hp} {s : Shared} {A : Around}
theorem dct_at (I : Inv X pins σ H s) {a : Addr} {kvs : List (Key × V)} (h : H a = some (.dK kvs)) : SeqAt.IsDct s a := by
  obtain ⟨_, _, va, _, da⟩ := (show ObjOk X.prog X.w H s.heap a (.dK kvs) from I.hok a _ h)
  obtain ⟨⟨c, d, dt, sl⟩, es, ep, ho, hc, hd, _⟩ := da
  have hc : c = .type "dict" := hc.1
  dsimp only at hd
  subst hc hd
  exact ⟨d, es, ep, sl, ho⟩
theorem fc_at (I : Inv X pins σ H s) (hu : A.units < cLine) {a : Addr} : ∀ (k : CK) (x : V) (v : Value), flV x = true → Cont X.K H a k → RelV x v → SeqAt.EqAt A s v (.ref a) false ∧ SeqAt.EqAt A s (.ref a) v false
  | .l, x, v, hf, hc, rx => by
    obtain ⟨xs, hc⟩ := hc
    obtain ⟨its, _, p, _⟩ := I.list hc
    cases x with
    | non => cases rx; exact ⟨.none_list p.isList hu, .list_none p.isList hu⟩
    | bl b => cases rx; exact ⟨.bool_list _ p.isList hu, .list_bool _ p.isList hu⟩
    | int i => obtain ⟨t, rfl⟩ := rx; exact ⟨.int_list _ _ p.isList hu, .list_int _ _ p.isList hu⟩
    | str i => obtain ⟨t, rfl⟩ := rx; exact ⟨.str_list _ _ p.isList hu, .list_str _ _ p.isList hu⟩
    | _ => cases hf
  | .t, x, v, hf, hc, rx => by
    obtain ⟨xs, hc⟩ := hc
    obtain ⟨its, _, p, _⟩ := I.tuple hc
    cases x with
    | non => cases rx; exact ⟨.none_tuple p hu, .tuple_none p hu⟩
    | bl b => cases rx; exact ⟨.bool_tuple _ p hu, .tuple_bool _ p hu⟩
    | int i => obtain ⟨t, rfl⟩ := rx; exact ⟨.int_tuple _ _ p hu, .tuple_int _ _ p hu⟩
    | str i => obtain ⟨t, rfl⟩ := rx; exact ⟨.str_tuple _ _ p hu, .tuple_str _ _ p hu⟩
    | _ => cases hf
  | .d, x, v, hf, hc, rx => by
    obtain ⟨xs, hc⟩ := hc
    have p := dct_at I hc
    cases x with
    | non => cases rx; exact ⟨.none_dict p hu, .dict_none p hu⟩
    | bl b => cases rx; exact ⟨.bool_dict _ p hu, .dict_bool _ p hu⟩
    | int i => obtain ⟨t, rfl⟩ := rx; exact ⟨.int_dict _ _ p hu, .dict_int _ _ p hu⟩
    | str i => obtain ⟨t, rfl⟩ := rx; exact ⟨.str_dict _ _ p hu, .dict_str _ _ p hu⟩
    | _ => cases hf
theorem cc_at (I : Inv X pins σ H s) (hu : A.units < cLine) {a b : Addr} : ∀ (k k' : CK), k ≠ k' → Cont X.K H a k → Cont X.K H b k' → SeqAt.EqAt A s (.ref a) (.ref b) false
  | .l, .t, _, ⟨_, h1⟩, ⟨_, h2⟩ => by obtain ⟨_, _, p, _⟩ := I.list h1; obtain ⟨_, _, q, _⟩ := I.tuple h2; exact .list_tuple p.isList q hu
  | .t, .l, _, ⟨_, h1⟩, ⟨_, h2⟩ => by obtain ⟨_, _, p, _⟩ := I.tuple h1; obtain ⟨_, _, q, _⟩ := I.list h2; exact .tuple_list p q.isList hu
  | .l, .d, _, ⟨_, h1⟩, ⟨_, h2⟩ => by obtain ⟨_, _, p, _⟩ := I.list h1; exact .list_dict (dct_at I h2) p.isList hu
  | .d, .l, _, ⟨_, h1⟩, ⟨_, h2⟩ => by obtain ⟨_, _, p, _⟩ := I.list h2; exact .dict_list (dct_at I h1) p.isList hu
  | .t, .d, _, ⟨_, h1⟩, ⟨_, h2⟩ => by obtain ⟨_, _, p, _⟩ := I.tuple h1; exact .tuple_dict (dct_at I h2) p hu
  | .d, .t, _, ⟨_, h1⟩, ⟨_, h2⟩ => by obtain ⟨_, _, p, _⟩ := I.tuple h2; exact .dict_tuple (dct_at I h1) p hu
  | .l, .l, h, _, _ => absurd rfl h
  | .t, .t, h, _, _ => absurd rfl h
  | .d, .d, h, _, _ => absurd rfl h
theorem vals_item {xs : List V} {us : List Value} (r : Vals xs us) {j : Nat} (h : j < us.toArray.size) : ∃ x, xs[j]? = some x ∧ RelV x us.toArray[j] := by
  have hj : j < xs.length := by rw [r.length]; simpa using h
  obtain ⟨u, hu, ru⟩ := r.get (List.getElem?_eq_getElem hj)
  refine ⟨xs[j], List.getElem?_eq_getElem hj, ?_⟩
  obtain ⟨h', e⟩ := List.getElem?_eq_some_iff.mp hu
  simp only [List.getElem_toArray]
  rw [e]
  exact ru
theorem kv_mem : ∀ {ka : List (Key × V)} {va : List (Key × Value)} {k : Key} {v : Value}, KV ka va → (k, v) ∈ va → ∃ p ∈ ka, p.1 = k ∧ RelV p.2 v
  | _, _, _, _, .nil, h => by cases h
  | _, _, k, v, .cons (a := p) h r, hm => by
    rcases List.mem_cons.mp hm with z | z
    · subst z; exact ⟨p, List.mem_cons_self, h.1, h.2⟩
    · obtain ⟨p', m1, m2⟩ := kv_mem r z
      exact ⟨p', List.mem_cons_of_mem _ m1, m2⟩
theorem kv_all {kb : List (Key × V)} {vb : List (Key × Value)} (rb : KV kb vb) (e : Key → Bool) : ∀ {ka : List (Key × V)} {va : List (Key × Value)}, KV ka va → (va.all fun p => (PySem.valueAt vb p.1).isSome && e p.1) = ka.all fun p => (lkV kb p.1).isSome && e p.1
  | _, _, .nil => rfl
  | _, _, .cons (a := p) (b := q) h r => by
    rw [List.all_cons, List.all_cons, kv_all rb e r, ← h.1]
    congr 2
    rcases kv_at (k := p.1) rb with ⟨z1, z2⟩ | ⟨_, _, z1, z2, _⟩ <;> rw [z1, z2] <;> rfl
theorem veq_tree (I : Inv X pins σ H s) {n : Nat} {x y : V} {b : Bool} (h : VEq X.K H n x y b) : ∀ v u, RelV x v → RelV y u → PySem.W.EqTree X.prog X.w s n v u b := by
  induction h with
  | flat h => exact fun v u rx ry => flat_tree h rx ry
  | fc k hf hc =>
    intro v u rx ry
    cases ry
    exact .leaf fun A hu => (fc_at I (by omega) k _ v hf hc rx).1
  | cf k hf hc =>
    intro v u rx ry
    cases rx
    exact .leaf fun A hu => (fc_at I (by omega) k _ u hf hc ry).2
  | cc k k' hn h1 h2 =>
    intro v u rx ry
    cases rx
    cases ry
    exact .leaf fun A hu => cc_at I (by omega) k k' hn h1 h2
  | @ll n a b xs ys e h1 h2 hl hh ih =>
    intro v u rx ry
    cases rx
    cases ry
    by_cases hab : a = b
    · rw [veq_same I (VEq.ll e h1 h2 hl hh) (by rw [hab]), hab]
      exact .same
    · obtain ⟨us, r1, p1, _⟩ := I.list h1
      obtain ⟨ws, r2, p2, _⟩ := I.list h2
      have e1 : us.toArray.size = xs.length := by rw [List.size_toArray, r1.length]
      rw [← e1]
      refine .lists hab p1.isList p2.isList (by rw [List.size_toArray, List.size_toArray, ← r1.length, ← r2.length]; exact hl) fun j g1 g2 => ?_
      obtain ⟨x, hx, rx⟩ := vals_item r1 g1
      obtain ⟨y, hy, ry⟩ := vals_item r2 g2
      exact ih j x y hx hy _ _ rx ry
  | @lx n a b xs ys h1 h2 hl =>
    intro v u rx ry
    cases rx
    cases ry
    obtain ⟨us, r1, p1, _⟩ := I.list h1
    obtain ⟨ws, r2, p2, _⟩ := I.list h2
    exact .listsLen (fun z => by subst z; exact hl (congrArg List.length (I.list_inj h1 h2))) p1.isList p2.isList (by rw [List.size_toArray, List.size_toArray, ← r1.length, ← r2.length]; simpa using hl)
  | @tt n a b xs ys e h1 h2 hl hh ih =>
    intro v u rx ry
    cases rx
    cases ry
    by_cases hab : a = b
    · rw [veq_same I (VEq.tt e h1 h2 hl hh) (by rw [hab]), hab]
      exact .same
    · obtain ⟨us, r1, p1, _⟩ := I.tuple h1
      obtain ⟨ws, r2, p2, _⟩ := I.tuple h2
      have e1 : us.toArray.size = xs.length := by rw [List.size_toArray, r1.length]
      have e2 : us.toArray.size = ws.toArray.size := by rw [List.size_toArray, List.size_toArray, ← r1.length, ← r2.length]; exact hl
      have t := PySem.W.EqTree.tuples (prog := X.prog) (w := X.w) (n := n) (e := e) hab p1 p2 fun j g1 g2 => by
        obtain ⟨x, hx, rx⟩ := vals_item r1 g1
        obtain ⟨y, hy, ry⟩ := vals_item r2 g2
        exact ih j x y hx hy _ _ rx ry
      rw [← e2, Nat.min_self, e1, beq_self_eq_true, Bool.and_true] at t
      exact t
  | @dd n a b ka kb e h1 h2 nd hh ih =>
    intro v u rx ry
    cases rx
    cases ry
    by_cases hab : a = b
    · rw [veq_same I (VEq.dd e h1 h2 nd hh) (by rw [hab]), hab]
      exact .same
    · obtain ⟨_, ya, va, ra, da⟩ := (show ObjOk X.prog X.w H s.heap a (.dK ka) from I.hok a _ h1)
      obtain ⟨_, yb, vb, rb, db⟩ := (show ObjOk X.prog X.w H s.heap b (.dK kb) from I.hok b _ h2)
      have t := PySem.W.EqTree.dicts (prog := X.prog) (w := X.w) (n := n) (e := e) hab ya yb da db fun k v y hm hv => by
        obtain ⟨p, hp, ep⟩ := kv_mem ra hm
        rcases kv_at (k := k) rb with ⟨_, z⟩ | ⟨y', u', z1, z2, z3⟩
        · rw [z] at hv; cases hv
        · rw [z2] at hv
          cases hv
          obtain ⟨rfl, rp⟩ := ep
          exact ih p.1 p.2 y' hp z1 _ _ rp z3
      have e1 : (va.length == vb.length && va.all fun p => (PySem.valueAt vb p.1).isSome && e p.1) = (ka.length == kb.length && ka.all fun p => (lkV kb p.1).isSome && e p.1) := by
        have l1 : ka.length = va.length := Paired.length ra
        have l2 : kb.length = vb.length := Paired.length rb
        rw [← l1, ← l2, kv_all rb e ra]
      rw [e1] at t
      exact t
end
end DL
set_option autoImplicit false
set_option Elab.async false
set_option linter.all false
set_option maxRecDepth 100000
set_option maxHeartbeats 1000000
namespace PySem.SeqAt
open MeetsSeq MeetsSeq2 MeetsSeq3 SeqRoads2
section
variable {prog : Program} {w : World}
abbrev LObj (vs : Array Value) (m : Nat) (q : Option Addr) (z : Array (Option Value)) : Obj := { cls := .type "list", dict := q, data := .seq vs m, slots := z }
/-- the rest of != of two lists, from i on -/
theorem neIn_from (a b : Addr) (u v : Array Value) (m1 m2 : Nat) (q1 q2 : Option Addr) (z1 z2 : Array (Option Value)) (same : u.size = v.size) (f : Nat → Bool) : ∀ (k i : Nat), u.size - i = k →
    MeetsIn prog w (Builtin.«list.__eq__.loop» ⟨[.ref a, .ref b, rawInt i, rawInt 3], []⟩) (fun A R s => s.heap.get? a = some (LObj u m1 q1 z1) ∧ s.heap.get? b = some (LObj v m2 q2 z2) ∧
      (∀ j (g1 : j < u.size) (g2 : j < v.size), EqIn prog w A.in1 s u[j] v[j] (f j)) ∧ R (.ok (.ret (.bool (!((List.range u.size).drop i).all f)))) s) := by
  intro k
  induction k with
  | zero =>
    rintro i hk A R ⟨hp, g, d, tk, os⟩ ⟨ga, gb, gi, r⟩
    have o1 : u[(((i : Nat) : Int)).toNat]? = none := by simp; omega
    have o2 : v[(((i : Nat) : Int)).toNat]? = none := by simp; omega
    rw [show (List.range u.size).drop i = [] from by simp; omega] at r
    wp_walk using AutoSeq1.wpAny_loadPart' ga, AutoSeq1.wpAny_loadPart' gb
    rw [o1, o2]
    wp_walk using AutoSeq1.wpAny_loadPart' ga, AutoSeq1.wpAny_loadPart' gb
    show R (.ok (.ret (.bool (u.size != v.size)))) _
    rw [same]
    simpa using r
  | succ k ih =>
    rintro i hk A R ⟨hp, g, d, tk, os⟩ ⟨ga, gb, gi, r⟩
    have l1 : i < u.size := by omega
    have l2 : i < v.size := by omega
    have o1 : u[(((i : Nat) : Int)).toNat]? = some u[i] := by simp [l1]
    have o2 : v[(((i : Nat) : Int)).toNat]? = some v[i] := by simp [l2]
    have nx : ((i : Int) + 1) = ((i + 1 : Nat) : Int) := by omega
    rw [show (List.range u.size).drop i = i :: (List.range u.size).drop (i + 1) from by simp [List.drop_eq_getElem_cons, l1], List.all_cons] at r
    wp_walk using AutoSeq1.wpAny_loadPart' ga, AutoSeq1.wpAny_loadPart' gb
    rw [o1, o2]
    refine wpAny_bind (gi i l1 l2 _ _ ?_)
    cases hf : f i with
    | true =>
      rw [hf] at r
      wp_walk
      rw [nx]
      refine ⟨plainId_quiet plain_eq_loop _, codeAny_builtin entry_eq_loop (Around.under_plainId plain_eq_loop _ ▸ ?_)⟩
      exact ih (i + 1) (by omega) A R _ ⟨ga, gb, gi, by simpa using r⟩
    | false =>
      rw [hf] at r
      wp_walk using AutoSeq1.wpAny_loadPart' ga, AutoSeq1.wpAny_loadPart' gb
      rw [o1, o2]
      wp_walk
      simpa using r
theorem neIn_list (a b : Addr) (u v : Array Value) (m1 m2 : Nat) (q1 q2 : Option Addr) (z1 z2 : Array (Option Value)) (same : u.size = v.size) (f : Nat → Bool) :
    MeetsIn prog w (Builtin.«list.__ne__» ⟨[.ref a, .ref b], []⟩) (fun A R s => s.heap.get? a = some (LObj u m1 q1 z1) ∧ s.heap.get? b = some (LObj v m2 q2 z2) ∧
      (∀ j (g1 : j < u.size) (g2 : j < v.size), EqIn prog w A.in1 s u[j] v[j] (f j)) ∧ R (.ok (.ret (.bool (!(List.range u.size).all f)))) s) := by
  rintro A R ⟨hp, g, d, tk, os⟩ ⟨ga, gb, gi, r⟩
  have sb := AutoSeq1.sub_list_list
  have hq : ¬ (u.size != v.size) = true := by simp [same]
  wp_walk using AutoSeq1.wpAny_loadPart' ga, AutoSeq1.wpAny_loadPart' gb
  refine ⟨plainId_quiet plain_eq_loop _, codeAny_builtin entry_eq_loop (Around.under_plainId plain_eq_loop _ ▸ ?_)⟩
  exact neIn_from a b u v m1 m2 q1 q2 z1 z2 same f _ 0 rfl A R _ ⟨ga, gb, gi, by simpa using r⟩
theorem rcNeIn {A : Around} {s : Shared} {E Q : Value → Shared → Prop} {a b : Addr} {u v : Array Value} {f : Nat → Bool} (ha : s.heap.IsList a u) (hb : s.heap.IsList b v) (same : u.size = v.size) (hu : A.units < cLine)
    (gi : ∀ j (g1 : j < u.size) (g2 : j < v.size), EqIn prog w A.in1 s u[j] v[j] (f j)) (r : Q (.bool (!(List.range u.size).all f)) s) : wpAny (model prog w) A (richCompare .NotEq (.ref a) (.ref b)) Q E s := by
  obtain ⟨⟨c1, q1, t1, z1⟩, o1, k1, m1, d1⟩ := id ha
  obtain ⟨⟨c2, q2, t2, z2⟩, o2, k2, m2, d2⟩ := id hb
  dsimp only at k1 d1 k2 d2
  subst k1 d1 k2 d2
  exact wpAny_richCompare_same_room (T := "list") (op := .NotEq) ⟨_, o1, rfl⟩ ⟨_, o2, rfl⟩ PySem.F.slot_list_ne (call_meetsIn PySem.F.slot_list_ne ⟨_, o1, rfl⟩ PySem.F.entry_list_ne (PySem.F.args_list_ne_2 _ _) (neIn_list a b u v m1 m2 q1 q2 z1 z2 same f)
    ⟨o1, o2, gi, (fun x => nomatch x), r⟩) hu
end
end PySem.SeqAt
set_option autoImplicit false
set_option Elab.async false
set_option linter.all false
set_option maxRecDepth 100000
set_option maxHeartbeats 400000
namespace DL
open PySem L2 Evl PySem.Spec PyProof.Rows
section
variable {X : Cx} {pins : List (Addr × Obj)} {σ : RSt} {H : Hp} {s : Shared} {A : Around}
theorem flat_rc {A : Around} : ∀ (x y : V) (v u : Value) (b : Bool), flEq x y = some b → RelV x v → RelV y u → SeqAt.RcAt A s v u b
  | .non, .non, _, _, _, h, rx, ry => by
    obtain rfl := rx
    obtain rfl := ry
    have h := Option.some.inj h
    subst h
    exact SeqAt.RcAt.none_none
  | .non, .bl b, _, _, _, h, rx, ry => by
    obtain rfl := rx
    obtain rfl := ry
    have h := Option.some.inj h
    subst h
    exact SeqAt.RcAt.none_bool b
  | .non, .int b, _, _, _, h, rx, ry => by
    obtain rfl := rx
    obtain ⟨t2, rfl⟩ := ry
    have h := Option.some.inj h
    subst h
    exact SeqAt.RcAt.none_int b t2
  | .non, .str b, _, _, _, h, rx, ry => by
    obtain rfl := rx
    obtain ⟨t2, rfl⟩ := ry
    have h := Option.some.inj h
    subst h
    exact SeqAt.RcAt.none_str b t2
  | .bl a, .non, _, _, _, h, rx, ry => by
    obtain rfl := rx
    obtain rfl := ry
    have h := Option.some.inj h
    subst h
    exact SeqAt.RcAt.bool_none a
  | .bl a, .bl b, _, _, _, h, rx, ry => by
    obtain rfl := rx
    obtain rfl := ry
    have h := Option.some.inj h
    subst h
    exact SeqAt.RcAt.bool_bool a b
  | .bl a, .int b, _, _, _, h, rx, ry => by
    obtain rfl := rx
    obtain ⟨t2, rfl⟩ := ry
    have h := Option.some.inj h
    subst h
    exact SeqAt.RcAt.bool_int a b t2
  | .bl a, .str b, _, _, _, h, rx, ry => by
    obtain rfl := rx
    obtain ⟨t2, rfl⟩ := ry
    have h := Option.some.inj h
    subst h
    exact SeqAt.RcAt.bool_str a b t2
  | .int a, .non, _, _, _, h, rx, ry => by
    obtain ⟨t, rfl⟩ := rx
    obtain rfl := ry
    have h := Option.some.inj h
    subst h
    exact SeqAt.RcAt.int_none a t
  | .int a, .bl b, _, _, _, h, rx, ry => by
    obtain ⟨t, rfl⟩ := rx
    obtain rfl := ry
    have h := Option.some.inj h
    subst h
    exact SeqAt.RcAt.int_bool a t b
  | .int a, .int b, _, _, _, h, rx, ry => by
    obtain ⟨t, rfl⟩ := rx
    obtain ⟨t2, rfl⟩ := ry
    have h := Option.some.inj h
    subst h
    exact SeqAt.RcAt.int_int a t b t2
  | .int a, .str b, _, _, _, h, rx, ry => by
    obtain ⟨t, rfl⟩ := rx
    obtain ⟨t2, rfl⟩ := ry
    have h := Option.some.inj h
    subst h
    exact SeqAt.RcAt.int_str a t b t2
  | .str a, .non, _, _, _, h, rx, ry => by
    obtain ⟨t, rfl⟩ := rx
    obtain rfl := ry
    have h := Option.some.inj h
    subst h
    exact SeqAt.RcAt.str_none a t
  | .str a, .bl b, _, _, _, h, rx, ry => by
    obtain ⟨t, rfl⟩ := rx
    obtain rfl := ry
    have h := Option.some.inj h
    subst h
    exact SeqAt.RcAt.str_bool a t b
  | .str a, .int b, _, _, _, h, rx, ry => by
    obtain ⟨t, rfl⟩ := rx
    obtain ⟨t2, rfl⟩ := ry
    have h := Option.some.inj h
    subst h
    exact SeqAt.RcAt.str_int a t b t2
  | .str a, .str b, _, _, _, h, rx, ry => by
    obtain ⟨t, rfl⟩ := rx
    obtain ⟨t2, rfl⟩ := ry
    have h := Option.some.inj h
    subst h
    exact SeqAt.RcAt.str_str a t b t2
  | .flt _, _, _, _, _, h, _, _ => by cases h
  | .byt _, _, _, _, _, h, _, _ => by cases h
  | .ref _, _, _, _, _, h, _, _ => by cases h
  | .ty _, _, _, _, _, h, _, _ => by cases h
  | .non, .flt _, _, _, _, h, _, _ => by cases h
  | .non, .byt _, _, _, _, h, _, _ => by cases h
  | .non, .ref _, _, _, _, h, _, _ => by cases h
  | .non, .ty _, _, _, _, h, _, _ => by cases h
  | .bl _, .flt _, _, _, _, h, _, _ => by cases h
  | .bl _, .byt _, _, _, _, h, _, _ => by cases h
  | .bl _, .ref _, _, _, _, h, _, _ => by cases h
  | .bl _, .ty _, _, _, _, h, _, _ => by cases h
  | .int _, .flt _, _, _, _, h, _, _ => by cases h
  | .int _, .byt _, _, _, _, h, _, _ => by cases h
  | .int _, .ref _, _, _, _, h, _, _ => by cases h
  | .int _, .ty _, _, _, _, h, _, _ => by cases h
  | .str _, .flt _, _, _, _, h, _, _ => by cases h
  | .str _, .byt _, _, _, _, h, _, _ => by cases h
  | .str _, .ref _, _, _, _, h, _, _ => by cases h
  | .str _, .ty _, _, _, _, h, _, _ => by cases h
theorem fc_rc (I : Inv X pins σ H s) (hu : A.units < cLine) {a : Addr} : ∀ (k : CK) (x : V) (v : Value), flV x = true → Cont X.K H a k → RelV x v → SeqAt.RcAt A s v (.ref a) false ∧ SeqAt.RcAt A s (.ref a) v false
  | .l, x, v, hf, hc, rx => by
    obtain ⟨xs, hc⟩ := hc
    obtain ⟨its, _, p, _⟩ := I.list hc
    cases x with
    | non => cases rx; exact ⟨.none_list p.isList hu, .list_none p.isList hu⟩
    | bl b => cases rx; exact ⟨.bool_list _ p.isList hu, .list_bool _ p.isList hu⟩
    | int i => obtain ⟨t, rfl⟩ := rx; exact ⟨.int_list _ _ p.isList hu, .list_int _ _ p.isList hu⟩
    | str i => obtain ⟨t, rfl⟩ := rx; exact ⟨.str_list _ _ p.isList hu, .list_str _ _ p.isList hu⟩
    | _ => cases hf
  | .t, x, v, hf, hc, rx => by
    obtain ⟨xs, hc⟩ := hc
    obtain ⟨its, _, p, _⟩ := I.tuple hc
    cases x with
    | non => cases rx; exact ⟨.none_tuple p hu, .tuple_none p hu⟩
    | bl b => cases rx; exact ⟨.bool_tuple _ p hu, .tuple_bool _ p hu⟩
    | int i => obtain ⟨t, rfl⟩ := rx; exact ⟨.int_tuple _ _ p hu, .tuple_int _ _ p hu⟩
    | str i => obtain ⟨t, rfl⟩ := rx; exact ⟨.str_tuple _ _ p hu, .tuple_str _ _ p hu⟩
    | _ => cases hf
  | .d, x, v, hf, hc, rx => by
    obtain ⟨xs, hc⟩ := hc
    have p := dct_at I hc
    cases x with
    | non => cases rx; exact ⟨.none_dict p hu, .dict_none p hu⟩
    | bl b => cases rx; exact ⟨.bool_dict _ p hu, .dict_bool _ p hu⟩
    | int i => obtain ⟨t, rfl⟩ := rx; exact ⟨.int_dict _ _ p hu, .dict_int _ _ p hu⟩
    | str i => obtain ⟨t, rfl⟩ := rx; exact ⟨.str_dict _ _ p hu, .dict_str _ _ p hu⟩
    | _ => cases hf
theorem cc_rc (I : Inv X pins σ H s) (hu : A.units < cLine) {a b : Addr} : ∀ (k k' : CK), k ≠ k' → Cont X.K H a k → Cont X.K H b k' → SeqAt.RcAt A s (.ref a) (.ref b) false
  | .l, .t, _, ⟨_, h1⟩, ⟨_, h2⟩ => by obtain ⟨_, _, p, _⟩ := I.list h1; obtain ⟨_, _, q, _⟩ := I.tuple h2; exact .list_tuple p.isList q hu
  | .t, .l, _, ⟨_, h1⟩, ⟨_, h2⟩ => by obtain ⟨_, _, p, _⟩ := I.tuple h1; obtain ⟨_, _, q, _⟩ := I.list h2; exact .tuple_list p q.isList hu
  | .l, .d, _, ⟨_, h1⟩, ⟨_, h2⟩ => by obtain ⟨_, _, p, _⟩ := I.list h1; exact .list_dict (dct_at I h2) p.isList hu
  | .d, .l, _, ⟨_, h1⟩, ⟨_, h2⟩ => by obtain ⟨_, _, p, _⟩ := I.list h2; exact .dict_list (dct_at I h1) p.isList hu
  | .t, .d, _, ⟨_, h1⟩, ⟨_, h2⟩ => by obtain ⟨_, _, p, _⟩ := I.tuple h1; exact .tuple_dict (dct_at I h2) p hu
  | .d, .t, _, ⟨_, h1⟩, ⟨_, h2⟩ => by obtain ⟨_, _, p, _⟩ := I.tuple h2; exact .dict_tuple (dct_at I h1) p hu
  | .l, .l, h, _, _ => absurd rfl h
  | .t, .t, h, _, _ => absurd rfl h
  | .d, .d, h, _, _ => absurd rfl h
theorem veq_rc (I : Inv X pins σ H s) {n : Nat} {x y : V} {b : Bool} (h : VEq X.K H n x y b) {v u : Value} (rx : RelV x v) (ry : RelV y u) (hu : A.units + (n + 1) < cLine) {E Q : Value → Shared → Prop} (q : Q (.bool b) s) :
    wpAny (model X.prog X.w) A (richCompare .Eq v u) Q E s := by
  have h0 : A.units < cLine := by omega
  cases h with
  | flat h => exact flat_rc x y v u b h rx ry _ _ _ _ q
  | fc k hf hc => cases ry; exact (fc_rc I h0 k _ v hf hc rx).1 _ _ _ _ q
  | cf k hf hc => cases rx; exact (fc_rc I h0 k _ u hf hc ry).2 _ _ _ _ q
  | cc k k' hn h1 h2 => cases rx; cases ry; exact cc_rc I h0 k k' hn h1 h2 _ _ _ _ q
  | @ll n a b xs ys e h1 h2 hl hh =>
    cases rx
    cases ry
    obtain ⟨us, r1, p1, _⟩ := I.list h1
    obtain ⟨ws, r2, p2, _⟩ := I.list h2
    have e1 : us.toArray.size = xs.length := by rw [List.size_toArray, r1.length]
    refine SeqAt.rcIn_lists (e := e) p1.isList p2.isList (by rw [List.size_toArray, List.size_toArray, ← r1.length, ← r2.length]; exact hl) h0 (fun j g1 g2 => ?_) (by rw [e1]; exact q)
    obtain ⟨x, hx, rx⟩ := vals_item r1 g1
    obtain ⟨y, hy, ry⟩ := vals_item r2 g2
    exact (veq_tree I (hh j x y hx hy) _ _ rx ry).at A.in1 (by show A.units + 1 + n < cLine; omega)
  | @lx n a b xs ys h1 h2 hl =>
    cases rx
    cases ry
    obtain ⟨us, r1, p1, _⟩ := I.list h1
    obtain ⟨ws, r2, p2, _⟩ := I.list h2
    exact SeqAt.RcAt.lists_lengths p1.isList p2.isList (by rw [List.size_toArray, List.size_toArray, ← r1.length, ← r2.length]; simpa using hl) h0 _ _ _ _ q
  | @tt n a b xs ys e h1 h2 hl hh =>
    cases rx
    cases ry
    obtain ⟨us, r1, p1, _⟩ := I.tuple h1
    obtain ⟨ws, r2, p2, _⟩ := I.tuple h2
    have e1 : us.toArray.size = xs.length := by rw [List.size_toArray, r1.length]
    have e2 : us.toArray.size = ws.toArray.size := by rw [List.size_toArray, List.size_toArray, ← r1.length, ← r2.length]; exact hl
    refine SeqAt.rcIn_tuples (e := e) p1 p2 h0 (fun j g1 g2 => ?_) (by rw [← e2, Nat.min_self, e1, beq_self_eq_true, Bool.and_true]; exact q)
    obtain ⟨x, hx, rx⟩ := vals_item r1 g1
    obtain ⟨y, hy, ry⟩ := vals_item r2 g2
    exact (veq_tree I (hh j x y hx hy) _ _ rx ry).at A.in1 (by show A.units + 1 + n < cLine; omega)
  | @dd n a b ka kb e h1 h2 nd hh =>
    cases rx
    cases ry
    obtain ⟨_, ya, va, ra, da⟩ := (show ObjOk X.prog X.w H s.heap a (.dK ka) from I.hok a _ h1)
    obtain ⟨_, yb, vb, rb, db⟩ := (show ObjOk X.prog X.w H s.heap b (.dK kb) from I.hok b _ h2)
    have l1 : ka.length = va.length := Paired.length ra
    have l2 : kb.length = vb.length := Paired.length rb
    refine PySem.W.eq_dictsT (e := e) (n := n) ya yb da db (fun k v y hm hv => ?_) (by omega) (by rw [← l1, ← l2, kv_all rb e ra]; exact q)
    obtain ⟨p, hp, ep⟩ := kv_mem ra hm
    rcases kv_at (k := k) rb with ⟨_, z⟩ | ⟨y', u', z1, z2, z3⟩
    · rw [z] at hv; cases hv
    · rw [z2] at hv
      cases hv
      obtain ⟨rfl, rp⟩ := ep
      exact veq_tree I (hh p.1 p.2 y' hp z1) _ _ rp z3
/-- == of anything, != of two lists of one length -/
def rEqX (K : PySem.W.Frag) : R2 := fun x y H Q => ∃ n b, n ≤ 60 ∧ VEq K H n x y b ∧ Q (.bl b) H
def rNeX (K : PySem.W.Frag) : R2 := fun x y H Q => ∃ (n : Nat) (a b : Addr) (xs ys : List V) (e : Nat → Bool), n ≤ 60 ∧ x = .ref a ∧ y = .ref b ∧ SqL K H a xs ∧ SqL K H b ys ∧ xs.length = ys.length ∧ (∀ (j : Nat) (x y : V), xs[j]? = some x → ys[j]? = some y → VEq K H n x y (e j)) ∧ Q (.bl (!(List.range xs.length).all e)) H
theorem op_eqX (hu : X.A.units + 64 < cLine) : OpR X (compareOp .Eq) (rEqX X.K) := by
  intro pins s σ H x y v u Q I rx ry h
  obtain ⟨n, b, hn, h, q⟩ := h
  exact veq_rc I h rx ry (by omega) ⟨V.bl b, H, I, rfl, q⟩
theorem op_neX (hu : X.A.units + 64 < cLine) : OpR X (compareOp .NotEq) (rNeX X.K) := by
  intro pins s σ H x y v u Q I rx ry h
  obtain ⟨n, a, b, xs, ys, e, hn, rfl, rfl, h1, h2, hl, hh, q⟩ := h
  cases rx
  cases ry
  obtain ⟨us, r1, p1, _⟩ := I.list h1
  obtain ⟨ws, r2, p2, _⟩ := I.list h2
  have e1 : us.toArray.size = xs.length := by rw [List.size_toArray, r1.length]
  show wpAny (model X.prog X.w) X.A (richCompare .NotEq (.ref a) (.ref b)) (EP X pins σ Q) X.xe s
  refine SeqAt.rcNeIn (f := e) p1.isList p2.isList (by rw [List.size_toArray, List.size_toArray, ← r1.length, ← r2.length]; exact hl) (by omega) (fun j g1 g2 => ?_) (by rw [e1]; exact ⟨V.bl _, H, I, rfl, q⟩)
  obtain ⟨x, hx, rx⟩ := vals_item r1 g1
  obtain ⟨y, hy, ry⟩ := vals_item r2 g2
  exact (veq_tree I (hh j x y hx hy) _ _ rx ry).at X.A.in1 (by show X.A.units + 1 + n < cLine; omega)
end
/-! ### as data -/
inductive Sh where
  | f (x : V) | l (xs : List D) | t (xs : List D) | d (kvs : List (Key × D))
def D.sh : D → Option Sh
  | .non => some (.f .non)
  | .bl b => some (.f (.bl b))
  | .int i => some (.f (.int i))
  | .str x => some (.f (.str x))
  | .lst xs => some (.l xs)
  | .tup xs => some (.t xs)
  | .dct xs => some (.d xs)
  | _ => none
def D.eqs (f : D → D → Option Bool) : List D → List D → Option (List Bool)
  | [], [] => some []
  | x :: xs, y :: ys => (f x y).bind fun b => (D.eqs f xs ys).map fun r => b :: r
  | _, _ => none
def eqKD (f : D → D → Option Bool) : List (Key × D) → List (Key × D) → Option Bool
  | [], ys => some (ys.length == 0)
  | [_], [] => some false
  | [(k, v)], [(k', v')] => if k = k' then f v v' else none
  | _, _ => none
def eqS (f : D → D → Option Bool) : Sh → Sh → Option Bool
  | .f x, .f y => flEq x y
  | .l xs, .l ys => if xs.length = ys.length then (D.eqs f xs ys).map fun r => r.all id else some false
  | .t xs, .t ys => if xs.length = ys.length then (D.eqs f xs ys).map fun r => r.all id else none
  | .d xs, .d ys => eqKD f xs ys
  | _, _ => some false
def D.eqX : Nat → D → D → Option Bool
  | 0, _, _ => none
  | n + 1, a, b => a.sh.bind fun p => b.sh.bind fun q => eqS (D.eqX n) p q
section
variable {K : PySem.W.Frag} {G H : Hp}
/-- what v is, where its data has the shape p -/
def ShR (K : PySem.W.Frag) (G H : Hp) (v : V) : Sh → Prop
  | .f x => v = x ∧ flV x = true
  | .l xs => ∃ p vs, v = .ref p ∧ SqL K H p vs ∧ Reps K G vs xs
  | .t xs => ∃ p vs, v = .ref p ∧ SqT K H p vs ∧ Reps K G vs xs
  | .d xs => ∃ p vs, v = .ref p ∧ H p = some (.dK vs) ∧ RepK K G vs xs
theorem sh_of (e : Ex G H) {v : V} {a : D} {p : Sh} (r : RepT K G H v a) (h : a.sh = some p) : ShR K G H v p := by
  cases a with
  | non => cases h; exact ⟨r.non, rfl⟩
  | bl b => cases h; exact ⟨r.bl, rfl⟩
  | int b => cases h; exact ⟨r.int, rfl⟩
  | str b => cases h; exact ⟨r.str, rfl⟩
  | lst xs => cases h; exact r.lst e
  | tup xs => cases h; exact r.tup e
  | dct xs => cases h; exact r.dct e
  | _ => cases h
theorem eqs_at {f : D → D → Option Bool} : ∀ {xs ys : List D} {r : List Bool}, D.eqs f xs ys = some r → r.length = xs.length ∧ ∀ (j : Nat) (x y : D), xs[j]? = some x → ys[j]? = some y → ∃ b, r[j]? = some b ∧ f x y = some b
  | [], [], _, h => by cases h; exact ⟨rfl, fun j x y h => by simp at h⟩
  | x :: xs, y :: ys, r, h => by
    have h : (f x y).bind (fun b => (D.eqs f xs ys).map fun r => b :: r) = some r := h
    cases q : f x y with
    | none => rw [q] at h; cases h
    | some b =>
      rw [q] at h
      cases q2 : D.eqs f xs ys with
      | none => rw [q2] at h; cases h
      | some t =>
        rw [q2] at h
        cases h
        obtain ⟨h1, h2⟩ := eqs_at q2
        refine ⟨by rw [List.length_cons, List.length_cons, h1], fun j u v hu hv => ?_⟩
        cases j with
        | zero => simp at hu hv; subst hu hv; exact ⟨b, rfl, q⟩
        | succ j => exact h2 j u v (by simpa using hu) (by simpa using hv)
  | [], _ :: _, _, h => by cases h
  | _ :: _, [], _, h => by cases h
theorem all_id (r : List Bool) : r.all id = (List.range r.length).all fun j => (r[j]?).getD false := by
  induction r with
  | nil => rfl
  | cons b r ih => rw [List.length_cons, List.range_succ_eq_map, List.all_cons, List.all_cons, List.all_map, ih]; rfl
theorem reps_at {vs : List V} {ds : List D} {j : Nat} {v : V} (r : Reps K G vs ds) (h : vs[j]? = some v) : ∃ d, ds[j]? = some d ∧ Rep K G v d := by
  cases q : ds[j]? with
  | none => rw [r.none_of q] at h; cases h
  | some d =>
    obtain ⟨w, h1, h2⟩ := r.get q
    rw [h] at h1
    cases h1
    exact ⟨d, rfl, h2⟩
theorem eqX_veq (e : Ex G H) : ∀ (n : Nat) (a b : D) (v u : V) (r : Bool), RepT K G H v a → RepT K G H u b → D.eqX n a b = some r → VEq K H n v u r
  | 0, _, _, _, _, _, _, _, h => by cases h
  | n + 1, a, b, v, u, r, ra, rb, h => by
    have h : (a.sh.bind fun p => b.sh.bind fun q => eqS (D.eqX n) p q) = some r := h
    cases qa : a.sh with
    | none => rw [qa] at h; cases h
    | some p =>
      cases qb : b.sh with
      | none => rw [qa, qb] at h; cases h
      | some q =>
        rw [qa, qb] at h
        have h : eqS (D.eqX n) p q = some r := h
        have sa := sh_of e ra qa
        have sb := sh_of e rb qb
        have items : ∀ {vs us : List V} {xs ys : List D} {l : List Bool}, Reps K G vs xs → Reps K G us ys → D.eqs (D.eqX n) xs ys = some l → ∀ (j : Nat) (x y : V), vs[j]? = some x → us[j]? = some y → VEq K H n x y ((l[j]?).getD false) := fun {vs us xs ys l} r1 r2 hl j x y hx hy => by
          obtain ⟨dx, ex, rx⟩ := reps_at r1 hx
          obtain ⟨dy, ey, ry⟩ := reps_at r2 hy
          obtain ⟨b, eb, hb⟩ := (eqs_at hl).2 j dx dy ex ey
          rw [eb]
          exact eqX_veq e n dx dy x y b (.inl rx) (.inl ry) hb
        match p, q, h, sa, sb with
        | .f x, .f y, h, ⟨e1, _⟩, ⟨e2, _⟩ => subst e1 e2; exact .flat h
        | .f x, .l ys, h, ⟨e1, f1⟩, ⟨p, vs, e2, h2, _⟩ => subst e1 e2; cases h; exact .fc .l f1 ⟨_, h2⟩
        | .f x, .t ys, h, ⟨e1, f1⟩, ⟨p, vs, e2, h2, _⟩ => subst e1 e2; cases h; exact .fc .t f1 ⟨_, h2⟩
        | .f x, .d ys, h, ⟨e1, f1⟩, ⟨p, vs, e2, h2, _⟩ => subst e1 e2; cases h; exact .fc .d f1 ⟨_, h2⟩
        | .l xs, .f y, h, ⟨p, vs, e2, h2, _⟩, ⟨e1, f1⟩ => subst e1 e2; cases h; exact .cf .l f1 ⟨_, h2⟩
        | .t xs, .f y, h, ⟨p, vs, e2, h2, _⟩, ⟨e1, f1⟩ => subst e1 e2; cases h; exact .cf .t f1 ⟨_, h2⟩
        | .d xs, .f y, h, ⟨p, vs, e2, h2, _⟩, ⟨e1, f1⟩ => subst e1 e2; cases h; exact .cf .d f1 ⟨_, h2⟩
        | .l xs, .t ys, h, ⟨p, vs, e1, h1, _⟩, ⟨p', vs', e2, h2, _⟩ => subst e1 e2; cases h; exact .cc .l .t nofun ⟨_, h1⟩ ⟨_, h2⟩
        | .t xs, .l ys, h, ⟨p, vs, e1, h1, _⟩, ⟨p', vs', e2, h2, _⟩ => subst e1 e2; cases h; exact .cc .t .l nofun ⟨_, h1⟩ ⟨_, h2⟩
        | .l xs, .d ys, h, ⟨p, vs, e1, h1, _⟩, ⟨p', vs', e2, h2, _⟩ => subst e1 e2; cases h; exact .cc .l .d nofun ⟨_, h1⟩ ⟨_, h2⟩
        | .d xs, .l ys, h, ⟨p, vs, e1, h1, _⟩, ⟨p', vs', e2, h2, _⟩ => subst e1 e2; cases h; exact .cc .d .l nofun ⟨_, h1⟩ ⟨_, h2⟩
        | .t xs, .d ys, h, ⟨p, vs, e1, h1, _⟩, ⟨p', vs', e2, h2, _⟩ => subst e1 e2; cases h; exact .cc .t .d nofun ⟨_, h1⟩ ⟨_, h2⟩
        | .d xs, .t ys, h, ⟨p, vs, e1, h1, _⟩, ⟨p', vs', e2, h2, _⟩ => subst e1 e2; cases h; exact .cc .d .t nofun ⟨_, h1⟩ ⟨_, h2⟩
        | .l xs, .l ys, h, ⟨p, vs, e1, h1, r1⟩, ⟨p', us, e2, h2, r2⟩ =>
          subst e1 e2
          have h : (if xs.length = ys.length then (D.eqs (D.eqX n) xs ys).map (fun r => r.all id) else some false) = some r := h
          by_cases hl : xs.length = ys.length
          · rw [if_pos hl] at h
            cases q : D.eqs (D.eqX n) xs ys with
            | none => rw [q] at h; cases h
            | some l =>
              rw [q] at h
              cases h
              show VEq K H (n + 1) _ _ (l.all id)
              rw [all_id, (eqs_at q).1, ← r1.length]
              exact .ll _ h1 h2 (by rw [r1.length, r2.length, hl]) (items r1 r2 q)
          · rw [if_neg hl] at h
            cases h
            exact .lx h1 h2 (by rw [r1.length, r2.length]; exact hl)
        | .t xs, .t ys, h, ⟨p, vs, e1, h1, r1⟩, ⟨p', us, e2, h2, r2⟩ =>
          subst e1 e2
          have h : (if xs.length = ys.length then (D.eqs (D.eqX n) xs ys).map (fun r => r.all id) else none) = some r := h
          by_cases hl : xs.length = ys.length
          · rw [if_pos hl] at h
            cases q : D.eqs (D.eqX n) xs ys with
            | none => rw [q] at h; cases h
            | some l =>
              rw [q] at h
              cases h
              show VEq K H (n + 1) _ _ (l.all id)
              rw [all_id, (eqs_at q).1, ← r1.length]
              exact .tt _ h1 h2 (by rw [r1.length, r2.length, hl]) (items r1 r2 q)
          · rw [if_neg hl] at h
            cases h
        | .d xs, .d ys, h, ⟨p, vs, e1, h1, r1⟩, ⟨p', us, e2, h2, r2⟩ =>
          subst e1 e2
          cases r1 with
          | nil =>
            have h : some (ys.length == 0) = some r := h
            have h := Option.some.inj h
            have l2 : us.length = ys.length := by
              clear h h2 sb rb
              have : ∀ {a : List (Key × V)} {b : List (Key × D)}, RepK K G a b → a.length = b.length := fun {a b} x => by
                induction b generalizing a with
                | nil => cases x; rfl
                | cons _ _ ih => cases x with | cons _ t => rw [List.length_cons, List.length_cons, ih t]
              exact this r2
            have t := VEq.dd (K := K) (H := H) (n := n) (fun _ => true) h1 h2 (by simp) (fun k x y hm => by cases hm)
            rw [← h, ← l2]
            have e0 : (([] : List (Key × V)).length == us.length && ([] : List (Key × V)).all fun p => (lkV us p.1).isSome && true) = (us.length == 0) := by
              cases us <;> rfl
            rw [e0] at t
            exact t
          | @cons k v1 d1 vs1 xs1 r1 rr1 =>
            cases rr1 with
            | cons _ _ => cases r2 <;> first | cases h | (rename_i rr; cases rr <;> cases h)
            | nil =>
              cases r2 with
              | nil =>
                have h : some false = some r := h
                cases h
                have t := VEq.dd (K := K) (H := H) (n := n) (fun _ => true) h1 h2 (by simp) (fun k x y _ hl => by cases hl)
                exact t
              | @cons k' v2 d2 vs2 xs2 r2 rr2 =>
                cases rr2 with
                | cons _ _ => cases h
                | nil =>
                  have h : (if k = k' then D.eqX n d1 d2 else none) = some r := h
                  by_cases hk : k = k'
                  · subst hk
                    rw [if_pos rfl] at h
                    have hv := eqX_veq e n d1 d2 v1 v2 r (.inl r1) (.inl r2) h
                    have t := VEq.dd (K := K) (H := H) (n := n) (fun _ => r) h1 h2 (by simp) (fun k2 x y hm hl => by
                      have hm : (k2, x) = (k, v1) := by simpa using hm
                      cases hm
                      have hl : lkV [(k, v2)] k = some y := hl
                      rw [lkV_mem (by simp) (List.mem_singleton.mpr rfl)] at hl
                      cases hl
                      exact hv)
                    have e0 : (([(k, v1)] : List (Key × V)).length == ([(k, v2)] : List (Key × V)).length && ([(k, v1)] : List (Key × V)).all fun p => (lkV [(k, v2)] p.1).isSome && r) = r := by
                      simp [lkV]
                    rw [e0] at t
                    exact t
                  · rw [if_neg hk] at h
                    cases h
def D.eqD (a b : D) : Option D := (D.eqX 8 a b).map .bl
def D.neD (a b : D) : Option D := match a, b with
  | .lst xs, .lst ys => if xs.length = ys.length then (D.eqs (D.eqX 8) xs ys).map fun r => .bl (!(r.all id)) else none
  | _, _ => none
theorem sr_eqX : SR K (rEqX K) D.eqD := fun G H x y dx dy z Q e rx ry q k => by
  unfold D.eqD at q
  cases qc : D.eqX 8 dx dy with
  | none => rw [qc] at q; cases q
  | some c =>
    rw [qc] at q
    cases q
    exact ⟨8, c, by decide, eqX_veq e 8 dx dy x y c rx ry qc, k G H _ (Al.refl e) (.bl _)⟩
theorem sr_neX : SR K (rNeX K) D.neD := fun G H x y dx dy z Q e rx ry q k => by
  cases dx with
  | lst xs =>
    cases dy with
    | lst ys =>
      have q : (if xs.length = ys.length then (D.eqs (D.eqX 8) xs ys).map (fun r => D.bl (!(r.all id))) else none) = some z := q
      by_cases hl : xs.length = ys.length
      · rw [if_pos hl] at q
        cases qc : D.eqs (D.eqX 8) xs ys with
        | none => rw [qc] at q; cases q
        | some l =>
          rw [qc] at q
          cases q
          obtain ⟨a, vs, rfl, h1, r1⟩ := rx.lst e
          obtain ⟨b, us, rfl, h2, r2⟩ := ry.lst e
          refine ⟨8, a, b, vs, us, fun j => (l[j]?).getD false, by decide, rfl, rfl, h1, h2, by rw [r1.length, r2.length, hl], fun j x y hx hy => ?_, ?_⟩
          · obtain ⟨dx, ex, rx⟩ := reps_at r1 hx
            obtain ⟨dy, ey, ry⟩ := reps_at r2 hy
            obtain ⟨b, eb, hb⟩ := (eqs_at qc).2 j dx dy ex ey
            show VEq K H 8 x y ((l[j]?).getD false)
            rw [eb]
            exact eqX_veq e 8 dx dy x y b (.inl rx) (.inl ry) hb
          · have e1 : (List.range vs.length).all (fun j => (l[j]?).getD false) = l.all id := by rw [all_id, (eqs_at qc).1, ← r1.length]
            rw [e1]
            exact k G H _ (Al.refl e) (.bl _)
      · rw [if_neg hl] at q; cases q
    | _ => cases q
  | _ => cases dy <;> cases q
end
end DL
set_option autoImplicit false
set_option Elab.async false
set_option linter.all false
set_option maxRecDepth 100000
set_option maxHeartbeats 400000
namespace DL
open PySem L2 Evl
/-! ### {'k': e} -/
def dDisp1 (k : Str) (de : DE) : DF := fun ρ q er => de ρ (fun t ρ1 => match t with
  | .val d => q (.dct [(.inr k, d)]) ρ1
  | _ => False) er
section
variable {K : PySem.W.Frag} {pa : PaG} {W : WX} {tv : TE} {dv : DE}
theorem sf_disp1 {k : Str} (hv : SE K pa W tv dv) : SF K pa W (tDisp [(tC (.str k), tv)]) (dDisp1 k dv) := fun F G σ H ρ Q q er S h kk x p hp => by
  have gp : G p = none := fresh_back S.ex hp
  have fp : F p = none := fresh_back S.fx hp
  have S2 := (S.new (o := .dK []) hp).frameIn gp upd_same noCode_dK (fresh_no S hp)
  have ff : Ex F (upd F p (.dK [])) := Ex.new fp
  refine hv (upd F p (.dK [])) G σ _ ρ _ _ er S2 h (fun G' H' y t ρ' e S' r q' => ?_) (fun G' H' ρ' C d vs fs e S' h0 h1 h2 => x G' H' ρ' C d vs fs e (S'.frame ff) h0 h1 h2)
  cases t with
  | bor i => exact q'.elim
  | val d =>
    have h1 : H' p = some (.dK []) := S'.fx p _ upd_same
    have g1 : G' p = none := S'.dj p _ upd_same
    have away : ∀ (i : Nat) (s : Sl) (d : DL.D) (b : Addr), ρ'[i]? = some s → s.ownD = some d → σ[i]? = some (some (.ref b)) → b ≠ p := fun i s d b u1 u2 u3 z => by
      have := S'.ofr i s d b u1 u2 u3
      rw [z, upd_same] at this
      cases this
    refine ⟨h1, [(.inr k, y)], rfl, by simp, ?_⟩
    refine kk G' (upd H' p (.dK [(.inr k, y)])) p (.dct [(.inr k, d)]) ρ' e ?_ ⟨g1, fp⟩ ⟨_, upd_same, .cons r .nil⟩ (fun i s d u1 u2 u3 => away i s d p u1 u2 u3 rfl) q'
    refine (S'.frame ff).grow (Ex.refl G') (fun b o z => ?_) (fun b o z => ?_) ((S'.frame ff).dj.mut h1 noCode_dK) fun i s d b u1 u2 u3 => ?_
    · rw [upd_ne (fun w => by rw [w, g1] at z; cases z)]; exact S'.ex b o z
    · rw [upd_ne (fun w => by rw [w, fp] at z; cases z)]; exact (S'.frame ff).fx b o z
    · obtain ⟨b', v1, v2, _⟩ := S'.own i s d u1 u2
      rw [u3] at v1
      cases v1
      exact ⟨v2, upd_ne (away i s d b u1 u2 u3)⟩
end
/-! ### == and != of objects of several own classes -/
structure EqM (P : Program) (w : World) (K : PySem.W.Frag) (mg : Str → Option Value) (base : Heap) (k : Nat) (C : Addr) (sp : Sp) : Prop where
  ex : ∃ f fd ps, CmpC K C f ∧ FnOk P w K mg base CX0 k f fd ps sp ∧ Binds K fd ps []
def rEqM (K : PySem.W.Frag) (g : Bool → Bool) (l : List (Addr × Sp)) : R2 := fun x y H Q => ∃ C sp, (C, sp) ∈ l ∧ rEqO K g C sp L2.E0 x y H Q
section
variable {X : Cx} {k : Nat} {l : List (Addr × Sp)}
theorem op_eqM (hl : ∀ q ∈ l, EqM X.prog X.w X.K X.mg X.base k q.1 q.2) (hr : Room k X.A) : OpR X (compareOp .Eq) (rEqM X.K (fun b => b) l) := by
  intro pins s σ H x y v u Q I rx ry h
  obtain ⟨C, sp, hm, h⟩ := h
  obtain ⟨f, fd, ps, M, F, hb⟩ := (hl _ hm).ex
  exact op_eqO M F hr hb pass0 pins s σ H x y v u Q I rx ry h
theorem op_neM (hl : ∀ q ∈ l, EqM X.prog X.w X.K X.mg X.base k q.1 q.2) (hr : Room (k + 1) X.A) : OpR X (compareOp .NotEq) (rEqM X.K (fun b => !b) l) := by
  intro pins s σ H x y v u Q I rx ry h
  obtain ⟨C, sp, hm, h⟩ := h
  obtain ⟨f, fd, ps, M, F, hb⟩ := (hl _ hm).ex
  exact op_neO M F hr hb pass0 pins s σ H x y v u Q I rx ry h
end
def D.insC : D → Option Addr
  | .ins C _ => some C
  | _ => none
def dEqM (K : PySem.W.Frag) (g : Bool → Bool) (Cs : List Addr) (l : List (Addr × DSp)) (da db : DE) : DE := fun ρ q er => da ρ (fun t ρ1 => db ρ1 (fun u ρ2 => Opt (rd ρ2 t) fun d => Opt d.insC fun C => Opt (rd ρ2 u) fun y => y.kno Cs = true ∧ Opt y.tyV fun ty => PySem.W.notFirst K C ty = true ∧ Opt (argsOf ρ2 [t, u]) fun av => (bors [t, u]).Nodup ∧
  ∃ dsp, (C, dsp) ∈ l ∧ noEr dsp av (fun r os => Opt r.bool fun b => q (.val (.bl (g b))) (putOuts ρ2 (bors [t, u]) os)) (fun _ _ _ => False)) er) er
section
variable {K : PySem.W.Frag} {pa : PaG} {W : WX} {te tc : TE} {dx dc : DE} {l : List (Addr × DSp)} {g : Bool → Bool} {Cs : List Addr}
theorem se_eqM (hK : IsiK K) (hC : ∀ C ∈ Cs, IsiC K C) (hx : SE K pa W te dx) (hc : SE K pa W tc dc) : SE K pa W (tOp (rEqM K g (l.map fun q => (q.1, SpV K 2 q.2))) te tc) (dEqM K g Cs l dx dc) := fun F G σ H ρ Q q er S h k x =>
  hx F G σ H ρ _ _ er S h (fun G1 H1 v t ρ1 e1 S1 r1 h1 => hc F G1 σ H1 ρ1 _ _ er S1 h1 (fun G2 H2 w u ρ2 e2 S2 r2 h2 => by
    obtain ⟨d, ed, C, eC, y, ey, hk, ty, ety, hn, av, ea, nd, dsp, hm, hd⟩ := h2
    have hi : d.insOf C = true := by
      cases d with
      | ins C' es => cases eC; simp [D.insOf]
      | _ => cases eC
    obtain ⟨a, dx, fs, rfl, ha⟩ := insOf_at S2.ex (S2.rdT (r1.mono e2) ed) hi
    refine ⟨C, SpV K 2 dsp, List.mem_map.mpr ⟨_, hm, rfl⟩, a, dx, fs, ty, rfl, ha, tyX_of hK (kno_of hC hk) S2.ex (S2.rdT r2 ey) ety, hn, ?_⟩
    exact call_core S2 (.cons (r1.mono e2) (.cons r2 .nil)) ea nd rfl hd (fun G3 H3 v3 d3 os e3 S3 rv hq => by
      obtain ⟨b, eb, hq⟩ := hq
      cases bool_of eb
      cases rv
      exact ⟨b, rfl, k G3 H3 _ (.val _) _ ((e1.trans e2).trans e3) S3 (.bl _) hq⟩) (fun _ _ _ _ _ _ _ _ _ _ _ hq => hq.elim)) (x.grow e1)) x
end
end DL
set_option autoImplicit false
set_option Elab.async false
set_option linter.all false
set_option maxRecDepth 100000
set_option maxHeartbeats 400000
namespace DL
open PySem L2 Evl
def strRep (x : Str) (n : Nat) : Str := ⟨(List.replicate n x.cps).foldl (· ++ ·) #[]⟩
def rMulS : R2 := fun x y H Q => ∃ i n, x = .str i ∧ y = .int n ∧ 2 ≤ n ∧ n ≤ 1000 ∧ 0 < i.length ∧ i.length ≤ 1000 ∧ (strRep i n.toNat).length ≤ sizeLine ∧ Q (.str (strRep i n.toNat)) H
theorem op_mulS {X : Cx} : OpR X (binaryOp .Mult) rMulS := by
  intro pins s σ H x y v u Q I rx ry h
  obtain ⟨i, n, rfl, rfl, n1, n2, i1, i2, i3, q⟩ := h
  obtain ⟨t, rfl⟩ := rx
  obtain ⟨t', rfl⟩ := ry
  have hn : ¬ n < 1 := by omega
  have hz : (n == 1 || i.length == 0) = false := by
    rw [Bool.or_eq_false_iff]
    exact ⟨by simpa using (by omega : ¬ n = 1), by simpa using (by omega : ¬ i.length = 0)⟩
  refine P.mul_str (by simp; omega) (fun _ _ => ?_) (fun _ _ => ?_) ?_
  · have h1 : (1000 : Int) ≤ (2 ^ 63 - 1) / n := by
      rw [Int.le_ediv_iff_mul_le (by omega)]
      omega
    omega
  · have h2 : i.length * n.toNat ≤ 1000 * 1000 := Nat.mul_le_mul i2 (by omega)
    unfold Builtin.Str.tooLong
    simp only [decide_eq_false_iff_not]
    have : (1000 * 1000 : Nat) ≤ sizeLine := by decide
    omega
  · rw [if_neg hn, if_neg (by rw [hz]; decide)]
    exact ⟨i3, V.str (strRep i n.toNat), H, I.tok _, ⟨_, rfl⟩, q⟩
def D.mulS : D → D → Option D
  | .str x, .int n => if 2 ≤ n ∧ n ≤ 1000 ∧ 0 < x.length ∧ x.length ≤ 1000 ∧ (strRep x n.toNat).length ≤ sizeLine then some (.str (strRep x n.toNat)) else none
  | _, _ => none
theorem sr_mulS {K : PySem.W.Frag} : SR K rMulS D.mulS := fun G H x y dx dy z Q e rx ry q k => by
  cases dx with
  | str a =>
    cases dy with
    | int n =>
      have q : (if 2 ≤ n ∧ n ≤ 1000 ∧ 0 < a.length ∧ a.length ≤ 1000 ∧ (strRep a n.toNat).length ≤ sizeLine then some (D.str (strRep a n.toNat)) else none) = some z := q
      by_cases h : 2 ≤ n ∧ n ≤ 1000 ∧ 0 < a.length ∧ a.length ≤ 1000 ∧ (strRep a n.toNat).length ≤ sizeLine
      · rw [if_pos h] at q
        cases q
        rw [rx.str, ry.int]
        exact ⟨a, n, rfl, rfl, h.1, h.2.1, h.2.2.1, h.2.2.2.1, h.2.2.2.2, k G H _ (Al.refl e) (.str _)⟩
      · rw [if_neg h] at q; cases q
    | _ => cases q
  | _ => cases dy <;> cases q
end DL
set_option autoImplicit false
set_option Elab.async false
set_option linter.all false
set_option maxRecDepth 100000
namespace DL
open PySem L2 Evl PySem.Spec PyProof.Rows
/-! ### C(..) inside a try's body -/
section
variable {X : Cx} {CX : CXT} {k : Nat} {f C : Addr} {fd : FuncData} {ps : List Str} {sp : Sp} {E : RSt → XK} {x : Str} {p pos : Pos} {e : Expr} {es : List Expr} {t : TA}
theorem run_makeS {pins : List (Addr × Obj)} {τ : RSt} {B : Hp} {r : Shared} {W : VK} {as : List Value} {xs : List V} (mk : Mk X.K C f) (fn : FnOk X.prog X.w X.K X.mg X.base CX k f fd ps sp) (room : Room (k + 1) X.A) (bd : Binds X.K fd ps []) (out : PassesAt CX X τ (E τ)) (J : Inv X pins τ B r) (v : Vals xs as)
    (q : ∀ o d, B o = none → B d = none → d ≠ o → sp (.ref o :: xs) (upd (upd B d (.own o)) o (.ins C d [])) (fun y B2 => y = .non ∧ W (.ref o) B2) (E τ)) : wpAny (model X.prog X.w) X.A (call (.ref C) as) (EP X pins τ W) X.xe r := by
  let d := r.heap.objs.size
  have q1 := q (d + 1) d (J.hok.fresh (Nat.le_succ _)) (J.hok.fresh (Nat.le_refl _)) (Nat.ne_of_lt (Nat.lt_succ_self _))
  have J2 := Inv.made (C := C) J
  have v2 : Vals (V.ref (d + 1) :: xs) (Value.ref (d + 1) :: as) := .cons rfl v
  have len : (Value.ref (d + 1) :: as).length = ps.length := by rw [← v2.length]; exact fn.len _ _ _ _ q1
  have bd2 := bd _ (Value.ref (d + 1) :: as) J2.kIn (by simpa using len)
  rw [List.append_nil] at bd2
  have go := fn.run _ X.stack _ _ ⟨Value.ref (d + 1) :: as, []⟩ (Value.ref (d + 1) :: as) _ _ (E τ) (room.make C as []) (J2.env0.make C as []) bd2 v2 q1
  refine wpAny_call (make_map (f := f) J.kIn mk.makes mk.init (beq_iff_eq.mp mk.fn) (codeAny_mono go fun a r2 z => ?_))
  match a, z with
  | .error u, z => exact out pins _ _ u r2 J2 z
  | .ok .next, z => exact z.elim
  | .ok .brk, z => exact z.elim
  | .ok .cont, z => exact z.elim
  | .ok (.ret u), z =>
    obtain ⟨y, B3, J3, ry, ey, z3⟩ := J2.after z
    subst ey
    exact ⟨ry, V.ref (d + 1), B3, J3, rfl, z3⟩
theorem pe_makeS (mk : Mk X.K C f) (fn : FnOk X.prog X.w X.K X.mg X.base CX k f fd ps sp) (room : Room (k + 1) X.A) (hg : Gl X x) (hm : X.mg x = some (.ref C)) (bd : Binds X.K fd ps []) (out : ∀ τ, PassesAt CX X τ (E τ)) (ha : PA X (e :: es) t) (hdb : (x == ("__debug__" : Str)) = false := by decide)
    (st : starEach (e :: es) X.env = (false, eval e X.env) :: starEach es X.env := by rfl) (pl : (backTo pos (starEach es X.env)).any (·.1) = false := by rfl) : PE X (.Call (.Name x p) (e :: es) [] pos) (tMakeS C sp E t) :=
  ⟨fun pins r τ B W J q => wpAny_Call_Name_kw (ld_glob J hg hm (PySem.W.callWith_K (h₀ := X.base) J.ok.mod.kin mk.kp (thn (ha.run pos pins r τ B _ J q) fun as r1 ⟨xs, B1, J1, v, q1⟩ => ⟨J1.kIn, run_makeS mk fn room bd (out τ) J1 v q1⟩) st pl) hdb)⟩
end
/-! ### x, y = (what is asked of the list, e), by way of a pair -/
def dnPar2 (i : Nat) (de1 de2 : DE) (dg : DG) (dn : DNS) : DNS := fun es p DD ρ => de1 (hideR ρ i (.lst es)) (fun t _ => match t with
  | .val d => d.noL = true ∧ de2 ρ (fun u ρ2 => match u with
    | .val d2 => dg (.val (.tup [d, d2])) ρ2 (fun ρ3 => ρ3[i]? = some (.val (.ptr p)) ∧ dn es p DD ρ3)
    | .bor _ => False) (fun _ _ _ => False)
  | .bor _ => False) (fun _ _ _ => False)
theorem ssn_par2 {K : PySem.W.Frag} {pa : PaG} {W : WX} {te1 te2 : TE} {de1 de2 : DE} {us : TS} {dn : DNS} {i : Nat} {g : TG} {dg : DG} {ns : List Nat} (h1 : SE K pa (fun _ _ _ _ => False) te1 de1) (h2 : SE K pa (fun _ _ _ _ => False) te2 de2) (hg : SG K pa ns g dg) (h3 : SSN K pa W i us dn) : SSN K pa W i (tSeq (tAsg (tTup (tCons te1 (tCons te2 tNil))) g) us) (dnPar2 i de1 de2 dg dn) := fun F G σ H ρ D DD p L es N hp S hi h l => by
  obtain ⟨Fh, Gp, eG, S1, back⟩ := ask_in N hp S hi
  refine h1 Fh Gp σ H _ _ _ _ S1 h (fun G4 H4 v t ρ4 e4 S4 r4 h4 => ?_) xl_none
  cases t with
  | bor _ => exact h4.elim
  | val d =>
    obtain ⟨G5, e5, S5, tr⟩ := back G4 H4 ρ4 e4 S4
    have rd : Rep K G5 v d := tr v d r4 h4.1
    refine h2 _ G5 σ H4 ρ _ _ _ S5 h4.2 (fun G6 H6 w u ρ6 e6 S6 r6 h6 => ?_) xl_none
    cases u with
    | bor _ => exact h6.elim
    | val d2 =>
      refine ⟨by show 2 ≤ sizeLine; decide, fun b hb => ?_⟩
      have r6 : Rep K G6 w d2 := r6
      have a : Al G6 H6 (upd G6 b (.tup [v, w])) (upd H6 b (.tup [v, w])) := Al.one S6.ex hb
      have rt : Rep K (upd G6 b (.tup [v, w])) (.ref b) (.tup [d, d2]) := .tup (SqT.of upd_same) (.cons ((rd.mono e6).mono a.g) (.cons (r6.mono a.g) .nil))
      refine hg _ _ σ _ ρ6 (.ref b) (.val (.tup [d, d2])) _ _ (S6.al a) rt h6 fun G7 σ7 H7 ρ7 e7 S7 _ h7 => ?_
      exact h3 F G7 σ7 H7 ρ7 D DD p L es (N.mono (((e5.trans e6).trans a.g).trans e7)) hp S7 h7.1 h7.2 (l.grow (((e5.trans e6).trans a.g).trans e7))
/-! ### clauses behind which nothing is let out: those that are never come to are left as they are -/
inductive HdU (X : Cx) (K : PySem.W.Frag) : List ExceptHandler → List (Value × Nat × DSui) → Prop
  | rest {l : List ExceptHandler} : HdU X K l []
  | cons {x n : Str} {c : Value} {i : Nat} {st : Stmt} {su : List Stmt} {p1 p2 : Pos} {s : DSui} {hds : List ExceptHandler} {l : List (Value × Nat × DSui)} (hi : X.N[i]? = some n) (hk : X.env.kindOf n = some .local) (hc : Names X x c)
      (h : ∀ (a : Addr) (oe : Obj) (C dd : Addr) (pn : List (Addr × Obj)) (fs : List (Str × D)) (vs : List (Str × V)) (G : Hp), Zc (.ref C) (some dd) oe → (∃ vs, oe.data = .fields vs) → G dd = some (.xd vs) → RepF K G vs fs →
        ∃ t, PSs (X.suite a ((a, oe) :: pn)) (st :: su) t ∧ ∀ f T, SS K ⟨f, G, T⟩ (fun _ _ _ _ => False) t (s a C fs)) (r : HdU X K hds l) : HdU X K (.ExceptHandler (some (.Name x p1)) (some n) (st :: su) p2 :: hds) ((c, i, s) :: l)
section
variable {K : PySem.W.Frag} {pa : PaG} {W : WX} {F G G' H H' : Hp} {σ : RSt} {ρ : Ro} {D : Ends} {DD : Do}
theorem er_hu {X : Cx} {l : List ExceptHandler} {hs : List (Value × Nat × DSui)} {C d : Addr} {vs : List (Str × V)} {fs : List (Str × DL.D)} (hK : X.K = K) (hh : HdU X K l hs) (k : Lk K pa F W G D DD) (e : Ex G G') (S : Sim K pa F G' σ H' ρ) (h1 : G' d = some (.xd vs)) (h2 : RepF K G' vs fs) (h0 : ∀ C fs ρ, ¬ DD.er C fs ρ) :
    erH K DD hs C fs ρ → wJ X W D l (.ref C) (some d) σ H' := by
  induction hh with
  | rest => exact fun q => (h0 _ _ _ q).elim
  | @cons x n c i st su p1 p2 s hds l hi hk hc h r ih =>
    intro q
    obtain ⟨b, eb, q⟩ := q
    refine ⟨x, n, c, i, st, su, p1, p2, b, rfl, hi, hk, hc, hK ▸ eb, fun hb a oe pn na hz hf => ?_, fun hb => ?_⟩
    · rw [if_pos hb] at q
      obtain ⟨t, ht, hs⟩ := h a oe C d pn fs vs G' hz hf h1 h2
      refine ⟨t, ht, hs pa.f pa.T F G' _ H' _ (shut i D) (shutD i DD) ((S.store q.1 (.ptr a)).know (Ex.refl G')) (q.2 a) ?_⟩
      have un : ∀ {G2 H2 : Hp} {σ2 : RSt} {ρ2 : Ro}, Sim K ⟨pa.f, G', pa.T⟩ F G2 σ2 H2 ρ2 → Sim K pa F G2 σ2 H2 ρ2 := fun S2 => S2.unknow S.gx
      exact ⟨fun G2 σ2 H2 ρ2 e2 S2 z => k.nx G2 _ H2 _ (e.trans e2) ((un S2).clear i) z, fun G2 σ2 H2 ρ2 e2 S2 z => k.bk G2 _ H2 _ (e.trans e2) ((un S2).clear i) z, fun G2 σ2 H2 ρ2 e2 S2 z => k.ct G2 _ H2 _ (e.trans e2) ((un S2).clear i) z,
        fun G2 σ2 H2 ρ2 v t e2 S2 z1 z => k.rt G2 σ2 H2 ρ2 v t (e.trans e2) (un S2) z1 z, fun G2 σ2 H2 ρ2 p d e2 S2 z1 z2 z3 z => k.rf G2 σ2 H2 ρ2 p d (e.trans e2) (un S2) z1 z2 z3 z, fun _ _ _ _ _ _ _ _ _ _ z => z.elim⟩
    · rw [if_neg (by rw [hb]; decide)] at q
      exact ih q
theorem ss_tryU {X : Cx} {body : List Stmt} {l : List ExceptHandler} {hs : List (Value × Nat × DSui)} {db : DS} (hK : X.K = K)
    (hb : ∀ (W : WX) (pn : List (Addr × Obj)) (xe : Value → Shared → Prop), Takes (X.tr pn xe) W → PassesOwn (model X.prog X.w) X.A X.env xe → ∃ t, PSs (X.tr pn xe) body t ∧ SS K pa W t db) (hh : HdU X K l hs) : SS K pa W (tTryJ X (fun _ _ _ _ => False) body l) (dTry0 K db hs) := fun F G σ H ρ D DD S h k pn xe tk po => by
  obtain ⟨t, ht, q⟩ := hb _ pn xe tk po
  have k0 : Lk K pa F (fun _ _ _ _ => False) G D { DD with er := fun _ _ _ => False } := ⟨k.nx, k.bk, k.ct, k.rt, k.rf, fun _ _ _ _ _ _ _ _ _ _ z => z.elim⟩
  exact ⟨t, ht, q F G σ H ρ D _ S h ⟨k.nx, k.bk, k.ct, k.rt, k.rf, fun G' σ' H' ρ' C d vs fs e S' q h1 h2 => er_hu hK hh k0 e S' h1 h2 (fun _ _ _ z => z) q⟩⟩
end
/-! ### a, b, c = a tuple or a list -/
def gSq (K : PySem.W.Frag) (n : Nat) (t : TGs) : TG := fun v σ H Q => gTup K n t v σ H Q ∨ gLst K n t v σ H Q
theorem pg_sq {X : Cx} {e : Expr} {n : Nat} {t : TGs} (h1 : PG X e (gTup X.K n t)) (h2 : PG X e (gLst X.K n t)) : PG X e (gSq X.K n t) := ⟨fun pins s σ H v u Q I r h => h.elim (h1.run pins s σ H v u Q I r) (h2.run pins s σ H v u Q I r)⟩
def dgSq (n : Nat) (r : List D → Ro → (Ro → Prop) → Prop) : DG := fun t ρ q => match t with
  | .val (.tup ds) => ds.length = n ∧ r ds ρ q
  | .val (.lst ds) => ds.length = n ∧ r ds ρ q
  | _ => False
theorem sg_sq {K : PySem.W.Frag} {pa : PaG} {ns : List Nat} {gs : TGs} {n : Nat} {dr : List D → Ro → (Ro → Prop) → Prop} (h : SGs K pa ns gs dr) : SG K pa ns (gSq K n gs) (dgSq n dr) := fun F G σ H ρ v t Q q S r h0 k => by
  cases t with
  | bor j => exact h0.elim
  | val d =>
    have r : Rep K G v d := r
    cases r with
    | tup hs rr => exact .inl ⟨_, _, rfl, ex_t S.ex hs, by rw [rr.length]; exact h0.1, h F G σ H ρ _ _ _ _ S rr h0.2 k⟩
    | lst hs rr => exact .inr ⟨_, _, rfl, ex_l S.ex hs, by rw [rr.length]; exact h0.1, h F G σ H ρ _ _ _ _ S rr h0.2 k⟩
    | _ => exact h0.elim
/-! ### rows -/
section
variable {i j : Nat} {dn : DN} {s : DNS} {DD : Do} {ρ : Ro} {ds : DS} {es : List D} {p : Addr} {nx : Ro → Prop} {rt : T → Ro → Prop} {rf : D → Ro → Prop} {bk ct : Ro → Prop} {er : ER}
theorem w_nestL : dNestL i dn s DD ρ = dn ρ (fun es ρ1 => (isPar ρ1 i = false ∧ i < ρ1.length) ∧ AllP fun p => s es p DD (ρ1.set i (.val (.ptr p)))) := rfl
theorem w_dnSeq2 : dnSeq2 i ds s es p ⟨nx, rt, rf, bk, ct, er⟩ ρ = ds ⟨fun ρ1 => ρ1[i]? = some (.val (.ptr p)) ∧ s es p ⟨nx, rt, rf, bk, ct, er⟩ ρ1, rt, rf, bk, ct, er⟩ ρ := rfl
theorem w_dnFC : dnFC i j ds es p ⟨nx, rt, rf, bk, ct, er⟩ ρ = ((j < ρ.length ∧ i ≠ j) ∧ ds ⟨nx, rt, rf, bk, ct, er⟩ (wipeD ρ [i, j])) := rfl
theorem w_dnPar2 {de1 de2 : DE} {dg : DG} : dnPar2 i de1 de2 dg s es p DD ρ = de1 (hideR ρ i (.lst es)) (fun t _ => match t with
  | .val d => d.noL = true ∧ de2 ρ (fun u ρ2 => match u with
    | .val d2 => dg (.val (.tup [d, d2])) ρ2 (fun ρ3 => ρ3[i]? = some (.val (.ptr p)) ∧ s es p DD ρ3)
    | .bor _ => False) (fun _ _ _ => False)
  | .bor _ => False) (fun _ _ _ => False) := rfl
end
def lcNF (g : DG) (df : DF) (vs : List Nat) (q : List D → Ro → Prop) (ds acc : List D) (ρ : Ro) (_ : Ph g := ()) (_ : Ph df := ()) (_ : Ph q := ()) : Prop := lcN g df vs q ds acc ρ
theorem lcN_f (g : DG) (df : DF) (vs : List Nat) (q : List D → Ro → Prop) (ds acc : List D) (ρ : Ro) : lcN g df vs q ds acc ρ = lcNF g df vs q ds acc ρ := rfl
theorem lcN_inv {g : DG} {df : DF} {vs : List Nat} {q : List D → Ro → Prop} {ds : List D} {ρ : Ro} (I : Nat → List D → Ro → Prop) (h0 : I 0 [] ρ)
    (step : ∀ (i : Nat) (d : D) (acc : List D) (ρ : Ro) (nx : List D → Ro → Prop), ds[i]? = some d → I i acc ρ → (∀ es ρ', I (i + 1) (acc ++ [.lst es]) ρ' → nx es ρ') → g (.val d) (wipeD ρ vs) fun ρ1 => df ρ1 (fun e ρ2 => match e with
      | .lst es => (es.length < sizeLine ∧ acc.length < sizeLine) ∧ nx es (wipeD ρ2 vs)
      | _ => False) (fun _ _ _ => False))
    (fin : ∀ acc ρ, I ds.length acc ρ → q acc ρ) : lcN g df vs q ds [] ρ := by
  have go : ∀ k i acc ρ, ds.length - i = k → i ≤ ds.length → I i acc ρ → lcN g df vs q (ds.drop i) acc ρ := by
    intro k
    induction k with
    | zero =>
      intro i acc ρ hk hi hI
      have e : i = ds.length := by omega
      subst e
      rw [List.drop_length]
      exact fin acc ρ hI
    | succ k ih =>
      intro i acc ρ hk hi hI
      have hlt : i < ds.length := by omega
      rw [List.drop_eq_getElem_cons hlt]
      exact step i ds[i] acc ρ (fun es ρ' => lcN g df vs q (ds.drop (i + 1)) (acc ++ [.lst es]) ρ') (by simp [hlt]) hI fun es ρ' h => ih (i + 1) _ ρ' (by omega) (by omega) h
  exact go _ 0 [] ρ rfl (Nat.zero_le _) h0
end DL
set_option autoImplicit false
set_option Elab.async false
set_option linter.all false
set_option maxRecDepth 100000
namespace DL
open PySem L2 Evl PySem.Spec PyProof.Rows
/-! ### a op b op c op d -/
def tChain3 (r r' r2 : R2) (ta tb tc td : TE) : TE := fun σ H Q => ta σ H fun x H1 => tb σ H1 fun y H2 => r x y H2 fun z H3 => ∃ k, z = .bl k ∧
  (if k = true then tc σ H3 fun u H4 => r' y u H4 fun z' H5 => ∃ k', z' = .bl k' ∧ (if k' = true then td σ H5 fun w' H6 => r2 u w' H6 Q else Q (.bl false) H5) else Q (.bl false) H3)
section
variable {X : Cx} {a b c d : Expr} {ta tb tc td : TE} {pos : Pos}
theorem pe_chain3 {op op' op2 : CmpOp} {r r' r2 : R2} (ho : OpR X (compareOp op) r) (ho' : OpR X (compareOp op') r') (ho2 : OpR X (compareOp op2) r2) (ha : PE X a ta) (hb : PE X b tb) (hc : PE X c tc) (hd : PE X d td)
    (hm : lastMarks [op, op', op2] [b, c, d] = false := by with_unfolding_all rfl) : PE X (.Compare a [op, op', op2] [b, c, d] pos) (tChain3 r r' r2 ta tb tc td) := by
  refine ⟨fun pins s σ H Q I h => ?_⟩
  refine Compare_chain (thn (ha.run pins s σ H _ I h) fun v s1 ⟨x, H1, I1, r1, q1⟩ => chain_link (thn (hb.run pins s1 σ H1 _ I1 q1) fun u s2 ⟨y, H2, I2, r2, q2⟩ =>
    thn (ho pins s2 σ H2 x y v u _ I2 r1 r2 q2) fun d s3 ⟨z, H3, I3, r3, k, e, q3⟩ => ?_)) hm
  subst e
  cases r3
  refine wpAny_truthy_bool ?_
  cases k with
  | false => exact ite_ff ⟨.bl false, H3, I3, rfl, q3⟩
  | true =>
    refine ite_tt (chain_link (thn (hc.run pins s3 σ H3 _ I3 q3) fun u2 s4 ⟨y2, H4, I4, r4, q4⟩ => thn (ho' pins s4 σ H4 y y2 u u2 _ I4 r2 r4 q4) fun d2 s5 ⟨z2, H5, I5, r5, k2, e2, q5⟩ => ?_))
    subst e2
    cases r5
    refine wpAny_truthy_bool ?_
    cases k2 with
    | false => exact ite_ff ⟨.bl false, H5, I5, rfl, q5⟩
    | true => exact ite_tt (chain_last (thn (hd.run pins s5 σ H5 _ I5 q5) fun w' s6 ⟨z', H6, I6, r6, q6⟩ => ho2 pins s6 σ H6 y2 z' u2 w' Q I6 r4 r6 q6))
end
def dChain3 (f g e : D → D → Option D) (da db dc dd : DE) : DE := fun ρ q er => da ρ (fun s ρ1 => db ρ1 (fun t ρ2 => Opt (rd ρ2 s) fun x => Opt (rd ρ2 t) fun y => Opt (f x y) fun z => Opt z.bool fun k =>
  if k = true then dc ρ2 (fun u ρ3 => Opt (rd ρ3 t) fun y' => Opt (rd ρ3 u) fun w => Opt (g y' w) fun z' => Opt z'.bool fun k2 =>
    if k2 = true then dd ρ3 (fun u4 ρ4 => Opt (rd ρ4 u) fun y2 => Opt (rd ρ4 u4) fun w2 => Opt (e y2 w2) fun z2 => q (.val z2) ρ4) er else q (.val (.bl false)) ρ3) er else q (.val (.bl false)) ρ2) er) er
section
variable {K : PySem.W.Frag} {pa : PaG} {W : WX} {r r' r2 : R2} {f f' f2 : D → D → Option D} {ta tb tc td : TE} {da db dc dd : DE}
theorem se_chain3 (hr : SR K r f) (hr' : SR K r' f') (hr2 : SR K r2 f2) (ha : SE K pa W ta da) (hb : SE K pa W tb db) (hc : SE K pa W tc dc) (hd : SE K pa W td dd) : SE K pa W (tChain3 r r' r2 ta tb tc td) (dChain3 f f' f2 da db dc dd) := fun F G σ H ρ Q q er S h k x =>
  ha F G σ H ρ _ _ er S h (fun G1 H1 v s ρ1 e1 S1 r1 h1 => hb F G1 σ H1 ρ1 _ _ er S1 h1 (fun G2 H2 w t ρ2 e2 S2 r2 h2 => by
    obtain ⟨dx, ex, dy, ey, z, ez, c, ec, h3⟩ := h2
    refine hr G2 H2 v w dx dy z _ S2.ex (S2.rdT (r1.mono e2) ex) (S2.rdT r2 ey) ez fun G3 H3 u a r3 => ?_
    cases bool_of ec
    cases r3
    refine ⟨c, rfl, ?_⟩
    cases c with
    | false => exact k G3 H3 _ (.val (.bl false)) ρ2 ((e1.trans e2).trans a.g) (S2.al a) (.bl false) h3
    | true =>
      refine hc F G3 σ H3 ρ2 _ _ er (S2.al a) h3 (fun G4 H4 y u ρ4 e4 S4 r4 h4 => ?_) (x.grow ((e1.trans e2).trans a.g))
      obtain ⟨dy', ey', dw, ew, z', ez', c2, ec2, h5⟩ := h4
      refine hr' G4 H4 w y dy' dw z' _ S4.ex (S4.rdT ((r2.mono a.g).mono e4) ey') (S4.rdT r4 ew) ez' fun G5 H5 u5 a5 r5 => ?_
      cases bool_of ec2
      cases r5
      refine ⟨c2, rfl, ?_⟩
      cases c2 with
      | false => exact k G5 H5 _ (.val (.bl false)) ρ4 ((((e1.trans e2).trans a.g).trans e4).trans a5.g) (S4.al a5) (.bl false) h5
      | true =>
        refine hd F G5 σ H5 ρ4 _ _ er (S4.al a5) h5 (fun G6 H6 y6 u6 ρ6 e6 S6 r6 h6 => ?_) (x.grow ((((e1.trans e2).trans a.g).trans e4).trans a5.g))
        obtain ⟨dy2, ey2, dw2, ew2, z2, ez2, h7⟩ := h6
        exact hr2 G6 H6 y y6 dy2 dw2 z2 _ S6.ex (S6.rdT ((r4.mono a5.g).mono e6) ey2) (S6.rdT r6 ew2) ez2 fun G7 H7 u7 a7 r7 => k G7 H7 u7 (.val z2) ρ6 ((((((e1.trans e2).trans a.g).trans e4).trans a5.g).trans e6).trans a7.g) (S6.al a7) r7 h7) (x.grow e1)) x
end

/-! ### [e for x in xs if s for y in ys if t] -/
def lcL2 (g : DG) (t : DT) (di1 : DI) (g1 : DG) (t1 : DT) (de : DE) (vs vs1 : List Nat) (q : List D → Ro → Prop) : List D → List D → Ro → Prop
  | [], acc, ρ => q acc ρ
  | d :: ds, acc, ρ => g (.val d) (wipeD ρ vs) fun ρ1 => t ρ1 (fun b ρ2 => if b = true then di1 ρ2 (fun es ρ3 => lcL g1 t1 de vs1 (fun acc' ρ4 => lcL2 g t di1 g1 t1 de vs vs1 q ds acc' (wipeD ρ4 vs)) es acc ρ3) (fun _ _ _ => False)
    else lcL2 g t di1 g1 t1 de vs vs1 q ds acc (wipeD ρ2 vs)) (fun _ _ _ => False)
def dLc2 (di : DI) (g : DG) (t : DT) (di1 : DI) (g1 : DG) (t1 : DT) (de : DE) (vs vs1 : List Nat) : DF := fun ρ q er => di ρ (fun ds ρ1 => lcL2 g t di1 g1 t1 de vs vs1 (fun acc ρ2 => q (.lst acc) ρ2) ds [] ρ1) er
section
variable {K : PySem.W.Frag} {pa : PaG} {W : WX} {F G H : Hp} {σ : RSt} {ρ : Ro}
abbrev FrO (σ : RSt) (ρ : Ro) (D : Addr) : Prop := ∀ (i : Nat) (s : Sl) (d : DL.D), ρ[i]? = some s → s.ownD = some d → σ[i]? ≠ some (some (.ref D))
theorem Sim.back {σ4 : RSt} {vs : List Nat} {D : Addr} {av : List V} (fF : F D = none) (ws : wipe σ4 vs = wipe σ vs) (S6 : Sim K pa (upd F D (.lst av)) G σ4 H ρ) : H D = some (.lst av) ∧ G D = none ∧ Sim K pa F G σ H (wipeD ρ vs) ∧ FrO σ (wipeD ρ vs) D := by
  have S7 := S6.wipeTo (σ' := σ) ws
  refine ⟨S6.fx D _ upd_same, S6.dj D _ upd_same, S7.frame (Ex.new fF), fun i s d h1 h2 h3 => ?_⟩
  have := S7.ofr i s d D h1 h2 h3
  rw [upd_same] at this
  cases this
theorem Sim.pushO {D : Addr} {o : HO} (S : Sim K pa F G σ H ρ) (nc : ∀ u, H D = some u → NoCode u) (fF : F D = none) (gD : G D = none) (fr : FrO σ ρ D) : Sim K pa F G σ (upd H D o) ρ := by
  refine S.grow (Ex.refl G) (fun b o q => ?_) (fun b o q => ?_) (S.dj.out nc) fun i s d p h1 h2 h3 => ⟨?_, ?_⟩
  · rw [upd_ne (fun z => by rw [z, gD] at q; cases q)]; exact S.ex b o q
  · rw [upd_ne (fun z => by rw [z, fF] at q; cases q)]; exact S.fx b o q
  · obtain ⟨b', q1, q2, _⟩ := S.own i s d h1 h2
    rw [h3] at q1
    cases q1
    exact q2
  · exact upd_ne fun z => fr i s d h1 h2 (by rw [h3, z])
theorem sf_lc2 {wi wi1 : TI} {di di1 : DI} {g g1 : TG} {dg dg1 : DG} {tt tt1 : TT} {dt dt1 : DT} {te : TE} {de : DE} {vs vs1 ns ns1 : List Nat} (hn : ∀ i ∈ ns, i ∈ vs) (hn1 : ∀ i ∈ ns1, i ∈ vs1) (hi : SI K pa W wi di) (hg : SG K pa ns g dg) (ht : ST K pa W tt dt) (hi1 : SI K pa W wi1 di1) (hg1 : SG K pa ns1 g1 dg1) (ht1 : ST K pa W tt1 dt1) (he : SE K pa W te de) : SF K pa W (tLc2 wi g tt wi1 g1 tt1 te vs vs1) (dLc2 di dg dt di1 dg1 dt1 de vs vs1) := fun F G σ H ρ Q q er S h k x =>
  hi F G σ H ρ _ _ _ S h (fun G1 H1 J ds ρ1 e1 S1 ok h1 => by
    intro D hD
    have fF : F D = none := fresh_back S1.fx hD
    have S1' : Sim K pa F G1 σ (upd H1 D (.lst [])) ρ1 := S1.new hD
    refine ⟨fun i m H' => m = ds.length - i ∧ i ≤ ds.length ∧ ∃ G2 ρ2 acc av, Ex G1 G2 ∧ Sim K pa F G2 σ H' ρ2 ∧ G2 D = none ∧ H' D = some (.lst av) ∧ Reps K G2 av acc ∧ FrO σ ρ2 D ∧ lcL2 dg dt di1 dg1 dt1 de vs vs1 (fun acc ρ2 => q (.lst acc) ρ2) (ds.drop i) acc ρ2,
      ⟨_, rfl, Nat.zero_le _, G1, ρ1, [], [], Ex.refl G1, S1', fresh_back S1.ex hD, upd_same, .nil, fresh_no S1 hD, h1⟩, ?_⟩
    rintro i m H' ⟨rfl, hi, G2, ρ2, acc, av, e2, S2, gD, hHD, ra, fr, h2⟩
    by_cases hlt : i < ds.length
    · rw [List.drop_eq_getElem_cons hlt] at h2
      refine .inr ⟨ok.go i H' (e2.trans S2.ex) hlt, fun H' => ∃ G2 ρ2 acc av, Ex G1 G2 ∧ Sim K pa F G2 σ H' ρ2 ∧ G2 D = none ∧ H' D = some (.lst av) ∧ Reps K G2 av acc ∧ FrO σ ρ2 D ∧ lcL2 dg dt di1 dg1 dt1 de vs vs1 (fun acc ρ2 => q (.lst acc) ρ2) (ds.drop (i + 1)) acc ρ2,
        fun H3 hN => ⟨ds.length - (i + 1), by omega, rfl, hlt, hN⟩, fun x H3 hy => ?_⟩
      obtain ⟨G3, a, r⟩ := ok.yld i H' x H3 hy G2 e2 S2.ex ds[i] (by simp [hlt])
      have hD3 : H3 D = some (.lst av) := a.h D _ hHD
      have S3 : Sim K pa (upd F D (.lst av)) G3 (wipe σ vs) H3 (wipeD ρ2 vs) := ((S2.al a).frameIn (a.n D gD (by rw [hHD]; simp)) hD3 noCode_lst fr).wipeTo wipe_wipe.symm
      refine hg _ G3 _ H3 _ x (.val ds[i]) _ _ S3 r h2 fun G4 σ4 H4 ρ4 e4 S4 w4 h4 => ?_
      have ws : wipe σ4 vs = wipe σ vs := by rw [w4 vs hn, wipe_wipe]
      refine ⟨ws, ht _ G4 σ4 H4 ρ4 _ _ _ S4 h4 (fun G5 H5 b ρ5 e5 S5 h5 => ?_) xl_none⟩
      cases b with
      | false =>
        obtain ⟨b1, b2, b3, b4⟩ := S5.back fF ws
        exact ⟨G5, _, acc, av, ((e2.trans a.g).trans e4).trans e5, b3, b2, b1, ra.mono ((a.g.trans e4).trans e5), b4, h5⟩
      | true =>
        refine hi1 _ G5 σ4 H5 ρ5 _ _ _ S5 h5 (fun G6 H6 J1 es ρ6 e6 S6 ok1 h6 => ?_) xl_none
        have e16 := ((((e2.trans a.g).trans e4).trans e5).trans e6)
        refine ⟨fun j m H' => m = es.length - j ∧ j ≤ es.length ∧ ∃ G7 ρ7 acc7 av7, Ex G6 G7 ∧ Sim K pa (upd F D (.lst av7)) G7 σ4 H' ρ7 ∧ Reps K G7 av7 acc7 ∧ lcL dg1 dt1 de vs1 (fun acc' ρ' => lcL2 dg dt di1 dg1 dt1 de vs vs1 (fun acc ρ2 => q (.lst acc) ρ2) (ds.drop (i + 1)) acc' (wipeD ρ' vs)) (es.drop j) acc7 ρ7,
          ⟨_, rfl, Nat.zero_le _, G6, ρ6, acc, av, Ex.refl G6, S6, ra.mono (((a.g.trans e4).trans e5).trans e6), h6⟩, ?_⟩
        rintro j m H' ⟨rfl, hj, G7, ρ7, acc7, av7, e7, S7, ra7, h7⟩
        by_cases hjt : j < es.length
        · rw [List.drop_eq_getElem_cons hjt] at h7
          refine .inr ⟨ok1.go j H' (e7.trans S7.ex) hjt, fun H' => ∃ G7 ρ7 acc7 av7, Ex G6 G7 ∧ Sim K pa (upd F D (.lst av7)) G7 σ4 H' ρ7 ∧ Reps K G7 av7 acc7 ∧ lcL dg1 dt1 de vs1 (fun acc' ρ' => lcL2 dg dt di1 dg1 dt1 de vs vs1 (fun acc ρ2 => q (.lst acc) ρ2) (ds.drop (i + 1)) acc' (wipeD ρ' vs)) (es.drop (j + 1)) acc7 ρ7,
            fun H8 hN => ⟨es.length - (j + 1), by omega, rfl, hjt, hN⟩, fun x8 H8 hy8 => ?_⟩
          obtain ⟨G8, a8, r8⟩ := ok1.yld j H' x8 H8 hy8 G7 e7 S7.ex es[j] (by simp [hjt])
          have S8 : Sim K pa (upd F D (.lst av7)) G8 (wipe σ4 vs1) H8 (wipeD ρ7 vs1) := (S7.al a8).wipeTo wipe_wipe.symm
          refine hg1 _ G8 _ H8 _ x8 (.val es[j]) _ _ S8 r8 h7 fun G9 σ9 H9 ρ9 e9 S9 w9 h9 => ?_
          have ws1 : wipe σ9 vs1 = wipe σ4 vs1 := by rw [w9 vs1 hn1, wipe_wipe]
          refine ⟨ws1, ht1 _ G9 σ9 H9 ρ9 _ _ _ S9 h9 (fun G10 H10 b ρ10 e10 S10 h10 => ?_) xl_none⟩
          have reF : ∀ {G' H' : Hp} {ρ' : Ro} {av' : List V}, Sim K pa (upd F D (.lst av')) G' σ9 H' ρ' → Sim K pa (upd F D (.lst av')) G' σ4 H' (wipeD ρ' vs1) := fun S => S.wipeTo ws1
          cases b with
          | false => exact ⟨G10, _, acc7, av7, ((e7.trans a8.g).trans e9).trans e10, reF S10, ra7.mono ((a8.g.trans e9).trans e10), h10⟩
          | true =>
            refine he _ G10 σ9 H10 ρ10 _ _ _ S10 h10 (fun G11 H11 y s ρ11 e11 S11 r11 h11 => ?_) xl_none
            cases s with
            | bor _ => exact h11.elim
            | val dy =>
              have ra11 := ra7.mono (((a8.g.trans e9).trans e10).trans e11)
              obtain ⟨b1, b2, b3, b4⟩ := S11.back fF ws1
              exact ⟨av7, b1, by rw [ra7.length]; exact h11.1, G11, _, acc7 ++ [dy], av7 ++ [y], (((e7.trans a8.g).trans e9).trans e10).trans e11, (b3.pushO (fun u q => by rw [b1] at q; cases q; exact noCode_lst) fF b2 b4).frameIn b2 upd_same noCode_lst b4, ra11.append (.cons r11 .nil), h11.2⟩
        · have e : j = es.length := by omega
          subst e
          rw [List.drop_length] at h7
          obtain ⟨b1, b2, b3, b4⟩ := S7.back fF ws
          exact .inl ⟨ok1.stop _ H' (e7.trans S7.ex) (Nat.le_refl _), G7, _, acc7, av7, e16.trans e7, b3, b2, b1, ra7, b4, h7⟩
    · have e : i = ds.length := by omega
      subst e
      rw [List.drop_length] at h2
      exact .inl ⟨ok.stop _ H' (e2.trans S2.ex) (Nat.le_refl _), k G2 H' D (.lst acc) ρ2 (e1.trans e2) S2 ⟨gD, fF⟩ ⟨av, hHD, ra⟩ fr h2⟩) x
end
theorem pi_anyK {X : Cx} {tg l : Expr} {tl : TE} {K : PySem.W.Frag} (hK : X.K = K) (hl : PE X l tl) : PI X tg l (iAny K tl) := by
  subst hK
  exact pi_any hl
def lcL2F (g : DG) (t : DT) (di1 : DI) (g1 : DG) (t1 : DT) (de : DE) (vs vs1 : List Nat) (q : List D → Ro → Prop) (ds acc : List D) (ρ : Ro) (_ : Ph g := ()) (_ : Ph t := ()) (_ : Ph di1 := ()) (_ : Ph g1 := ()) (_ : Ph t1 := ()) (_ : Ph de := ()) (_ : Ph q := ()) : Prop := lcL2 g t di1 g1 t1 de vs vs1 q ds acc ρ
theorem lcL2_f (g : DG) (t : DT) (di1 : DI) (g1 : DG) (t1 : DT) (de : DE) (vs vs1 : List Nat) (q : List D → Ro → Prop) (ds acc : List D) (ρ : Ro) : lcL2 g t di1 g1 t1 de vs vs1 q ds acc ρ = lcL2F g t di1 g1 t1 de vs vs1 q ds acc ρ := rfl
theorem lcL_invA {g : DG} {t : DT} {de : DE} {vs : List Nat} {q : List D → Ro → Prop} {ds acc0 : List D} {ρ : Ro} (I : Nat → List D → Ro → Prop) (h0 : I 0 acc0 ρ)
    (step : ∀ (i : Nat) (d : D) (acc : List D) (ρ : Ro) (nx : List D → Ro → Prop), ds[i]? = some d → I i acc ρ → (∀ acc' ρ', I (i + 1) acc' ρ' → nx acc' ρ') →
      g (.val d) (wipeD ρ vs) fun ρ1 => t ρ1 (fun b ρ2 => if b = true then de ρ2 (fun s ρ3 => match s with
        | .val y => acc.length < sizeLine ∧ nx (acc ++ [y]) (wipeD ρ3 vs)
        | .bor _ => False) (fun _ _ _ => False) else nx acc (wipeD ρ2 vs)) (fun _ _ _ => False))
    (fin : ∀ acc ρ, I ds.length acc ρ → q acc ρ) : lcL g t de vs q ds acc0 ρ := by
  have go : ∀ (n i : Nat) (acc : List D) (ρ : Ro), ds.length - i = n → i ≤ ds.length → I i acc ρ → lcL g t de vs q (ds.drop i) acc ρ := by
    intro n
    induction n with
    | zero =>
      intro i acc ρ e hi h
      have ei : i = ds.length := by omega
      subst ei
      rw [List.drop_length]
      exact fin acc ρ h
    | succ n ih =>
      intro i acc ρ e hi h
      have hlt : i < ds.length := by omega
      rw [List.drop_eq_getElem_cons hlt]
      exact step i ds[i] acc ρ (fun acc' ρ' => lcL g t de vs q (ds.drop (i + 1)) acc' ρ') (by simp [hlt]) h fun acc' ρ' h' => ih (i + 1) acc' ρ' (by omega) hlt h'
  exact go _ 0 acc0 ρ rfl (Nat.zero_le _) h0
theorem lcL2_inv {g : DG} {t : DT} {di1 : DI} {g1 : DG} {t1 : DT} {de : DE} {vs vs1 : List Nat} {q : List D → Ro → Prop} {ds : List D} {ρ : Ro} (I : Nat → List D → Ro → Prop) (h0 : I 0 [] ρ)
    (step : ∀ (i : Nat) (d : D) (acc : List D) (ρ : Ro) (nx : List D → Ro → Prop), ds[i]? = some d → I i acc ρ → (∀ acc' ρ', I (i + 1) acc' ρ' → nx acc' ρ') →
      g (.val d) (wipeD ρ vs) fun ρ1 => t ρ1 (fun b ρ2 => if b = true then di1 ρ2 (fun es ρ3 => lcL g1 t1 de vs1 (fun acc' ρ4 => nx acc' (wipeD ρ4 vs)) es acc ρ3) (fun _ _ _ => False)
        else nx acc (wipeD ρ2 vs)) (fun _ _ _ => False))
    (fin : ∀ acc ρ, I ds.length acc ρ → q acc ρ) : lcL2 g t di1 g1 t1 de vs vs1 q ds [] ρ := by
  have go : ∀ (n i : Nat) (acc : List D) (ρ : Ro), ds.length - i = n → i ≤ ds.length → I i acc ρ → lcL2 g t di1 g1 t1 de vs vs1 q (ds.drop i) acc ρ := by
    intro n
    induction n with
    | zero =>
      intro i acc ρ e hi h
      have ei : i = ds.length := by omega
      subst ei
      rw [List.drop_length]
      exact fin acc ρ h
    | succ n ih =>
      intro i acc ρ e hi h
      have hlt : i < ds.length := by omega
      rw [List.drop_eq_getElem_cons hlt]
      exact step i ds[i] acc ρ (fun acc' ρ' => lcL2 g t di1 g1 t1 de vs vs1 q (ds.drop (i + 1)) acc' ρ') (by simp [hlt]) h fun acc' ρ' h' => ih (i + 1) acc' ρ' (by omega) hlt h'
  exact go _ 0 [] ρ rfl (Nat.zero_le _) h0
end DL
set_option autoImplicit false
set_option Elab.async false
set_option linter.all false
set_option maxRecDepth 100000
namespace DL
open PySem L2 Evl PySem.Spec PyProof.Rows
/-! ### a def that hands over a pair: something, and a new object -/
section
variable (K : PySem.W.Frag) (pa : PaG)
/-- the pair lies at t and is known, its second item is not -/
structure LkT (F : Hp) (W : WX) (G : Hp) (D : Ends) (DD : Do) : Prop where
  nx : ∀ G' σ' H' ρ', Ex G G' → Sim K pa F G' σ' H' ρ' → DD.nx ρ' → D.nx σ' H'
  rf : ∀ G' σ' H' ρ' t v p d1 d2, Ex G G' → Sim K pa F G' σ' H' ρ' → SqT K G' t [v, .ref p] → Rep K G' v d1 → G' p = none ∧ F p = none → OwnAt K G' H' p d2 → (∀ (i : Nat) (s : Sl) (d : DL.D), ρ'[i]? = some s → s.ownD = some d → σ'[i]? ≠ some (some (.ref p))) → DD.rf (.tup [d1, d2]) ρ' → D.rt (.ref t) H'
  er : ∀ G' σ' H' ρ' C d vs fs, Ex G G' → Sim K pa F G' σ' H' ρ' → DD.er C fs ρ' → G' d = some (.xd vs) → RepF K G' vs fs → W (.ref C) (some d) σ' H'
def SST (W : WX) (ts : TS) (ds : DS) : Prop := ∀ (F G : Hp) (σ : RSt) (H : Hp) (ρ : Ro) (D : Ends) (DD : Do), Sim K pa F G σ H ρ → ds DD ρ → LkT K pa F W G D DD → ts D σ H
end
/-- a part that only falls through -/
def dSeqP (a b : DS) : DS := fun DD ρ => a { nx := b DD, rt := fun _ _ => False, er := DD.er } ρ
def dRetT (de : DE) (df : DF) : DS := fun DD ρ => de ρ (fun t ρ1 => match t with
  | .val d1 => df ρ1 (fun d2 ρ2 => DD.rf (.tup [d1, d2]) ρ2) DD.er
  | .bor _ => False) DD.er
def dIfF (t : DT) (a b : DF) : DF := fun ρ q er => t ρ (fun c ρ1 => if c = true then a ρ1 q er else b ρ1 q er) er
section
variable {K : PySem.W.Frag} {pa : PaG} {W : WX}
theorem LkT.grow {F G G' : Hp} {D : Ends} {DD : Do} (e : Ex G G') (l : LkT K pa F W G D DD) : LkT K pa F W G' D DD :=
  ⟨fun a b c d x => l.nx a b c d (e.trans x), fun a b c d t v p d1 d2 x => l.rf a b c d t v p d1 d2 (e.trans x), fun a b c d C y vs fs x => l.er a b c d C y vs fs (e.trans x)⟩
theorem LkT.xl {F G : Hp} {D : Ends} {DD : Do} (l : LkT K pa F W G D DD) (σ : RSt) : XL K pa F G W σ DD.er := fun G' H' ρ' C d vs fs e => l.er G' σ H' ρ' C d vs fs e
theorem sst_next : SST K pa W tNext dNext := fun F G σ H ρ D DD S h l => l.nx G σ H ρ (Ex.refl G) S h
theorem sst_seq {ts us : TS} {ds es : DS} (h1 : SS K pa W ts ds) (h2 : SST K pa W us es) : SST K pa W (tSeq ts us) (dSeqP ds es) := fun F G σ H ρ D DD S h l =>
  h1 F G σ H ρ _ _ S h ⟨fun G' σ' H' ρ' e S' q => h2 F G' σ' H' ρ' D DD S' q (l.grow e), fun _ _ _ _ _ _ q => q.elim, fun _ _ _ _ _ _ q => q.elim, fun _ _ _ _ _ _ _ _ _ q => q.elim, fun _ _ _ _ _ _ _ _ _ _ _ q => q.elim, l.er⟩
theorem sst_seqT {ts us : TS} {ds es : DS} (h1 : SST K pa W ts ds) (h2 : SST K pa W us es) : SST K pa W (tSeq ts us) (dSeq ds es) := fun F G σ H ρ D DD S h l =>
  h1 F G σ H ρ _ _ S h ⟨fun G' σ' H' ρ' e S' q => h2 F G' σ' H' ρ' D DD S' q (l.grow e), l.rf, l.er⟩
theorem sst_if {tt : TT} {dt : DT} {ts us : TS} {ds es : DS} (ht : ST K pa W tt dt) (h1 : SST K pa W ts ds) (h2 : SST K pa W us es) : SST K pa W (tIfS tt ts us) (dIfS dt ds es) := fun F G σ H ρ D DD S h l =>
  ht F G σ H ρ _ _ _ S h (fun G' H' b ρ' e S' q => by
    cases b with
    | true => exact h1 F G' σ H' ρ' D DD S' q (l.grow e)
    | false => exact h2 F G' σ H' ρ' D DD S' q (l.grow e)) (l.xl σ)
theorem sf_if {tt : TT} {dt : DT} {ta tb : TE} {da db : DF} (ht : ST K pa W tt dt) (ha : SF K pa W ta da) (hb : SF K pa W tb db) : SF K pa W (tIf tt ta tb) (dIfF dt da db) := fun F G σ H ρ Q q er S h k x =>
  ht F G σ H ρ _ _ er S h (fun G1 H1 c ρ1 e1 S1 h1 => by
    cases c with
    | true => exact ha F G1 σ H1 ρ1 Q q er S1 h1 (fun G2 H2 p d ρ2 e2 => k G2 H2 p d ρ2 (e1.trans e2)) (x.grow e1)
    | false => exact hb F G1 σ H1 ρ1 Q q er S1 h1 (fun G2 H2 p d ρ2 e2 => k G2 H2 p d ρ2 (e1.trans e2)) (x.grow e1)) x
theorem sst_ret {te tf : TE} {de : DE} {df : DF} (he : SE K pa W te de) (hf : SF K pa W tf df) : SST K pa W (tRet (tTup (tCons te (tCons tf tNil)))) (dRetT de df) := fun F G σ H ρ D DD S h l =>
  he F G σ H ρ _ _ _ S h (fun G1 H1 v t ρ1 e1 S1 r1 h1 => by
    cases t with
    | bor k => exact h1.elim
    | val d1 =>
      refine hf F G1 σ H1 ρ1 _ _ _ S1 h1 (fun G2 H2 p d2 ρ2 e2 S2 gp ow fr h2 => ?_) ((l.xl σ).grow e1)
      have r1 : Rep K G1 v d1 := r1
      refine ⟨show (2 : Nat) ≤ sizeLine by decide, fun q hq => ?_⟩
      have a := Al.one (G := G2) (p := q) (o := .tup [v, V.ref p]) S2.ex hq
      have hpq : p ≠ q := fun z => by
        obtain ⟨o, ho⟩ := ow.some
        rw [z, hq] at ho
        cases ho
      exact l.rf _ σ _ ρ2 q v p d1 d2 (e1.trans (e2.trans a.g)) (S2.al a) (SqT.of upd_same) (r1.mono (e2.trans a.g)) ⟨by rw [upd_ne hpq]; exact gp.1, gp.2⟩ (ow.mono a.g (by rw [upd_ne hpq])) fr h2) (l.xl σ)
/-! ### the def -/
def SpT (K : PySem.W.Frag) (n : Nat) (dsp : DSp) : Sp := fun vs H Q E => ∃ T F G av, vs.length = n ∧ Ex G H ∧ Ex F H ∧ DjT T F G H ∧ ArgsR K F G H vs av ∧ (parsOf vs av).Nodup ∧ ∃ q er, dsp av q er ∧
  (∀ G' H' t v p d1 d2 os, Ex G G' → Ex G' H' → Ex F H' → DjT T F G' H' → Outs K G' H' vs av os → SqT K G' t [v, .ref p] → Rep K G' v d1 → G' p = none → F p = none → p ∉ parsOf vs av → OwnAt K G' H' p d2 → q (.tup [d1, d2]) os → Q (.ref t) H') ∧
  (∀ G' H' C y fv fs os, Ex G G' → Ex G' H' → Ex F H' → DjT T F G' H' → Outs K G' H' vs av os → G' y = some (.xd fv) → RepF K G' fv fs → er C fs os → E (.ref C) (some y) H')
theorem SpT.len {n : Nat} {dsp : DSp} {vs : List V} {H : Hp} {Q : VK} {E : XK} (h : SpT K n dsp vs H Q E) : vs.length = n := by obtain ⟨_, _, _, _, h, _⟩ := h; exact h
theorem bodyT {H0 : Hp} {N : List Str} {n : Nat} {ts : TS} {ds : DS} {vs : List V} {Q : VK} {E : XK} (h : ∀ T, SST K (paOf vs T) (fun cls d _ H => E cls d H) ts ds) (hn : n ≤ N.length) (hs : SpT K n (dBodyF N.length ds) vs H0 Q E) :
    ts { nx := fun _ H' => Q .non H', rt := Q } (L2.start N vs) H0 := by
  obtain ⟨T, F, G, av, hl, eg, ef, dj, r, nd, q, er, hd, kq, ke⟩ := hs
  have S := sim_start (N := N) eg ef dj r nd (by omega)
  have fin : ∀ {G' H' : Hp} {σ' : RSt} {ρ' : Ro} {os : List D}, Sim K (paOf vs T) F G' σ' H' ρ' → outs ρ' (parIx av 0) = some os → Outs K G' H' vs av os := fun {G' H' σ' ρ' os} S' e => outs_end S' r (fun i v h => h) e
  have notin : ∀ {G' H' : Hp} {σ' : RSt} {ρ' : Ro} {os : List D} {p : Addr}, Sim K (paOf vs T) F G' σ' H' ρ' → outs ρ' (parIx av 0) = some os → (∀ (i : Nat) (e : D), ρ'[i]? = some (.par e) → σ'[i]? ≠ some (some (.ref p))) → p ∉ parsOf vs av := fun {G' H' σ' ρ' os p} S' eo hp hm => by
    obtain ⟨i, d, h1, h2⟩ := par_in r hm
    obtain ⟨e, he⟩ := outs_at eo h1
    rw [Nat.add_zero] at he
    refine hp i e he ?_
    rw [S'.par i e he, show (paOf vs T).f i = paF vs i from rfl]
    unfold paF
    rw [h2]
  refine h T F G _ H0 _ _ _ S hd ⟨fun _ _ _ _ _ _ q' => q'.elim, fun G' σ' H' ρ' t v p d1 d2 e S' sq r1 gp ow fr q' => ?_, fun G' σ' H' ρ' C d vs' fs e S' q' h1 h2 => ?_⟩
  · obtain ⟨os, eo, q'⟩ := q'
    exact kq G' H' t v p d1 d2 os e S'.ex S'.fx S'.dj (fin S' eo) sq r1 gp.1 gp.2 (notin S' eo fun j e' hj hp => fr j _ e' hj rfl hp) ow q'
  · obtain ⟨os, eo, q'⟩ := q'
    exact ke G' H' C d vs' fs os e S'.ex S'.fx S'.dj (fin S' eo) h1 h2 q'
/-! ### the call, its pair unpacked -/
variable {ta : TA} {da : DA} {n : Nat} {dsp : DSp}
theorem call_coreT {F G : Hp} {σ : RSt} {H : Hp} {ρ : Ro} {vs : List V} {ts : List T} {av : List Sl} {Q : VK} {E : XK} {q : D → List D → Prop} {er : Addr → List (Str × D) → List D → Prop} (S : Sim K pa F G σ H ρ) (r : TkRs K G σ vs ts) (ea : argsOf ρ ts = some av) (nd : (bors ts).Nodup) (hn : vs.length = n)
    (hd : dsp av q er) (k : ∀ G' H' t v p d1 d2 os, Ex G G' → Sim K pa F G' σ H' (putOuts ρ (bors ts) os) → SqT K G' t [v, .ref p] → Rep K G' v d1 → G' p = none ∧ F p = none → OwnAt K G' H' p d2 → (∀ (i : Nat) (s : Sl) (d : D), (putOuts ρ (bors ts) os)[i]? = some s → s.ownD = some d → σ[i]? ≠ some (some (.ref p))) → q (.tup [d1, d2]) os → Q (.ref t) H')
    (ke : ∀ G' H' C y fv fs os, Ex G G' → Sim K pa F G' σ H' (putOuts ρ (bors ts) os) → G' y = some (.xd fv) → RepF K G' fv fs → er C fs os → E (.ref C) (some y) H') : SpT K n dsp vs H Q E := by
  obtain ⟨a1, a2, a3⟩ := args_rel S (bors ts) r ea (fun i hi => hi) nd
  refine ⟨pa.T, calF F H σ ρ (bors ts), G, av, hn, S.ex, calF_ex S _, calF_dj S _, a1, a2, q, er, hd, fun G' H' t v p d1 d2 os e gh fx dj o sq r1 gp fp np ow hq => ?_, fun G' H' C y fv fs os e gh fx dj o h1 h2 hq => ?_⟩
  · have po := outs_rel (σ := σ) r ea o
    have S' := S.behind e gh fx dj po
    refine k G' H' t v p d1 d2 os e S' sq r1 ⟨gp, fresh_back (calF_of S _) fp⟩ ow (fun i s d' hs hd' hp => ?_) hq
    rcases putOuts_get _ _ os ρ i s po hs with ⟨hi, h2⟩ | ⟨s', e', h1, h2, h3, h4⟩
    · obtain ⟨b, k1, _, k3⟩ := S.own i s d' h2 hd'
      rw [hp] at k1
      cases k1
      obtain ⟨o', ho⟩ := k3.some
      rw [calF_own ⟨i, s, d', hi, h2, hd', hp⟩, ho] at fp
      cases fp
    · refine np ?_
      have hlen : ∀ {vs : List V} {ts : List T} {av : List Sl}, TkRs K G σ vs ts → argsOf ρ ts = some av → i ∈ bors ts → p ∈ parsOf vs av := by
        intro vs ts
        induction ts generalizing vs with
        | nil => intro av _ _ h; cases h
        | cons t ts ih =>
          intro av r e hi
          cases r with
          | cons h r =>
            cases t with
            | val d =>
              have e : (argsOf ρ ts).map (fun a => .val d :: a) = some av := e
              cases q : argsOf ρ ts with
              | none => rw [q] at e; cases e
              | some a => rw [q] at e; cases e; exact List.mem_append_right _ (ih r q hi)
            | bor j =>
              have e : (rd ρ (.bor j)).bind (fun d => (argsOf ρ ts).map fun a => .par d :: a) = some av := e
              cases q1 : rd ρ (.bor j) with
              | none => rw [q1] at e; cases e
              | some d =>
                rw [q1] at e
                have e : (argsOf ρ ts).map (fun a => .par d :: a) = some av := e
                cases q : argsOf ρ ts with
                | none => rw [q] at e; cases e
                | some a =>
                  rw [q] at e
                  cases e
                  rcases List.mem_cons.mp (show i ∈ j :: bors ts from hi) with z | z
                  · subst z
                    have h : σ[i]? = some (some _) := h
                    rw [hp] at h
                    cases h
                    exact List.mem_append_left _ List.mem_cons_self
                  · exact List.mem_append_right _ (ih r q z)
      exact hlen r ea h4
  · exact ke G' H' C y fv fs os e (S.behind e gh fx dj (outs_rel r ea o)) h1 h2 hq
/-- i, j = f(..) -/
def dCallT (i j : Nat) (dsp : DSp) (da : DA) : DS := fun DD ρ => da ρ (fun ts ρ1 => Opt (argsOf ρ1 ts) fun av => (bors ts).Nodup ∧ dsp av (fun d os => match d with
  | .tup [d1, d2] => (isPar (putOuts ρ1 (bors ts) os) i = false ∧ isPar (putOuts ρ1 (bors ts) os) j = false) ∧ DD.nx (((putOuts ρ1 (bors ts) os).set i (.val d1)).set j (.own d2))
  | _ => False) (fun _ _ _ => False)) DD.er
theorem ss_callT {i j : Nat} (ha : SA K pa W ta da) : SS K pa W (tAsg (tCall (SpT K n dsp) [] L2.E0 ta) (gTup K 2 (gCons (gName i) (gCons (gName j) gNil)))) (dCallT i j dsp (dN n da)) := fun F G σ H ρ D DD S h l =>
  ha F G σ H ρ _ _ _ S h (fun G1 H1 vs ts ρ1 e1 S1 r1 h1 => by
    obtain ⟨hl, av, ea, nd, hd⟩ := h1
    show SpT K n dsp (vs ++ []) H1 _ _
    rw [List.append_nil]
    refine call_coreT S1 r1 ea nd (by rw [r1.length]; exact hl) hd (fun G' H' t v p d1 d2 os e S' sq rv gp ow fr hq => ?_) (fun G' H' C y fv fs os e S' h1 h2 hq => hq.elim)
    refine ⟨_, _, rfl, ex_t S'.ex sq, rfl, v, [.ref p], rfl, .ref p, [], rfl, rfl, ?_⟩
    exact l.nx G' _ H' _ (e1.trans e) ((S'.store hq.1.1 rv).storeOwn (isPar_set hq.1.2) gp ow (fr_set (F := F) (G := G') (H := H') fr)) hq.2) (l.xl σ)
end
section
variable {a b : DS} {nx : Ro → Prop} {rt : T → Ro → Prop} {rf : D → Ro → Prop} {bk ct : Ro → Prop} {er : ER} {ρ : Ro} {de : DE} {df : DF} {i j : Nat} {dsp : DSp} {da : DA}
theorem w_seqP : dSeqP a b ⟨nx, rt, rf, bk, ct, er⟩ ρ = a ⟨b ⟨nx, rt, rf, bk, ct, er⟩, fun _ _ => False, fun _ _ => False, fun _ => False, fun _ => False, er⟩ ρ := rfl
theorem w_retT : dRetT de df ⟨nx, rt, rf, bk, ct, er⟩ ρ = de ρ (fun t ρ1 => match t with
  | .val d1 => df ρ1 (fun d2 ρ2 => rf (.tup [d1, d2]) ρ2) er
  | .bor _ => False) er := rfl
theorem w_callT : dCallT i j dsp da ⟨nx, rt, rf, bk, ct, er⟩ ρ = da ρ (fun ts ρ1 => Opt (argsOf ρ1 ts) fun av => (bors ts).Nodup ∧ Run dsp av (fun d os => match d with
  | .tup [d1, d2] => (isPar (putOuts ρ1 (bors ts) os) i = false ∧ isPar (putOuts ρ1 (bors ts) os) j = false) ∧ nx (((putOuts ρ1 (bors ts) os).set i (.val d1)).set j (.own d2))
  | _ => False) (fun _ _ _ => False)) er := rfl
end
end DL
set_option autoImplicit false
set_option Elab.async false
set_option linter.all false
set_option maxRecDepth 100000
namespace DL
open PySem L2 Evl PySem.Spec PyProof.Rows
/-! ### x in a list none of whose items is equal to it, whatever it is -/
section
variable {X : Cx}
def rInNo (K : PySem.W.Frag) (k : Bool) : R2 := fun x y H Q => ∃ p ys a c, x = .ref a ∧ Cont K H a c ∧ y = .ref p ∧ SqL K H p ys ∧ (∀ z ∈ ys, flV z = true) ∧ Q (.bl k) H
theorem any_no (us : Array Value) : us.any (fun _ => false) = false := by
  rw [Bool.eq_false_iff]
  intro h
  obtain ⟨_, _, h⟩ := Array.any_eq_true.mp h
  cases h
theorem op_inNo (hu : X.A.units + 65 < cLine) : OpR X (compareOp .In) (rInNo X.K false) := by
  intro pins s σ H x y v u Q I rx ry h
  obtain ⟨p, ys, a, c, rfl, hc, rfl, h1, hh, q⟩ := h
  cases rx
  cases ry
  obtain ⟨us, r1, p1, _⟩ := I.list h1
  refine SeqAt.in_listAt (fun _ => false) p1.isList (fun z hz => ?_) ⟨V.bl _, H, I, by rw [any_no]; rfl, q⟩
  obtain ⟨j, hj, e⟩ := Array.mem_iff_getElem.mp hz
  obtain ⟨zv, hzv, rz⟩ := vals_item r1 hj
  rw [e] at rz
  exact (fc_at (A := X.A.in1) I (by show X.A.units + 1 < cLine; omega) c zv z (hh zv (List.mem_of_getElem? hzv)) hc rz).1
theorem op_notInNo (hu : X.A.units + 65 < cLine) : OpR X (compareOp .NotIn) (rInNo X.K true) := by
  intro pins s σ H x y v u Q I rx ry h
  obtain ⟨p, ys, a, c, rfl, hc, rfl, h1, hh, q⟩ := h
  cases rx
  cases ry
  obtain ⟨us, r1, p1, _⟩ := I.list h1
  refine SeqAt.notIn_listAt (fun _ => false) p1.isList (fun z hz => ?_) ⟨V.bl _, H, I, by rw [any_no]; rfl, q⟩
  obtain ⟨j, hj, e⟩ := Array.mem_iff_getElem.mp hz
  obtain ⟨zv, hzv, rz⟩ := vals_item r1 hj
  rw [e] at rz
  exact (fc_at (A := X.A.in1) I (by show X.A.units + 1 < cLine; omega) c zv z (hh zv (List.mem_of_getElem? hzv)) hc rz).1
def rInY (K : PySem.W.Frag) : R2 := fun x y H Q => rInX K x y H Q ∨ rInNo K false x y H Q
def rNotInY (K : PySem.W.Frag) : R2 := fun x y H Q => rNotInX K x y H Q ∨ rInNo K true x y H Q
theorem op_inY (hu : X.A.units + 65 < cLine) : OpR X (compareOp .In) (rInY X.K) := OpR.or (op_inX hu) (op_inNo hu)
theorem op_notInY (hu : X.A.units + 65 < cLine) : OpR X (compareOp .NotIn) (rNotInY X.K) := OpR.or (op_notInX hu) (op_notInNo hu)
end
def D.flB : D → Bool
  | .non => true
  | .bl _ => true
  | .int _ => true
  | .str _ => true
  | _ => false
def D.inNo (k : Bool) (a b : D) : Option D := match a, b with
  | .dct _, .lst ds => if ds.all D.flB = true then some (.bl k) else none
  | _, _ => none
def D.inY (a b : D) : Option D := (D.isIn a b).or (D.inNo false a b)
def D.notInY (a b : D) : Option D := (D.notIn a b).or (D.inNo true a b)
section
variable {K : PySem.W.Frag}
theorem reps_mem {G : Hp} {vs : List V} {ds : List D} {v : V} (r : Reps K G vs ds) (h : v ∈ vs) : ∃ d ∈ ds, Rep K G v d := by
  obtain ⟨j, hj⟩ := List.mem_iff_getElem?.mp h
  obtain ⟨d, h1, h2⟩ := reps_at r hj
  exact ⟨d, List.mem_of_getElem? h1, h2⟩
theorem fl_of {G : Hp} {v : V} {d : D} (r : Rep K G v d) (h : d.flB = true) : flV v = true := by
  cases r <;> first | rfl | cases h
theorem sr_inNo (k : Bool) : SR K (rInNo K k) (D.inNo k) := fun G H x y dx dy z Q e rx ry q kk => by
  cases dx with
  | dct es =>
    cases dy with
    | lst ds =>
      have q : (if ds.all D.flB = true then some (D.bl k) else none) = some z := q
      by_cases h : ds.all D.flB = true
      · rw [if_pos h] at q
        cases q
        obtain ⟨p, vs, rfl, h1, h2⟩ := ry.lst e
        obtain ⟨a, ks, rfl, h3, h4⟩ := rx.dct e
        refine ⟨p, vs, a, .d, rfl, ⟨_, h3⟩, rfl, h1, fun w hw => ?_, kk G H _ (Al.refl e) (.bl k)⟩
        obtain ⟨d, hd, rd⟩ := reps_mem h2 hw
        exact fl_of rd (List.all_eq_true.mp h d hd)
      · rw [if_neg h] at q; cases q
    | _ => cases q
  | _ => cases q
theorem orY_cases {α : Type} {a b : Option α} {z : α} (h : a.or b = some z) : a = some z ∨ b = some z := by
  cases a with
  | none => exact .inr h
  | some c => exact .inl h
theorem sr_inY : SR K (rInY K) D.inY := fun G H x y dx dy z Q e rx ry q k =>
  (orY_cases q).elim (fun h => .inl (sr_in G H x y dx dy z Q e rx ry h k)) fun h => .inr (sr_inNo false G H x y dx dy z Q e rx ry h k)
theorem sr_notInY : SR K (rNotInY K) D.notInY := fun G H x y dx dy z Q e rx ry q k =>
  (orY_cases q).elim (fun h => .inl (sr_notIn G H x y dx dy z Q e rx ry h k)) fun h => .inr (sr_inNo true G H x y dx dy z Q e rx ry h k)
end
end DL
set_option autoImplicit false
set_option Elab.async false
set_option linter.all false
set_option maxRecDepth 100000
set_option maxHeartbeats 1000000
/-! DY5: lists whose items are own objects, seen equal -/
namespace PySem.SeqAt
open MeetsSeq MeetsSeq2 MeetsSeq3 SeqRoads2
section
variable {prog : Program} {w : World} {A : Around} {R : Result → Shared → Prop}
def ListJ (prog : Program) (w : World) (A : Around) (E : Value → Shared → Prop) (l b : Addr) (N : Nat) (I : Shared → Prop) : Prop :=
  ∀ s, I s → ∃ (u v : Array Value) (m1 m2 : Nat) (q1 q2 : Option Addr) (z1 z2 : Array (Option Value)), s.heap.get? l = some (LObj u m1 q1 z1) ∧ s.heap.get? b = some (LObj v m2 q2 z2) ∧ u.size = N ∧ v.size = N ∧
    ∀ i (h1 : i < u.size) (h2 : i < v.size), wpAny (model prog w) A.in1 (eqBool u[i] v[i]) (fun r s' => r = true ∧ I s') E s
theorem eq_loopJ (l b : Addr) (N : Nat) (I : Shared → Prop) (hl : ListJ prog w A (fun e s' => R (.error e) s') l b N I)
    (fin : ∀ s, I s → R (.ok (.ret (.bool true))) s) (k : Nat) :
    ∀ i : Nat, N - i = k → i ≤ N → ∀ s, I s →
      wpAny (model prog w) A.in1 (Builtin.«list.__eq__.loop» ⟨[.ref l, .ref b, rawInt i, rawInt 2], []⟩) (GQ.FinOf prog w A R) (fun e s' => R (.error e) s') s := by
  induction k with
  | zero =>
    intro i hk hi s h
    obtain ⟨items, items2, n, n2, q1, q2, z1, z2, hl1, hb1, hs1, hs2, _⟩ := hl _ h
    have hR : R (.ok (.ret (.bool true))) s := fin s h
    obtain ⟨hp, g, d, tk, os⟩ := s
    wp_walk using AutoSeq1.wpAny_loadPart' hl1, AutoSeq1.wpAny_loadPart' hb1
    have hi1 : items[((i : Nat) : Int).toNat]? = none := by simp; omega
    have hi2 : items2[((i : Nat) : Int).toNat]? = none := by simp; omega
    rw [hi1, hi2]
    wp_walk using AutoSeq1.wpAny_loadPart' hl1, AutoSeq1.wpAny_loadPart' hb1
    show R (.ok (.ret (.bool (items.size == items2.size)))) _
    rw [hs1, hs2]
    simpa using hR
  | succ k ih =>
    intro i hk hi s h
    obtain ⟨items, items2, n, n2, q1, q2, z1, z2, hl1, hb1, hs1, hs2, turn⟩ := hl _ h
    have hlt : i < items.size := by omega
    have hlt2 : i < items2.size := by omega
    have ht := turn i hlt hlt2
    obtain ⟨hp, g, d, tk, os⟩ := s
    wp_walk using AutoSeq1.wpAny_loadPart' hl1, AutoSeq1.wpAny_loadPart' hb1
    have hi1 : items[((i : Nat) : Int).toNat]? = some items[i] := by simp [hlt]
    have hi2 : items2[((i : Nat) : Int).toNat]? = some items2[i] := by simp [hlt2]
    have hc : ((i : Int) + 1) = ((i + 1 : Nat) : Int) := by omega
    rw [hi1, hi2]
    refine wpAny_bind (wpAny_mono ht (fun r s2 h2 => ?_) fun _ _ x => x)
    obtain ⟨hr, h2⟩ := h2
    subst hr
    have hrec := ih (i + 1) (by omega) (by omega) s2 h2
    obtain ⟨hp2, g2, d2, tk2, os2⟩ := s2
    wp_walk
    rw [hc]
    exact ⟨plainId_quiet plain_eq_loop _, codeAny_builtin entry_eq_loop (by
      rw [Around.under_plainId plain_eq_loop _]
      exact hrec)⟩
theorem eq_listJ (l b : Addr) (N : Nat) (I : Shared → Prop) (hl : ListJ prog w A (fun e s' => R (.error e) s') l b N I)
    (fin : ∀ s, I s → R (.ok (.ret (.bool true))) s) {s : Shared} (h : I s) :
    wpAny (model prog w) A.in1 (Builtin.«list.__eq__» ⟨[.ref l, .ref b], []⟩) (GQ.FinOf prog w A R) (fun e s' => R (.error e) s') s := by
  obtain ⟨items, items2, n, n2, q1, q2, z1, z2, hl1, hb1, hs1, hs2, _⟩ := hl _ h
  have hrec := eq_loopJ (A := A) (R := R) l b N I hl fin _ 0 rfl (Nat.zero_le _) s h
  obtain ⟨hp, g, d, tk, os⟩ := s
  have f3 := AutoSeq1.sub_list_list
  have hne : ¬ (items.size != items2.size) = true := by simp [hs1, hs2]
  wp_walk using AutoSeq1.wpAny_loadPart' hl1, AutoSeq1.wpAny_loadPart' hb1
  exact ⟨plainId_quiet plain_eq_loop _, codeAny_builtin entry_eq_loop (by
    rw [Around.under_plainId plain_eq_loop _]
    exact hrec)⟩
theorem rc_eqJ {E Q : Value → Shared → Prop} {s : Shared} {l b : Addr} {N : Nat} (hu : A.units < cLine) (I : Shared → Prop) (hl : ListJ prog w A E l b N I)
    (fin : ∀ s, I s → Q (.bool true) s) (h : I s) : wpAny (model prog w) A (richCompare .Eq (.ref l) (.ref b)) Q E s := by
  obtain ⟨items, items2, n, n2, q1, q2, z1, z2, hl1, hb1, _, _, _⟩ := hl _ h
  refine wpAny_richCompare_same_room (op := .Eq) ⟨_, hl1, rfl⟩ ⟨_, hb1, rfl⟩ PySem.F.slot_list_eq (GQ.call_here PySem.F.slot_list_eq ⟨_, hl1, rfl⟩ PySem.F.entry_list_eq (PySem.F.args_list_eq_2 _ _) ?_) hu
  exact eq_listJ (R := wants (fun v s' => v ≠ .notImplemented ∧ Q v s') E) l b N I hl (fun s' q => ⟨(fun x => nomatch x), fin s' q⟩) h
theorem ne_loopJ (l b : Addr) (N : Nat) (I : Shared → Prop) (hl : ListJ prog w A (fun e s' => R (.error e) s') l b N I)
    (fin : ∀ s, I s → R (.ok (.ret (.bool false))) s) (k : Nat) :
    ∀ i : Nat, N - i = k → i ≤ N → ∀ s, I s →
      wpAny (model prog w) A.in1 (Builtin.«list.__eq__.loop» ⟨[.ref l, .ref b, rawInt i, rawInt 3], []⟩) (GQ.FinOf prog w A R) (fun e s' => R (.error e) s') s := by
  induction k with
  | zero =>
    intro i hk hi s h
    obtain ⟨items, items2, n, n2, q1, q2, z1, z2, hl1, hb1, hs1, hs2, _⟩ := hl _ h
    have hR : R (.ok (.ret (.bool false))) s := fin s h
    obtain ⟨hp, g, d, tk, os⟩ := s
    wp_walk using AutoSeq1.wpAny_loadPart' hl1, AutoSeq1.wpAny_loadPart' hb1
    have hi1 : items[((i : Nat) : Int).toNat]? = none := by simp; omega
    have hi2 : items2[((i : Nat) : Int).toNat]? = none := by simp; omega
    rw [hi1, hi2]
    wp_walk using AutoSeq1.wpAny_loadPart' hl1, AutoSeq1.wpAny_loadPart' hb1
    show R (.ok (.ret (.bool (items.size != items2.size)))) _
    rw [hs1, hs2]
    simpa using hR
  | succ k ih =>
    intro i hk hi s h
    obtain ⟨items, items2, n, n2, q1, q2, z1, z2, hl1, hb1, hs1, hs2, turn⟩ := hl _ h
    have hlt : i < items.size := by omega
    have hlt2 : i < items2.size := by omega
    have ht := turn i hlt hlt2
    obtain ⟨hp, g, d, tk, os⟩ := s
    wp_walk using AutoSeq1.wpAny_loadPart' hl1, AutoSeq1.wpAny_loadPart' hb1
    have hi1 : items[((i : Nat) : Int).toNat]? = some items[i] := by simp [hlt]
    have hi2 : items2[((i : Nat) : Int).toNat]? = some items2[i] := by simp [hlt2]
    have hc : ((i : Int) + 1) = ((i + 1 : Nat) : Int) := by omega
    rw [hi1, hi2]
    refine wpAny_bind (wpAny_mono ht (fun r s2 h2 => ?_) fun _ _ x => x)
    obtain ⟨hr, h2⟩ := h2
    subst hr
    have hrec := ih (i + 1) (by omega) (by omega) s2 h2
    obtain ⟨hp2, g2, d2, tk2, os2⟩ := s2
    wp_walk
    rw [hc]
    exact ⟨plainId_quiet plain_eq_loop _, codeAny_builtin entry_eq_loop (by
      rw [Around.under_plainId plain_eq_loop _]
      exact hrec)⟩
theorem ne_listJ (l b : Addr) (N : Nat) (I : Shared → Prop) (hl : ListJ prog w A (fun e s' => R (.error e) s') l b N I)
    (fin : ∀ s, I s → R (.ok (.ret (.bool false))) s) {s : Shared} (h : I s) :
    wpAny (model prog w) A.in1 (Builtin.«list.__ne__» ⟨[.ref l, .ref b], []⟩) (GQ.FinOf prog w A R) (fun e s' => R (.error e) s') s := by
  obtain ⟨items, items2, n, n2, q1, q2, z1, z2, hl1, hb1, hs1, hs2, _⟩ := hl _ h
  have hrec := ne_loopJ (A := A) (R := R) l b N I hl fin _ 0 rfl (Nat.zero_le _) s h
  obtain ⟨hp, g, d, tk, os⟩ := s
  have f3 := AutoSeq1.sub_list_list
  have hne : ¬ (items.size != items2.size) = true := by simp [hs1, hs2]
  wp_walk using AutoSeq1.wpAny_loadPart' hl1, AutoSeq1.wpAny_loadPart' hb1
  exact ⟨plainId_quiet plain_eq_loop _, codeAny_builtin entry_eq_loop (by
    rw [Around.under_plainId plain_eq_loop _]
    exact hrec)⟩
theorem rc_neJ {E Q : Value → Shared → Prop} {s : Shared} {l b : Addr} {N : Nat} (hu : A.units < cLine) (I : Shared → Prop) (hl : ListJ prog w A E l b N I)
    (fin : ∀ s, I s → Q (.bool false) s) (h : I s) : wpAny (model prog w) A (richCompare .NotEq (.ref l) (.ref b)) Q E s := by
  obtain ⟨items, items2, n, n2, q1, q2, z1, z2, hl1, hb1, _, _, _⟩ := hl _ h
  refine wpAny_richCompare_same_room (op := .NotEq) ⟨_, hl1, rfl⟩ ⟨_, hb1, rfl⟩ PySem.F.slot_list_ne (GQ.call_here PySem.F.slot_list_ne ⟨_, hl1, rfl⟩ PySem.F.entry_list_ne (PySem.F.args_list_ne_2 _ _) ?_) hu
  exact ne_listJ (R := wants (fun v s' => v ≠ .notImplemented ∧ Q v s') E) l b N I hl (fun s' q => ⟨(fun x => nomatch x), fin s' q⟩) h
end
end PySem.SeqAt
namespace DL
open PySem L2 Evl PySem.Spec PyProof.Rows
/-- data that are equal to themselves, by their own == -/
inductive SelfEq (l : List (Addr × DSp)) : D → Prop
  | flat {d : D} : D.eqX 8 d d = some true → SelfEq l d
  | ins {C : Addr} {fs : List (Str × D)} {dsp : DSp} : (C, dsp) ∈ l → noEr dsp [.val (.ins C fs), .val (.ins C fs)] (fun r _ => r = .bl true) (fun _ _ _ => False) → SelfEq l (.ins C fs)
def DSelf (K : PySem.W.Frag) (l : List (Addr × DSp)) : Eqv := fun x y H => ∃ G d, Ex G H ∧ Rep K G x d ∧ Rep K G y d ∧ SelfEq l d
theorem mon_self {K : PySem.W.Frag} {l : List (Addr × DSp)} : Mon (DSelf K l) := fun x y H H' e d => by
  obtain ⟨G, d, h1, h2, h3, h4⟩ := d
  exact ⟨G, d, fun a o z => e a o (h1 a o z), h2, h3, h4⟩
def RIns (K : PySem.W.Frag) (C : Addr) (dsp : DSp) (a b : Addr) (H : Hp) : Prop := ∃ G fs, Ex G H ∧ Rep K G (.ref a) (.ins C fs) ∧ Rep K G (.ref b) (.ins C fs) ∧ noEr dsp [.val (.ins C fs), .val (.ins C fs)] (fun r _ => r = .bl true) (fun _ _ _ => False)
theorem spEq_of {K : PySem.W.Frag} {C : Addr} {dsp : DSp} : ∀ (vs : List V) (H : Hp) (Q : VK) (E : XK), spEq (RIns K C dsp) vs H Q E → SpV K 2 dsp vs H Q E := by
  intro vs H Q E h
  obtain ⟨a, b, rfl, ⟨G, fs, e, ra, rb, hd⟩, k⟩ := h
  refine ⟨[], fun x => match G x with | none => H x | some _ => none, G, [.val (.ins C fs), .val (.ins C fs)], rfl, e, fun x o h => ?_, ⟨fun x o h => ?_, fun p hp => (by cases hp), fun p hp => (by cases hp), fun z => absurd rfl z⟩, .val ra (.val rb .nil), List.nodup_nil, _, _, hd, fun G' H' v d os e' gh fx dj o rv hq => ?_, fun _ _ _ _ _ _ _ _ _ _ _ _ _ _ h => h.elim⟩
  · cases q : G x with
    | none => simpa [q] using h
    | some o' => simp [q] at h
  · cases q : G x with
    | none => rfl
    | some o' => simp [q] at h
  · have hq : d = .bl true := hq
    subst hq
    cases rv
    refine k H' fun x o hx => ?_
    cases q : G x with
    | none => exact fx x o (by simpa [q] using hx)
    | some o' =>
      have := e x o' q
      rw [hx] at this
      cases this
      exact gh x o (e' x o q)
theorem eqG_self {X : Cx} {n : Nat} {l : List (Addr × DSp)} (hl : ∀ q ∈ l.map (fun q => (q.1, SpV X.K 2 q.2)), EqM X.prog X.w X.K X.mg X.base n q.1 q.2) : EqG X n (DSelf X.K l) := by
  intro A pins s σ H x y u v sb I rx ry d
  obtain ⟨G, d, e, r1, r2, q⟩ := d
  cases q with
  | flat q =>
    have hv := eqX_veq e 8 d d x y true (.inl r1) (.inl r2) q
    have := (veq_tree I hv u v rx ry).at A (by have := sb.room.un; omega)
    exact this X.xe _ ⟨rfl, H, I, Ext.rfl'⟩
  | @ins C fs dsp hm hd =>
    obtain ⟨f, fd, ps, M, F, hb⟩ := (hl _ (List.mem_map.mpr ⟨_, hm, rfl⟩)).ex
    cases id r1 with
    | ins h1 f1 =>
      cases id r2 with
      | ins h2 f2 => exact eqG_ins (R := RIns X.K C dsp) (F.imp spEq_of) M.1 M.2 hb pass0 A pins s σ H _ _ u v sb I rx ry ⟨_, _, _, _, _, _, rfl, rfl, e _ _ h1, e _ _ h2, G, fs, e, r1, r2, hd⟩
def rSelf (K : PySem.W.Frag) (b : Bool) (l : List (Addr × DSp)) : R2 := fun x y H Q => ∃ a c xs ys, x = .ref a ∧ y = .ref c ∧ SqL K H a xs ∧ SqL K H c ys ∧ Prs (DSelf K l) xs ys H ∧ ∀ H', Ext H H' → Q (.bl b) H'
section
variable {X : Cx} {k : Nat} {l : List (Addr × DSp)}
theorem selfJ (hl : ∀ q ∈ l.map (fun q => (q.1, SpV X.K 2 q.2)), EqM X.prog X.w X.K X.mg X.base k q.1 q.2) (hr : Room (k + 1) X.A) {pins : List (Addr × Obj)} {σ : L2.St} {H : Hp} {a c : Addr} {xs ys : List V} (ha : SqL X.K H a xs) (hc : SqL X.K H c ys) (p : Prs (DSelf X.K l) xs ys H) :
    SeqAt.ListJ X.prog X.w X.A X.xe a c xs.length (fun s' => LoopI X pins σ H s') := by
  intro s' q
  obtain ⟨H1, I1, e1⟩ := id q
  obtain ⟨us, r1, p1, _⟩ := I1.list (ha.ext e1)
  obtain ⟨ws, r2, p2, _⟩ := I1.list (hc.ext e1)
  obtain ⟨⟨c1, q1, t1, z1⟩, o1, k1, m1, d1⟩ := p1.isList
  obtain ⟨⟨c2, q2, t2, z2⟩, o2, k2, m2, d2⟩ := p2.isList
  dsimp only at k1 d1 k2 d2
  subst k1 d1 k2 d2
  refine ⟨_, _, m1, m2, q1, q2, z1, z2, o1, o2, by rw [List.size_toArray, ← r1.length], by rw [List.size_toArray, ← r2.length, ← p.1], fun i h1 h2 => ?_⟩
  exact turnG mon_self (eqG_self hl) (n := k) ⟨hr, rfl⟩ p r1 r2 i h1 h2 s' q
theorem op_eqS (hl : ∀ q ∈ l.map (fun q => (q.1, SpV X.K 2 q.2)), EqM X.prog X.w X.K X.mg X.base k q.1 q.2) (hr : Room (k + 1) X.A) : OpR X (compareOp .Eq) (rSelf X.K true l) := by
  intro pins s σ H x y v u Q I rx ry h
  obtain ⟨a, c, xs, ys, rfl, rfl, ha, hc, p, q⟩ := h
  cases rx
  cases ry
  show wpAny (model X.prog X.w) X.A (richCompare .Eq (.ref a) (.ref c)) (EP X pins σ Q) X.xe s
  exact SeqAt.rc_eqJ (by have := hr.un; omega) (fun s' => LoopI X pins σ H s') (selfJ hl hr ha hc p) (fun s' z => by
    obtain ⟨H', I', e⟩ := z
    exact ⟨.bl true, H', I', rfl, q H' e⟩) ⟨H, I, Ext.rfl'⟩
theorem op_neS (hl : ∀ q ∈ l.map (fun q => (q.1, SpV X.K 2 q.2)), EqM X.prog X.w X.K X.mg X.base k q.1 q.2) (hr : Room (k + 1) X.A) : OpR X (compareOp .NotEq) (rSelf X.K false l) := by
  intro pins s σ H x y v u Q I rx ry h
  obtain ⟨a, c, xs, ys, rfl, rfl, ha, hc, p, q⟩ := h
  cases rx
  cases ry
  show wpAny (model X.prog X.w) X.A (richCompare .NotEq (.ref a) (.ref c)) (EP X pins σ Q) X.xe s
  exact SeqAt.rc_neJ (by have := hr.un; omega) (fun s' => LoopI X pins σ H s') (selfJ hl hr ha hc p) (fun s' z => by
    obtain ⟨H', I', e⟩ := z
    exact ⟨.bl false, H', I', rfl, q H' e⟩) ⟨H, I, Ext.rfl'⟩
end
/-- x == y (b: true), x != y (b: false) of two lists that tell the same, item by item equal by their own == -/
def dSelf (b : Bool) (l : List (Addr × DSp)) (da dc : DE) : DE := fun ρ q er => da ρ (fun t ρ1 => dc ρ1 (fun u ρ2 => Opt (rd ρ2 t) fun d => Opt (rd ρ2 u) fun e => e = d ∧ ∃ ds, d = .lst ds ∧ (∀ x ∈ ds, SelfEq l x) ∧ q (.val (.bl b)) ρ2) er) er
section
variable {K : PySem.W.Frag} {pa : PaG} {W : WX} {te tc : TE} {dx dc : DE} {l : List (Addr × DSp)} {b : Bool}
theorem se_self (hx : SE K pa W te dx) (hc : SE K pa W tc dc) : SE K pa W (tOp (rSelf K b l) te tc) (dSelf b l dx dc) := fun F G σ H ρ Q q er S h k x =>
  hx F G σ H ρ _ _ er S h (fun G1 H1 v t ρ1 e1 S1 r1 h1 => hc F G1 σ H1 ρ1 _ _ er S1 h1 (fun G2 H2 w u ρ2 e2 S2 r2 h2 => by
    obtain ⟨d, ed, e, ee, he, ds, hd, hs, hq⟩ := h2
    subst he
    subst hd
    obtain ⟨a, xs, rfl, ha, ra⟩ := (S2.rdT (r1.mono e2) ed).lst S2.ex
    obtain ⟨c, ys, rfl, hc', rc⟩ := (S2.rdT r2 ee).lst S2.ex
    refine ⟨a, c, xs, ys, rfl, rfl, ha, hc', ⟨by rw [ra.length, rc.length], fun i x y h1 h2 => ?_⟩, fun H' e' => ?_⟩
    · obtain ⟨dx, ex, rx⟩ := reps_at ra h1
      obtain ⟨dy, ey, ry⟩ := reps_at rc h2
      rw [ex] at ey
      cases ey
      exact ⟨G2, dx, S2.ex, rx, ry, hs _ (List.mem_of_getElem? ex)⟩
    · refine k G2 H' (.bl b) (.val _) ρ2 (e1.trans e2) (S2.grow (Ex.refl _) (S2.ex.trans e') (S2.fx.trans e') (S2.dj.hext e') fun i s d p h1 h2 h3 => ?_) (.bl _) hq
      obtain ⟨p', z1, z2, z3⟩ := S2.own i s d h1 h2
      rw [h3] at z1
      cases z1
      obtain ⟨o, ho⟩ := z3.some
      exact ⟨z2, by rw [ho]; exact e' _ _ ho⟩) (x.grow e1)) x
end
end DL
set_option autoImplicit false
set_option Elab.async false
set_option linter.all false
set_option maxRecDepth 100000
set_option maxHeartbeats 1000000
/-! DY6: a def called by keywords -/
namespace DL
open PySem L2 Evl
section
variable {X : Cx} {CX : CXT} {k n : Nat} {f C : Addr} {fd : FuncData} {ps ks : List Str} {is : List Nat} {sp : Sp} {E : XK} {x m : Str} {p pos apos : Pos} {e o : Expr} {es : List Expr} {kws : List Keyword} {ta : TE} {t tk : TA}
/-- f(k = v, ..) -/
theorem pe_callK0 (F : FnOk X.prog X.w X.K X.mg X.base CX k f fd ps sp) (hr : Room k X.A) (hg : Gl X x) (hm : X.mg x = some (.ref f)) (hk : PySem.W.keepIn X.K (.ref f) = true) (hb : KwOk X.K fd ps 0 ks is) (hx : Passes CX X E)
    (hkw : PK X kws tk) (hall : (backToKw pos (keywordEach kws X.env)).all (·.1.isSome) = true := by rfl) (hks : (backToKw pos (keywordEach kws X.env)).filterMap (·.1) = ks := by rfl)
    (hdb : (x == ("__debug__" : Str)) = false := by decide)
    (hpl : ((backTo pos (starEach [] X.env)).any (·.1) || (backToKw pos (keywordEach kws X.env)).any (·.1.isNone)) = false := by rfl) :
    PE X (.Call (.Name x p) [] kws pos) (tCall sp [] E (tKw 0 ks.length is tNil tk)) := by
  refine ⟨fun pins s σ H Q I h => ?_⟩
  refine wpAny_Call_Name_kw (ld_glob I hg hm ?_ hdb)
  refine PySem.W.callWith_KW0 (first := []) (h₀ := X.base) I.ok.mod.kin hk hall ?_ hpl
  refine thn (hkw.run pos pins s σ H _ I h) fun ws s2 ⟨zs, H2, I2, rz, ⟨_, l2⟩, q2⟩ => ⟨I2.kIn, ?_⟩
  rw [hks]
  have q2 : sp (kwPerm is [] zs ++ []) H2 Q E := q2
  rw [List.append_nil] at q2
  exact run_kw (us := []) (vs := []) F hr hb hx I2 .nil rz rfl l2 q2
/-- f(e, .., k = v, ..) -/
theorem pe_callKP (F : FnOk X.prog X.w X.K X.mg X.base CX k f fd ps sp) (hr : Room k X.A) (hg : Gl X x) (hm : X.mg x = some (.ref f)) (hk : PySem.W.keepIn X.K (.ref f) = true) (hb : KwOk X.K fd ps n ks is) (hx : Passes CX X E)
    (ha : PA X (e :: es) t) (hkw : PK X kws tk) (hall : (backToKw pos (keywordEach kws X.env)).all (·.1.isSome) = true := by rfl) (hks : (backToKw pos (keywordEach kws X.env)).filterMap (·.1) = ks := by rfl)
    (hdb : (x == ("__debug__" : Str)) = false := by decide) (he : starEach (e :: es) X.env = (false, eval e X.env) :: starEach es X.env := by rfl)
    (hpl : ((backTo pos (starEach (e :: es) X.env)).any (·.1) || (backToKw pos (keywordEach kws X.env)).any (·.1.isNone)) = false := by rfl) :
    PE X (.Call (.Name x p) (e :: es) kws pos) (tCall sp [] E (tKw n ks.length is t tk)) := by
  refine ⟨fun pins s σ H Q I h => ?_⟩
  refine wpAny_Call_Name_kw (ld_glob I hg hm ?_ hdb)
  refine PySem.W.callWith_KW (h₀ := X.base) I.ok.mod.kin hk hall (thn (ha.run pos pins s σ H _ I h) fun us s1 ⟨vs, H1, I1, r, q⟩ => ?_) hpl he
  refine thn (hkw.run pos pins s1 σ H1 _ I1 q) fun ws s2 ⟨zs, H2, I2, rz, ⟨l1, l2⟩, q2⟩ => ⟨I2.kIn, ?_⟩
  rw [hks]
  have q2 : sp (kwPerm is vs zs ++ []) H2 Q E := q2
  rw [List.append_nil] at q2
  exact run_kw F hr hb hx I2 r rz l1 l2 q2
end
end DL
set_option autoImplicit false
set_option Elab.async false
set_option linter.all false
set_option maxRecDepth 100000
set_option maxHeartbeats 1000000
/-! DV1: while; x += e; min of a list; repr of nested data, where no other repr is under way -/
namespace DL
open PySem L2 Evl PySem.Spec PyProof.Rows
/-! ### while -/
def dWhile (t : DT) (b : DS) : DS := fun DD ρ => ∃ W : Nat → Ro → Prop, (∃ m, W m ρ) ∧ ∀ m ρ, W m ρ → t ρ (fun c ρ1 => if c = true then b { DD with nx := fun ρ' => ∃ m', m' < m ∧ W m' ρ', ct := fun ρ' => ∃ m', m' < m ∧ W m' ρ', bk := DD.nx } ρ1 else DD.nx ρ1) DD.er
section
variable {K : PySem.W.Frag} {pa : PaG} {W : WX} {tc : TT} {dt : DT} {tb : TS} {db : DS}
theorem ss_while (ht : ST K pa W tc dt) (hb : SS K pa W tb db) : SS K pa W (tWhile tc tb) (dWhile dt db) := fun F G σ H ρ D DD S h l => by
  obtain ⟨Wd, ⟨m0, w0⟩, turn⟩ := h
  refine ⟨fun m σ' H' => ∃ G2 ρ2, Ex G G2 ∧ Sim K pa F G2 σ' H' ρ2 ∧ Wd m ρ2, ⟨m0, G, ρ, Ex.refl G, S, w0⟩, ?_⟩
  rintro m σ' H' ⟨G2, ρ2, e2, S2, w2⟩
  refine ht F G2 σ' H' ρ2 _ _ DD.er S2 (turn m ρ2 w2) (fun G3 H3 b ρ3 e3 S3 q => ?_) ((l.xl σ').grow e2)
  have e23 := e2.trans e3
  cases b with
  | true =>
    rw [if_pos rfl] at q ⊢
    refine ⟨fun σ4 H4 => ∃ G4 ρ4, Ex G G4 ∧ Sim K pa F G4 σ4 H4 ρ4 ∧ ∃ m', m' < m ∧ Wd m' ρ4, fun σ4 H4 ⟨G4, ρ4, a, b, m', c, d⟩ => ⟨m', c, G4, ρ4, a, b, d⟩, ?_⟩
    exact hb F G3 σ' H3 ρ3 _ _ S3 q ⟨fun G5 σ5 H5 ρ5 e5 S5 h5 => ⟨G5, ρ5, e23.trans e5, S5, h5⟩, fun G5 σ5 H5 ρ5 e5 S5 h5 => l.nx G5 σ5 H5 ρ5 (e23.trans e5) S5 h5,
      fun G5 σ5 H5 ρ5 e5 S5 h5 => ⟨G5, ρ5, e23.trans e5, S5, h5⟩, fun G5 σ5 H5 ρ5 v t e5 => l.rt G5 σ5 H5 ρ5 v t (e23.trans e5), fun G5 σ5 H5 ρ5 v t e5 => l.rf G5 σ5 H5 ρ5 v t (e23.trans e5),
      fun G5 σ5 H5 ρ5 C y vs fs e5 => l.er G5 σ5 H5 ρ5 C y vs fs (e23.trans e5)⟩
  | false =>
    rw [if_neg (by decide)] at q ⊢
    exact l.nx G3 σ' H3 ρ3 e23 S3 q
end
theorem while_inv {t : DT} {b : DS} {nx0 : Ro → Prop} {rt : T → Ro → Prop} {rf : D → Ro → Prop} {bk ct : Ro → Prop} {er : ER} {ρ : Ro} (W : Nat → Ro → Prop) {m0 : Nat} (h0 : W m0 ρ)
    (step : ∀ (m : Nat) (ρ : Ro) (nx : Ro → Prop), W m ρ → (∀ m' ρ', m' < m → W m' ρ' → nx ρ') → t ρ (fun c ρ1 => if c = true then b ⟨nx, rt, rf, nx0, nx, er⟩ ρ1 else nx0 ρ1) er) : dWhile t b ⟨nx0, rt, rf, bk, ct, er⟩ ρ :=
  ⟨W, ⟨m0, h0⟩, fun m ρ hW => step m ρ _ hW fun m' ρ' hl hw => ⟨m', hl, hw⟩⟩
/-! ### x += e, x -= e of ints -/
def D.iadd : D → D → Option D
  | .int a, .int b => some (.int (a + b))
  | _, _ => none
def D.isub : D → D → Option D
  | .int a, .int b => some (.int (a - b))
  | _, _ => none
theorem iadd_int (a b : Int) : D.iadd (.int a) (.int b) = some (.int (a + b)) := rfl
theorem isub_int' (a b : Int) : D.isub (.int a) (.int b) = some (.int (a - b)) := rfl
section
variable {K : PySem.W.Frag} {pa : PaG} {W : WX} {te : TE} {de : DE} {i : Nat}
theorem sr_iadd : SR K (ipI fun i j => i + j) D.iadd := fun G H x y dx dy z Q e rx ry q k => by
  cases dx with
  | int a =>
    cases dy with
    | int b =>
      cases q
      rw [rx.int, ry.int]
      exact ⟨a, b, rfl, rfl, k G H _ (Al.refl e) (.int _)⟩
    | _ => cases q
  | _ => cases dy <;> cases q
theorem sr_isub : SR K (ipI fun i j => i - j) D.isub := fun G H x y dx dy z Q e rx ry q k => by
  cases dx with
  | int a =>
    cases dy with
    | int b =>
      cases q
      rw [rx.int, ry.int]
      exact ⟨a, b, rfl, rfl, k G H _ (Al.refl e) (.int _)⟩
    | _ => cases q
  | _ => cases dy <;> cases q
theorem ss_aug {ti : TIp} {f : D → D → Option D} (hr : SR K ti f) (he : SE K pa W te de) : SS K pa W (tAug i te ti) (dAsg (dOp f (dVar i) de) (dgName i)) :=
  ss_asg (te := tOp ti (tVar i) te) (g := gName i) (se_op hr se_var he) sg_name
end
/-! ### min -/
def minI : Int → List Int → Int
  | m, [] => m
  | m, n :: ns => minI (if n < m then n else m) ns
def D.minL : List D → Option D
  | [.lst ds] => (D.ints ds).bind fun
    | [] => none
    | n :: ns => some (.int (minI n ns))
  | _ => none
theorem minI_le : ∀ (ns : List Int) (m : Int), minI m ns ≤ m ∧ ∀ y ∈ ns, minI m ns ≤ y
  | [], m => ⟨Int.le_refl _, fun y h => by cases h⟩
  | n :: ns, m => by
    have h := minI_le ns (if n < m then n else m)
    have e : (if n < m then n else m) ≤ m ∧ (if n < m then n else m) ≤ n := by split <;> omega
    exact ⟨Int.le_trans h.1 e.1, fun y hy => by
      rcases List.mem_cons.mp hy with z | z
      · rw [z]; exact Int.le_trans h.1 e.2
      · exact h.2 y z⟩
theorem minI_mem : ∀ (ns : List Int) (m : Int), minI m ns ∈ m :: ns
  | [], m => List.mem_cons_self
  | n :: ns, m => by
    have h := minI_mem ns (if n < m then n else m)
    show minI (if n < m then n else m) ns ∈ m :: n :: ns
    rcases List.mem_cons.mp h with e | e
    · rw [e]; split <;> simp
    · exact List.mem_cons_of_mem _ (List.mem_cons_of_mem _ e)
section
variable {K : PySem.W.Frag}
theorem sc_minL : SC K (rMin K) D.minL := fun G H xs ds z Q e rx q k => by
  match ds, q, rx with
  | [.lst ds], q, rx =>
    obtain ⟨p, vs, rfl, hs, rr⟩ := lst_one e rx
    have q : ((D.ints ds).bind fun
      | [] => none
      | n :: ns => some (D.int (minI n ns))) = some z := q
    cases q2 : D.ints ds with
    | none => rw [q2] at q; cases q
    | some bs =>
      rw [q2] at q
      cases bs with
      | nil => cases q
      | cons n ns =>
        cases q
        refine ⟨p, n :: ns, rfl, reps_ints rr q2 ▸ hs, by simp, fun m hm hy => ?_⟩
        have h1 := minI_le ns n
        have h2 := hy _ (minI_mem ns n)
        have e1 : m = minI n ns := by
          have : minI n ns ≤ m := by rcases List.mem_cons.mp hm with e | h; rw [e]; exact h1.1; exact h1.2 m h
          omega
        rw [e1]
        exact k G H _ (Al.refl e) (.int _)
end
/-! ### repr of nested data -/
def rReprD (K : PySem.W.Frag) : List V → Hp → VK → Prop := fun xs H Q => ∃ a d, xs = [.ref a] ∧ Dp K H (.ref a) d ∧ d.showable = true ∧ d.hasDict = false ∧ d.depth ≤ 60 ∧ d.shown.length ≤ sizeLine ∧ Q (.str d.shown) H
theorem call_reprD {X : Cx} (hg : X.A.guards = some []) (hu : X.A.units + 65 < cLine) : CallR X (.builtin "repr") (rReprD X.K) := by
  intro pins s σ H vs us Q I r h
  obtain ⟨a, d, rfl, hd, h1, h2, h3, h4, q⟩ := h
  rw [Vals.ref1 r]
  obtain ⟨as, r1⟩ := Dp.reads I d (.ref a) (.ref a) hd rfl
  exact PySem.repr_of_reads' r1 h1 (fun z => by rw [h2] at z; cases z) hg (by omega) (fun _ _ e => e) (fun h' u tk hk => ⟨.str _, H, I.kept hk, ⟨_, rfl⟩, q⟩) h4
def D.reprD : List D → Option D
  | [d] => d.toP.bind fun p => match d with
    | .lst _ => if p.showable = true ∧ p.hasDict = false ∧ p.depth ≤ 60 ∧ p.shown.length ≤ sizeLine then some (.str p.shown) else none
    | .tup _ => if p.showable = true ∧ p.hasDict = false ∧ p.depth ≤ 60 ∧ p.shown.length ≤ sizeLine then some (.str p.shown) else none
    | _ => none
  | _ => none
section
variable {K : PySem.W.Frag}
theorem sc_reprD : SC K (rReprD K) D.reprD := fun G H xs ds z Q e rx q k => by
  match ds, q, rx with
  | [d], q, rx =>
    obtain ⟨x, rfl, r⟩ := rx.one
    have q : (d.toP.bind fun p => match d with
      | .lst _ => if p.showable = true ∧ p.hasDict = false ∧ p.depth ≤ 60 ∧ p.shown.length ≤ sizeLine then some (.str p.shown) else none
      | .tup _ => if p.showable = true ∧ p.hasDict = false ∧ p.depth ≤ 60 ∧ p.shown.length ≤ sizeLine then some (.str p.shown) else none
      | _ => none) = some z := q
    cases hp : d.toP with
    | none => rw [hp] at q; cases q
    | some p =>
      rw [hp] at q
      have hd := repT_dp e r hp
      have fin : (if p.showable = true ∧ p.hasDict = false ∧ p.depth ≤ 60 ∧ p.shown.length ≤ sizeLine then some (D.str p.shown) else none) = some z → (∃ a, x = .ref a) → rReprD K [x] H Q := fun hq ⟨a, hx⟩ => by
        by_cases h : p.showable = true ∧ p.hasDict = false ∧ p.depth ≤ 60 ∧ p.shown.length ≤ sizeLine
        · rw [if_pos h] at hq
          cases hq
          exact ⟨a, p, by rw [hx], hx ▸ hd, h.1, h.2.1, h.2.2.1, h.2.2.2, k G H _ (Al.refl e) (.str _)⟩
        · rw [if_neg h] at hq; cases hq
      cases d with
      | lst xs => obtain ⟨a, _, hx, _⟩ := r.lst e; exact fin q ⟨a, hx⟩
      | tup xs => obtain ⟨a, _, hx, _⟩ := r.tup e; exact fin q ⟨a, hx⟩
      | _ => cases q
end
end DL
set_option autoImplicit false
set_option Elab.async false
set_option linter.all false
set_option maxRecDepth 100000
set_option maxHeartbeats 1000000
/-! DG1: defs that are only called where no repr is under way -/
namespace DL
open PySem L2 Evl PySem.Spec PyProof.Rows
structure FnG (P : Program) (w : World) (K : PySem.W.Frag) (mg : Str → Option Value) (base : Heap) (CX : CXT) (k : Nat) (f : Addr) (fd : FuncData) (ps : List Str) (sp : Sp) : Prop where
  len : ∀ vs H Q E, sp vs H Q E → vs.length = ps.length
  run : ∀ (A : Around), A.guards = some [] → ∀ (outer : List Env) (s : Shared) (H : Hp) (args : Args) (us : List Value) (vs : List V) (Q : VK) (E : XK), Room k A → Env0 P w K mg base A outer s H → BindsTo s fd args (ps.zip us) → Vals vs us → sp vs H Q E →
    codeAny (model P w) A (.call (.ref f) args) (CR CX outer P w H s Q E) s
theorem FnG.imp {P : Program} {w : World} {K : PySem.W.Frag} {mg : Str → Option Value} {base : Heap} {CX : CXT} {k : Nat} {f : Addr} {fd : FuncData} {ps : List Str} {sp sp' : Sp} (F : FnG P w K mg base CX k f fd ps sp)
    (h : ∀ vs H Q E, sp' vs H Q E → sp vs H Q E) : FnG P w K mg base CX k f fd ps sp' :=
  ⟨fun vs H Q E q => F.len vs H Q E (h _ _ _ _ q), fun A hg outer s H args us vs Q E hr he hb hv hs => F.run A hg outer s H args us vs Q E hr he hb hv (h _ _ _ _ hs)⟩
section
variable {P : Program} {w : World} {K : PySem.W.Frag} {mg : Str → Option Value} {base : Heap}
theorem fnG_of {CX : CXT} {k : Nat} {f : Addr} {name qual : Str} {params : Arguments} {body : List Stmt} {scope : Scope} {dV kV doc pm cdv ct oc : Value} {an od : Option Addr}
    {osl : Array (Option Value)} {N ps : List Str} {sp : Sp} (lk : K.lookup f = some ⟨oc, od, .func (PySem.W.fnOf name qual params body scope dV kV doc pm an cdv ct), osl⟩) (hcd : PySem.W.codeIn K cdv qual = true) (S : FnScope N ps scope)
    (len : ∀ vs H Q E, sp vs H Q E → vs.length = ps.length)
    (hbody : ∀ (A : Around), A.guards = some [] → ∀ (outer : List Env) (s : Shared) (H : Hp) (vs : List V) (Q : VK) (E : XK), Room k (A.deeper (envOfC qual scope s.heap.objs.size f cdv)) → sp vs H Q E →
      ∃ t, PSs (cxOf CX P w K mg base N qual scope f cdv A outer s H E) body t ∧ t { nx := fun _ H' => Q .non H', rt := Q } (start N vs) H) :
    FnG P w K mg base CX (k + 1) f (PySem.W.fnOf name qual params body scope dV kV doc pm an cdv ct) ps sp := by
  refine ⟨len, fun A hgd outer s H args us vs Q E hr e0 hb r hsp => ?_⟩
  have nvs := len _ _ _ _ hsp
  have kIn : K.In s.heap := e0.mod.kin.keeps fun b o e => (e0.bs b o e).1
  have nlm : s.heap.NoLimit := e0.mod.nolimit.keeps fun b o e => (e0.bs b o e).1
  have kinds : ∀ y ∈ ps.zip us, scope.names.lookup y.1 = some .local ∨ (scope.names.lookup y.1 = some .cell ∧ ((cellsFrom (s.heap.objs.size + 1) scope.names []).lookup y.1).isSome = true) := by
    rintro ⟨n, v⟩ hy
    exact (S.par n (List.of_mem_zip hy).1).imp id fun q => ⟨q, PySem.W.cellsFrom_some _ _ _ (.inl q)⟩
  refine codeAny_call_function hr.depth (kIn _ _ lk) rfl S.co S.gen rfl (PySem.W.codeRec_of kIn hcd) (hb _ _ _ _ ?_)
  refine wpAny_newFunctionEnv_cells S.kind kinds fun env eEnv s1 inCall => ?_
  subst eEnv
  refine ⟨nlm.keeps inCall.toInCall.keep, codeAny_func ?_⟩
  obtain ⟨t, ht, hq⟩ := hbody A hgd outer s H vs Q E (hr.deeper _) hsp
  have I0 : Inv (cxOf CX P w K mg base N qual scope f cdv A outer s H E) [] (start N vs) H s1 := inv_start S hr.hd e0 nvs r inCall
  have done : ∀ {σ' : L2.St} {H' : Hp} {v : V} {u : Value} {s' : Shared}, Inv (cxOf CX P w K mg base N qual scope f cdv A outer s H E) [] σ' H' s' → RelV v u → Q v H' → CE outer P w H s Q u s' :=
    fun {σ' H' v u s'} J rv q => ⟨v, H', J.os, J.bare, J.base, J.hok, rv, q⟩
  refine wpAny_mono (ht.run [] s1 (start N vs) H _ I0 hq) (fun fl s' hs => ?_) fun e s' hs => hs
  cases fl with
  | ret u => exact let ⟨_, _, _, J, rv, q⟩ := hs; done J rv q
  | next => exact let ⟨_, _, J, q⟩ := hs; done (v := V.non) (u := Value.none) J rfl q
  | brk => exact let ⟨_, _, _, q⟩ := hs; False.elim q
  | cont => exact let ⟨_, _, _, q⟩ := hs; False.elim q
theorem okG {x qual : Str} {st : Stmt} {f : Addr} {fd : FuncData} {N ps : List Str} {k : Nat} {sp : Sp} (F : Fun K x qual st f fd) (S : FnScope N ps (defScope st)) (len : ∀ vs H Q E, sp vs H Q E → vs.length = ps.length)
    (hbody : ∀ (cdv : Value) (A : Around), A.guards = some [] → ∀ (outer : List Env) (s : Shared) (H : Hp) (vs : List V) (Q : VK) (E : XK), Room k (A.deeper (envOfC qual (defScope st) s.heap.objs.size f cdv)) → sp vs H Q E →
      ∃ t, PSs (cxOf CX0 P w K mg base N qual (defScope st) f cdv A outer s H E).nox (defBody st) t ∧ t { nx := fun _ H' => Q .non H', rt := Q } (start N vs) H) : FnG P w K mg base CX0 (k + 1) f fd ps sp := by
  obtain ⟨oc, od, kV, doc, pm, an, cdv, ct, osl, rfl, lk, hcd⟩ := F.ex
  refine fnG_of lk hcd S len fun A hg outer s H vs Q E hr hsp => ?_
  obtain ⟨t, h, q⟩ := hbody cdv A hg outer s H vs Q E hr hsp
  exact ⟨t, h.nox, q⟩
end
section
variable {X : Cx} {CX : CXT} {k : Nat} {f : Addr} {fd : FuncData} {ps : List Str} {ds : List Value} {dvs : List V} {sp : Sp} {E : XK} {x : Str} {p pos : Pos} {e : Expr} {es : List Expr} {t : TA}
theorem pe_callG (F : FnG X.prog X.w X.K X.mg X.base CX k f fd ps sp) (hgd : X.A.guards = some []) (hr : Room k X.A) (hg : Gl X x) (hm : X.mg x = some (.ref f)) (hk : PySem.W.keepIn X.K (.ref f) = true) (hb : Binds X.K fd ps ds) (hd : Vals dvs ds) (hx : Passes CX X E)
    (ha : PA X (e :: es) t) (hdb : (x == ("__debug__" : Str)) = false := by decide) (he : starEach (e :: es) X.env = (false, eval e X.env) :: starEach es X.env := by rfl) (hpl : (backTo pos (starEach es X.env)).any (·.1) = false := by rfl) :
    PE X (.Call (.Name x p) (e :: es) [] pos) (tCall sp dvs E t) := by
  refine ⟨fun pins s σ H Q I h => ?_⟩
  refine wpAny_Call_Name_kw (ld_glob I hg hm ?_ hdb)
  refine PySem.W.callWith_K (h₀ := X.base) I.ok.mod.kin hk (thn (ha.run pos pins s σ H _ I h) fun us s1 ⟨vs, H1, I1, r, q⟩ => ⟨I1.kIn, ?_⟩) he hpl
  have r2 : Vals (vs ++ dvs) (us ++ ds) := r.append hd
  have hl : (us ++ ds).length = ps.length := by rw [← r2.length]; exact F.len _ _ _ _ q
  refine wpAny_call (codeAny_mono (F.run X.A hgd X.stack s1 H1 ⟨us, []⟩ (us ++ ds) (vs ++ dvs) Q E hr I1.env0 (hb s1 us I1.kIn hl) r2 q) fun r' s' hq => ?_)
  cases r' with
  | error e' => exact hx pins σ H1 s1 e' s' I1 hq
  | ok fl =>
    cases fl with
    | ret u => exact I1.after hq
    | next => exact False.elim hq
    | brk => exact False.elim hq
    | cont => exact False.elim hq
end
end DL
set_option autoImplicit false
set_option Elab.async false
set_option linter.all false
set_option maxRecDepth 100000
set_option maxHeartbeats 1000000
/-! DT1: texts: x * n of any n, f"..", sep.join(list), startswith, int(text) -/
namespace DL
open PySem L2 Evl PySem.Spec PyProof.Rows
/-! ### x * n -/
def strMul (x : Str) (n : Int) : Str := if n < 1 then Str.empty else if (n == 1 || x.length == 0) = true then x else strRep x n.toNat
def rMulT : R2 := fun x y H Q => ∃ i n, x = .str i ∧ y = .int n ∧ -1000 ≤ n ∧ n ≤ 1000 ∧ i.length ≤ 1000 ∧ (strMul i n).length ≤ sizeLine ∧ Q (.str (strMul i n)) H
theorem op_mulT {X : Cx} : OpR X (binaryOp .Mult) rMulT := by
  intro pins s σ H x y v u Q I rx ry h
  obtain ⟨i, n, rfl, rfl, n1, n2, i2, i3, q⟩ := h
  obtain ⟨t, rfl⟩ := rx
  obtain ⟨t', rfl⟩ := ry
  refine P.mul_str (by simp; omega) (fun hn _ => ?_) (fun hn _ => ?_) ?_
  · have h1 : (1000 : Int) ≤ (2 ^ 63 - 1) / n := by
      rw [Int.le_ediv_iff_mul_le (by omega)]
      omega
    omega
  · have h2 : i.length * n.toNat ≤ 1000 * 1000 := Nat.mul_le_mul i2 (by omega)
    unfold Builtin.Str.tooLong
    simp only [decide_eq_false_iff_not]
    have : (1000 * 1000 : Nat) ≤ sizeLine := by decide
    omega
  · unfold strMul at i3 q
    by_cases hn : n < 1
    · rw [if_pos hn] at i3 q ⊢
      exact ⟨i3, V.str _, H, I.tok _, ⟨_, rfl⟩, q⟩
    · rw [if_neg hn] at i3 q ⊢
      by_cases hz : (n == 1 || i.length == 0) = true
      · rw [if_pos hz] at i3 q ⊢
        exact ⟨V.str _, H, I, ⟨_, rfl⟩, q⟩
      · rw [if_neg hz] at i3 q ⊢
        exact ⟨i3, V.str _, H, I.tok _, ⟨_, rfl⟩, q⟩
def D.mulT : D → D → Option D
  | .str x, .int n => if -1000 ≤ n ∧ n ≤ 1000 ∧ x.length ≤ 1000 ∧ (strMul x n).length ≤ sizeLine then some (.str (strMul x n)) else none
  | _, _ => none
theorem sr_mulT {K : PySem.W.Frag} : SR K rMulT D.mulT := fun G H x y dx dy z Q e rx ry q k => by
  cases dx with
  | str a =>
    cases dy with
    | int n =>
      have q : (if -1000 ≤ n ∧ n ≤ 1000 ∧ a.length ≤ 1000 ∧ (strMul a n).length ≤ sizeLine then some (D.str (strMul a n)) else none) = some z := q
      by_cases h : -1000 ≤ n ∧ n ≤ 1000 ∧ a.length ≤ 1000 ∧ (strMul a n).length ≤ sizeLine
      · rw [if_pos h] at q
        cases q
        rw [rx.str, ry.int]
        exact ⟨a, n, rfl, rfl, h.1, h.2.1, h.2.2.1, h.2.2.2, k G H _ (Al.refl e) (.str _)⟩
      · rw [if_neg h] at q; cases q
    | _ => cases q
  | _ => cases dy <;> cases q
/-! ### f"{x}={y}" -/
def rFmt : V → Hp → VK → Prop := fun x H1 Q => (∃ y : Str, x = .str y ∧ y.length ≤ sizeLine ∧ Q (.str y) H1) ∨ ∃ i : Int, x = .int i ∧ i.natAbs.log2 < 1920 ∧ Q (.str (toString i)) H1
def D.fmt : D → Option D
  | .str y => if y.length ≤ sizeLine then some (.str y) else none
  | .int i => if i.natAbs.log2 < 1920 then some (.str (Str.ofString (toString i))) else none
  | _ => none
section
variable {K : PySem.W.Frag} {pa : PaG} {W : WX}
theorem su_fmt : SU K rFmt D.fmt := fun G H x dx z Q e rx q k => by
  cases dx with
  | str a =>
    have q : (if a.length ≤ sizeLine then some (D.str a) else none) = some z := q
    by_cases h : a.length ≤ sizeLine
    · rw [if_pos h] at q; cases q
      rw [rx.str]
      exact .inl ⟨a, rfl, h, k G H _ (Al.refl e) (.str _)⟩
    · rw [if_neg h] at q; cases q
  | int i =>
    have q : (if i.natAbs.log2 < 1920 then some (D.str (Str.ofString (toString i))) else none) = some z := q
    by_cases h : i.natAbs.log2 < 1920
    · rw [if_pos h] at q; cases q
      rw [rx.int]
      exact .inr ⟨i, rfl, h, k G H _ (Al.refl e) (.str _)⟩
    · rw [if_neg h] at q; cases q
  | _ => cases q
theorem se_fmt {te : TE} {de : DE} (he : SE K pa W te de) : SE K pa W (tFmt te) (dUn D.fmt de) := se_un su_fmt he
def dJs : List DE → Str → Ro → (Str → Ro → Prop) → ER → Prop
  | [], acc, ρ, k, _ => k acc ρ
  | d :: ds, acc, ρ, k, er => d ρ (fun t ρ1 => Opt (rd ρ1 t) fun x => match x with
    | .str y => (acc ++ y).length ≤ sizeLine ∧ dJs ds (acc ++ y) ρ1 k er
    | _ => False) er
def dJoined (ds : List DE) : DE := fun ρ q er => dJs ds Str.empty ρ (fun out ρ' => q (.val (.str out)) ρ') er
variable (K pa W) in
inductive SJ : List TE → List DE → Prop where
  | nil : SJ [] []
  | cons {te : TE} {de : DE} {ts : List TE} {ds : List DE} (h : SE K pa W te de) (r : SJ ts ds) : SJ (te :: ts) (de :: ds)
theorem sj_run {ts : List TE} {ds : List DE} (h : SJ K pa W ts ds) : ∀ (acc : Str) (F G : Hp) (σ : RSt) (H : Hp) (ρ : Ro) (Q : Str → Hp → Prop) (k : Str → Ro → Prop) (er : ER), Sim K pa F G σ H ρ → dJs ds acc ρ k er →
    (∀ G' H' out ρ', Ex G G' → Sim K pa F G' σ H' ρ' → k out ρ' → Q out H') → XL K pa F G W σ er → tJs ts acc σ H Q := by
  induction h with
  | nil => exact fun acc F G σ H ρ Q k er S h kk x => kk G H acc ρ (Ex.refl G) S h
  | cons he r ih =>
    intro acc F G σ H ρ Q k er S h kk x
    refine he F G σ H ρ _ _ er S h (fun G1 H1 v t ρ1 e1 S1 r1 h1 => ?_) x
    obtain ⟨a, ea, h2⟩ := h1
    cases a with
    | str y =>
      refine ⟨y, (S1.rdT r1 ea).str, h2.1, ?_⟩
      exact ih (acc ++ y) F G1 σ H1 ρ1 Q k er S1 h2.2 (fun G' H' out ρ' e => kk G' H' out ρ' (e1.trans e)) (x.grow e1)
    | _ => exact h2.elim
theorem se_joined {ts : List TE} {ds : List DE} (h : SJ K pa W ts ds) : SE K pa W (fun σ H Q => tJs ts Str.empty σ H fun out H1 => Q (.str out) H1) (dJoined ds) := fun F G σ H ρ Q q er S hd k x =>
  sj_run h Str.empty F G σ H ρ _ _ er S hd (fun G' H' out ρ' e S' q' => k G' H' _ (.val (.str out)) ρ' e S' (.str _) q') x
end
/-! ### a text's method of one argument -/
def D.isS : D → Bool
  | .str _ => true
  | _ => false
def dM1 (f : D → D → Option D) (de df : DE) : DE := fun ρ q er => de ρ (fun t ρ1 => Opt (rd ρ1 t) fun a0 => a0.isS = true ∧ df ρ1 (fun u ρ2 => Opt (rd ρ2 t) fun a => Opt (rd ρ2 u) fun b => Opt (f a b) fun z => q (.val z) ρ2) er) er
section
variable {K : PySem.W.Frag} {pa : PaG} {W : WX} {te tf : TE} {de df : DE}
theorem se_m1 {r : V → List V → Hp → VK → Prop} {f : D → D → Option D} (hr : SR K (fun x y H Q => r x [y] H Q) f) (he : SE K pa W te de) (hf : SE K pa W tf df) : SE K pa W (tM1 r te tf) (dM1 f de df) := fun F G σ H ρ Q q er S h k x =>
  he F G σ H ρ _ _ er S h (fun G1 H1 v s ρ1 e1 S1 r1 h1 => by
    obtain ⟨a0, ea0, hl, h1⟩ := h1
    cases a0 with
    | str y =>
      refine ⟨⟨y, (S1.rdT r1 ea0).str⟩, ?_⟩
      refine hf F G1 σ H1 ρ1 _ _ er S1 h1 (fun G2 H2 w t ρ2 e2 S2 r2 h2 => ?_) (x.grow e1)
      obtain ⟨a, ea, b, eb, z, ez, h3⟩ := h2
      exact hr G2 H2 v w a b z _ S2.ex (S2.rdT (r1.mono e2) ea) (S2.rdT r2 eb) ez fun G3 H3 u al r3 => k G3 H3 u (.val z) ρ2 ((e1.trans e2).trans al.g) (S2.al al) r3 h3
    | _ => cases hl) x
def D.starts : D → D → Option D
  | .str a, .str b => some (.bl (Txt.startswith a b))
  | _, _ => none
theorem sr_starts : SR K (fun x y H Q => ∃ a b, x = .str a ∧ [y] = [V.str b] ∧ Q (.bl (Txt.startswith a b)) H) D.starts := fun G H x y dx dy z Q e rx ry q k => by
  cases dx with
  | str a =>
    cases dy with
    | str b =>
      cases q
      rw [rx.str, ry.str]
      exact ⟨a, b, rfl, rfl, k G H _ (Al.refl e) (.bl _)⟩
    | _ => cases q
  | _ => cases dy <;> cases q
def D.strs : List D → Option (List Str)
  | [] => some []
  | .str b :: ds => (D.strs ds).map fun bs => b :: bs
  | _ :: _ => none
theorem reps_strs {G : Hp} : ∀ {ds : List D} {vs : List V} {bs : List Str}, Reps K G vs ds → D.strs ds = some bs → vs = bs.map V.str
  | _, _, _, .nil, h => by cases h; rfl
  | .str b :: ds, _, bs, .cons r rr, h => by
    have h : (D.strs ds).map (fun bs => b :: bs) = some bs := h
    cases q : D.strs ds with
    | none => rw [q] at h; cases h
    | some cs => rw [q] at h; cases h; cases r; rw [reps_strs rr q]; rfl
def D.joinS : D → D → Option D
  | .str a, .lst ds => (D.strs ds).bind fun ys => if (ys.map (·.length)).sum + ys.length * a.length ≤ 16777216 then some (.str (Txt.join a ys)) else none
  | _, _ => none
theorem sr_join : SR K (fun x y H Q => ∃ a p, ∃ ys : List Str, x = .str a ∧ [y] = [V.ref p] ∧ (SqL K H p (ys.map V.str) ∨ SqT K H p (ys.map V.str)) ∧ (ys.map (·.length)).sum + ys.length * a.length ≤ 16777216 ∧ Q (.str (Txt.join a ys)) H) D.joinS := fun G H x y dx dy z Q e rx ry q k => by
  cases dx with
  | str a =>
    cases dy with
    | lst ds =>
      have q : ((D.strs ds).bind fun ys => if (ys.map (·.length)).sum + ys.length * a.length ≤ 16777216 then some (D.str (Txt.join a ys)) else none) = some z := q
      cases q2 : D.strs ds with
      | none => rw [q2] at q; cases q
      | some ys =>
        rw [q2] at q
        have q : (if (ys.map (·.length)).sum + ys.length * a.length ≤ 16777216 then some (D.str (Txt.join a ys)) else none) = some z := q
        by_cases h : (ys.map (·.length)).sum + ys.length * a.length ≤ 16777216
        · rw [if_pos h] at q; cases q
          obtain ⟨p, vs, rfl, hs, rr⟩ := ry.lst e
          rw [rx.str]
          exact ⟨a, p, ys, rfl, rfl, .inl (reps_strs rr q2 ▸ hs), h, k G H _ (Al.refl e) (.str _)⟩
        · rw [if_neg h] at q; cases q
    | _ => cases q
  | _ => cases dy <;> cases q
/-! ### int(text) -/
def rIntS : List V → Hp → VK → Prop := fun xs H Q => ∃ a n, xs = [.str a] ∧ PySem.intText? a = some n ∧ a.length ≤ 640 ∧ Q (.int n) H
theorem call_intS {X : Cx} : CallR X (.type "int") rIntS := call_int_str
def D.intS : List D → Option D
  | [.str a] => if a.length ≤ 640 then (PySem.intText? a).map .int else none
  | _ => none
theorem sc_intS : SC K rIntS D.intS := fun G H xs ds z Q e rx q k => by
  match ds, q, rx with
  | [.str a], q, rx =>
    obtain ⟨x, rfl, r⟩ := rx.one
    have q : (if a.length ≤ 640 then (PySem.intText? a).map D.int else none) = some z := q
    by_cases h : a.length ≤ 640
    · rw [if_pos h] at q
      cases q2 : PySem.intText? a with
      | none => rw [q2] at q; cases q
      | some n =>
        rw [q2] at q; cases q
        exact ⟨a, n, by rw [r.str], q2, h, k G H _ (Al.refl e) (.int _)⟩
    · rw [if_neg h] at q; cases q
end
end DL
set_option autoImplicit false
set_option Elab.async false
set_option linter.all false
set_option maxRecDepth 100000
set_option maxHeartbeats 1000000
/-! DT2: if a test that walks an own list: its object stands still while the test is asked, the rest is hidden -/
namespace DL
open PySem L2 Evl
def dIfFz (i : Nat) (dt : DT) (ds : DS) : DS := fun DD ρ => getW ρ[i]? fun d => dt (hideR ρ i d) (fun c _ => if c = true then ds DD ρ else DD.nx ρ) (fun _ _ _ => False)
theorem w_ifFz {i : Nat} {dt : DT} {ds : DS} {nx : Ro → Prop} {rt : T → Ro → Prop} {rf : D → Ro → Prop} {bk ct : Ro → Prop} {er : ER} {ρ : Ro} :
    dIfFz i dt ds ⟨nx, rt, rf, bk, ct, er⟩ ρ = getW ρ[i]? fun d => dt (hideR ρ i d) (fun c _ => if c = true then ds ⟨nx, rt, rf, bk, ct, er⟩ ρ else nx ρ) (fun _ _ _ => False) := rfl
section
variable {K : PySem.W.Frag} {pa : PaG} {W : WX} {i : Nat} {tt : TT} {dt : DT} {ts : TS} {ds : DS}
theorem ss_ifFz (ht : ST K pa W tt dt) (h1 : SS K pa W ts ds) : SS K pa W (tIfS tt ts tNext) (dIfFz i dt ds) := fun F G σ H ρ D DD S h l => by
  unfold dIfFz getW at h
  cases e : ρ[i]? with
  | none => rw [e] at h; exact h.elim
  | some s =>
    rw [e] at h
    cases s with
    | own d =>
      obtain ⟨p, hσ, gp, ow⟩ := S.own i _ d e rfl
      obtain ⟨o, ho⟩ := ow.some
      have hi : i < ρ.length := (List.getElem?_eq_some_iff.mp e).1
      have e2 : Ex G (upd G p o) := Ex.new gp
      have noOwn : ∀ (k : Nat) (s : Sl) (d' : DL.D), (hideR ρ i d)[k]? = some s → s.ownD = some d' → False := fun k s d' q hd => by
        rcases hideR_get hi q with ⟨_, z⟩ | ⟨s0, _, z⟩
        · subst z; cases hd
        · subst z; rw [hid_noOwn] at hd; cases hd
      have r : Rep K (upd G p o) (.ref p) d := by
        cases d with
        | lst ds => obtain ⟨vs, h1, h2⟩ := ow; rw [ho] at h1; cases h1; exact Rep.lst (SqL.of upd_same) (h2.mono e2)
        | dct ds => obtain ⟨vs, h1, h2⟩ := ow; rw [ho] at h1; cases h1; exact Rep.dct upd_same (h2.mono e2)
        | ins C ds => obtain ⟨dx, vs, h1, h2⟩ := ow; rw [ho] at h1; cases h1; exact Rep.ins upd_same (h2.mono e2)
        | _ => exact ow.elim
      have pin : calF F H σ ρ [i] p = none := calF_in S [i] (List.mem_singleton.mpr rfl) e rfl hσ
      have S2 : Sim K pa (calF F H σ ρ [i]) (upd G p o) σ H (hideR ρ i d) := by
        refine ⟨by unfold hideR hidL; rw [List.length_set, List.length_map]; exact S.len, fun b u q => ?_, calF_ex S [i], (calF_dj S [i]).gadd pin (S.dj.ne ho (ow.code ho)), fun k d' q => ?_, fun k s d' q hd => (noOwn k s d' q hd).elim, fun k s d' b q hd _ => (noOwn k s d' q hd).elim, fun k d' q => (noOwn k (.par d') d' q rfl).elim, S.gx.trans e2, fun k m s t d' x b _ g1 g2 _ _ _ _ => (noOwn k s d' g1 g2).elim⟩
        · by_cases hb : b = p
          · subst hb; rw [upd_same] at q; cases q; exact ho
          · rw [upd_ne hb] at q; exact S.ex b u q
        · rcases hideR_get hi q with ⟨e1, z⟩ | ⟨s0, q0, z⟩
          · rw [e1]; cases z; exact ⟨_, hσ, r⟩
          · cases s0 with
            | val d2 =>
              cases z
              obtain ⟨v, k1, k2⟩ := S.val k d' q0
              exact ⟨v, k1, k2.mono e2⟩
            | _ => cases z
      refine ht _ _ σ H _ _ _ _ S2 h (fun G2 H2 c ρ2 e3 S3 q => ?_) xl_none
      have fx4 : Ex (calF F H σ ρ []) H2 := fun b u q4 => by
        have q5 := calF_ex S [] b u q4
        by_cases hb : b = p
        · subst hb
          rw [ho] at q5; cases q5
          exact S3.ex b o (e3 b o upd_same)
        · refine S3.fx b u ?_
          by_cases c : ∃ (j : Nat) (s : Sl) (d : DL.D), j ∉ ([] : List Nat) ∧ ρ[j]? = some s ∧ s.ownD = some d ∧ σ[j]? = some (some (.ref b))
          · obtain ⟨j, s, d', _, g1, g2, g3⟩ := c
            rw [calF_own ⟨j, s, d', fun z => hb (by rw [List.mem_singleton.mp z] at g3; rw [hσ] at g3; cases g3; rfl), g1, g2, g3⟩]
            exact q5
          · rw [calF_ne c] at q4
            rw [calF_ne fun ⟨j, s, d', _, g1, g2, g3⟩ => c ⟨j, s, d', by simp, g1, g2, g3⟩]
            exact q4
      have S4 : Sim K pa F G σ H2 ρ := by
        have := S.behind (is := []) (os := []) (Ex.refl G) ((e2.trans e3).trans S3.ex) fx4 ((calF_dj S []).at_ S3.dj.tb) .nil
        exact this
      cases c with
      | true => exact h1 F G σ H2 ρ D DD S4 q l
      | false => exact l.nx G σ H2 ρ (Ex.refl G) S4 q
    | _ => exact h.elim
end
end DL
set_option autoImplicit false
set_option Elab.async false
set_option linter.all false
set_option maxRecDepth 100000
set_option maxHeartbeats 1000000
/-! DT3: min and max of two ints -/
namespace DL
open PySem L2 Evl
def rMin2 : List V → Hp → VK → Prop := fun xs H Q => ∃ i j, xs = [.int i, .int j] ∧ Q (.int (if j < i then j else i)) H
theorem cr_min2 {X : Cx} (hc : X.calm = true) : CallR X (.builtin "min") rMin2 := call_min2 hc
theorem cr_max2 {X : Cx} (hc : X.calm = true) : CallR X (.builtin "max") rMax2 := call_max2 hc
def D.min2 : List D → Option D
  | [.int i, .int j] => some (.int (if j < i then j else i))
  | _ => none
def D.max2 : List D → Option D
  | [.int i, .int j] => some (.int (if j > i then j else i))
  | _ => none
section
variable {K : PySem.W.Frag}
theorem two_ints {G H : Hp} {xs : List V} {a b : Int} (rx : RepTs K G H xs [.int a, .int b]) : xs = [.int a, .int b] := by
  cases rx with
  | cons r1 t =>
    cases t with
    | cons r2 t2 => cases t2; rw [r1.int, r2.int]
theorem sc_min2 : SC K rMin2 D.min2 := fun G H xs ds z Q e rx q k => by
  match ds, q, rx with
  | [.int a, .int b], q, rx =>
    cases q
    exact ⟨a, b, two_ints rx, k G H _ (Al.refl e) (.int _)⟩
theorem sc_max2 : SC K rMax2 D.max2 := fun G H xs ds z Q e rx q k => by
  match ds, q, rx with
  | [.int a, .int b], q, rx =>
    cases q
    exact ⟨a, b, two_ints rx, k G H _ (Al.refl e) (.int _)⟩
end
/-! ### a, b, c = [], x, y: the first a new object that the slot owns -/
def dPar3O (i j l : Nat) (da : DF) (db dc : DE) : DS := fun DD ρ => da ρ (fun a ρ1 => db ρ1 (fun t ρ2 => match t with
  | .val b => dc ρ2 (fun u ρ3 => match u with
    | .val c => ((isPar ρ3 i = false ∧ isPar ρ3 j = false) ∧ isPar ρ3 l = false) ∧ DD.nx (((ρ3.set i (.own a)).set j (.val b)).set l (.val c))
    | .bor _ => False) DD.er
  | .bor _ => False) DD.er) DD.er
theorem w_par3O {i j l : Nat} {da : DF} {db dc : DE} {nx : Ro → Prop} {rt : T → Ro → Prop} {rf : D → Ro → Prop} {bk ct : Ro → Prop} {er : ER} {ρ : Ro} :
    dPar3O i j l da db dc ⟨nx, rt, rf, bk, ct, er⟩ ρ = da ρ (fun a ρ1 => db ρ1 (fun t ρ2 => match t with
  | .val b => dc ρ2 (fun u ρ3 => match u with
    | .val c => ((isPar ρ3 i = false ∧ isPar ρ3 j = false) ∧ isPar ρ3 l = false) ∧ nx (((ρ3.set i (.own a)).set j (.val b)).set l (.val c))
    | .bor _ => False) er
  | .bor _ => False) er) er := rfl
section
variable {K : PySem.W.Frag} {pa : PaG} {W : WX} {i j k : Nat} {tf te tg : TE} {df : DF} {de dg : DE}
theorem ss_par3O (ha : SF K pa W tf df) (hb : SE K pa W te de) (hc : SE K pa W tg dg) : SS K pa W (tPar3 i j k (tCons tf (tCons te (tCons tg tNil)))) (dPar3O i j k df de dg) := fun F G σ H ρ D DD S h l =>
  ha F G σ H ρ _ _ _ S h (fun G1 H1 p a ρ1 e1 S1 gp ow fr h1 => by
    obtain ⟨F', ⟨ef, np⟩, S1', back⟩ := aside S1 gp ow fr
    refine hb F' G1 σ H1 ρ1 _ _ _ S1' h1 (fun G2 H2 v t ρ2 e2 S2 r2 h2 => ?_) (((l.xl σ).grow e1).frame ef)
    cases t with
    | bor k => exact h2.elim
    | val b =>
      refine hc F' G2 σ H2 ρ2 _ _ _ S2 h2 (fun G3 H3 w u ρ3 e3 S3 r3 h3 => ?_) (((l.xl σ).grow (e1.trans e2)).frame ef)
      cases u with
      | bor k => exact h3.elim
      | val c =>
        obtain ⟨S4, gp4, ow4, fr4⟩ := back G3 H3 ρ3 (e2.trans e3) S3
        have r2' : Rep K G2 v b := r2
        exact ⟨_, _, _, rfl, l.nx G3 _ H3 _ (e1.trans (e2.trans e3)) (((S4.storeOwn h3.1.1.1 gp4 ow4 fr4).store (isPar_setO h3.1.1.2) (r2'.mono e3)).store (isPar_set (isPar_setO h3.1.2)) r3) h3.2⟩) (l.xl σ)
end
end DL
set_option autoImplicit false
set_option Elab.async false
set_option linter.all false
set_option maxRecDepth 100000
set_option maxHeartbeats 1000000
/-! DLA1: a lambda, its parameters with defaults, handed to a def of one parameter that calls it -/
namespace DL
open PySem L2 Evl PySem.Spec PyProof.Rows LamX
/-- what stands in a lambda's scope: its parameters (no name of the def around it), cells of that def, globals -/
structure LmS (N : List Str) (sc scope : Scope) : Prop where
  fn : scope.kind = .function
  nc : scope.isCoroutine = false
  ng : scope.isGenerator = false
  cl : ∀ y ∈ scope.names, y.2 ≠ .cell
  lo : ∀ y ∈ scope.names, y.2 = .local → y.1 ∉ N
  fr : ∀ y ∈ scope.names, y.2 = .free → sc.names.lookup y.1 = some .cell ∨ sc.names.lookup y.1 = some .free
def lmSB (N : List Str) (sc scope : Scope) : Bool :=
  decide (scope.kind = .function) && !scope.isCoroutine && !scope.isGenerator && scope.names.all fun y => match y.2 with
    | .cell => false
    | .local => !N.contains y.1
    | .free => decide (sc.names.lookup y.1 = some .cell) || decide (sc.names.lookup y.1 = some .free)
    | _ => true
theorem lmS_by {N : List Str} {sc scope : Scope} (h : lmSB N sc scope = true) : LmS N sc scope := by
  unfold lmSB at h
  simp only [Bool.and_eq_true, Bool.not_eq_true', decide_eq_true_eq, List.all_eq_true] at h
  obtain ⟨⟨⟨a, b⟩, c⟩, d⟩ := h
  refine ⟨a, b, c, fun y hy e => ?_, fun y hy e => ?_, fun y hy e => ?_⟩
  · have k := d y hy; rw [e] at k; cases k
  · have k := d y hy
    rw [e] at k
    have k : (!N.contains y.1) = true := k
    intro z
    rw [List.contains_iff_mem.mpr z] at k
    cases k
  · have k := d y hy
    rw [e] at k
    have k : (decide (sc.names.lookup y.1 = some .cell) || decide (sc.names.lookup y.1 = some .free)) = true := k
    rcases Bool.or_eq_true_iff.mp k with q | q
    · exact .inl (of_decide_eq_true q)
    · exact .inr (of_decide_eq_true q)
/-- a lambda's function, as a call looks at it -/
structure FnL (X : Cx) (scope : Scope) (body : Expr) (c' : Addr) (fd : FuncData) : Prop where
  sc : fd.scope = scope
  bo : fd.body = .expr body
  gl : fd.globals = mainGlobals
  cl : fd.closure = cloFrom X.env.cells scope.names []
  qn : fd.qualname = X.env.qual ++ "<lambda>"
  cd : fd.code = .ref c'
  bl : fd.builtins = builtinsNs
section
variable {X : Cx} {pins : List (Addr × Obj)} {σ : L2.St} {H HZ : Hp} {s s1 : Shared}
theorem LmS.cells {scope : Scope} (L : LmS X.N X.env.scope scope) (ok : X.Ok) : ∀ y ∈ scope.names, y.2 = .free → ∃ c, X.env.cells.lookup y.1 = some c :=
  fun y hy e => ok.has _ ((L.fr y hy e).imp id id)
theorem clo_back {scope : Scope} (hc : ∀ y ∈ scope.names, y.2 = .free → ∃ c, X.env.cells.lookup y.1 = some c) {x : Str} {c : Addr} (h : (cloFrom X.env.cells scope.names []).lookup x = some c) : X.env.cells.lookup x = some c := by
  rcases cloFrom_mem (mem_of_lookup h) with z | ⟨a, b⟩
  · cases z
  · obtain ⟨c0, k⟩ := hc (x, .free) a rfl
    have k : X.env.cells.lookup x = some c0 := k
    rw [k, b, k]; rfl
theorem clo_at {scope : Scope} {x : Str} (h : scope.names.lookup x = some .free) : ∃ c, (cloFrom X.env.cells scope.names []).lookup x = some c := mem_lookup (cloFrom_has (mem_of_lookup h))
/-- where a lambda's body begins -/
theorem lm_start {A : Around} {outer : List Env} {E : XK} {scope : Scope} {f c' : Addr} {h₁ : Heap} {tk : Nat} {m : Str → Option Value} (I : Inv X pins σ H s) (L : LmS X.N X.env.scope scope) (e0 : Env0 X.prog X.w X.K X.mg X.base A outer s1 HZ) (hh : A.handled = none)
    (un : Un (frs X.stack) [] H HZ s.heap s1.heap) (hm : h₁.Ns s1.heap.objs.size m) (hk : ∀ b o, s1.heap.get? b = some o → h₁.get? b = some o) :
    Inv (lamCx X A outer s1 HZ E scope f c') [] σ HZ { s1 with heap := h₁, toks := tk } := by
  have hc := L.cells I.ok
  have seen : ∀ {c : Addr} {v : Option Value}, H c = none → s.heap.IsCell c v → h₁.IsCell c v := by
    rintro c v n ⟨o, a, b⟩
    obtain ⟨sl, q⟩ := un.any a n (fun z => by cases z)
    exact ⟨_, hk _ _ q, b⟩
  exact {
    ok := {
      mod := e0.mod
      kind := L.fn
      glob := rfl
      blt := rfl
      above := Nat.le_refl _
      inj := fun x y c p q => I.ok.inj x y c (clo_back hc p) (clo_back hc q)
      has := fun x q => by
        rcases q with q | q
        · exact absurd rfl (L.cl _ (mem_of_lookup (show scope.names.lookup x = some .cell from q)))
        · exact clo_at (show scope.names.lookup x = some .free from q)
      cab := fun x c z _ => nomatch (show false = true from z)
      hd := fun _ => hh
      frames := Around.frames_deeper e0.frames
      stk := .inr ⟨rfl, rfl⟩
      exf := fun b z => nomatch (show b ∈ ([] : List Addr) from z)
      bs := e0.bs
      bsz := e0.bsz
      noex := fun b _ _ z => nomatch (show b ∈ ([] : List Addr) from z)
      exfs := fun b z => nomatch (show b ∈ ([] : List Addr) from z)
      funs := e0.funs
      frf := e0.frf }
    os := rfl
    bare := e0.bare
    base := Un.kept hk
    loc := by
      refine ⟨m, hm, fun i x v hN hσ hv => ?_⟩
      have hN : X.N[i]? = some x := hN
      rcases (show Vis scope x from hv) with q | q | q
      · exact absurd (List.mem_of_getElem? hN) (L.lo _ (mem_of_lookup q) rfl)
      · exact absurd rfl (L.cl _ (mem_of_lookup q))
      · have way := L.fr _ (mem_of_lookup q) rfl
        obtain ⟨m0, _, hl⟩ := I.loc
        obtain ⟨u, ru, look⟩ := hl i x v hN hσ (way.elim (fun z => .inr (.inl z)) (fun z => .inr (.inr z)))
        obtain ⟨c2, k2⟩ := clo_at (X := X) q
        refine ⟨u, ru, .inr ⟨.inr q, c2, k2, ?_⟩⟩
        rcases look with ⟨z, _⟩ | ⟨_, c3, k3, z⟩
        · have z : X.env.scope.names.lookup x = some .local := z
          rcases way with y | y
          · rw [show X.env.scope.names.lookup x = _ from y] at z; cases z
          · rw [show X.env.scope.names.lookup x = _ from y] at z; cases z
        · rw [clo_back hc k2] at k3
          cases k3
          exact seen (I.freeC x _ (clo_back hc k2)) z
    cell := fun x c q => by
      obtain ⟨v, z⟩ := I.cell x c (clo_back hc q)
      exact ⟨v, seen (I.freeC x c (clo_back hc q)) z⟩
    free := e0.hok.fresh (Nat.le_refl _)
    freeC := fun x c q => by
      obtain ⟨v, o, a, b⟩ := I.cell x c (clo_back hc q)
      exact un.free c o a (I.freeC x c (clo_back hc q)) (fun z => by cases z)
    pin := fun p z => nomatch (show p ∈ ([] : List (Addr × Obj)) ++ [] from z)
    hok := e0.hok.kept hk
    len := I.len }
/-- a(), in the def that got the lambda -/
theorem pe_lact {CXg : CXT} {Eg : XK} {Ng : List Str} {qg : Str} {sg : Scope} {g f c' : Addr} {cdg : Value} {o : Obj} {fd : FuncData} {body : Expr} {scope : Scope} {binds : List (Str × Value)} {k i : Nat} {a : Str} {pn : List (Addr × Obj)} {xe : Value → Shared → Prop} {W : WX} {t : XK → TE} {p1 p2 : Pos}
    (I : Inv X pins σ H s) (L : LmS X.N X.env.scope scope) (hf : s.heap.get? f = some o) (ho : o.data = .func fd) (FL : FnL X scope body c' fd) (hfn : H f = none) (hfr : f ∉ frs X.stack)
    (hB : ∀ s2 : Shared, (∀ b u, s.heap.get? b = some u → H b = none → b ∉ frs X.stack → s2.heap.get? b = some u) → BindsTo s2 fd ⟨[], []⟩ binds) (hbl : ∀ y ∈ binds, scope.names.lookup y.1 = some .local)
    (tk : Takes ((cxOf CXg X.prog X.w X.K X.mg X.base Ng qg sg g cdg X.A X.stack s H Eg).tr pn xe) W) (hr : Room (k + 1) (X.A.deeper (envOfC qg sg s.heap.objs.size g cdg)))
    (hbody : ∀ (A : Around) (outer : List Env) (s : Shared) (H : Hp) (E : XK), Room k (A.deeper (lamEnv X scope s.heap.objs.size f c')) → PE (lamCx X A outer s H E scope f c') body (t E))
    (hv : Vis sg a) (hN : Ng[i]? = some a) (hd : (a == ("__debug__" : Str)) = false := by decide) (hcd : (a == ("__classdict__" : Str)) = false := by decide) :
    PE ((cxOf CXg X.prog X.w X.K X.mg X.base Ng qg sg g cdg X.A X.stack s H Eg).tr pn xe) (.Call (.Name a p1) [] [] p2)
      (fun τ HZ Q => τ[i]? = some (some (.ref f)) ∧ HZ c' = some (CodeO c' (X.env.qual ++ "<lambda>")) ∧ t (fun cls d H' => W cls d τ H') σ HZ Q) := by
  refine ⟨fun pinsZ sZ τ HZ Q IZ h => ?_⟩
  obtain ⟨hs, hc, ht⟩ := h
  refine wpAny_Call_Name_kw (thn ((pe_var (pos := p1) (i := i) hN hv hd hcd).run pinsZ sZ τ HZ (fun v H1 => v = .ref f ∧ H1 = HZ) IZ ⟨.ref f, hs, rfl, rfl⟩) ?_)
  rintro u s1 ⟨v, H1, I1, r1, rfl, rfl⟩
  obtain rfl : u = Value.ref f := r1
  have old : ∀ b u, s.heap.get? b = some u → H b = none → b ∉ frs X.stack → s1.heap.get? b = some u := fun b u h1 h2 h3 => I1.base.keep b u h1 h2 h3 (fun z => nomatch (show b ∈ ([] : List Addr) from z))
  have of1 := old f o hf hfn hfr
  refine PySem.W.callWith_F0 ⟨o.cls, o.dict, fd, o.slots, by rw [of1, ← ho]⟩ ?_
  have un : Un (frs X.stack) [] H H1 s.heap s1.heap := I1.base
  obtain ⟨⟨oc, vs, tq, w1, w2, w3⟩, _, _⟩ := I1.hok c' _ hc
  have run : codeAny (model X.prog X.w) (X.A.deeper (envOfC qg sg s.heap.objs.size g cdg)) (.call (.ref f) ⟨[], []⟩) (CR (L2.CX X.prog X.w) (envOfC qg sg s.heap.objs.size g cdg :: X.stack) X.prog X.w H1 s1 Q fun cls d H' => W cls d τ H') s1 := by
    refine PySem.W.kla_callFunE hr.depth of1 ho (by rw [FL.sc]; exact L.nc) (by rw [FL.sc]; exact L.ng) FL.bo (by rw [FL.cd, FL.qn]; exact ⟨c', oc, vs, tq, rfl, w1, w2, w3⟩) ?_
    rw [FL.sc, FL.gl, FL.cl, FL.qn, FL.cd, FL.bl]
    refine hB s1 old _ _ _ _ ?_
    refine wpAny_newFunctionEnv L.cl hbl (fun h₁ ns sb => ⟨I1.nolimit.fresh _ sb, ?_⟩) L.fn
    have kp : ∀ b u, s1.heap.get? b = some u → h₁.get? b = some u := fun b u q => sb.extBut b u (Nat.ne_of_lt (Heap.lt_size q)) (Heap.get?_push_of_some _ q)
    refine PySem.W.kla_codeExpr (env := lamEnv X scope s1.heap.objs.size f c') (wpAny_mono ((hbody _ _ s1 H1 _ (hr.deeper _)).run [] _ _ H1 Q (lm_start I L I1.env0 hr.hd un ns kp) ht) (fun v s' hq => ?_) fun _ _ z => z)
    obtain ⟨w', H', J, rv, q⟩ := hq
    exact ⟨w', H', J.os, J.bare, J.base, J.hok, rv, q⟩
  refine wpAny_call (codeAny_mono run fun r s' hq => ?_)
  cases r with
  | error e => exact passAt tk τ pinsZ H1 s1 e s' I1 hq
  | ok fl =>
    cases fl with
    | ret u => exact I1.after hq
    | next => exact False.elim hq
    | brk => exact False.elim hq
    | cont => exact False.elim hq
end
end DL
set_option autoImplicit false
set_option Elab.async false
set_option linter.all false
set_option maxRecDepth 100000
set_option maxHeartbeats 1000000
namespace DL
open PySem L2 Evl PySem.Spec PyProof.Rows LamX
/-- all but the tables stay -/
def ExtT (T : List (Addr × Str)) (H H1 : Hp) : Prop := ∀ b o, (∀ p ∈ T, p.1 ≠ b) → H b = some o → H1 b = some o
/-- a lambda is made: what is known of it behind -/
structure LmMk (X : Cx) (T : List (Addr × Str)) (params : Arguments) (body : Expr) (scope : Scope) (pos : Pos) : Prop where
  run : ∀ (pins : List (Addr × Obj)) (s : Shared) (σ : L2.St) (H : Hp) (Q E : Value → Shared → Prop), Inv X pins σ H s → Tabs T H →
    (∀ (f c' : Addr) (o : Obj) (fd : FuncData) (binds : List (Str × Value)) (H1 : Hp) (s' : Shared), Inv X pins σ H1 s' → ExtT T H H1 → Tabs T H1 → s'.heap.get? f = some o → o.data = .func fd → FnL X scope body c' fd → H1 f = none → f ∉ frs X.stack →
      (∀ s2 : Shared, (∀ b u, s'.heap.get? b = some u → H1 b = none → b ∉ frs X.stack → s2.heap.get? b = some u) → BindsTo s2 fd ⟨[], []⟩ binds) → (∀ y ∈ binds, scope.names.lookup y.1 = some .local) → H1 c' = some (CodeO c' (X.env.qual ++ "<lambda>")) → Q (.ref f) s') →
    wpAny (model X.prog X.w) X.A (eval (.Lambda params body scope pos) X.env) Q E s
theorem ne_of_none' {H : Hp} {a b : Addr} {o : HO} (h : H a = none) (k : H b = some o) : a ≠ b := fun z => by rw [z, k] at h; cases h
section
variable {X : Cx} {T : List (Addr × Str)} {c P : Addr} {params : Arguments} {body : Expr} {scope : Scope} {pos : Pos}
theorem nfr {pins : List (Addr × Obj)} {σ : L2.St} {H : Hp} {s : Shared} (I : Inv X pins σ H s) {b : Addr} (hb : s.heap.objs.size ≤ b) : b ∉ frs X.stack := fun z => by
  rcases List.mem_cons.mp (I.stkSub _ z) with q | q
  · have := I.lt
    rw [← q] at this
    exact absurd (Nat.lt_of_lt_of_le this hb) (Nat.lt_irrefl _)
  · exact I.nofs hb q
/-- from the tuple of its defaults on -/
theorem lm_tail {pins : List (Addr × Obj)} {s : Shared} {σ : L2.St} {H : Hp} {Q E : Value → Shared → Prop} {dV : Value} (TB : TabB X.base X.mg c P) (hcode : X.env.code = .ref c) (hm : (P, X.env.qual ++ "<lambda>") ∈ T) (hu : ∀ p ∈ T, p.1 = P → p.2 = X.env.qual ++ "<lambda>") (L : LmS X.N X.env.scope scope) (I2 : Inv X pins σ H s) (hT : Tabs T H)
    (k : ∀ (f c' : Addr) (o : Obj) (pm doc ctv : Value) (H1 : Hp) (s' : Shared), Inv X pins σ H1 s' → ExtT T H H1 → Tabs T H1 → (∀ b u, s.heap.get? b = some u → H b = none → s'.heap.get? b = some u ∧ H1 b = none) → s'.heap.get? f = some o → o.data = .func (PySem.W.kdv_fn "<lambda>" (X.env.qual ++ "<lambda>") params (.expr body) scope (cloFrom X.env.cells scope.names []) dV doc pm (.ref c') ctv) → H1 f = none → f ∉ frs X.stack →
      H1 c' = some (CodeO c' (X.env.qual ++ "<lambda>")) → Q (.ref f) s') :
    wpAny (model X.prog X.w) X.A (makeTail "<lambda>" (X.env.qual ++ "<lambda>") params (.expr body) scope X.env dV .none none pos pos.line) Q E s := by
  obtain ⟨ps, hP, ht, ha⟩ := hT _ hm
  have bP : s.heap.BuiltinsAt X.mg P := TB.bm.keeps I2.bk
  have hP2 : s.heap.get? P = some { cls := .none, data := .fields ps } := I2.hok P _ hP
  cases hc : codeAmong pos ps.toList with
  | none =>
    refine PySem.W.kdv_makeTail (mg := X.mg) (c := c) (P := P) (ps := ps) (closure_ok (L.cells I2.ok)) I2.ok.glob (I2.mod.glob.keeps I2.bk) hcode (TB.code.keeps I2.bk) hP2 ht hc TB.gP bP fun c' ctv doc h' tk hx hge hlt hrec htb => ?_
    obtain ⟨c2, oc, vs, tq, e2, hoc, hd, hv⟩ := hrec
    cases e2
    have nC : H c' = none := I2.hok.fresh hge
    have hsz : s.heap.objs.size ≤ h'.objs.size := Nat.le_trans hge (Nat.le_of_lt hlt)
    have I3 := inv_table (t' := tk) (q := X.env.qual ++ "<lambda>") (more := #[rawInt pos.line, rawInt pos.col, .ref c']) (h' := h'.push (PySem.W.kdv_obj "<lambda>" (X.env.qual ++ "<lambda>") params (.expr body) scope (cloFrom X.env.cells scope.names []) dV doc ((X.mg "__name__").getD .none) c' ctv)) I2 hP
      (fun b o hb e => Heap.get?_push_of_some _ (hx b o hb e)) (Heap.get?_push_of_some _ htb) hge ⟨oc, vs, tq, Heap.get?_push_of_some _ hoc, hd, hv⟩
    have eN : ∀ b o, b ≠ P → H b = some o → upd (upd H P (.tbl (ps ++ #[rawInt pos.line, rawInt pos.col, .ref c']))) c' (CodeO c' (X.env.qual ++ "<lambda>")) b = some o := fun b o n e => by
      rw [upd_ne (ne_of_none e nC), upd_ne n]
      exact e
    have nP : ∀ b, (∃ q, H b = some (CodeO b q)) → b ≠ P := fun b ⟨q, e⟩ z => by
      rw [z, hP] at e
      exact codeO_ne ps (Option.some.inj e).symm
    refine k h'.objs.size c' _ _ doc ctv _ _ I3 (fun b o n e => eN b o (fun z => n _ hm z.symm) e) (fun p hp => ?_) (fun b u h1 h2 => ⟨Heap.get?_push_of_some _ (hx b u (ne_of_none' h2 hP) h1), ?_⟩) (Heap.get?_push_size _ rfl) rfl ?_ (nfr I2 hsz) upd_same
    · by_cases hb : p.1 = P
      · rw [hu p hp hb, hb]
        refine ⟨_, by rw [upd_ne (ne_of_none hP nC), upd_same], by simpa using TriplesOk_snoc _ _ _ _ ht, fun p' cv hcv => ?_⟩
        have hcv : codeAmong p' (ps.toList ++ [rawInt pos.line, rawInt pos.col, .ref c']) = some cv := by simpa using hcv
        rcases among_app _ ht hcv with z | z
        · obtain ⟨c0, a1, a2⟩ := ha p' cv z
          exact ⟨c0, a1, eN _ _ (nP _ ⟨_, a2⟩) a2⟩
        · exact ⟨c', z, upd_same⟩
      · obtain ⟨ps', a1, a2, a3⟩ := hT p hp
        refine ⟨ps', eN _ _ hb a1, a2, fun p' cv hcv => ?_⟩
        obtain ⟨c0, b1, b2⟩ := a3 p' cv hcv
        exact ⟨c0, b1, eN _ _ (nP _ ⟨_, b2⟩) b2⟩
    · rw [upd_ne (fun z => by
        have := Nat.lt_of_lt_of_le (Heap.lt_size h1) hge
        rw [z] at this
        exact Nat.lt_irrefl _ this), upd_ne (ne_of_none' h2 hP)]
      exact h2
    · rw [upd_ne (Nat.ne_of_gt hlt), upd_ne (Nat.ne_of_gt (Nat.lt_of_lt_of_le (Heap.lt_size hP2) hsz))]
      exact I2.hok.fresh hsz
  | some cv =>
    obtain ⟨c', e, hco⟩ := ha pos cv hc
    subst e
    refine PySem.W.kdv_makeTailHit (mg := X.mg) (c := c) (P := P) (ps := ps) (closure_ok (L.cells I2.ok)) I2.ok.glob (I2.mod.glob.keeps I2.bk) hcode (TB.code.keeps I2.bk) hP2 ht hc bP fun ctv doc h' tk hx hsz => ?_
    have I3 : Inv X pins σ H { s with heap := h'.push { cls := .type "function", data := .func (PySem.W.kdv_fn "<lambda>" (X.env.qual ++ "<lambda>") params (.expr body) scope (cloFrom X.env.cells scope.names []) dV doc ((X.mg "__name__").getD .none) (.ref c') ctv) }, toks := tk } :=
      I2.kept fun b o e => Heap.get?_push_of_some _ (hx b o e)
    exact k h'.objs.size c' _ _ doc ctv H _ I3 (fun b o _ e => e) hT (fun b u h1 h2 => ⟨Heap.get?_push_of_some _ (hx b u h1), h2⟩) (Heap.get?_push_size _ rfl) rfl (I2.hok.fresh hsz) (nfr I2 hsz) hco
/-- no parameter -/
theorem lmk0 (TB : TabB X.base X.mg c P) (hcode : X.env.code = .ref c) (hm : (P, X.env.qual ++ "<lambda>") ∈ T) (hu : ∀ p ∈ T, p.1 = P → p.2 = X.env.qual ++ "<lambda>") (L : LmS X.N X.env.scope scope) (hdef : defaultsOf params X.env = ([], []))
    (hbind : ∀ (q : Str) (cl : List (Str × Addr)) (doc pm cv ctv : Value), bindArgs (PySem.W.kdv_fn "<lambda>" q params (.expr body) scope cl .none doc pm cv ctv) ⟨[], []⟩ = pure []) : LmMk X T params body scope pos := by
  refine ⟨fun pins s σ H Q E I hT k => PySem.W.kla_eval hdef ?_⟩
  rw [makeFunction_eq]
  simp only [List.zip_nil_right, List.filterMap_nil, List.isEmpty_nil, if_true, pure_bind]
  exact lm_tail TB hcode hm hu L I hT fun f c' o pm doc ctv H1 s' I1 eT T1 old hf ho hn hs hc =>
    k f c' o _ [] H1 s' I1 eT T1 hf ho ⟨rfl, rfl, rfl, rfl, rfl, rfl, rfl⟩ hn hs (fun s2 _ => .of_eq (hbind _ _ _ _ _ _)) (fun y hy => nomatch hy) hc
/-- one parameter with a written number as its default -/
theorem lmk1 {i : Int} {j : Nat} {p0 : Pos} {y : Str} (TB : TabB X.base X.mg c P) (hcode : X.env.code = .ref c) (hm : (P, X.env.qual ++ "<lambda>") ∈ T) (hu : ∀ p ∈ T, p.1 = P → p.2 = X.env.qual ++ "<lambda>") (L : LmS X.N X.env.scope scope)
    (hdf : params.defaults = [.Constant (.int i) j p0]) (hkw : params.kw_defaults = []) (hy : scope.names.lookup y = some .local)
    (hbind : ∀ (q : Str) (cl : List (Str × Addr)) (dV doc pm cv ctv : Value), ∃ k, bindArgs (PySem.W.kdv_fn "<lambda>" q params (.expr body) scope cl dV doc pm cv ctv) ⟨[], []⟩ = (seqItems? dV >>= k) ∧ ∀ v, k (some #[v]) = pure [(y, v)]) : LmMk X T params body scope pos := by
  refine ⟨fun pins s σ H Q E I hT k => ?_⟩
  refine PySem.W.kdv_lam (by rw [hdf]; rfl) hkw ?_
  rw [hdf]
  refine PySem.W.kdv_all1 (wpAny_Constant_int (PySem.W.kdv_all0 ?_))
  have I1 : Inv X pins σ H { s with toks := s.toks + 1 } := I.tok _
  generalize hs1 : ({ s with toks := s.toks + 1 } : Shared) = s1 at I1 ⊢
  generalize s.toks = t0
  rw [makeFunction_eq]
  simp only [List.zip_nil_right, List.filterMap_nil, List.isEmpty_nil, if_true, pure_bind, List.isEmpty_cons, Bool.false_eq_true, if_false]
  refine wpAny_bind (wpAny_newTextTuple ?_)
  have I2 : Inv X pins σ H { s1 with heap := s1.heap.push { cls := .type "tuple", data := .seq [Value.int i t0].toArray } } := I1.kept (t' := s1.toks) fun b o e => Heap.get?_push_of_some _ e
  have at0 : (s1.heap.push { cls := .type "tuple", data := .seq [Value.int i t0].toArray }).get? s1.heap.objs.size = some { cls := .type "tuple", data := .seq [Value.int i t0].toArray } := Heap.get?_push_size _ rfl
  have hz0 : H s1.heap.objs.size = none := I1.hok.fresh (Nat.le_refl _)
  refine lm_tail TB hcode hm hu L I2 hT fun f c' o pm doc ctv H1 s' I3 eT T1 old hf ho hn hs hc =>
    k f c' o _ [(y, .int i t0)] H1 s' I3 eT T1 hf ho ⟨rfl, rfl, rfl, rfl, rfl, rfl, rfl⟩ hn hs (fun s2 old2 => ?_) (fun z hz => by rw [List.mem_singleton.mp hz]; exact hy) hc
  obtain ⟨a1, a2⟩ := old _ _ at0 hz0
  obtain ⟨kk, k1, k2⟩ := hbind (X.env.qual ++ "<lambda>") (cloFrom X.env.cells scope.names []) (.ref s1.heap.objs.size) doc pm (.ref c') ctv
  exact .of_defaults rfl (old2 _ _ a1 a2 (nfr I1 (Nat.le_refl _))) rfl k1 (k2 _)
end
end DL
set_option autoImplicit false
set_option Elab.async false
set_option linter.all false
set_option maxRecDepth 100000
set_option maxHeartbeats 1000000
/-! DLA3: x(lambda: e), x a def of one parameter that calls it -/
namespace DL
open PySem L2 Evl PySem.Spec PyProof.Rows LamX
abbrev LamZ (X : Cx) (Ng : List Str) (x : Str) (sg : Scope) (g : Addr) (cdg : Value) (s : Shared) (H : Hp) : Cx := cxOf L2.CX0 X.prog X.w X.K X.mg X.base Ng x sg g cdg X.A X.stack s H L2.E0
/-- what the def makes of the lambda's reading -/
def GivesL (X : Cx) (k : Nat) (Ng : List Str) (x : Str) (sg : Scope) (g : Addr) (cdg : Value) (bg : List Stmt) (a : Str) (q : Str) (TT : (XK → Hp → VK → Prop) → Hp → VK → Prop) : Prop :=
  ∀ (f c' : Addr) (s : Shared) (H : Hp) (Q : VK) (tl : XK → Hp → VK → Prop), Room k (X.A.deeper (envOfC x sg s.heap.objs.size g cdg)) →
    (∀ (W : WX) (pn : List (Addr × Obj)) (xe : Value → Shared → Prop) (p1 p2 : Pos), Takes ((LamZ X Ng x sg g cdg s H).tr pn xe) W →
      PE ((LamZ X Ng x sg g cdg s H).tr pn xe) (.Call (.Name a p1) [] [] p2) (fun τ HZ Q => τ[0]? = some (some (.ref f)) ∧ HZ c' = some (CodeO c' q) ∧ tl (fun cls d H' => W cls d τ H') HZ Q)) →
    H c' = some (CodeO c' q) → TT tl H Q → ∃ t, PSs (LamZ X Ng x sg g cdg s H).nox bg t ∧ t { nx := fun _ H' => Q .non H', rt := Q } (L2.start Ng [.ref f]) H
def tLamL (T : List (Addr × Str)) (TT : (XK → Hp → VK → Prop) → Hp → VK → Prop) (t : XK → TE) : TE := fun σ H Q => Tabs T H ∧ ∀ H1, ExtT T H H1 → Tabs T H1 → TT (fun E H' Q' => t E σ H' Q') H1 Q
theorem pe_lamL {X : Cx} {T : List (Addr × Str)} {TT : (XK → Hp → VK → Prop) → Hp → VK → Prop} {x a : Str} {g : Addr} {fd : FuncData} {k : Nat} {st : Stmt} {Ng : List Str} {params : Arguments} {body : Expr} {scope : Scope} {t : XK → TE} {p lpos pos : Pos}
    (F : Fun X.K x x st g fd) (Sg : FnScope Ng [a] (defScope st)) (hb : Binds X.K fd [a] []) (hg : Gl X x) (hm : X.mg x = some (.ref g)) (hN : Ng[0]? = some a) (hv : Vis (defScope st) a) (hr : Room (k + 2) X.A) (M : LmMk X T params body scope lpos) (L : LmS X.N X.env.scope scope)
    (hG : ∀ cdg : Value, GivesL X (k + 1) Ng x (defScope st) g cdg (defBody st) a (X.env.qual ++ "<lambda>") TT)
    (hbody : ∀ (A : Around) (outer : List Env) (s : Shared) (H : Hp) (E : XK) (f c' : Addr), Room k (A.deeper (lamEnv X scope s.heap.objs.size f c')) → PE (lamCx X A outer s H E scope f c') body (t E))
    (hdb : (x == ("__debug__" : Str)) = false := by decide) (hd : (a == ("__debug__" : Str)) = false := by decide) (hcd : (a == ("__classdict__" : Str)) = false := by decide) :
    PE X (.Call (.Name x p) [.Lambda params body scope lpos] [] pos) (tLamL T TT t) := by
  obtain ⟨oc, od, kV, doc, pm, an, cdv, ct, osl, rfl, lk, hcg⟩ := F.ex
  refine ⟨fun pins s σ H Q I h => ?_⟩
  obtain ⟨hT, h⟩ := h
  refine wpAny_Call_Name_kw (ld_glob I hg hm ?_ hdb)
  refine PySem.W.callWith_K (h₀ := X.base) I.ok.mod.kin F.kp ?_ (by rfl) (by rfl)
  refine Calls.spliced_cons (M.run pins s σ H _ _ I hT fun f c' o fdl binds H1 s' I1 eN T1 of1 od1 FL hfn hfr hB hbl hco => Calls.spliced_nil ⟨I1.kIn, ?_⟩)
  have rc : codeAny (model X.prog X.w) X.A (.call (.ref g) ⟨[.ref f], []⟩) (CR L2.CX0 X.stack X.prog X.w H1 s' Q L2.E0) s' := by
    refine run_ofS (N := Ng) (ps := [a]) (us := [.ref f]) (vs := [.ref f]) lk hcg Sg hr I1.env0 (hb s' [.ref f] I1.kIn rfl) (.cons rfl .nil) rfl fun hr1 => ?_
    obtain ⟨t', h1, h2⟩ := hG cdv f c' s' H1 Q (fun E H' Q' => t E σ H' Q') hr1 (fun W pn xe p1 p2 tk => pe_lact (i := 0) I1 L of1 od1 FL hfn hfr hB hbl tk hr1 (fun A outer s H E hr2 => hbody A outer s H E f c' hr2) hv hN hd hcd) hco (h H1 eN T1)
    exact ⟨t', h1.nox, h2⟩
  refine wpAny_call (codeAny_mono rc fun r s2 hq => ?_)
  cases r with
  | error e => exact (show False from hq).elim
  | ok fl =>
    cases fl with
    | ret u => exact I1.after hq
    | next => exact False.elim hq
    | brk => exact False.elim hq
    | cont => exact False.elim hq
/-! ### as data -/
abbrev LW := (D → Prop) → (Addr → List (Str × D) → Prop) → Prop
section
variable {K : PySem.W.Frag} {T : List (Addr × Str)} {G0 : Hp}
def LamOk (K : PySem.W.Frag) (T : List (Addr × Str)) (tl : XK → Hp → VK → Prop) (lw : LW) (G0 : Hp) : Prop := ∀ (E : XK) (F G H : Hp) (Q : VK) (q : D → Prop) (er : Addr → List (Str × D) → Prop), Ex G0 G → Ex G H → Ex F H → DjT T F G H → lw q er →
  (∀ G' H' v d, Ex G G' → Ex G' H' → Ex F H' → DjT T F G' H' → Rep K G' v d → q d → Q v H') →
  (∀ G' H' C y fv fs, Ex G G' → Ex G' H' → Ex F H' → DjT T F G' H' → G' y = some (.xd fv) → RepF K G' fv fs → er C fs → E (.ref C) (some y) H') → tl E H Q
theorem LamOk.mono {tl : XK → Hp → VK → Prop} {lw : LW} {G1 : Hp} (h : LamOk K T tl lw G0) (e : Ex G0 G1) : LamOk K T tl lw G1 := fun E F G H Q q er h1 => h E F G H Q q er (e.trans h1)
/-- slots that a lambda may read: plain data -/
def plS : Sl → Sl
  | .val d => .val d
  | _ => .no
def plL : Ro → Ro
  | [] => []
  | s :: r => plS s :: plL r
theorem plL_map : ∀ ρ : Ro, plL ρ = ρ.map plS
  | [] => rfl
  | s :: r => by rw [List.map_cons, ← plL_map r]; rfl
def lwOf (dl : DE) (ρ : Ro) : LW := fun q er => dl (plL ρ) (fun t _ => match t with
  | .val d => q d
  | .bor _ => False) (fun C fs _ => er C fs)
theorem plL_get {ρ : Ro} {i : Nat} {s : Sl} (h : (plL ρ)[i]? = some s) : s = .no ∨ ∃ d, s = .val d ∧ ρ[i]? = some (.val d) := by
  rw [plL_map, List.getElem?_map] at h
  cases q : ρ[i]? with
  | none => rw [q] at h; cases h
  | some x =>
    rw [q] at h
    cases x with
    | val d => cases h; exact .inr ⟨d, rfl, rfl⟩
    | no => cases h; exact .inl rfl
    | own d => cases h; exact .inl rfl
    | par d => cases h; exact .inl rfl
theorem lamOk_of {pa : PaG} {F0 H0 : Hp} {σ : RSt} {ρ : Ro} {t : XK → TE} {dl : DE} (S : Sim K pa F0 G0 σ H0 ρ) (h : ∀ E : XK, SE K pa (fun cls d _ H => E cls d H) (t E) dl) : LamOk K pa.T (fun E H Q => t E σ H Q) (lwOf dl ρ) G0 := fun E F G H Q q er e0 eg ef dj hw k ke => by
  have S1 : Sim K pa F G σ H (plL ρ) := by
    have no : ∀ (i : Nat) (s : Sl) (d : D), (plL ρ)[i]? = some s → s.ownD = some d → False := fun i s d h1 h2 => by
      rcases plL_get h1 with rfl | ⟨_, rfl, _⟩ <;> cases h2
    refine ⟨by rw [plL_map, List.length_map]; exact S.len, eg, ef, dj, fun i d h1 => ?_, fun i s d h1 h2 => (no i s d h1 h2).elim, fun i s d p h1 h2 _ => (no i s d h1 h2).elim, fun i d h1 => (no i _ d h1 rfl).elim, S.gx.trans e0, fun i j s t d e p _ h1 h2 _ _ _ _ => (no i s d h1 h2).elim⟩
    rcases plL_get h1 with z | ⟨d', z, h2⟩
    · cases z
    · cases z
      obtain ⟨v, a, b⟩ := S.val i d h2
      exact ⟨v, a, b.mono e0⟩
  refine h E F G σ H (plL ρ) Q _ _ S1 hw (fun G' H' v u ρ' e S' r hq => ?_) (fun G' H' ρ' C d vs fs e S' hq h1 h2 => ke G' H' C d vs fs e S'.ex S'.fx S'.dj h1 h2 hq)
  cases u with
  | bor i => exact hq.elim
  | val d => exact k G' H' v d e S'.ex S'.fx S'.dj r hq
/-- a() -/
def isAt (ρ : Ro) (i : Nat) (f : Addr) : Prop := ρ[i]? = some (.val (.ptr f))
theorem isAt0 {ρ : Ro} {f : Addr} : isAt (.val (.ptr f) :: ρ) 0 f = True := eq_true rfl
def dAct (f : Addr) (lw : LW) : DE := fun ρ q er => isAt ρ 0 f ∧ lw (fun d => q (.val d) ρ) (fun C fs => er C fs ρ)
theorem se_act {pa : PaG} {W : WX} {f c' : Addr} {q : Str} {tl : XK → Hp → VK → Prop} {lw : LW} (hq : pa.g c' = some (CodeO c' q)) (lo : LamOk K pa.T tl lw pa.g) :
    SE K pa W (fun τ HZ Q => τ[0]? = some (some (.ref f)) ∧ HZ c' = some (CodeO c' q) ∧ tl (fun cls d H' => W cls d τ H') HZ Q) (dAct f lw) := fun F G σ H ρ Q q er S h k x => by
  obtain ⟨hi, hl⟩ := h
  have back : ∀ {G' H' : Hp}, Ex G G' → Ex G' H' → Ex (calF F H σ ρ []) H' → DjT pa.T (calF F H σ ρ []) G' H' → Sim K pa F G' σ H' ρ := fun {G' H'} e gh fx dj => by
    have := S.behind (is := []) (os := []) e gh fx dj .nil
    exact this
  refine ⟨?_, S.ex _ _ (S.gx _ _ hq), lo _ (calF F H σ ρ []) G H Q _ _ S.gx S.ex (calF_ex S []) (calF_dj S []) hl (fun G' H' v d e gh fx dj r hq => k G' H' v (.val d) ρ e (back e gh fx dj) r hq) fun G' H' C y fv fs e gh fx dj h1 h2 hq => x G' H' ρ C y fv fs e (back e gh fx dj) hq h1 h2⟩
  obtain ⟨v, a, b⟩ := S.val 0 _ hi
  cases b
  exact a
abbrev DSpL := LW → Addr → (D → Prop) → Prop
def TTL (K : PySem.W.Frag) (dsp : DSpL) : (XK → Hp → VK → Prop) → Hp → VK → Prop := fun tl H Q => ∃ T F G lw q, T ≠ [] ∧ Ex G H ∧ Ex F H ∧ DjT T F G H ∧ LamOk K T tl lw G ∧ (∀ f, dsp lw f q) ∧ (∀ G' H' v d, Ex G G' → Ex G' H' → Ex F H' → DjT T F G' H' → Rep K G' v d → q d → Q v H')
def dBodyL (N : Nat) (body : LW → Addr → DS) : DSpL := fun lw f q => body lw f (doV [.val (.ptr f)] (fun d _ => q d) (fun _ _ _ => False)) ([.val (.ptr f)] ++ List.replicate (N - 1) .no)
theorem bodyL {N : List Str} {body : LW → Addr → DS} {f c' : Addr} {q : Str} {H : Hp} {Q : VK} {tl : XK → Hp → VK → Prop} (hN : 1 ≤ N.length) (hc : H c' = some (CodeO c' q)) (hT : TTL K (dBodyL N.length body) tl H Q) {ts : TS}
    (h : ∀ (pa : PaG) (lw : LW), pa.g c' = some (CodeO c' q) → LamOk K pa.T tl lw pa.g → SS K pa (fun cls d _ H => L2.E0 cls d H) ts (body lw f)) : ts { nx := fun _ H' => Q .non H', rt := Q } (L2.start N [.ref f]) H := by
  obtain ⟨T, F, G, lw, qq, hne, eg, ef, dj, lo, hd, k⟩ := hT
  have fc : F c' = none := by
    cases z : F c' with
    | none => rfl
    | some o =>
      have := ef _ _ z
      rw [hc] at this
      cases this
      exact absurd z (dj.nc hne _ _ _)
  have e1 : Ex G (upd G c' (CodeO c' q)) := fun b o z => by
    by_cases hb : b = c'
    · rw [hb] at z ⊢
      have := eg _ _ z
      rw [hc] at this
      rw [upd_same]; exact this
    · rw [upd_ne hb]; exact z
  have e2 : Ex (upd G c' (CodeO c' q)) H := fun b o z => by
    by_cases hb : b = c'
    · rw [hb, upd_same] at z; rw [hb, hc]; exact z
    · rw [upd_ne hb] at z; exact eg _ _ z
  have d1 : DjT T F (upd G c' (CodeO c' q)) H := dj.gadd fc fun p hp z => by
    obtain ⟨ps, h1, _⟩ := dj.tb p hp
    rw [z, hc] at h1
    exact codeO_ne ps (Option.some.inj h1)
  have S0 := sim_start (N := N) (K := K) (vs := [.ref f]) (av := [.val (.ptr f)]) e2 ef d1 (.val (.ptr f) .nil) List.nodup_nil hN
  have S1 : Sim K ⟨paF [V.ref f], upd G c' (CodeO c' q), T⟩ F (upd G c' (CodeO c' q)) (L2.start N [.ref f]) H ([.val (.ptr f)] ++ List.replicate (N.length - 1) .no) := S0.know (Ex.refl _)
  refine h ⟨paF [V.ref f], upd G c' (CodeO c' q), T⟩ lw upd_same (lo.mono e1) F _ _ H _ _ _ S1 (hd f) ⟨fun G' σ' H' ρ' e S' q' => ?_, fun _ _ _ _ _ _ q' => q'.elim, fun _ _ _ _ _ _ q' => q'.elim, fun G' σ' H' ρ' v t e S' r' q' => ?_, fun _ _ _ _ _ _ _ _ _ _ _ q' => q'.elim, fun G' σ' H' ρ' C d vs' fs e S' q' h1 h2 => ?_⟩
  · obtain ⟨os, eo, q'⟩ := q'
    exact k G' H' .non .non (e1.trans e) S'.ex S'.fx S'.dj .non q'
  · cases t with
    | bor i => exact q'.elim
    | val d =>
      obtain ⟨os, eo, q'⟩ := q'
      exact k G' H' v d (e1.trans e) S'.ex S'.fx S'.dj r' q'
  · obtain ⟨os, eo, q'⟩ := q'
    exact q'.elim
/-- x(lambda: e) -/
def dLamC (dsp : DSpL) (dl : DE) : DE := fun ρ q _ => ∀ f, dsp (lwOf dl ρ) f (fun d => q (.val d) ρ)
theorem se_lamC {pa : PaG} {W : WX} {dsp : DSpL} {t : XK → TE} {dl : DE} (hT : pa.T ≠ []) (h : ∀ E : XK, SE K pa (fun cls d _ H => E cls d H) (t E) dl) : SE K pa W (tLamL pa.T (TTL K dsp) t) (dLamC dsp dl) := fun F G σ H ρ Q q er S hd k x => by
  refine ⟨S.dj.tb, fun H1 eT T1 => ?_⟩
  have nG : ∀ b o, G b = some o → ∀ p ∈ pa.T, p.1 ≠ b := fun b o e p hp z => by
    have := (S.dj.ft p hp).2
    rw [z, e] at this; cases this
  have eg : Ex G H1 := fun b o e => eT b o (nG b o e) (S.ex b o e)
  have nF : ∀ b o, calF F H σ ρ [] b = some o → ∀ p ∈ pa.T, p.1 ≠ b := fun b o e p hp z => by
    have := ((calF_dj S []).ft p hp).1
    rw [z, e] at this; cases this
  have ef : Ex (calF F H σ ρ []) H1 := fun b o e => eT b o (nF b o e) (calF_ex S [] b o e)
  refine ⟨pa.T, calF F H σ ρ [], G, lwOf dl ρ, (fun d => q (.val d) ρ), hT, eg, ef, (calF_dj S []).at_ T1, lamOk_of S h, hd, fun G' H' v d e gh fx dj r hq => ?_⟩
  have S' := S.behind (is := []) (os := []) e gh fx dj .nil
  exact k G' H' v (.val d) ρ e S' r hq
end
end DL
set_option autoImplicit false
set_option Elab.async false
set_option linter.all false
set_option maxRecDepth 100000
set_option maxHeartbeats 1000000
/-! DG2: the law's call and its end, for a law that is only called where no repr is under way -/
namespace DL
open PySem L2 Evl PySem.Spec PyProof.Rows
section
variable {P : Program} {w : World} {K : PySem.W.Frag} {mg mb : Str → Option Value} {s : Shared} {H : Hp}
theorem hid_ns (own : ∀ b, H b ≠ none → ∃ o its n, s.heap.get? b = some o ∧ o.data = .seq its n) {b : Addr} {m : Str → Option Value} (h : s.heap.Ns b m) : (hidT s.heap H).Ns b m := by
  obtain ⟨o, es, ep, e, d, r⟩ := h
  have n : H b = none := Classical.byContradiction fun z => by
    obtain ⟨o', its, n, e', d'⟩ := own b z
    rw [e] at e'; cases e'
    rw [d] at d'; cases d'
  exact ⟨o, es, ep, hidT_get e n, d, r⟩
theorem env_hid (KX : K.In s.heap) (g : s.heap.Ns mainGlobals mg) (b : s.heap.Ns builtinsNs mb) (bb : ∀ x : Str, x ≠ "__name__" → mb x = bootBuiltins x) (lim : s.heap.NoLimit) (gens : s.gens = #[])
    (own : ∀ b, H b ≠ none → ∃ o its n, s.heap.get? b = some o ∧ o.data = .seq its n) (free : ∀ b, H b ≠ none → K.lookup b = none) (hok : HOk P w H s.heap) :
    K.In (hidT s.heap H) ∧ (hidT s.heap H).Ns mainGlobals mg ∧ Env0 P w K mg (hidT s.heap H) callerA [] s H := by
  have k1 : K.In (hidT s.heap H) := fun a o e => hidT_get (KX a o e) (Classical.byContradiction fun z => by have := free a z; rw [e] at this; cases this)
  have g1 := hid_ns own g
  obtain ⟨mc, c1, c2⟩ := lim
  have M : Mod K mg (hidT s.heap H) := ⟨k1, g1, ⟨mb, hid_ns own b, bb⟩, mc, hid_ns own c1, c2⟩
  refine ⟨k1, g1, { frames := rfl, mod := M, bs := fun a o e => of_hidT e, bsz := Nat.le_of_eq (hidT_size _ _), funs := trivial, frf := ?_, hok := hok, bare := .of_eq gens }⟩
  intro a ha
  cases ha
end
section
variable {P : Program} {w : World} {K : PySem.W.Frag} {mg mb : Str → Option Value} {k : Nat} {fa a : Addr} {fd : FuncData} {x : Str} {sp : Sp} {s : Shared} {vs : List Value} {ns : List Int}
theorem lawG (KX : K.In s.heap) (g : s.heap.Ns mainGlobals mg) (b : s.heap.Ns builtinsNs mb) (bb : ∀ x : Str, x ≠ "__name__" → mb x = bootBuiltins x) (lim : s.heap.NoLimit) (gens : s.gens = #[])
    (ha : s.heap.get? a = some { cls := .type "list", data := .seq vs.toArray }) (hi : IntsAre vs ns) (hl : ns.length ≤ sizeLine) (hr : Room k callerA)
    (F : ∀ base : Heap, K.In base → base.Ns mainGlobals mg → FnG P w K mg base CX0 k fa fd [x] sp) (hbind : ∀ (s : Shared) (u : Value), BindsTo s fd ⟨[u], []⟩ [(x, u)])
    (hsp : ∀ H : Hp, Only H → SqL K H a (ns.map V.int) → sp [.ref a] H (fun v _ => v = .bl true) fun _ _ _ => False) :
    codeAny (model P w) callerA (.call (.ref fa) ⟨[.ref a], []⟩) (fun r s' => r = .ok (.ret (.bool true)) ∧ OldK s.heap s'.heap ∧ s'.os = s.os ∧ AllBare s'.gens) s := by
  have V1 := vals_ints hi
  let ob : Obj := { cls := .type "list", data := .seq vs.toArray }
  -- with any abstract heap that tracks the script at most
  have go : ∀ H : Hp, (∀ c u, H c = some u → c = a ∧ K.lookup a = none ∧ u = .frz ob (.lst (ns.map V.int))) → SqL K H a (ns.map V.int) → HOk P w H s.heap →
      codeAny (model P w) callerA (.call (.ref fa) ⟨[.ref a], []⟩) (fun r s' => r = .ok (.ret (.bool true)) ∧ OldK s.heap s'.heap ∧ s'.os = s.os ∧ AllBare s'.gens) s := by
    intro H only hS hok
    have some' : ∀ c, H c ≠ none → ∃ u, H c = some u := fun c z => Option.ne_none_iff_exists'.mp z
    have hO : Only H := fun c => by
      cases q : H c with
      | none => exact .inl rfl
      | some u => exact .inr ⟨_, _, by rw [(only c u q).2.2]⟩
    obtain ⟨k1, g1, e0⟩ := env_hid (P := P) (w := w) KX g b bb lim gens (fun c z => by obtain ⟨u, q⟩ := some' c z; rw [(only c u q).1]; exact ⟨_, _, _, ha, rfl⟩) (fun c z => by obtain ⟨u, q⟩ := some' c z; obtain ⟨h1, h2, _⟩ := only c u q; rw [h1]; exact h2) hok
    have run := (F _ k1 g1).run callerA rfl [] s H ⟨[.ref a], []⟩ [.ref a] [.ref a] _ _ hr e0 (hbind s (.ref a)) (.cons rfl .nil) (hsp H hO hS)
    refine codeAny_mono run fun r s' h => ?_
    match r, h with
    | .ok (.ret u), ⟨v, H', os, bare, un, hok', rv, q⟩ =>
      have q : v = .bl true := q
      subst q
      obtain rfl : u = Value.bool true := rv
      refine ⟨rfl, OldK.of_keep fun c o e => ?_, os, bare⟩
      cases q : H c with
      | none => exact un.keep c o e q (fun z => by cases z) (fun z => by cases z)
      | some u =>
        obtain ⟨h1, h2, rfl⟩ := only c u q
        subst h1
        have e2 := (hok' c _ (un.frzs c _ _ q)).1
        have e1 := (hok c _ q).1
        rw [e] at e1; cases e1
        exact e2
  cases hk : K.lookup a with
  | some o =>
    have e := KX a o hk
    rw [ha] at e
    cases e
    exact go (fun _ => none) (fun _ _ z => by cases z) (.inr ⟨_, vs.toArray, _, hk, rfl, rfl, rfl, by rw [List.size_toArray, hi.length]; exact hl, by simpa using V1⟩) fun _ _ z => by cases z
  | none =>
    refine go (fun c => if c = a then some (.frz ob (.lst (ns.map V.int))) else none) (fun c u z => ?_) (.inl (.inr ⟨ob, if_pos rfl⟩)) fun c u z => ?_
    · by_cases hc : c = a
      · exact ⟨hc, hk, by have z : (if c = a then some (HO.frz ob (.lst (ns.map V.int))) else none) = some u := z; rw [if_pos hc] at z; cases z; rfl⟩
      · have z : (if c = a then some (HO.frz ob (.lst (ns.map V.int))) else none) = some u := z; rw [if_neg hc] at z; cases z
    · have z : (if c = a then some (HO.frz ob (.lst (ns.map V.int))) else none) = some u := z
      by_cases hc : c = a
      · rw [if_pos hc] at z; cases z
        subst hc
        exact ⟨ha, by rw [List.length_map]; exact hl, vs, _, V1, ha⟩
      · rw [if_neg hc] at z; cases z
end
theorem walk_ofG {l : PySem.W.OpenLaw} {n k : Nat} {q : Program} {loose : List Str} {XP : (Str → Option Value) → Heap → Prop} {YP : World → Heap → Prop} {d : DefRec} {CX : CXT} {x : Str}
    (hn : l.most = some n) (hn2 : n ≤ sizeLine) (hdf : d.params.defaults = []) (hr : Room k callerA)
    (F : ∀ (w : World) (mg : Str → Option Value) (fa : Addr) (h : Heap), YP w h → h.Ns mainGlobals mg → mg d.name = some (.ref fa) →
      ∃ (K : PySem.W.Frag) (fd : FuncData) (sp : Sp), K.In h ∧ (∀ (s : Shared) (u : Value), BindsTo s fd ⟨[u], []⟩ [(x, u)]) ∧
        (∀ (H : Hp) (a : Addr) (ns : List Int), ns.length ≤ n → Only H → SqL K H a (ns.map V.int) → sp [.ref a] H (fun v _ => v = .bl true) fun _ _ _ => False) ∧
        ∀ base : Heap, K.In base → base.Ns mainGlobals mg → FnG l.prog w K mg base CX0 k fa fd [x] sp)
    (_ : ∀ (H : Hp) (s : Shared) (e : Value) (s' : Shared), CX [] H s (fun _ _ _ => False) e s' → False) :
    PySem.W.WalkO q loose XP YP l.row.toRowW d [] (fun f vs => PySem.call f vs) := by
  refine Att.attach_call hn hdf fun w s₀ s₁ mg mb fa o pm cd doc a vs ns G Y ho hd hcd hmg hobj hints hlen hg => ?_
  obtain ⟨K, fd, sp, KX, hb, hsp, hF⟩ := F w mg fa _ Y G.T.g hmg
  exact lawG KX G.T.g G.T.b G.T.builtins G.T.nolimit hg hobj hints (Nat.le_trans hlen hn2) hr hF hb fun H hO hS => hsp H a ns hlen hO hS
end DL
set_option autoImplicit false
set_option Elab.async false
set_option linter.all false
set_option maxRecDepth 100000
set_option maxHeartbeats 1000000
/-! DLA4: a def that makes lambdas; the law's call, its tables of code objects new -/
namespace DL
open PySem L2 Evl PySem.Spec PyProof.Rows LamX
/-- a def that hands over plain data, the tables named -/
def SpVT (K : PySem.W.Frag) (T : List (Addr × Str)) (n : Nat) (dsp : DSp) : Sp := fun vs H Q E => ∃ F G av, vs.length = n ∧ Ex G H ∧ Ex F H ∧ DjT T F G H ∧ ArgsR K F G H vs av ∧ (parsOf vs av).Nodup ∧ ∃ q er, dsp av q er ∧
  (∀ G' H' v d os, Ex G G' → Ex G' H' → Ex F H' → DjT T F G' H' → Outs K G' H' vs av os → Rep K G' v d → q d os → Q v H') ∧
  (∀ G' H' C y fv fs os, Ex G G' → Ex G' H' → Ex F H' → DjT T F G' H' → Outs K G' H' vs av os → G' y = some (.xd fv) → RepF K G' fv fs → er C fs os → E (.ref C) (some y) H')
theorem SpVT.len {K : PySem.W.Frag} {T : List (Addr × Str)} {n : Nat} {dsp : DSp} {vs : List V} {H : Hp} {Q : VK} {E : XK} (h : SpVT K T n dsp vs H Q E) : vs.length = n := by
  obtain ⟨_, _, _, h, _⟩ := h
  exact h
theorem bodyVT {K : PySem.W.Frag} {T : List (Addr × Str)} {N : List Str} {n : Nat} {ts : TS} {ds : DS} {vs : List V} {H : Hp} {Q : VK} {E : XK} (h : ∀ f g, SS K ⟨f, g, T⟩ (fun cls d _ H => E cls d H) ts ds) (hn : n ≤ N.length) (hs : SpVT K T n (dBody N.length ds) vs H Q E) :
    ts { nx := fun _ H' => Q .non H', rt := Q } (L2.start N vs) H := by
  obtain ⟨F, G, av, hl, eg, ef, dj, r, nd, q, er, hd, kq, ke⟩ := hs
  have S := sim_start (N := N) eg ef dj r nd (by omega)
  have fin : ∀ {G' H' : Hp} {σ' : RSt} {ρ' : Ro} {os : List D}, Sim K (paOf vs T) F G' σ' H' ρ' → outs ρ' (parIx av 0) = some os → Outs K G' H' vs av os := fun {G' H' σ' ρ' os} S' e => outs_end S' r (fun i v h => h) e
  refine h (paF vs) (fun _ => none) F G _ H _ _ _ S hd ⟨fun G' σ' H' ρ' e S' q' => ?_, fun _ _ _ _ _ _ q' => q'.elim, fun _ _ _ _ _ _ q' => q'.elim, fun G' σ' H' ρ' v t e S' r' q' => ?_, fun _ _ _ _ _ _ _ _ _ _ _ q' => q'.elim, fun G' σ' H' ρ' C d vs' fs e S' q' h1 h2 => ?_⟩
  · obtain ⟨os, eo, q'⟩ := q'
    exact kq G' H' .non .non os e S'.ex S'.fx S'.dj (fin S' eo) .non q'
  · cases t with
    | bor i => exact q'.elim
    | val d =>
      obtain ⟨os, eo, q'⟩ := q'
      exact kq G' H' v d os e S'.ex S'.fx S'.dj (fin S' eo) r' q'
  · obtain ⟨os, eo, q'⟩ := q'
    exact ke G' H' C d vs' fs os e S'.ex S'.fx S'.dj (fin S' eo) h1 h2 q'
/-- a law's promise: True at every script, from empty tables on -/
def spTrueT (K : PySem.W.Frag) (T : List (Addr × Str)) : Sp := fun vs H Q _ => ∃ (a : Addr) (ns : List Int), vs = [.ref a] ∧ SqL K H a (ns.map V.int) ∧ ns.length ≤ 63 ∧ (∀ p ∈ T, H p.1 = some (.tbl #[])) ∧ ∀ H', Q (.bl true) H'
open Classical in
noncomputable def offT (T : List (Addr × Str)) (H : Hp) : Hp := fun b => if ∃ p ∈ T, p.1 = b then none else H b
theorem offT_ex {T : List (Addr × Str)} {H : Hp} : Ex (offT T H) H := fun b o e => by
  unfold offT at e
  by_cases c : ∃ p ∈ T, p.1 = b
  · rw [if_pos c] at e; cases e
  · rw [if_neg c] at e; exact e
theorem spTrueT_of {K : PySem.W.Frag} {T : List (Addr × Str)} {dsp : DSp} (h : ∀ ns : List Int, ns.length ≤ 63 → dsp [.val (.lst (ns.map D.int))] (fun d _ => d = .bl true) (fun _ _ _ => False)) : ∀ (vs : List V) (H : Hp) (Q : VK) (E : XK), spTrueT K T vs H Q E → SpVT K T 1 dsp vs H Q E := by
  rintro vs H Q E ⟨a, ns, rfl, hs, hl, ht, k⟩
  have nt : ∀ {o : HO}, H a = some o → (∀ ps, o ≠ .tbl ps) → offT T H a = some o := fun {o} e n => by
    unfold offT
    rw [if_neg]
    · exact e
    · rintro ⟨p, hp, z⟩
      have := ht p hp
      rw [z, e] at this
      cases this
      exact n _ rfl
  have hs' : SqL K (offT T H) a (ns.map V.int) := by
    rcases hs with (e | ⟨o, e⟩) | w
    · exact .inl (.inl (nt e (fun _ z => by cases z)))
    · exact .inl (.inr ⟨o, nt e (fun _ z => by cases z)⟩)
    · exact .inr w
  refine ⟨fun _ => none, offT T H, [.val (.lst (ns.map D.int))], rfl, offT_ex, (fun b o q => by cases q), ⟨fun b o q => (by cases q), fun p hp => ⟨rfl, if_pos ⟨p, hp, rfl⟩⟩, fun p hp => TabS.nil (ht p hp), fun _ b c q z => (by cases z)⟩, .val (.lst hs' (Reps.ints ns)) .nil, List.nodup_nil, _, _, h ns hl, fun G' H' v d os _ _ _ _ _ r e => ?_, fun _ _ _ _ _ _ _ _ _ _ _ _ _ _ q => q.elim⟩
  subst e
  cases r
  exact k H'
section
variable {P : Program} {w : World} {K : PySem.W.Frag} {mg : Str → Option Value} {base : Heap}
/-- okG, the code object told -/
theorem okGc {x qual : Str} {st : Stmt} {f : Addr} {fd : FuncData} {N ps : List Str} {k : Nat} {sp : Sp} (F : Fun K x qual st f fd) (S : FnScope N ps (defScope st)) (len : ∀ vs H Q E, sp vs H Q E → vs.length = ps.length)
    (hbody : ∀ (cdv : Value), fd.code = cdv → ∀ (A : Around), A.guards = some [] → ∀ (outer : List Env) (s : Shared) (H : Hp) (vs : List V) (Q : VK) (E : XK), Room k (A.deeper (envOfC qual (defScope st) s.heap.objs.size f cdv)) → sp vs H Q E →
      ∃ t, PSs (cxOf CX0 P w K mg base N qual (defScope st) f cdv A outer s H E).nox (defBody st) t ∧ t { nx := fun _ H' => Q .non H', rt := Q } (start N vs) H) : FnG P w K mg base CX0 (k + 1) f fd ps sp := by
  obtain ⟨oc, od, kV, doc, pm, an, cdv, ct, osl, rfl, lk, hcd⟩ := F.ex
  refine fnG_of lk hcd S len fun A hg outer s H vs Q E hr hsp => ?_
  obtain ⟨t, h, q⟩ := hbody cdv rfl A hg outer s H vs Q E hr hsp
  exact ⟨t, h.nox, q⟩
end
section
variable {P : Program} {w : World} {K : PySem.W.Frag} {mg mb : Str → Option Value} {k : Nat} {fa a : Addr} {fd : FuncData} {x : Str} {sp : Sp} {s : Shared} {vs : List Value} {ns : List Int} {cs : List (Addr × Addr)} {H : Hp}
/-- what the law's heap tracks at most: the script, the tables -/
structure OnlyT (K : PySem.W.Frag) (cs : List (Addr × Addr)) (a : Addr) (ob : Obj) (ns : List Int) (H : Hp) : Prop where
  at_ : ∀ c u, H c = some u → (c = a ∧ K.lookup a = none ∧ u = .frz ob (.lst (ns.map V.int))) ∨ ((∃ p ∈ cs, p.2 = c) ∧ u = .tbl #[])
  tb : ∀ p ∈ cs, H p.2 = some (.tbl #[])
theorem lawGT (KX : K.In s.heap) (g : s.heap.Ns mainGlobals mg) (b : s.heap.Ns builtinsNs mb) (bb : ∀ x : Str, x ≠ "__name__" → mb x = bootBuiltins x) (lim : s.heap.NoLimit) (gens : s.gens = #[])
    (hT : ∀ p ∈ cs, s.heap.get? p.2 = some { cls := .none, data := .fields #[] }) (nT : ∀ p ∈ cs, K.lookup p.2 = none) (C : ∀ p ∈ cs, PySem.W.CodeHd s.heap p.1 p.2)
    (hbm : ∃ (bm : Addr) (ob : Obj), mg "__builtins__" = some (.ref bm) ∧ bm ≠ builtinsNs ∧ s.heap.get? bm = some ob ∧ ob.cls = .type "module" ∧ ob.dict = some builtinsNs ∧ ob.data = .plain)
    (ha : s.heap.get? a = some { cls := .type "list", data := .seq vs.toArray }) (hi : IntsAre vs ns) (hl : ns.length ≤ sizeLine) (hr : Room k callerA)
    (F : ∀ base : Heap, K.In base → base.Ns mainGlobals mg → (∀ p ∈ cs, TabB base mg p.1 p.2) → FnG P w K mg base CX0 k fa fd [x] sp) (hbind : ∀ (s : Shared) (u : Value), BindsTo s fd ⟨[u], []⟩ [(x, u)])
    (hsp : ∀ H : Hp, (∀ p ∈ cs, H p.2 = some (.tbl #[])) → SqL K H a (ns.map V.int) → sp [.ref a] H (fun v _ => v = .bl true) fun _ _ _ => False) :
    codeAny (model P w) callerA (.call (.ref fa) ⟨[.ref a], []⟩) (fun r s' => r = .ok (.ret (.bool true)) ∧ OldK s.heap s'.heap ∧ s'.os = s.os ∧ AllBare s'.gens) s := by
  have V1 := vals_ints hi
  let ob : Obj := { cls := .type "list", data := .seq vs.toArray }
  let tb : Obj := { cls := .none, data := .fields #[] }
  have aT : ∀ p ∈ cs, p.2 ≠ a := fun p hp z => by
    have := hT p hp
    rw [z, ha] at this
    have z' : Data.seq vs.toArray _ = Data.fields #[] := congrArg Obj.data (Option.some.inj this)
    cases z'
  have go : ∀ H : Hp, OnlyT K cs a ob ns H → SqL K H a (ns.map V.int) → HOk P w H s.heap →
      codeAny (model P w) callerA (.call (.ref fa) ⟨[.ref a], []⟩) (fun r s' => r = .ok (.ret (.bool true)) ∧ OldK s.heap s'.heap ∧ s'.os = s.os ∧ AllBare s'.gens) s := by
    intro H O hS hok
    have free : ∀ {c : Addr} {o : Obj}, s.heap.get? c = some o → (∀ its n, o.data ≠ .seq its n) → o.data ≠ .fields #[] → H c = none := fun {c o} e n1 n2 => by
      cases q : H c with
      | none => rfl
      | some u =>
        rcases O.at_ c u q with ⟨z, _⟩ | ⟨⟨p, hp, z⟩, _⟩
        · rw [z, ha] at e; cases e; exact absurd rfl (n1 _ _)
        · rw [← z, hT p hp] at e; cases e; exact absurd rfl n2
    have keepNs : ∀ {c : Addr} {m : Str → Option Value}, s.heap.Ns c m → (hidT s.heap H).Ns c m := fun {c m} ⟨o, es, ep, e, d, r⟩ => ⟨o, es, ep, hidT_get e (free e (fun _ _ z => by rw [d] at z; cases z) (fun z => by rw [d] at z; cases z)), d, r⟩
    have k1 : K.In (hidT s.heap H) := fun c o e => hidT_get (KX c o e) (by
      cases q : H c with
      | none => rfl
      | some u =>
        rcases O.at_ c u q with ⟨z, h, _⟩ | ⟨⟨p, hp, z⟩, _⟩
        · rw [z, h] at e; cases e
        · rw [← z, nT p hp] at e; cases e)
    obtain ⟨mc, c1, c2⟩ := lim
    have g1 := keepNs g
    have M : Mod K mg (hidT s.heap H) := ⟨k1, g1, ⟨mb, keepNs b, bb⟩, mc, keepNs c1, c2⟩
    have TB : ∀ p ∈ cs, TabB (hidT s.heap H) mg p.1 p.2 := fun p hp => by
      have tp := hT p hp
      refine ⟨?_, ?_, fun z => ?_⟩
      · obtain ⟨o, us, file, tf, flags, tg, inF, text, tt, e1, r1, r2, r3, r⟩ := C p hp
        exact ⟨o, us, file, tf, flags, tg, inF, text, tt, hidT_get e1 (free e1 (fun _ _ z => by rw [r2] at z; cases z) (fun z => by rw [r2] at z; cases z; simp at r3)), r1, r2, r3, r⟩
      · obtain ⟨bm, om, b1, b2, b3, b4, b5, b6⟩ := hbm
        refine ⟨bm, om, b1, b2, fun z => ?_, fun z => ?_, hidT_get b3 (free b3 (fun _ _ z => by rw [b6] at z; cases z) (fun z => by rw [b6] at z; cases z)), b4, b5, b6⟩
        · obtain ⟨o, es, ep, e, hd, _⟩ := g
          rw [z, e] at b3; cases b3; rw [hd] at b6; cases b6
        · rw [z, tp] at b3; cases b3; cases b6
      · obtain ⟨o, es, ep, e, hd, _⟩ := g
        rw [z, tp] at e; cases e; cases hd
    have e0 : Env0 P w K mg (hidT s.heap H) callerA [] s H := { frames := rfl, mod := M, bs := fun a o e => of_hidT e, bsz := Nat.le_of_eq (hidT_size _ _), funs := trivial, frf := fun b z => (by cases z), hok := hok, bare := .of_eq gens }
    have run := (F _ k1 g1 TB).run callerA rfl [] s H ⟨[.ref a], []⟩ [.ref a] [.ref a] _ _ hr e0 (hbind s (.ref a)) (.cons rfl .nil) (hsp H O.tb hS)
    refine codeAny_mono run fun r s' h => ?_
    match r, h with
    | .ok (.ret u), ⟨v, H', os, bare, un, hok', rv, q⟩ =>
      have q : v = .bl true := q
      subst q
      obtain rfl : u = Value.bool true := rv
      have same : ∀ c o, (∀ p ∈ cs, p.2 ≠ c) → s.heap.get? c = some o → s'.heap.get? c = some o := fun c o nc e => by
        cases q : H c with
        | none => exact un.keep c o e q (fun z => by cases z) (fun z => by cases z)
        | some u =>
          rcases O.at_ c u q with ⟨z, _, z2⟩ | ⟨⟨p, hp, z⟩, _⟩
          · subst z2
            have e2 := (hok' c _ (un.frzs c _ _ q)).1
            have e1 := (hok c _ q).1
            rw [e] at e1; cases e1
            exact e2
          · exact absurd z (nc p hp)
      have more : ∀ p ∈ cs, ∃ m : Array Value, s'.heap.get? p.2 = some { cls := .none, data := .fields m } := fun p hp => by
        obtain ⟨m, z⟩ := un.tbls p.2 #[] (O.tb p hp)
        exact ⟨_, hok' p.2 _ z⟩
      refine ⟨rfl, ⟨fun c o e => ?_, fun c o e => ?_⟩, os, bare⟩
      · by_cases hc : ∃ p ∈ cs, p.2 = c
        · obtain ⟨p, hp, z⟩ := hc
          obtain ⟨m, hm⟩ := more p hp
          rw [← z] at e ⊢
          rw [hT p hp] at e
          cases e
          exact .inr (.inl ⟨((C p hp).tab (hT p hp)).isCodeTable, rfl, #[], m, rfl, by rw [Array.empty_append]; exact hm⟩)
        · exact .inl (same c o (fun p hp z => hc ⟨p, hp, z⟩) e)
      · by_cases hc : ∃ p ∈ cs, p.2 = c
        · obtain ⟨p, hp, z⟩ := hc
          obtain ⟨m, hm⟩ := more p hp
          rw [← z]
          exact ⟨_, hm⟩
        · exact ⟨o, same c o (fun p hp z => hc ⟨p, hp, z⟩) e⟩
  have isT : ∀ c, (∃ p ∈ cs, p.2 = c) → s.heap.get? c = some tb := fun c ⟨p, hp, z⟩ => by rw [← z]; exact hT p hp
  classical
  cases hk : K.lookup a with
  | some o =>
    have e := KX a o hk
    rw [ha] at e
    cases e
    refine go (fun c => if ∃ p ∈ cs, p.2 = c then some (.tbl #[]) else none) ⟨fun c u z => ?_, fun p hp => if_pos ⟨p, hp, rfl⟩⟩ (.inr ⟨_, vs.toArray, _, hk, rfl, rfl, rfl, by rw [List.size_toArray, hi.length]; exact hl, by simpa using V1⟩) fun c u z => ?_
    · have z : (if ∃ p ∈ cs, p.2 = c then some (HO.tbl #[]) else none) = some u := z
      by_cases hc : ∃ p ∈ cs, p.2 = c
      · rw [if_pos hc] at z; cases z; exact .inr ⟨hc, rfl⟩
      · rw [if_neg hc] at z; cases z
    · have z : (if ∃ p ∈ cs, p.2 = c then some (HO.tbl #[]) else none) = some u := z
      by_cases hc : ∃ p ∈ cs, p.2 = c
      · rw [if_pos hc] at z; cases z; exact isT c hc
      · rw [if_neg hc] at z; cases z
  | none =>
    refine go (fun c => if c = a then some (.frz ob (.lst (ns.map V.int))) else if ∃ p ∈ cs, p.2 = c then some (.tbl #[]) else none) ⟨fun c u z => ?_, fun p hp => ?_⟩ (.inl (.inr ⟨ob, if_pos rfl⟩)) fun c u z => ?_
    · have z : (if c = a then some (HO.frz ob (.lst (ns.map V.int))) else if ∃ p ∈ cs, p.2 = c then some (HO.tbl #[]) else none) = some u := z
      by_cases h1 : c = a
      · rw [if_pos h1] at z; cases z; exact .inl ⟨h1, hk, rfl⟩
      · rw [if_neg h1] at z
        by_cases hc : ∃ p ∈ cs, p.2 = c
        · rw [if_pos hc] at z; cases z; exact .inr ⟨hc, rfl⟩
        · rw [if_neg hc] at z; cases z
    · show (if p.2 = a then some (HO.frz ob (.lst (ns.map V.int))) else if ∃ p' ∈ cs, p'.2 = p.2 then some (HO.tbl #[]) else none) = _
      rw [if_neg (aT p hp), if_pos ⟨p, hp, rfl⟩]
    · have z : (if c = a then some (HO.frz ob (.lst (ns.map V.int))) else if ∃ p ∈ cs, p.2 = c then some (HO.tbl #[]) else none) = some u := z
      by_cases h1 : c = a
      · rw [if_pos h1] at z; cases z
        subst h1
        exact ⟨ha, by rw [List.length_map]; exact hl, vs, _, V1, ha⟩
      · rw [if_neg h1] at z
        by_cases hc : ∃ p ∈ cs, p.2 = c
        · rw [if_pos hc] at z; cases z; exact isT c hc
        · rw [if_neg hc] at z; cases z
end
theorem walk_ofGT {l : PySem.W.OpenLaw} {n k : Nat} {q : Program} {loose : List Str} {XP : (Str → Option Value) → Heap → Prop} {YP : World → Heap → Prop} {d : DefRec} {CX : CXT} {x : Str}
    (hn : l.most = some n) (hn2 : n ≤ sizeLine) (hdf : d.params.defaults = []) (hr : Room k callerA)
    (F : ∀ (w : World) (mg : Str → Option Value) (fa : Addr) (h : Heap), YP w h → h.Ns mainGlobals mg → mg d.name = some (.ref fa) →
      ∃ (K : PySem.W.Frag) (fd : FuncData) (sp : Sp) (cs : List (Addr × Addr)), K.In h ∧ (∀ p ∈ cs, h.get? p.2 = some { cls := .none, data := .fields #[] }) ∧ (∀ p ∈ cs, K.lookup p.2 = none) ∧ (∀ p ∈ cs, PySem.W.CodeHd h p.1 p.2) ∧ (∀ (s : Shared) (u : Value), BindsTo s fd ⟨[u], []⟩ [(x, u)]) ∧
        (∀ (H : Hp) (a : Addr) (ns : List Int), ns.length ≤ n → (∀ p ∈ cs, H p.2 = some (.tbl #[])) → SqL K H a (ns.map V.int) → sp [.ref a] H (fun v _ => v = .bl true) fun _ _ _ => False) ∧
        ∀ base : Heap, K.In base → base.Ns mainGlobals mg → (∀ p ∈ cs, TabB base mg p.1 p.2) → FnG l.prog w K mg base CX0 k fa fd [x] sp)
    (_ : ∀ (H : Hp) (s : Shared) (e : Value) (s' : Shared), CX [] H s (fun _ _ _ => False) e s' → False) :
    PySem.W.WalkO q loose XP YP l.row.toRowW d [] (fun f vs => PySem.call f vs) := by
  refine Att.attach_call hn hdf fun w s₀ s₁ mg mb fa o pm cd doc a vs ns G Y ho hd hcd hmg hobj hints hlen hg => ?_
  obtain ⟨K, fd, sp, cs, KX, hT, nT, C, hb, hsp, hF⟩ := F w mg fa _ Y G.T.g hmg
  exact lawGT KX G.T.g G.T.b G.T.builtins G.T.nolimit hg hT nT C G.T.bmain hobj hints (Nat.le_trans hlen hn2) hr hF hb fun H h1 h2 => hsp H a ns hlen h1 h2
end DL
set_option autoImplicit false
set_option Elab.async false
set_option linter.all false
set_option maxRecDepth 100000
set_option maxHeartbeats 1000000
/-! DLA5: repr of anything plain -/
namespace DL
open PySem L2 Evl PySem.Spec PyProof.Rows
def rReprA (K : PySem.W.Frag) : List V → Hp → VK → Prop := fun xs H Q =>
  (∃ i, xs = [.int i] ∧ i.natAbs.log2 < 1920 ∧ Q (.str (toString i)) H) ∨ (∃ b, xs = [.bl b] ∧ Q (.str (if b then "True" else "False")) H) ∨ (xs = [.non] ∧ Q (.str "None") H) ∨
  (∃ x, xs = [.str x] ∧ (reprText x).length ≤ sizeLine ∧ Q (.str (reprText x)) H) ∨ (∃ a, xs = [.ref a] ∧ H a = some (.dK []) ∧ Q (.str "{}") H) ∨ rReprD K xs H Q
theorem call_reprA {X : Cx} (hg : X.A.guards = some []) (hu : X.A.units + 65 < cLine) : CallR X (.builtin "repr") (rReprA X.K) := by
  intro pins s σ H vs us Q I r h
  rcases h with ⟨i, rfl, hi, q⟩ | ⟨b, rfl, q⟩ | ⟨rfl, q⟩ | ⟨x, rfl, hx, q⟩ | ⟨a, rfl, ha, q⟩ | h
  · cases r with
    | cons r1 rr => cases rr; obtain ⟨t, rfl⟩ := r1; exact P.repr_of_int hi ⟨.str _, H, I.tok _, ⟨_, rfl⟩, q⟩
  · cases r with
    | cons r1 rr => cases rr; obtain rfl := r1; exact P.repr_of_bool ⟨.str _, H, I.tok _, ⟨_, rfl⟩, q⟩
  · cases r with
    | cons r1 rr => cases rr; obtain rfl := r1; exact P.repr_of_none ⟨.str _, H, I.tok _, ⟨_, rfl⟩, q⟩
  · cases r with
    | cons r1 rr => cases rr; obtain ⟨t, rfl⟩ := r1; exact P.repr_of_str ⟨.str _, H, I.tok _, ⟨_, rfl⟩, q⟩ hx
  · rw [Vals.ref1 r]
    obtain ⟨_, hs, vs, kv, o, es, ep, ho, hx, hd, rr⟩ := I.hok a _ ha
    have hv : vs = [] := by cases kv; rfl
    subst hv
    have he : es = #[] := by
      have := rr.2.1.length
      rw [Array.length_toList] at this
      exact Array.size_eq_zero_iff.mp this
    subst he
    have rd : Reads s.heap (.ref a) (.dict []) (a :: [] ++ []) := .dict ho hx.1 hd .nil .nil
    refine PySem.repr_of_reads' rd rfl (fun _ z => ?_) hg (by show _ + (PyData.depth (.dict []) + 1) < _; have : PyData.depth (.dict []) ≤ 2 := by decide
                                                              omega) (fun _ _ e => e) (fun h' u tk hk => ⟨.str _, H, I.kept hk, ⟨_, rfl⟩, q⟩)
    have z : a = sysModules := (List.mem_singleton.mp (show sysModules ∈ [a] from z)).symm
    rw [z] at hs
    simp at hs
  · exact call_reprD hg hu pins s σ H vs us Q I r h
def D.reprA : List D → Option D
  | [.int i] => if i.natAbs.log2 < 1920 then some (.str (toString i : String)) else none
  | [.bl b] => some (.str (if b then "True" else "False"))
  | [.non] => some (.str "None")
  | [.str x] => if (reprText x).length ≤ sizeLine then some (.str (reprText x)) else none
  | [.dct []] => some (.str "{}")
  | [d] => D.reprD [d]
  | _ => none
section
variable {K : PySem.W.Frag}
theorem sc_reprA : SC K (rReprA K) D.reprA := fun G H xs ds z Q e rx q k => by
  match ds, q, rx with
  | [.int i], q, rx =>
    obtain ⟨x, rfl, r⟩ := rx.one
    have q : (if i.natAbs.log2 < 1920 then some (D.str (toString i : String)) else none) = some z := q
    by_cases h : i.natAbs.log2 < 1920
    · rw [if_pos h] at q; cases q
      rw [r.int]
      exact .inl ⟨i, rfl, h, k G H _ (Al.refl e) (.str _)⟩
    · rw [if_neg h] at q; cases q
  | [.bl b], q, rx =>
    obtain ⟨x, rfl, r⟩ := rx.one
    cases q
    rw [r.bl]
    exact .inr (.inl ⟨b, rfl, k G H _ (Al.refl e) (.str _)⟩)
  | [.non], q, rx =>
    obtain ⟨x, rfl, r⟩ := rx.one
    cases q
    rw [r.non]
    exact .inr (.inr (.inl ⟨rfl, k G H _ (Al.refl e) (.str _)⟩))
  | [.str y], q, rx =>
    obtain ⟨x, rfl, r⟩ := rx.one
    have q : (if (reprText y).length ≤ sizeLine then some (D.str (reprText y)) else none) = some z := q
    by_cases h : (reprText y).length ≤ sizeLine
    · rw [if_pos h] at q; cases q
      rw [r.str]
      exact .inr (.inr (.inr (.inl ⟨y, rfl, h, k G H _ (Al.refl e) (.str _)⟩)))
    · rw [if_neg h] at q; cases q
  | [.dct []], q, rx =>
    obtain ⟨x, rfl, r⟩ := rx.one
    cases q
    obtain ⟨p, vs, rfl, hp, rr⟩ := r.dct e
    cases rr
    exact .inr (.inr (.inr (.inr (.inl ⟨p, rfl, hp, k G H _ (Al.refl e) (.str _)⟩))))
  | [.lst xs], q, rx => exact .inr (.inr (.inr (.inr (.inr (sc_reprD G H _ [.lst xs] z Q e rx q k)))))
  | [.dct (_ :: _)], q, rx => cases q
  | [.byt _], q, rx => cases q
  | [.ins _ _], q, rx => cases q
  | [.ptr _], q, rx => cases q
  | [.ty _], q, rx => cases q
  | [.exc _ _], q, rx => cases q
  | [], q, rx => cases q
  | a :: b :: r, q, rx => exact absurd (show (none : Option D) = some z from by rw [← q]; cases a <;> first | rfl | (rename_i w; cases w <;> rfl)) (by simp)
  | [.tup xs], q, rx => exact .inr (.inr (.inr (.inr (.inr (sc_reprD G H _ [.tup xs] z Q e rx q k)))))
end
/-! ### min of three ints -/
def min3 (a b c : Int) : Int := if c < (if b < a then b else a) then c else (if b < a then b else a)
def rMin3 : List V → Hp → VK → Prop := fun xs H Q => ∃ a b c, xs = [.int a, .int b, .int c] ∧ Q (.int (min3 a b c)) H
theorem cr_min3 {X : Cx} (hc : X.calm = true) : CallR X (.builtin "min") rMin3 := by
  intro pins s σ H xs us Q I r h
  obtain ⟨a, b, c, rfl, q⟩ := h
  refine call_min3Nu hc pins s σ H _ us Q I r ⟨.int a, .int b, .int c, .int (min3 a b c), rfl, ?_, q⟩
  have L : ∀ i j : Int, nuLt (.int i) (.int j) = some (decide (i < j)) := fun _ _ => rfl
  unfold min3
  by_cases h1 : b < a
  · by_cases h2 : c < b
    · simp [nuMin3, nuMin2, L, h1, h2]
    · simp [nuMin3, nuMin2, L, h1, h2]
  · by_cases h2 : c < a
    · simp [nuMin3, nuMin2, L, h1, h2]
    · simp [nuMin3, nuMin2, L, h1, h2]
def D.min3 : List D → Option D
  | [.int a, .int b, .int c] => some (.int (DL.min3 a b c))
  | _ => none
theorem sc_min3 {K : PySem.W.Frag} : SC K rMin3 D.min3 := fun G H xs ds z Q e rx q k => by
  match ds, q, rx with
  | [.int a, .int b, .int c], q, rx =>
    cases q
    refine ⟨a, b, c, ?_, k G H _ (Al.refl e) (.int _)⟩
    cases rx with
    | cons r1 t =>
      cases t with
      | cons r2 t2 =>
        cases t2 with
        | cons r3 t3 => cases t3; rw [r1.int, r2.int, r3.int]
/-! ### rows -/
theorem w_bodyL {N : Nat} {b : LW → Addr → DS} {lw : LW} {f : Addr} {q : D → Prop} : dBodyL N b lw f q = b lw f ⟨fun ρ => Opt (outs ρ (parIx [.val (.ptr f)] 0)) fun _ => q .non, fun t ρ => match t with
    | .val d => Opt (outs ρ (parIx [.val (.ptr f)] 0)) fun _ => q d
    | .bor _ => False, fun _ _ => False, fun _ => False, fun _ => False, fun C fs ρ => Opt (outs ρ (parIx [.val (.ptr f)] 0)) fun _ => False⟩ ([.val (.ptr f)] ++ List.replicate (N - 1) .no) := rfl
theorem w_act {f : Addr} {lw : LW} {ρ : Ro} {q : T → Ro → Prop} {er : ER} : dAct f lw ρ q er = (isAt ρ 0 f ∧ lw (fun d => q (.val d) ρ) (fun C fs => er C fs ρ)) := rfl
theorem w_lamC {dsp : DSpL} {dl : DE} {ρ : Ro} {q : T → Ro → Prop} {er : ER} : dLamC dsp dl ρ q er = AllP fun f => dsp (lwOf dl ρ) f (fun d => q (.val d) ρ) := rfl
end DL
set_option autoImplicit false
set_option Elab.async false
set_option linter.all false
set_option maxRecDepth 100000
set_option maxHeartbeats 2000000
namespace My
open PySem L2 Evl ClX DL
structure Ads where
  a_NoCount_init : Addr
  d_NoCount_init : FuncData
  a_is_integer : Addr
  d_is_integer : FuncData
  a_p_check_count : Addr
  d_p_check_count : FuncData
  a_lasting : Addr
  d_lasting : FuncData
  a_placed : Addr
  d_placed : FuncData
  a_p_law_rng : Addr
  d_p_law_rng : FuncData
  a_p_law_draw : Addr
  d_p_law_draw : FuncData
  a_p_law_pick : Addr
  d_p_law_pick : FuncData
  a_p_law_said : Addr
  d_p_law_said : FuncData
  a_p_law_known : Addr
  d_p_law_known : FuncData
  a_p_law_due : Addr
  d_p_law_due : FuncData
  a_law : Addr
  d_law : FuncData
  k_law : Addr
  p_law : Addr
  c_NoCount : Addr
  u_MOST_FREE : Value
abbrev Ads.isis (A : Ads) : List Addr := []
abbrev Ads.xcs (A : Ads) : List Addr := [A.c_NoCount]
structure Txt (K : PySem.W.Frag) (mg : Str → Option Value) (A : Ads) : Prop where
  F_NoCount_init : Fun K "__init__" "NoCount.__init__" s_NoCount_init A.a_NoCount_init A.d_NoCount_init
  b_NoCount_init : Binds K A.d_NoCount_init ["self", "free"] []
  F_is_integer : Fun K "is_integer" "is_integer" s_is_integer A.a_is_integer A.d_is_integer
  b_is_integer : Binds K A.d_is_integer ["x"] []
  g_is_integer : mg "is_integer" = some (.ref A.a_is_integer)
  F_p_check_count : Fun K "_check_count" "_check_count" s_p_check_count A.a_p_check_count A.d_p_check_count
  b_p_check_count : Binds K A.d_p_check_count ["free"] []
  g_p_check_count : mg "_check_count" = some (.ref A.a_p_check_count)
  F_lasting : Fun K "lasting" "lasting" s_lasting A.a_lasting A.d_lasting
  b_lasting : Binds K A.d_lasting ["free"] []
  g_lasting : mg "lasting" = some (.ref A.a_lasting)
  F_placed : Fun K "placed" "placed" s_placed A.a_placed A.d_placed
  b_placed : Binds K A.d_placed ["free"] []
  g_placed : mg "placed" = some (.ref A.a_placed)
  F_p_law_rng : Fun K "_law_rng" "_law_rng" s_p_law_rng A.a_p_law_rng A.d_p_law_rng
  b_p_law_rng : Binds K A.d_p_law_rng ["_law_cell"] []
  g_p_law_rng : mg "_law_rng" = some (.ref A.a_p_law_rng)
  F_p_law_draw : Fun K "_law_draw" "_law_draw" s_p_law_draw A.a_p_law_draw A.d_p_law_draw
  b_p_law_draw : Binds K A.d_p_law_draw ["_law_rng_here", "_law_limit"] []
  g_p_law_draw : mg "_law_draw" = some (.ref A.a_p_law_draw)
  F_p_law_pick : Fun K "_law_pick" "_law_pick" s_p_law_pick A.a_p_law_pick A.d_p_law_pick
  b_p_law_pick : Binds K A.d_p_law_pick ["_law_rng_here", "_law_items"] []
  g_p_law_pick : mg "_law_pick" = some (.ref A.a_p_law_pick)
  F_p_law_said : Fun K "_law_said" "_law_said" s_p_law_said A.a_p_law_said A.d_p_law_said
  b_p_law_said : Binds K A.d_p_law_said ["_law_call"] []
  g_p_law_said : mg "_law_said" = some (.ref A.a_p_law_said)
  F_p_law_known : Fun K "_law_known" "_law_known" s_p_law_known A.a_p_law_known A.d_p_law_known
  b_p_law_known : Binds K A.d_p_law_known [] []
  g_p_law_known : mg "_law_known" = some (.ref A.a_p_law_known)
  F_p_law_due : Fun K "_law_due" "_law_due" s_p_law_due A.a_p_law_due A.d_p_law_due
  b_p_law_due : Binds K A.d_p_law_due ["_law_free"] []
  g_p_law_due : mg "_law_due" = some (.ref A.a_p_law_due)
  F_law : Fun K "law" "law" s_law A.a_law A.d_law
  b_law : Binds K A.d_law ["_law_script"] []
  g_law : mg "law" = some (.ref A.a_law)
  g_NoCount : mg "NoCount" = some (.ref A.c_NoCount)
  ic : ∀ C ∈ A.isis, IsiC K C
  isi : IsiK K
  k_MOST_FREE : mg "MOST_FREE" = some A.u_MOST_FREE ∧ RelV (.int (1000000000000000000000000000000)) A.u_MOST_FREE
  ox_NoCount : OexC K A.c_NoCount
  xi_NoCount : PySem.W.findIn K (.ref A.c_NoCount) "__init__" = some (some (.ref A.a_NoCount_init))
  xn_NoCount_free : PySem.W.findIn K (.ref A.c_NoCount) "free" = some none
  xq_NoCount : XcC K A.c_NoCount
  xt_NoCount : PySem.W.typeIn K (.ref A.a_NoCount_init) = some (.type "function")
  z_abs : mg "abs" = none
  z_bool : mg "bool" = none
  z_int : mg "int" = none
  z_isinstance : mg "isinstance" = none
  z_len : mg "len" = none
  z_max : mg "max" = none
  z_min : mg "min" = none
  z_range : mg "range" = none
  z_repr : mg "repr" = none
structure Fax (K : PySem.W.Frag) (A : Ads) : Prop where
  xm_NoCount_NoCount : PySem.W.exmOne K (.ref A.c_NoCount) (.ref A.c_NoCount) = some true
abbrev N_NoCount_init : List Str := ["self", "free"]
theorem sc_NoCount_init : FnScope N_NoCount_init ["self", "free"] (defScope s_NoCount_init) := ⟨rfl, rfl, rfl, by decide +kernel, rfl, by decide +kernel, by decide +kernel⟩
abbrev N_is_integer : List Str := ["x"]
theorem sc_is_integer : FnScope N_is_integer ["x"] (defScope s_is_integer) := ⟨rfl, rfl, rfl, by decide +kernel, rfl, by decide +kernel, by decide +kernel⟩
def body_is_integer (K : PySem.W.Frag) (A : Ads) : DS := (dRet (dAndV (dIsi K A.isis (dVar 0) (dC (.ty "int"))) (dNotV (dIsi K A.isis (dVar 0) (dC (.ty "bool"))))))
def dsp_is_integer (K : PySem.W.Frag) (A : Ads) : DSp := dBody 1 (body_is_integer K A)
abbrev N_p_check_count : List Str := ["free"]
theorem sc_p_check_count : FnScope N_p_check_count ["free"] (defScope s_p_check_count) := ⟨rfl, rfl, rfl, by decide +kernel, rfl, by decide +kernel, by decide +kernel⟩
def body_p_check_count (K : PySem.W.Frag) (A : Ads) : DS := (dIfS (dOr (dNot (dTruth (dCall (noEr (dsp_is_integer K A)) (dN 1 (dCons (dVar 0) dNil))))) (dNot (dTest (dChain D.le D.le (dC (.int 0)) (dVar 0) (dC (.int (1000000000000000000000000000000))))))) (dRz A.c_NoCount (x1 "free") (dCons (dVar 0) dNil)) dNext)
def dsp_p_check_count (K : PySem.W.Frag) (A : Ads) : DSp := dBody 1 (body_p_check_count K A)
abbrev N_lasting : List Str := ["free", "times"]
theorem sc_lasting : FnScope N_lasting ["free"] (defScope s_lasting) := ⟨rfl, rfl, rfl, by decide +kernel, rfl, by decide +kernel, by decide +kernel⟩
def body_lasting (K : PySem.W.Frag) (A : Ads) : DS := (dSeq (dDrop (dCall (hot (dsp_p_check_count K A)) (dN 1 (dCons (dVar 0) dNil))))
    (dSeq (dAsg (dC (.int 0)) (dgName 1))
    (dSeq (dWhile (dTest (dOp D.ge (dVar 0) (dC (.int 2)))) (dSeq (dAsg (dOp D.fdiv (dOp D.sub (dVar 0) (dC (.int 2))) (dC (.int 3))) (dgName 0))
    (dAsg (dOp D.iadd (dVar 1) (dC (.int 1))) (dgName 1))))
    (dRet (dVar 1)))))
def dsp_lasting (K : PySem.W.Frag) (A : Ads) : DSp := dBody 2 (body_lasting K A)
abbrev N_placed : List Str := ["free", "third"]
theorem sc_placed : FnScope N_placed ["free"] (defScope s_placed) := ⟨rfl, rfl, rfl, by decide +kernel, rfl, by decide +kernel, by decide +kernel⟩
def body_placed (K : PySem.W.Frag) (A : Ads) : DS := (dSeq (dDrop (dCall (hot (dsp_p_check_count K A)) (dN 1 (dCons (dVar 0) dNil))))
    (dSeq (dIfS (dTest (dOp D.lt (dVar 0) (dC (.int 2)))) (dRet (dC .non)) dNext)
    (dSeq (dAsg (dOp D.fdiv (dOp D.sub (dVar 0) (dC (.int 2))) (dC (.int 3))) (dgName 1))
    (dRet (dTup (dCons (dVar 1) (dCons (dVar 1) dNil)))))))
def dsp_placed (K : PySem.W.Frag) (A : Ads) : DSp := dBody 2 (body_placed K A)
abbrev N_p_law_rng : List Str := ["_law_cell"]
theorem sc_p_law_rng : FnScope N_p_law_rng ["_law_cell"] (defScope s_p_law_rng) := ⟨rfl, rfl, rfl, by decide +kernel, rfl, by decide +kernel, by decide +kernel⟩
def body_p_law_rng (K : PySem.W.Frag) (A : Ads) : DS := (dRetF (dLst (dCons (dCB D.abs (dCons (dVar 0) dNil)) (dCons (dOp D.mod (dCB D.toInt (dCons (dVar 0) dNil)) (dC (.int 2147483629))) (dCons (dC (.int 0)) dNil)))))
def dsp_p_law_rng (K : PySem.W.Frag) (A : Ads) : DSp := dBodyF 1 (body_p_law_rng K A)
abbrev N_p_law_draw : List Str := ["_law_rng_here", "_law_limit", "_law_digit", "_law_mixed"]
theorem sc_p_law_draw : FnScope N_p_law_draw ["_law_rng_here", "_law_limit"] (defScope s_p_law_draw) := ⟨rfl, rfl, rfl, by decide +kernel, rfl, by decide +kernel, by decide +kernel⟩
def body_p_law_draw (K : PySem.W.Frag) (A : Ads) : DS := (dSeq (dIfS (dTest (dOp D.ge (dOp D.ix (dVar 0) (dC (.int 0))) (dOp D.pow (dC (.int 10)) (dC (.int 18))))) (dSeq (dAsg (dOp D.mod (dCB D.toInt (dCons (dOp D.ix (dVar 0) (dC (.int 0))) dNil)) (dVar 1)) (dgName 2))
    (dSeq (dSetIx 0 (dC (.int 0)) (dOp D.fdiv (dOp D.ix (dVar 0) (dC (.int 0))) (dVar 1)))
    (dRet (dVar 2)))) dNext)
    (dSeq (dSetIx 0 (dC (.int 2)) (dOp D.add (dOp D.ix (dVar 0) (dC (.int 2))) (dC (.int 1))))
    (dSeq (dAsg (dOp D.mod (dCB D.toInt (dCons (dOp D.mul (dOp D.add (dOp D.add (dOp D.ix (dVar 0) (dC (.int 1))) (dOp D.mul (dC (.int 7919)) (dOp D.ix (dVar 0) (dC (.int 2))))) (dC (.int 1))) (dC (.int 48271))) dNil)) (dC (.int 2147483647))) (dgName 3))
    (dSeq (dAsg (dOp D.mod (dCB D.toInt (dCons (dOp D.mul (dVar 3) (dOp D.add (dOp D.fdiv (dVar 3) (dC (.int 1013))) (dC (.int 69621)))) dNil)) (dC (.int 2147483587))) (dgName 3))
    (dRet (dOp D.mod (dCB D.toInt (dCons (dOp D.mod (dCB D.toInt (dCons (dOp D.add (dOp D.fdiv (dVar 3) (dC (.int 7))) (dOp D.mul (dOp D.mod (dCB D.toInt (dCons (dVar 3) dNil)) (dC (.int 7919))) (dC (.int 40692)))) dNil)) (dC (.int 2147483399))) dNil)) (dVar 1)))))))
def dsp_p_law_draw (K : PySem.W.Frag) (A : Ads) : DSp := dBody 4 (body_p_law_draw K A)
abbrev N_p_law_pick : List Str := ["_law_rng_here", "_law_items"]
theorem sc_p_law_pick : FnScope N_p_law_pick ["_law_rng_here", "_law_items"] (defScope s_p_law_pick) := ⟨rfl, rfl, rfl, by decide +kernel, rfl, by decide +kernel, by decide +kernel⟩
def body_p_law_pick (K : PySem.W.Frag) (A : Ads) : DS := (dRet (dOp D.ix (dVar 1) (dCall (noEr (dsp_p_law_draw K A)) (dN 2 (dCons (dVar 0) (dCons (dCB D.len (dCons (dVar 1) dNil)) dNil))))))
def dsp_p_law_pick (K : PySem.W.Frag) (A : Ads) : DSp := dBody 2 (body_p_law_pick K A)
abbrev N_p_law_said : List Str := ["_law_call", "e"]
theorem sc_p_law_said : FnScope N_p_law_said ["_law_call"] (defScope s_p_law_said) := ⟨rfl, rfl, rfl, by decide +kernel, rfl, by decide +kernel, by decide +kernel⟩
def bodyL_p_law_said (K : PySem.W.Frag) (A : Ads) : LW → Addr → DS := fun lw lf => (dSeq (dTry0 K (dDrop (dAct lf lw))
     (((.ref A.c_NoCount : Value), 1, fun xa xC xfs => (dRet (dCB D.reprA (dCons (dXf A.c_NoCount xa xC xfs "free" (dVar 1)) dNil)))) ::
      []))
    (dRet (dC .non)))
def dspL_p_law_said (K : PySem.W.Frag) (A : Ads) : DSpL := dBodyL 2 (bodyL_p_law_said K A)
abbrev N_p_law_known : List Str := ["_law_found", "_law_free", "_law_best", "_law_before", "_law_inside"]
theorem sc_p_law_known : FnScope N_p_law_known [] (defScope s_p_law_known) := ⟨rfl, rfl, rfl, by decide +kernel, rfl, by decide +kernel, by decide +kernel⟩
def body_p_law_known (K : PySem.W.Frag) (A : Ads) : DS := (dSeq (dOwn (dLst (dCons (dC (.int 0)) (dCons (dC (.int 0)) dNil))) 0)
    (dSeq (dFor (diRng2 (dC (.int 2)) (dC (.int 31))) (dgName 1) (dSeq (dAsg (dC (.int 0)) (dgName 2))
    (dSeq (dFor (diRng1 (dOp D.sub (dVar 1) (dC (.int 1)))) (dgName 3) (dFor (diRng1 (dOp D.sub (dOp D.sub (dVar 1) (dC (.int 1))) (dVar 3))) (dgName 4) (dAsg (dCB D.max2 (dCons (dVar 2) (dCons (dOp D.add (dC (.int 1)) (dCB D.min3 (dCons (dOp D.ix (dVar 0) (dVar 3)) (dCons (dOp D.ix (dVar 0) (dVar 4)) (dCons (dOp D.ix (dVar 0) (dOp D.sub (dOp D.sub (dOp D.sub (dVar 1) (dC (.int 2))) (dVar 3)) (dVar 4))) dNil))))) dNil))) (dgName 2))))
    (dDrop (dAppend 0 (dVar 2))))))
    (dRet (dVar 0))))
def dsp_p_law_known (K : PySem.W.Frag) (A : Ads) : DSp := dBodyF 5 (body_p_law_known K A)
abbrev N_p_law_due : List Str := ["_law_free", "_law_found"]
theorem sc_p_law_due : FnScope N_p_law_due ["_law_free"] (defScope s_p_law_due) := ⟨rfl, rfl, rfl, by decide +kernel, rfl, by decide +kernel, by decide +kernel⟩
def body_p_law_due (K : PySem.W.Frag) (A : Ads) : DS := (dSeq (dAsg (dC (.int 0)) (dgName 1))
    (dSeq (dWhile (dTest (dOp D.ge (dVar 0) (dC (.int 2)))) (dPar 0 1 (dCons (dOp D.fdiv (dOp D.sub (dVar 0) (dC (.int 2))) (dC (.int 3))) (dCons (dOp D.add (dVar 1) (dC (.int 1))) dNil))))
    (dRet (dVar 1))))
def dsp_p_law_due (K : PySem.W.Frag) (A : Ads) : DSp := dBody 2 (body_p_law_due K A)
abbrev N_law : List Str := ["_law_script", "_law_cell", "_law_rng_here", "_law_turn", "_law_edge", "_law_more", "_law_free", "_law_odd"]
theorem sc_law : FnScope N_law ["_law_script"] (defScope s_law) := ⟨rfl, rfl, rfl, by decide +kernel, rfl, by decide +kernel, by decide +kernel⟩
def body_law (K : PySem.W.Frag) (A : Ads) : DS := (dSeq (dIfS (dTest (dOp D.ne (dV (dLc (diRng1 (dC (.int 31))) (dgName 6) (fun ρ q _ => q true ρ) (dCall (noEr (dsp_lasting K A)) (dN 1 (dCons (dVar 6) dNil))) [6])) (dV (dCallF (noEr (dsp_p_law_known K A)) (dN 0 dNil))))) (dRet (dC (.bl false))) dNext)
    (dSeq (dFor (diAny (dSl (dOp D.add (dVar 0) (dV (dLst (dCons (dC (.int 0)) dNil)))) dNoP (dPart (dC (.int 4))))) (dgName 1) (dSeq (dOwn (dCallF (noEr (dsp_p_law_rng K A)) (dN 1 (dCons (dVar 1) dNil))) 2)
    (dSeq (dFor (diRng1 (dC (.int 10))) (dgName 3) (dSeq (dAsg (dC (.int 0)) (dgName 4))
    (dSeq (dFor (diRng1 (dCall (noEr (dsp_p_law_draw K A)) (dN 2 (dCons (dVar 2) (dCons (dC (.int 62)) dNil))))) (dgName 5) (dAsg (dOp D.add (dOp D.mul (dC (.int 3)) (dVar 4)) (dC (.int 2))) (dgName 4)))
    (dSeq (dAsg (dCall (noEr (dsp_p_law_pick K A)) (dN 2 (dCons (dVar 2) (dCons (dV (dLst (dCons (dVar 4) (dCons (dCB D.max2 (dCons (dC (.int 0)) (dCons (dOp D.sub (dVar 4) (dC (.int 1))) dNil))) (dCons (dOp D.add (dVar 4) (dC (.int 1))) (dCons (dCall (noEr (dsp_p_law_draw K A)) (dN 2 (dCons (dVar 2) (dCons (dOp D.pow (dC (.int 10)) (dC (.int 9))) dNil)))) (dCons (dOp D.pow (dC (.int 10)) (dC (.int 30))) dNil))))))) dNil)))) (dgName 6))
    (dSeq (dAsg (dCB D.min2 (dCons (dOp D.pow (dC (.int 10)) (dC (.int 30))) (dCons (dVar 6) dNil))) (dgName 6))
    (dIfS (dOr (dTest (dOp D.ne (dCB D.reprA (dCons (dCall (noEr (dsp_lasting K A)) (dN 1 (dCons (dVar 6) dNil))) dNil)) (dCB D.reprA (dCons (dCall (noEr (dsp_p_law_due K A)) (dN 1 (dCons (dVar 6) dNil))) dNil)))) (dTest (dOp D.ne (dOp D.isN (dCall (noEr (dsp_placed K A)) (dN 1 (dCons (dVar 6) dNil))) (dC .non)) (dOp D.lt (dVar 6) (dC (.int 2)))))) (dRet (dC (.bl false))) dNext))))))
    (dSeq (dAsg (dCall (noEr (dsp_p_law_pick K A)) (dN 2 (dCons (dVar 2) (dCons (dV (dLst (dCons (dUn D.neg (dC (.int 1))) (dCons (dOp D.add (dOp D.pow (dC (.int 10)) (dC (.int 30))) (dC (.int 1))) (dCons (dC .non) (dCons (dC (.bl true)) (dCons (dC (.bl false)) (dCons (dC (.str (PySem.Str.ofString "2"))) (dCons (dV (dLst (dCons (dC (.int 2)) dNil))) (dCons (dTup dNil) (dCons (dV dDNew) dNil))))))))))) dNil)))) (dgName 7))
    (dIfS (dTest (dOp D.ne (dV (dLst (dCons (dLamC (dspL_p_law_said K A) (dCall (hot (dsp_lasting K A)) (dN 1 (dCons (dVar 7) dNil)))) (dCons (dLamC (dspL_p_law_said K A) (dCall (hot (dsp_placed K A)) (dN 1 (dCons (dVar 7) dNil)))) dNil)))) (dOp D.mul (dV (dLst (dCons (dCB D.reprA (dCons (dVar 7) dNil)) dNil))) (dC (.int 2))))) (dRet (dC (.bl false))) dNext)))))
    (dRet (dC (.bl true)))))
def dsp_law (K : PySem.W.Frag) (A : Ads) : DSp := dBody 8 (body_law K A)
abbrev tabs_law (P : Addr) : List (Addr × Str) := [(P, ("law" : Str) ++ ".<locals>." ++ "<lambda>")]
section
variable {P : Program} {w : World} {K : PySem.W.Frag} {mg : Str → Option Value} {base : Heap} {A : Ads}
theorem ok_NoCount_init (T : Txt K mg A) : FnOk P w K mg base CX0 1 A.a_NoCount_init A.d_NoCount_init ["self", "free"] (spX1 K "free") :=
  T.F_NoCount_init.ok sc_NoCount_init spX1_len (fun cdv A' outer s H vs Q E hr h => ⟨_, (pss_cons (ps_ost (pv 0) (pv 1)) pss_nil), bodyX1 h⟩)
theorem ok_is_integer (T : Txt K mg A) : FnOk P w K mg base CX0 1 A.a_is_integer A.d_is_integer ["x"] (SpV K 1 (dsp_is_integer K A)) :=
  T.F_is_integer.ok sc_is_integer (fun vs H Q E h => h.len) (fun cdv A' outer s H vs Q E hr h => ⟨_, (pss_one (ps_ret (pe_and (pe_callB call_isiX (by rfl) T.z_isinstance (by decide +kernel) (pa_cons (pv 0) (pa_cons (pe_bltn (v := .ty "int") (u := .type "int") (by rfl) T.z_int (by decide +kernel) rfl) pa_nil))) (pe_one (pe_not (pe_callB call_isiX (by rfl) T.z_isinstance (by decide +kernel) (pa_cons (pv 0) (pa_cons (pe_bltn (v := .ty "bool") (u := .type "bool") (by rfl) T.z_bool (by decide +kernel) rfl) pa_nil)))))))),
    bodyV (N := N_is_integer) (fun _ => (ss_ret (se_andV (se_isi T.isi T.ic se_var (se_c (fun _ => .ty "int"))) (se_notV (se_isi T.isi T.ic se_var (se_c (fun _ => .ty "bool"))))))) (by decide) h⟩)
theorem ok_p_check_count (T : Txt K mg A) : FnOk P w K mg base (L2.CX P w) 3 A.a_p_check_count A.d_p_check_count ["free"] (SpV K 1 (dsp_p_check_count K A)) :=
  T.F_p_check_count.okX sc_p_check_count (fun vs H Q E h => h.len) (fun cdv A' outer s H vs Q E hr h => ⟨_, (pss_one (ps_if (PW.pt (pw_or (pt_not (pt_truth (pe_call (ok_is_integer T) (hr.mono (by decide)) rfl T.g_is_integer T.F_is_integer.kp T.b_is_integer .nil pass0 (pa_cons (pv 0) pa_nil)) (by intro _; rfl))) (pw_or1 (pt_not (pt_chain op_leX op_leX pe_int (pv 0) (pe_glob rfl T.k_MOST_FREE.1 T.k_MOST_FREE.2)))))) (pss_one (ps_raise rfl (takes_of rfl rfl rfl rfl) (pmk_oex T.ox_NoCount T.xi_NoCount T.xt_NoCount (ok_NoCount_init T) (hr.mono (by decide)) T.b_NoCount_init .nil pass0 rfl T.g_NoCount (pa_cons (pv 0) pa_nil)))) pss_nil)),
    bodyV (N := N_p_check_count) (fun _ => (ss_if (st_or (st_not (st_truth (se_call (sa_cons se_var sa_nil)))) (st_not (st_test (se_chain sr_cmp sr_cmp (se_c (fun _ => .int 0)) se_var (se_c fun _ => .int _))))) (ss_raise1 T.ox_NoCount T.xn_NoCount_free (sa_cons se_var sa_nil)) ss_next)) (by decide) h⟩)
theorem ok_lasting (T : Txt K mg A) : FnOk P w K mg base (L2.CX P w) 4 A.a_lasting A.d_lasting ["free"] (SpV K 1 (dsp_lasting K A)) :=
  T.F_lasting.okX sc_lasting (fun vs H Q E h => h.len) (fun cdv A' outer s H vs Q E hr h => ⟨_, (pss_cons (ps_expr (pe_callS (ok_p_check_count T) (hr.mono (by decide)) rfl T.g_p_check_count T.F_p_check_count.kp T.b_p_check_count (fun σ => passAt (takes_of rfl rfl rfl rfl) σ) (pa_cons (pv 0) pa_nil)))
      (pss_cons (ps_set (i := 1) sc_lasting.nd rfl (Or.inl rfl) pe_int)
      (pss_cons (ps_while (passes_of rfl) (pt_cmpR op_geX (pv 0) pe_int (nomark _)) (pss_cons (ps_set (i := 0) sc_lasting.nd rfl (Or.inl rfl) (pe_op op_divX (pe_op op_subX (pv 0) pe_int) pe_int))
      (pss_one (ps_aug (i := 1) sc_lasting.nd rfl (.inl rfl) pe_int ip_add))))
      (pss_one (ps_ret (pv 1)))))),
    bodyV (N := N_lasting) (fun _ => (ss_seq (ss_drop (se_callH (sa_cons se_var sa_nil)))
      (ss_seq (ss_asg (se_c (fun _ => .int 0)) sg_name)
      (ss_seq (ss_while (st_test (se_op sr_cmp se_var (se_c (fun _ => .int 2)))) (ss_seq (ss_asg (se_op sr_fdiv (se_op sr_sub se_var (se_c (fun _ => .int 2))) (se_c (fun _ => .int 3))) sg_name)
      (ss_aug sr_iadd (se_c (fun _ => .int 1)))))
      (ss_ret se_var))))) (by decide) h⟩)
theorem ok_placed (T : Txt K mg A) : FnOk P w K mg base (L2.CX P w) 4 A.a_placed A.d_placed ["free"] (SpV K 1 (dsp_placed K A)) :=
  T.F_placed.okX sc_placed (fun vs H Q E h => h.len) (fun cdv A' outer s H vs Q E hr h => ⟨_, (pss_cons (ps_expr (pe_callS (ok_p_check_count T) (hr.mono (by decide)) rfl T.g_p_check_count T.F_p_check_count.kp T.b_p_check_count (fun σ => passAt (takes_of rfl rfl rfl rfl) σ) (pa_cons (pv 0) pa_nil)))
      (pss_cons (ps_if (pt_cmpR op_ltX (pv 0) pe_int (nomark _)) (pss_one (ps_ret pe_non)) pss_nil)
      (pss_cons (ps_set (i := 1) sc_placed.nd rfl (Or.inl rfl) (pe_op op_divX (pe_op op_subX (pv 0) pe_int) pe_int))
      (pss_one (ps_ret (pe_tup (pa_cons (pv 1) (pa_cons (pv 1) pa_nil)))))))),
    bodyV (N := N_placed) (fun _ => (ss_seq (ss_drop (se_callH (sa_cons se_var sa_nil)))
      (ss_seq (ss_if (st_test (se_op sr_cmp se_var (se_c (fun _ => .int 2)))) (ss_ret (se_c (fun _ => .non))) ss_next)
      (ss_seq (ss_asg (se_op sr_fdiv (se_op sr_sub se_var (se_c (fun _ => .int 2))) (se_c (fun _ => .int 3))) sg_name)
      (ss_ret (se_tup (sa_cons se_var (sa_cons se_var sa_nil)))))))) (by decide) h⟩)
theorem ok_p_law_rng (T : Txt K mg A) : FnOk P w K mg base CX0 1 A.a_p_law_rng A.d_p_law_rng ["_law_cell"] (SpF K 1 (dsp_p_law_rng K A)) :=
  T.F_p_law_rng.ok sc_p_law_rng (fun vs H Q E h => h.len) (fun cdv A' outer s H vs Q E hr h => ⟨_, (pss_one (ps_ret (pe_lst (pa_cons (pe_callB call_absX (by rfl) T.z_abs (by decide +kernel) (pa_cons (pv 0) pa_nil)) (pa_cons (pe_op op_modX (pe_callTy call_intX (by rfl) T.z_int (by decide +kernel) (pa_cons (pv 0) pa_nil)) pe_int) (pa_cons pe_int pa_nil)))))),
    bodyF (N := N_p_law_rng) (fun _ => (ss_retF (sf_lst (sa_cons (se_cb sc_abs (sa_cons se_var sa_nil)) (sa_cons (se_op sr_mod (se_cb sc_int (sa_cons se_var sa_nil)) (se_c (fun _ => .int 2147483629))) (sa_cons (se_c (fun _ => .int 0)) sa_nil)))))) (by decide) h⟩)
theorem ok_p_law_draw (T : Txt K mg A) : FnOk P w K mg base CX0 1 A.a_p_law_draw A.d_p_law_draw ["_law_rng_here", "_law_limit"] (SpV K 2 (dsp_p_law_draw K A)) :=
  T.F_p_law_draw.ok sc_p_law_draw (fun vs H Q E h => h.len) (fun cdv A' outer s H vs Q E hr h => ⟨_, (pss_cons (ps_if (pt_cmpR op_geX (pe_ix ix_seq (pv 0) pe_int (fun _ _ => rfl)) (pe_op op_powX pe_int pe_int) (nomark _)) (pss_cons (ps_set (i := 2) sc_p_law_draw.nd rfl (Or.inl rfl) (pe_op op_modX (pe_callTy call_intX (by rfl) T.z_int (by decide +kernel) (pa_cons (pe_ix ix_seq (pv 0) pe_int (fun _ _ => rfl)) pa_nil)) (pv 1)))
      (pss_cons (ps_asg (pe_op op_divX (pe_ix ix_seq (pv 0) pe_int (fun _ _ => rfl)) (pv 1)) (pg_sub (pv 0) pe_int set_list))
      (pss_one (ps_ret (pv 2))))) pss_nil)
      (pss_cons (ps_asg (pe_op op_addX (pe_ix ix_seq (pv 0) pe_int (fun _ _ => rfl)) pe_int) (pg_sub (pv 0) pe_int set_list))
      (pss_cons (ps_set (i := 3) sc_p_law_draw.nd rfl (Or.inl rfl) (pe_op op_modX (pe_callTy call_intX (by rfl) T.z_int (by decide +kernel) (pa_cons (pe_op op_mulX (pe_op op_addX (pe_op op_addX (pe_ix ix_seq (pv 0) pe_int (fun _ _ => rfl)) (pe_op op_mulX pe_int (pe_ix ix_seq (pv 0) pe_int (fun _ _ => rfl)))) pe_int) pe_int) pa_nil)) pe_int))
      (pss_cons (ps_set (i := 3) sc_p_law_draw.nd rfl (Or.inl rfl) (pe_op op_modX (pe_callTy call_intX (by rfl) T.z_int (by decide +kernel) (pa_cons (pe_op op_mulX (pv 3) (pe_op op_addX (pe_op op_divX (pv 3) pe_int) pe_int)) pa_nil)) pe_int))
      (pss_one (ps_ret (pe_op op_modX (pe_callTy call_intX (by rfl) T.z_int (by decide +kernel) (pa_cons (pe_op op_modX (pe_callTy call_intX (by rfl) T.z_int (by decide +kernel) (pa_cons (pe_op op_addX (pe_op op_divX (pv 3) pe_int) (pe_op op_mulX (pe_op op_modX (pe_callTy call_intX (by rfl) T.z_int (by decide +kernel) (pa_cons (pv 3) pa_nil)) pe_int) pe_int)) pa_nil)) pe_int) pa_nil)) (pv 1)))))))),
    bodyV (N := N_p_law_draw) (fun _ => (ss_seq (ss_if (st_test (se_op sr_cmp (se_op sr_ix se_var (se_c (fun _ => .int 0))) (se_op sr_pow (se_c (fun _ => .int 10)) (se_c (fun _ => .int 18))))) (ss_seq (ss_asg (se_op sr_mod (se_cb sc_int (sa_cons (se_op sr_ix se_var (se_c (fun _ => .int 0))) sa_nil)) se_var) sg_name)
      (ss_seq (ss_setIx (se_c (fun _ => .int 0)) (se_op sr_fdiv (se_op sr_ix se_var (se_c (fun _ => .int 0))) se_var))
      (ss_ret se_var))) ss_next)
      (ss_seq (ss_setIx (se_c (fun _ => .int 2)) (se_op sr_add (se_op sr_ix se_var (se_c (fun _ => .int 2))) (se_c (fun _ => .int 1))))
      (ss_seq (ss_asg (se_op sr_mod (se_cb sc_int (sa_cons (se_op sr_mul (se_op sr_add (se_op sr_add (se_op sr_ix se_var (se_c (fun _ => .int 1))) (se_op sr_mul (se_c (fun _ => .int 7919)) (se_op sr_ix se_var (se_c (fun _ => .int 2))))) (se_c (fun _ => .int 1))) (se_c (fun _ => .int 48271))) sa_nil)) (se_c (fun _ => .int 2147483647))) sg_name)
      (ss_seq (ss_asg (se_op sr_mod (se_cb sc_int (sa_cons (se_op sr_mul se_var (se_op sr_add (se_op sr_fdiv se_var (se_c (fun _ => .int 1013))) (se_c (fun _ => .int 69621)))) sa_nil)) (se_c (fun _ => .int 2147483587))) sg_name)
      (ss_ret (se_op sr_mod (se_cb sc_int (sa_cons (se_op sr_mod (se_cb sc_int (sa_cons (se_op sr_add (se_op sr_fdiv se_var (se_c (fun _ => .int 7))) (se_op sr_mul (se_op sr_mod (se_cb sc_int (sa_cons se_var sa_nil)) (se_c (fun _ => .int 7919))) (se_c (fun _ => .int 40692)))) sa_nil)) (se_c (fun _ => .int 2147483399))) sa_nil)) se_var))))))) (by decide) h⟩)
theorem ok_p_law_pick (T : Txt K mg A) : FnOk P w K mg base CX0 2 A.a_p_law_pick A.d_p_law_pick ["_law_rng_here", "_law_items"] (SpV K 2 (dsp_p_law_pick K A)) :=
  T.F_p_law_pick.ok sc_p_law_pick (fun vs H Q E h => h.len) (fun cdv A' outer s H vs Q E hr h => ⟨_, (pss_one (ps_ret (pe_ix ix_seq (pv 1) (pe_call (ok_p_law_draw T) (hr.mono (by decide)) rfl T.g_p_law_draw T.F_p_law_draw.kp T.b_p_law_draw .nil pass0 (pa_cons (pv 0) (pa_cons (pe_callB call_lenX (by rfl) T.z_len (by decide +kernel) (pa_cons (pv 1) pa_nil)) pa_nil))) (fun _ _ => rfl)))),
    bodyV (N := N_p_law_pick) (fun _ => (ss_ret (se_op sr_ix se_var (se_call (sa_cons se_var (sa_cons (se_cb sc_len (sa_cons se_var sa_nil)) sa_nil)))))) (by decide) h⟩)
theorem gl_p_law_said {X : Cx} {q : Str} (hgd : X.A.guards = some []) {A : Ads} (T : Txt X.K X.mg A) (cdg : Value) : GivesL X 5 N_p_law_said "_law_said" (defScope s_p_law_said) A.a_p_law_said cdg (defBody s_p_law_said) "_law_call" q (TTL X.K (dspL_p_law_said X.K A)) :=
  fun f c' s H Q tl hr act hc hT => ⟨_, (pss_cons (ps_tryJ rfl rfl sc_p_law_said.nd takes0)
      (pss_one (ps_ret pe_non))),
    bodyL (N := N_p_law_said) (by decide) hc hT fun pa lw hq lo => (ss_seq (ss_tryU rfl (fun W pn xe tk po => ⟨_, (pss_one (ps_expr (act W pn xe _ _ tk))), (ss_drop (se_act hq lo))⟩)
     (HdU.cons (i := 1) rfl rfl ⟨rfl, by decide, .inl T.g_NoCount⟩ (fun xa xoe xC xdd xpn xfs xvs xG hz hf hg hR => ⟨_, (pss_one (ps_ret (pe_callB (call_reprA hgd (have z := hu65 hr; z)) (by rfl) T.z_repr (by decide +kernel) (pa_cons (pe_xf T.xq_NoCount.xf T.xn_NoCount_free hz hf (pv 1)) pa_nil)))), fun xf xT => (ss_ret (se_cb sc_reprA (sa_cons (se_xf hg hR se_var) sa_nil)))⟩)
      HdU.rest))
      (ss_ret (se_c (fun _ => .non))))⟩
theorem ok_p_law_known (T : Txt K mg A) : FnOk P w K mg base CX0 1 A.a_p_law_known A.d_p_law_known [] (SpF K 0 (dsp_p_law_known K A)) :=
  T.F_p_law_known.ok sc_p_law_known (fun vs H Q E h => h.len) (fun cdv A' outer s H vs Q E hr h => ⟨_, (pss_cons (ps_set (i := 0) sc_p_law_known.nd rfl (Or.inl rfl) (pe_lst (pa_cons pe_int (pa_cons pe_int pa_nil))))
      (pss_cons (ps_for PassesOwn.never rfl (pi_range2 rfl T.z_range (pa_cons pe_int (pa_cons pe_int pa_nil))) (pg_name (i := 1) sc_p_law_known.nd rfl (Or.inl rfl)) (pss_cons (ps_set (i := 2) sc_p_law_known.nd rfl (Or.inl rfl) pe_int)
      (pss_cons (ps_for PassesOwn.never rfl (pi_range1 rfl T.z_range (pa_cons (pe_op op_subX (pv 1) pe_int) pa_nil)) (pg_name (i := 3) sc_p_law_known.nd rfl (Or.inl rfl)) (pss_one (ps_for PassesOwn.never rfl (pi_range1 rfl T.z_range (pa_cons (pe_op op_subX (pe_op op_subX (pv 1) pe_int) (pv 3)) pa_nil)) (pg_name (i := 4) sc_p_law_known.nd rfl (Or.inl rfl)) (pss_one (ps_set (i := 2) sc_p_law_known.nd rfl (Or.inl rfl) (pe_callB (cr_max2 rfl) (by rfl) T.z_max (by decide +kernel) (pa_cons (pv 2) (pa_cons (pe_op op_addX pe_int (pe_callB (cr_min3 rfl) (by rfl) T.z_min (by decide +kernel) (pa_cons (pe_ix ix_seq (pv 0) (pv 3) (fun _ _ => rfl)) (pa_cons (pe_ix ix_seq (pv 0) (pv 4) (fun _ _ => rfl)) (pa_cons (pe_ix ix_seq (pv 0) (pe_op op_subX (pe_op op_subX (pe_op op_subX (pv 1) pe_int) (pv 3)) (pv 4)) (fun _ _ => rfl)) pa_nil))))) pa_nil))))))))
      (pss_one (ps_expr (pe_bm PySem.F.plainAttrs_list PySem.F.slot_list_append PySem.F.type_list_append mt_append (pv 0) (pa_cons (pv 2) pa_nil)))))))
      (pss_one (ps_ret (pv 0))))),
    bodyF (N := N_p_law_known) (fun _ => (ss_seq (ss_own (sf_lst (sa_cons (se_c (fun _ => .int 0)) (sa_cons (se_c (fun _ => .int 0)) sa_nil))))
      (ss_seq (ss_for (si_rng2 (se_c (fun _ => .int 2)) (se_c (fun _ => .int 31))) sg_name (ss_seq (ss_asg (se_c (fun _ => .int 0)) sg_name)
      (ss_seq (ss_for (si_rng1 (se_op sr_sub se_var (se_c (fun _ => .int 1)))) sg_name (ss_for (si_rng1 (se_op sr_sub (se_op sr_sub se_var (se_c (fun _ => .int 1))) se_var)) sg_name (ss_asg (se_cb sc_max2 (sa_cons se_var (sa_cons (se_op sr_add (se_c (fun _ => .int 1)) (se_cb sc_min3 (sa_cons (se_op sr_ix se_var se_var) (sa_cons (se_op sr_ix se_var se_var) (sa_cons (se_op sr_ix se_var (se_op sr_sub (se_op sr_sub (se_op sr_sub se_var (se_c (fun _ => .int 2))) se_var) se_var)) sa_nil))))) sa_nil))) sg_name)))
      (ss_drop (se_append se_var)))))
      (ss_ret se_var)))) (by decide) h⟩)
theorem ok_p_law_due (T : Txt K mg A) : FnOk P w K mg base CX0 1 A.a_p_law_due A.d_p_law_due ["_law_free"] (SpV K 1 (dsp_p_law_due K A)) :=
  T.F_p_law_due.ok sc_p_law_due (fun vs H Q E h => h.len) (fun cdv A' outer s H vs Q E hr h => ⟨_, (pss_cons (ps_set (i := 1) sc_p_law_due.nd rfl (Or.inl rfl) pe_int)
      (pss_cons (ps_while PassesOwn.never (pt_cmpR op_geX (pv 0) pe_int (nomark _)) (pss_one (ps_par (i := 0) (j := 1) (by rfl) sc_p_law_due.nd rfl rfl (by decide) rfl rfl (pa_cons (pe_op op_divX (pe_op op_subX (pv 0) pe_int) pe_int) (pa_cons (pe_op op_addX (pv 1) pe_int) pa_nil)) (by rfl))))
      (pss_one (ps_ret (pv 1))))),
    bodyV (N := N_p_law_due) (fun _ => (ss_seq (ss_asg (se_c (fun _ => .int 0)) sg_name)
      (ss_seq (ss_while (st_test (se_op sr_cmp se_var (se_c (fun _ => .int 2)))) (ss_par (sa_cons (se_op sr_fdiv (se_op sr_sub se_var (se_c (fun _ => .int 2))) (se_c (fun _ => .int 3))) (sa_cons (se_op sr_add se_var (se_c (fun _ => .int 1))) sa_nil))))
      (ss_ret se_var)))) (by decide) h⟩)
theorem ok_law (T : Txt K mg A) (tb : LamX.TabB base mg A.k_law A.p_law) (hk : A.d_law.code = .ref A.k_law) : FnG P w K mg base CX0 7 A.a_law A.d_law ["_law_script"] (SpVT K (tabs_law A.p_law) 1 (dsp_law K A)) :=
  okGc T.F_law sc_law (fun vs H Q E h => h.len) (fun cdv hcd A' hgd outer s H vs Q E hr h => ⟨_, (pss_cons (ps_if (pt_cmpR (op_neD hr.units) (pe_lc (own := [("_law_free", 6)]) (by rfl) sc_law.nd (pi_range1 rfl T.z_range (pa_cons pe_int pa_nil)) (blkOk_by (own := [("_law_free", 6)]) (N := N_law) (sc := defScope s_law) (by decide +kernel)) (fun _ _ _ _ _ => (pg_name (i := 6) sc_law.nd rfl (Or.inl rfl))) (fun _ _ _ _ _ => pts_nil) (fun _ _ _ _ _ => (pe_call (ok_lasting T) (hr.mono (by decide)) rfl T.g_lasting T.F_lasting.kp T.b_lasting .nil passL (pa_cons (pv 6) pa_nil)))) (pe_call0 (ok_p_law_known T) (hr.mono (by decide)) rfl T.g_p_law_known T.F_p_law_known.kp T.b_p_law_known .nil pass0) (nomark _)) (pss_one (ps_ret pe_bl)) pss_nil)
      (pss_cons (ps_for PassesOwn.never rfl (pi_any (pe_slice sl_any (pe_op op_addX (pv 0) (pe_lst (pa_cons pe_int pa_nil))) po_none (po_some pe_int))) (pg_name (i := 1) sc_law.nd rfl (Or.inl rfl)) (pss_cons (ps_set (i := 2) sc_law.nd rfl (Or.inl rfl) (pe_call (ok_p_law_rng T) (hr.mono (by decide)) rfl T.g_p_law_rng T.F_p_law_rng.kp T.b_p_law_rng .nil pass0 (pa_cons (pv 1) pa_nil)))
      (pss_cons (ps_for PassesOwn.never rfl (pi_range1 rfl T.z_range (pa_cons pe_int pa_nil)) (pg_name (i := 3) sc_law.nd rfl (Or.inl rfl)) (pss_cons (ps_set (i := 4) sc_law.nd rfl (Or.inl rfl) pe_int)
      (pss_cons (ps_for PassesOwn.never rfl (pi_range1 rfl T.z_range (pa_cons (pe_call (ok_p_law_draw T) (hr.mono (by decide)) rfl T.g_p_law_draw T.F_p_law_draw.kp T.b_p_law_draw .nil pass0 (pa_cons (pv 2) (pa_cons pe_int pa_nil))) pa_nil)) (pg_name (i := 5) sc_law.nd rfl (Or.inl rfl)) (pss_one (ps_set (i := 4) sc_law.nd rfl (Or.inl rfl) (pe_op op_addX (pe_op op_mulX pe_int (pv 4)) pe_int))))
      (pss_cons (ps_set (i := 6) sc_law.nd rfl (Or.inl rfl) (pe_call (ok_p_law_pick T) (hr.mono (by decide)) rfl T.g_p_law_pick T.F_p_law_pick.kp T.b_p_law_pick .nil pass0 (pa_cons (pv 2) (pa_cons (pe_lst (pa_cons (pv 4) (pa_cons (pe_callB (cr_max2 rfl) (by rfl) T.z_max (by decide +kernel) (pa_cons pe_int (pa_cons (pe_op op_subX (pv 4) pe_int) pa_nil))) (pa_cons (pe_op op_addX (pv 4) pe_int) (pa_cons (pe_call (ok_p_law_draw T) (hr.mono (by decide)) rfl T.g_p_law_draw T.F_p_law_draw.kp T.b_p_law_draw .nil pass0 (pa_cons (pv 2) (pa_cons (pe_op op_powX pe_int pe_int) pa_nil))) (pa_cons (pe_op op_powX pe_int pe_int) pa_nil)))))) pa_nil))))
      (pss_cons (ps_set (i := 6) sc_law.nd rfl (Or.inl rfl) (pe_callB (cr_min2 rfl) (by rfl) T.z_min (by decide +kernel) (pa_cons (pe_op op_powX pe_int pe_int) (pa_cons (pv 6) pa_nil))))
      (pss_one (ps_if (PW.pt (pw_or (pt_cmpR (op_neD hr.units) (pe_callB (call_reprA hgd (hu65 hr)) (by rfl) T.z_repr (by decide +kernel) (pa_cons (pe_call (ok_lasting T) (hr.mono (by decide)) rfl T.g_lasting T.F_lasting.kp T.b_lasting .nil passL (pa_cons (pv 6) pa_nil)) pa_nil)) (pe_callB (call_reprA hgd (hu65 hr)) (by rfl) T.z_repr (by decide +kernel) (pa_cons (pe_call (ok_p_law_due T) (hr.mono (by decide)) rfl T.g_p_law_due T.F_p_law_due.kp T.b_p_law_due .nil pass0 (pa_cons (pv 6) pa_nil)) pa_nil)) (nomark _)) (pw_or1 (pt_cmpR (op_neD hr.units) (pe_cmpR op_isNX (pe_call (ok_placed T) (hr.mono (by decide)) rfl T.g_placed T.F_placed.kp T.b_placed .nil passL (pa_cons (pv 6) pa_nil)) pe_non (nomark _)) (pe_cmpR op_ltX (pv 6) pe_int (nomark _)) (nomark _))))) (pss_one (ps_ret pe_bl)) pss_nil)))))))
      (pss_cons (ps_set (i := 7) sc_law.nd rfl (Or.inr rfl) (pe_call (ok_p_law_pick T) (hr.mono (by decide)) rfl T.g_p_law_pick T.F_p_law_pick.kp T.b_p_law_pick .nil pass0 (pa_cons (pv 2) (pa_cons (pe_lst (pa_cons (pe_un un_negX pe_int) (pa_cons (pe_op op_addX (pe_op op_powX pe_int pe_int) pe_int) (pa_cons pe_non (pa_cons pe_bl (pa_cons pe_bl (pa_cons pe_str (pa_cons (pe_lst (pa_cons pe_int pa_nil)) (pa_cons (pe_tup pa_nil) (pa_cons pe_dnewK pa_nil)))))))))) pa_nil))))
      (pss_one (ps_if (pt_cmpR (op_neD hr.units) (pe_lst (pa_cons (pe_lamL T.F_p_law_said sc_p_law_said T.b_p_law_said rfl T.g_p_law_said rfl (Or.inl rfl) (hr.mono (by decide)) (lmk0 tb (hcd.symm.trans hk) (List.mem_singleton.mpr rfl) (fun p hp _ => by rw [List.mem_singleton.mp hp]) (lmS_by (N := N_law) (sc := defScope s_law) (by decide +kernel)) rfl (fun _ _ _ _ _ _ => rfl)) (lmS_by (N := N_law) (sc := defScope s_law) (by decide +kernel)) (gl_p_law_said hgd T) (fun _ _ _ _ _ _ _ hr => (pe_callS (ok_lasting T) (hr.mono (by decide)) rfl T.g_lasting T.F_lasting.kp T.b_lasting (fun σ => passAt (takes_of rfl rfl rfl rfl) σ) (pa_cons (pv 7) pa_nil)))) (pa_cons (pe_lamL T.F_p_law_said sc_p_law_said T.b_p_law_said rfl T.g_p_law_said rfl (Or.inl rfl) (hr.mono (by decide)) (lmk1 tb (hcd.symm.trans hk) (List.mem_singleton.mpr rfl) (fun p hp _ => by rw [List.mem_singleton.mp hp]) (lmS_by (N := N_law) (sc := defScope s_law) (by decide +kernel)) rfl rfl rfl (fun _ _ _ _ _ _ _ => ⟨_, rfl, fun _ => rfl⟩)) (lmS_by (N := N_law) (sc := defScope s_law) (by decide +kernel)) (gl_p_law_said hgd T) (fun _ _ _ _ _ _ _ hr => (pe_callS (ok_placed T) (hr.mono (by decide)) rfl T.g_placed T.F_placed.kp T.b_placed (fun σ => passAt (takes_of rfl rfl rfl rfl) σ) (pa_cons (pv 7) pa_nil)))) pa_nil))) (pe_op op_mulX (pe_lst (pa_cons (pe_callB (call_reprA hgd (hu65 hr)) (by rfl) T.z_repr (by decide +kernel) (pa_cons (pv 7) pa_nil)) pa_nil)) pe_int) (nomark _)) (pss_one (ps_ret pe_bl)) pss_nil))))))
      (pss_one (ps_ret pe_bl)))),
    bodyVT (N := N_law) (fun _ _ => (ss_seq (ss_if (st_test (se_op sr_ne (se_new (sf_lc (vs := [6]) (by decide) (si_rng1 (se_c (fun _ => .int 31))) sg_name st_yes (se_call (sa_cons se_var sa_nil)))) (se_new (sf_call sa_nil)))) (ss_ret (se_c (fun _ => .bl false))) ss_next)
      (ss_seq (ss_for (si_any (se_sl (se_op sr_add se_var (se_new (sf_lst (sa_cons (se_c (fun _ => .int 0)) sa_nil)))) so_none (so_some (se_c (fun _ => .int 4))))) sg_name (ss_seq (ss_own (sf_call (sa_cons se_var sa_nil)))
      (ss_seq (ss_for (si_rng1 (se_c (fun _ => .int 10))) sg_name (ss_seq (ss_asg (se_c (fun _ => .int 0)) sg_name)
      (ss_seq (ss_for (si_rng1 (se_call (sa_cons se_var (sa_cons (se_c (fun _ => .int 62)) sa_nil)))) sg_name (ss_asg (se_op sr_add (se_op sr_mul (se_c (fun _ => .int 3)) se_var) (se_c (fun _ => .int 2))) sg_name))
      (ss_seq (ss_asg (se_call (sa_cons se_var (sa_cons (se_new (sf_lst (sa_cons se_var (sa_cons (se_cb sc_max2 (sa_cons (se_c (fun _ => .int 0)) (sa_cons (se_op sr_sub se_var (se_c (fun _ => .int 1))) sa_nil))) (sa_cons (se_op sr_add se_var (se_c (fun _ => .int 1))) (sa_cons (se_call (sa_cons se_var (sa_cons (se_op sr_pow (se_c (fun _ => .int 10)) (se_c (fun _ => .int 9))) sa_nil))) (sa_cons (se_op sr_pow (se_c (fun _ => .int 10)) (se_c (fun _ => .int 30))) sa_nil))))))) sa_nil))) sg_name)
      (ss_seq (ss_asg (se_cb sc_min2 (sa_cons (se_op sr_pow (se_c (fun _ => .int 10)) (se_c (fun _ => .int 30))) (sa_cons se_var sa_nil))) sg_name)
      (ss_if (st_or (st_test (se_op sr_ne (se_cb sc_reprA (sa_cons (se_call (sa_cons se_var sa_nil)) sa_nil)) (se_cb sc_reprA (sa_cons (se_call (sa_cons se_var sa_nil)) sa_nil)))) (st_test (se_op sr_ne (se_op sr_isN (se_call (sa_cons se_var sa_nil)) (se_c (fun _ => .non))) (se_op sr_cmp se_var (se_c (fun _ => .int 2)))))) (ss_ret (se_c (fun _ => .bl false))) ss_next))))))
      (ss_seq (ss_asg (se_call (sa_cons se_var (sa_cons (se_new (sf_lst (sa_cons (se_un su_neg (se_c (fun _ => .int 1))) (sa_cons (se_op sr_add (se_op sr_pow (se_c (fun _ => .int 10)) (se_c (fun _ => .int 30))) (se_c (fun _ => .int 1))) (sa_cons (se_c (fun _ => .non)) (sa_cons (se_c (fun _ => .bl true)) (sa_cons (se_c (fun _ => .bl false)) (sa_cons (se_c (fun _ => .str _)) (sa_cons (se_new (sf_lst (sa_cons (se_c (fun _ => .int 2)) sa_nil))) (sa_cons (se_tup sa_nil) (sa_cons (se_new sf_dnew) sa_nil))))))))))) sa_nil))) sg_name)
      (ss_if (st_test (se_op sr_ne (se_new (sf_lst (sa_cons (se_lamC (List.cons_ne_nil _ _) (fun _ => (se_callH (sa_cons se_var sa_nil)))) (sa_cons (se_lamC (List.cons_ne_nil _ _) (fun _ => (se_callH (sa_cons se_var sa_nil)))) sa_nil)))) (se_op sr_mul (se_new (sf_lst (sa_cons (se_cb sc_reprA (sa_cons se_var sa_nil)) sa_nil))) (se_c (fun _ => .int 2))))) (ss_ret (se_c (fun _ => .bl false))) ss_next)))))
      (ss_ret (se_c (fun _ => .bl true)))))) (by decide) h⟩)
end
end My
set_option autoImplicit false
set_option Elab.async false
set_option maxRecDepth 100000
set_option maxHeartbeats 400000
set_option linter.all false
namespace My
open PySem L2 Evl ClX DL
section
variable {K : PySem.W.Frag} (A : Ads)
def Rng (n : Nat) (d : D) : Prop := ∃ a b c : Int, d = .lst [.int a, .int b, .int c] ∧ 0 ≤ a ∧ 0 ≤ b ∧ b < 2147483629 ∧ 0 ≤ c ∧ c ≤ n
theorem Rng.mono {n m : Nat} {d : D} (h : Rng n d) (e : n ≤ m) : Rng m d := by
  obtain ⟨a, b, c, h1, h2, h3, h4, h5, h6⟩ := h
  exact ⟨a, b, c, h1, h2, h3, h4, h5, by omega⟩
theorem log_int {z : Int} (h0 : 0 ≤ z) (h1 : z < 2 ^ 64) : z.natAbs.log2 < 9000 := by
  obtain ⟨n, rfl⟩ := Int.eq_ofNat_of_zero_le h0
  rw [Int.natAbs_natCast]
  rcases Nat.eq_zero_or_pos n with e | e
  · subst e; decide
  · have := (Nat.log2_lt (by omega)).mpr (show n < 2 ^ 64 by omega)
    omega
theorem draw_ok {n : Nat} (hn : n < 1000000000) {w : D} (hw : Rng n w) {m : Int} (hm : 0 < m) (hm2 : m < 2 ^ 64) {q : D → List D → Prop} {er} (k : ∀ (x : Int) (w' : D), 0 ≤ x → x < m → Rng (n + 1) w' → q (.int x) [w']) :
    dsp_p_law_draw K A [.par w, .val (.int m)] q er := by
  obtain ⟨a, b, c, rfl, a0, b0, b1, c0, c1⟩ := hw
  have hml := log_int (by omega) hm2
  unfold dsp_p_law_draw body_p_law_draw
  have hp : D.pow (.int 10) (.int 18) = some (.int (10 ^ 18)) := D_pow ⟨by decide, by decide, by decide⟩
  by_cases ha : (10 : Int) ^ 18 ≤ a
  · simp -implicitDefEqProofs -dsimp only [idd_eq, Nat.reduceEqDiff, ↓w_seq, ↓w_if, ↓dTest, ↓dOp, ↓dUn, ↓w_var, ↓getS_val, ↓getS_own, ↓getS_par, ↓dC, rd_val, rd_bor, ownD_own, ownD_par, rds_nil, rds_cons, ↓w_asg, ↓dCB, ↓dCons, ↓dNil, ↓dgName, ↓dgTup, ↓dgCons, ↓dgNil, ↓w_setIx, ↓w_ret, ↓w_retF, ↓w_retN, ↓w_next, ↓w_drop, ↓w_own, ↓w_brk, ↓w_cnt, ↓w_setF, ↓w_dput, ↓w_body, ↓dN, ↓dCall, ↓dCallF, argsOf_nil, argsOf_val, argsOf_bor, bors, ↓dV, ↓dTup, ↓dLst, vals_nil, vals_val, ↓w_par, ↓w_par3, ↓w_parVO, ↓w_parOV, ↓w_parOO, ↓dTruth, ↓dIsi, ↓dIsiT, ↓dInO, insOf_ins, ↓dDNew, ↓dDGet, ↓dDIn, toTup_lst, toTup_tup, pf_nil, lk_self, key_str, key_int, isN_non, isNN_non, kno_int, kno_str, kno_lst, kno_tup, kno_bl, kno_non, tyV_int, tyV_bl, tyV_str, tyV_lst, tyV_tup, tyV_non, clV_ty, clVT_nil, clVT_val, kit_same, kit_int_bool, kit_bool_int, kits_list, kits_tuple, ↓dNot, ↓dAnd, ↓dOr, ↓dIf, ↓dAndV, ↓dOrV, ↓dNotV, ↓dChain, ↓dMeth, ↓dMethF, ↓dKw, ↓dSl, ↓dNoP, ↓dPart, ↓w_for, diRng1, diRng2, diRevR1, diEnumX, diAny, items_lst, items_tup, ↓dLc, ↓dDc, ↓dFld, ownAt_def, setD, Sl.setD, isPar0, isParS, isPN, isP_val, isP_own, isP_no, isP_par, ↓doF, outs_nil, outs_cons, parD_par, parIx, putOuts, wipeD, ↓dBodyF, ↓dAppend, D.isLst, cmp_int, bool_bl, toInt_int, toInt_bl, truth_bl, truth_int, truth_non, len_lst, len_tup, D_add, D_sub, D_mod, eq_int, ne_int, neg_int, ix0, ix1, ix2, ix3, ix4, tx0, tx1, tx2, sx0, sx1, sx2, List.length_cons, List.length_nil, List.cons_append, List.nil_append, List.replicate, Nat.reduceAdd, Nat.reduceSub, List.getElem?_cons_zero, List.getElem?_cons_succ, List.getElem?_nil, List.set_cons_zero, List.set_cons_succ, Option.bind_some, Option.map_some, Option.isSome_some, true_and, and_true, if_true, if_false, Bool.false_eq_true, reduceIte, Int.reduceBEq, Bool.not_true, Bool.not_false, List.nodup_cons, List.nodup_nil, List.not_mem_nil, not_false_eq_true, List.mem_cons, or_false, ↓opt_f, ↓optF_some, ↓ite_cd, ↓cd_true, ↓cd_false, ↓forL_f, ↓lcL_f, ↓dcL_f, ↓noEr_run, ↓w_frz, ↓getW_own, ↓dListRg1, ↓dIndex, ↓dCKw, ↓dMake, ↓dList, seq_lst, seq_tup, kwP1, kwP10, beq_self_eq_true, ↓dEqO, ↓dBinO, ↓dNev, tyV_dct, tyV_ins, kno_dct, clV_ptr, kit_sameR, nf_same, nf_none, nf_int, nf_bool, nf_str, nf_lst, nf_tup, nf_dct, ↓dLenO, eq_bl, ne_bl, ↓hot_run, ↓w_try, ↓w_try0, ↓erH_cons, ↓erH_nil, ↓shutD_mk, x1_mk, x2_mk, ↓w_rz, ↓dXf, ↓dIsX, ↓dBinS, ↓w_nest, ↓w_dnSeq, ↓w_dnT, ↓w_dnFrz, dnCons, dnNil, hideR, hid_val, hid_own, hid_par, hid_no, oL_none, oL_some, ltO_none, ltO_some, hidL_cons, hidL_nil, dgSq, ↓dLc2, lcL2_f, ↓dChain3, ↓w_seqP, ↓w_retT, ↓w_callT, ↓dIfF, ↓w_nestL, ↓w_dnSeq2, dnLc, ↓w_dnPar2, ↓w_dnFC, lcN_f, hp, decide_eq_true ha, D_mod hm, D_div (show CDivW a m from ⟨hm, hml⟩)]
    exact k _ _ (Int.emod_nonneg _ (by omega)) (Int.emod_lt_of_pos _ hm) ⟨_, _, _, rfl, Int.ediv_nonneg a0 (by omega), b0, b1, c0, by omega⟩
  · have h1 : D.mul (.int 7919) (.int (c + 1)) = some (.int (7919 * (c + 1))) := D_mul (Or.inl ⟨by decide, by decide⟩)
    have h2 : D.mul (.int (b + 7919 * (c + 1) + 1)) (.int 48271) = some (.int ((b + 7919 * (c + 1) + 1) * 48271)) := D_mul (Or.inl ⟨by omega, by omega⟩)
    generalize hX : (b + 7919 * (c + 1) + 1) * 48271 % 2147483647 = X
    have x0 : 0 ≤ X := by rw [← hX]; exact Int.emod_nonneg _ (by decide)
    have x1 : X < 2147483647 := by rw [← hX]; exact Int.emod_lt_of_pos _ (by decide)
    have h3 : D.fdiv (.int X) (.int 1013) = some (.int (X / 1013)) := D_div ⟨by decide, by decide⟩
    have h4 : D.mul (.int X) (.int (X / 1013 + 69621)) = some (.int (X * (X / 1013 + 69621))) := D_mul (Or.inl ⟨by omega, by omega⟩)
    generalize hY : X * (X / 1013 + 69621) % 2147483587 = Y
    have y0 : 0 ≤ Y := by rw [← hY]; exact Int.emod_nonneg _ (by decide)
    have y1 : Y < 2147483587 := by rw [← hY]; exact Int.emod_lt_of_pos _ (by decide)
    have h5 : D.fdiv (.int Y) (.int 7) = some (.int (Y / 7)) := D_div ⟨by decide, by decide⟩
    have h6 : D.mul (.int (Y % 7919)) (.int 40692) = some (.int (Y % 7919 * 40692)) := D_mul (Or.inl ⟨by omega, by omega⟩)
    have m1 : ∀ z : Int, D.mod (.int z) (.int 2147483647) = some (.int (z % 2147483647)) := fun z => D_mod (by decide)
    have m2 : ∀ z : Int, D.mod (.int z) (.int 2147483587) = some (.int (z % 2147483587)) := fun z => D_mod (by decide)
    have m3 : ∀ z : Int, D.mod (.int z) (.int 2147483399) = some (.int (z % 2147483399)) := fun z => D_mod (by decide)
    have m4 : ∀ z : Int, D.mod (.int z) (.int 7919) = some (.int (z % 7919)) := fun z => D_mod (by decide)
    simp -implicitDefEqProofs -dsimp only [idd_eq, Nat.reduceEqDiff, ↓w_seq, ↓w_if, ↓dTest, ↓dOp, ↓dUn, ↓w_var, ↓getS_val, ↓getS_own, ↓getS_par, ↓dC, rd_val, rd_bor, ownD_own, ownD_par, rds_nil, rds_cons, ↓w_asg, ↓dCB, ↓dCons, ↓dNil, ↓dgName, ↓dgTup, ↓dgCons, ↓dgNil, ↓w_setIx, ↓w_ret, ↓w_retF, ↓w_retN, ↓w_next, ↓w_drop, ↓w_own, ↓w_brk, ↓w_cnt, ↓w_setF, ↓w_dput, ↓w_body, ↓dN, ↓dCall, ↓dCallF, argsOf_nil, argsOf_val, argsOf_bor, bors, ↓dV, ↓dTup, ↓dLst, vals_nil, vals_val, ↓w_par, ↓w_par3, ↓w_parVO, ↓w_parOV, ↓w_parOO, ↓dTruth, ↓dIsi, ↓dIsiT, ↓dInO, insOf_ins, ↓dDNew, ↓dDGet, ↓dDIn, toTup_lst, toTup_tup, pf_nil, lk_self, key_str, key_int, isN_non, isNN_non, kno_int, kno_str, kno_lst, kno_tup, kno_bl, kno_non, tyV_int, tyV_bl, tyV_str, tyV_lst, tyV_tup, tyV_non, clV_ty, clVT_nil, clVT_val, kit_same, kit_int_bool, kit_bool_int, kits_list, kits_tuple, ↓dNot, ↓dAnd, ↓dOr, ↓dIf, ↓dAndV, ↓dOrV, ↓dNotV, ↓dChain, ↓dMeth, ↓dMethF, ↓dKw, ↓dSl, ↓dNoP, ↓dPart, ↓w_for, diRng1, diRng2, diRevR1, diEnumX, diAny, items_lst, items_tup, ↓dLc, ↓dDc, ↓dFld, ownAt_def, setD, Sl.setD, isPar0, isParS, isPN, isP_val, isP_own, isP_no, isP_par, ↓doF, outs_nil, outs_cons, parD_par, parIx, putOuts, wipeD, ↓dBodyF, ↓dAppend, D.isLst, cmp_int, bool_bl, toInt_int, toInt_bl, truth_bl, truth_int, truth_non, len_lst, len_tup, D_add, D_sub, D_mod, eq_int, ne_int, neg_int, ix0, ix1, ix2, ix3, ix4, tx0, tx1, tx2, sx0, sx1, sx2, List.length_cons, List.length_nil, List.cons_append, List.nil_append, List.replicate, Nat.reduceAdd, Nat.reduceSub, List.getElem?_cons_zero, List.getElem?_cons_succ, List.getElem?_nil, List.set_cons_zero, List.set_cons_succ, Option.bind_some, Option.map_some, Option.isSome_some, true_and, and_true, if_true, if_false, Bool.false_eq_true, reduceIte, Int.reduceBEq, Bool.not_true, Bool.not_false, List.nodup_cons, List.nodup_nil, List.not_mem_nil, not_false_eq_true, List.mem_cons, or_false, ↓opt_f, ↓optF_some, ↓ite_cd, ↓cd_true, ↓cd_false, ↓forL_f, ↓lcL_f, ↓dcL_f, ↓noEr_run, ↓w_frz, ↓getW_own, ↓dListRg1, ↓dIndex, ↓dCKw, ↓dMake, ↓dList, seq_lst, seq_tup, kwP1, kwP10, beq_self_eq_true, ↓dEqO, ↓dBinO, ↓dNev, tyV_dct, tyV_ins, kno_dct, clV_ptr, kit_sameR, nf_same, nf_none, nf_int, nf_bool, nf_str, nf_lst, nf_tup, nf_dct, ↓dLenO, eq_bl, ne_bl, ↓hot_run, ↓w_try, ↓w_try0, ↓erH_cons, ↓erH_nil, ↓shutD_mk, x1_mk, x2_mk, ↓w_rz, ↓dXf, ↓dIsX, ↓dBinS, ↓w_nest, ↓w_dnSeq, ↓w_dnT, ↓w_dnFrz, dnCons, dnNil, hideR, hid_val, hid_own, hid_par, hid_no, oL_none, oL_some, ltO_none, ltO_some, hidL_cons, hidL_nil, dgSq, ↓dLc2, lcL2_f, ↓dChain3, ↓w_seqP, ↓w_retT, ↓w_callT, ↓dIfF, ↓w_nestL, ↓w_dnSeq2, dnLc, ↓w_dnPar2, ↓w_dnFC, lcN_f, hp, decide_eq_false ha, h1, h2, m1, hX, h3, h4, m2, hY, h5, m4, h6, m3, D_mod hm]
    exact k _ _ (Int.emod_nonneg _ (by omega)) (Int.emod_lt_of_pos _ hm) ⟨_, _, _, rfl, a0, b0, b1, by omega, by omega⟩
theorem pick_ok {n : Nat} (hn : n < 1000000000) {w : D} (hw : Rng n w) {xs : List D} (hx : xs ≠ []) (hx2 : xs.length < 1000) {q : D → List D → Prop} {er} (k : ∀ (x : D) (w' : D), x ∈ xs → Rng (n + 1) w' → q x [w']) :
    dsp_p_law_pick K A [.par w, .val (.lst xs)] q er := by
  unfold dsp_p_law_pick body_p_law_pick
  have hp : 0 < xs.length := List.length_pos_iff.mpr hx
  simp -implicitDefEqProofs -dsimp only [idd_eq, Nat.reduceEqDiff, ↓w_seq, ↓w_if, ↓dTest, ↓dOp, ↓dUn, ↓w_var, ↓getS_val, ↓getS_own, ↓getS_par, ↓dC, rd_val, rd_bor, ownD_own, ownD_par, rds_nil, rds_cons, ↓w_asg, ↓dCB, ↓dCons, ↓dNil, ↓dgName, ↓dgTup, ↓dgCons, ↓dgNil, ↓w_setIx, ↓w_ret, ↓w_retF, ↓w_retN, ↓w_next, ↓w_drop, ↓w_own, ↓w_brk, ↓w_cnt, ↓w_setF, ↓w_dput, ↓w_body, ↓dN, ↓dCall, ↓dCallF, argsOf_nil, argsOf_val, argsOf_bor, bors, ↓dV, ↓dTup, ↓dLst, vals_nil, vals_val, ↓w_par, ↓w_par3, ↓w_parVO, ↓w_parOV, ↓w_parOO, ↓dTruth, ↓dIsi, ↓dIsiT, ↓dInO, insOf_ins, ↓dDNew, ↓dDGet, ↓dDIn, toTup_lst, toTup_tup, pf_nil, lk_self, key_str, key_int, isN_non, isNN_non, kno_int, kno_str, kno_lst, kno_tup, kno_bl, kno_non, tyV_int, tyV_bl, tyV_str, tyV_lst, tyV_tup, tyV_non, clV_ty, clVT_nil, clVT_val, kit_same, kit_int_bool, kit_bool_int, kits_list, kits_tuple, ↓dNot, ↓dAnd, ↓dOr, ↓dIf, ↓dAndV, ↓dOrV, ↓dNotV, ↓dChain, ↓dMeth, ↓dMethF, ↓dKw, ↓dSl, ↓dNoP, ↓dPart, ↓w_for, diRng1, diRng2, diRevR1, diEnumX, diAny, items_lst, items_tup, ↓dLc, ↓dDc, ↓dFld, ownAt_def, setD, Sl.setD, isPar0, isParS, isPN, isP_val, isP_own, isP_no, isP_par, ↓doF, outs_nil, outs_cons, parD_par, parIx, putOuts, wipeD, ↓dBodyF, ↓dAppend, D.isLst, cmp_int, bool_bl, toInt_int, toInt_bl, truth_bl, truth_int, truth_non, len_lst, len_tup, D_add, D_sub, D_mod, eq_int, ne_int, neg_int, ix0, ix1, ix2, ix3, ix4, tx0, tx1, tx2, sx0, sx1, sx2, List.length_cons, List.length_nil, List.cons_append, List.nil_append, List.replicate, Nat.reduceAdd, Nat.reduceSub, List.getElem?_cons_zero, List.getElem?_cons_succ, List.getElem?_nil, List.set_cons_zero, List.set_cons_succ, Option.bind_some, Option.map_some, Option.isSome_some, true_and, and_true, if_true, if_false, Bool.false_eq_true, reduceIte, Int.reduceBEq, Bool.not_true, Bool.not_false, List.nodup_cons, List.nodup_nil, List.not_mem_nil, not_false_eq_true, List.mem_cons, or_false, ↓opt_f, ↓optF_some, ↓ite_cd, ↓cd_true, ↓cd_false, ↓forL_f, ↓lcL_f, ↓dcL_f, ↓noEr_run, ↓w_frz, ↓getW_own, ↓dListRg1, ↓dIndex, ↓dCKw, ↓dMake, ↓dList, seq_lst, seq_tup, kwP1, kwP10, beq_self_eq_true, ↓dEqO, ↓dBinO, ↓dNev, tyV_dct, tyV_ins, kno_dct, clV_ptr, kit_sameR, nf_same, nf_none, nf_int, nf_bool, nf_str, nf_lst, nf_tup, nf_dct, ↓dLenO, eq_bl, ne_bl, ↓hot_run, ↓w_try, ↓w_try0, ↓erH_cons, ↓erH_nil, ↓shutD_mk, x1_mk, x2_mk, ↓w_rz, ↓dXf, ↓dIsX, ↓dBinS, ↓w_nest, ↓w_dnSeq, ↓w_dnT, ↓w_dnFrz, dnCons, dnNil, hideR, hid_val, hid_own, hid_par, hid_no, oL_none, oL_some, ltO_none, ltO_some, hidL_cons, hidL_nil, dgSq, ↓dLc2, lcL2_f, ↓dChain3, ↓w_seqP, ↓w_retT, ↓w_callT, ↓dIfF, ↓w_nestL, ↓w_dnSeq2, dnLc, ↓w_dnPar2, ↓w_dnFC, lcN_f, D.len]
  refine draw_ok A hn hw (by omega) (by omega) fun x w' x0 x1 hw' => ?_
  obtain ⟨i, rfl⟩ := Int.eq_ofNat_of_zero_le x0
  have hi : i < xs.length := by omega
  simp -implicitDefEqProofs -dsimp only [idd_eq, Nat.reduceEqDiff, ↓w_seq, ↓w_if, ↓dTest, ↓dOp, ↓dUn, ↓w_var, ↓getS_val, ↓getS_own, ↓getS_par, ↓dC, rd_val, rd_bor, ownD_own, ownD_par, rds_nil, rds_cons, ↓w_asg, ↓dCB, ↓dCons, ↓dNil, ↓dgName, ↓dgTup, ↓dgCons, ↓dgNil, ↓w_setIx, ↓w_ret, ↓w_retF, ↓w_retN, ↓w_next, ↓w_drop, ↓w_own, ↓w_brk, ↓w_cnt, ↓w_setF, ↓w_dput, ↓w_body, ↓dN, ↓dCall, ↓dCallF, argsOf_nil, argsOf_val, argsOf_bor, bors, ↓dV, ↓dTup, ↓dLst, vals_nil, vals_val, ↓w_par, ↓w_par3, ↓w_parVO, ↓w_parOV, ↓w_parOO, ↓dTruth, ↓dIsi, ↓dIsiT, ↓dInO, insOf_ins, ↓dDNew, ↓dDGet, ↓dDIn, toTup_lst, toTup_tup, pf_nil, lk_self, key_str, key_int, isN_non, isNN_non, kno_int, kno_str, kno_lst, kno_tup, kno_bl, kno_non, tyV_int, tyV_bl, tyV_str, tyV_lst, tyV_tup, tyV_non, clV_ty, clVT_nil, clVT_val, kit_same, kit_int_bool, kit_bool_int, kits_list, kits_tuple, ↓dNot, ↓dAnd, ↓dOr, ↓dIf, ↓dAndV, ↓dOrV, ↓dNotV, ↓dChain, ↓dMeth, ↓dMethF, ↓dKw, ↓dSl, ↓dNoP, ↓dPart, ↓w_for, diRng1, diRng2, diRevR1, diEnumX, diAny, items_lst, items_tup, ↓dLc, ↓dDc, ↓dFld, ownAt_def, setD, Sl.setD, isPar0, isParS, isPN, isP_val, isP_own, isP_no, isP_par, ↓doF, outs_nil, outs_cons, parD_par, parIx, putOuts, wipeD, ↓dBodyF, ↓dAppend, D.isLst, cmp_int, bool_bl, toInt_int, toInt_bl, truth_bl, truth_int, truth_non, len_lst, len_tup, D_add, D_sub, D_mod, eq_int, ne_int, neg_int, ix0, ix1, ix2, ix3, ix4, tx0, tx1, tx2, sx0, sx1, sx2, List.length_cons, List.length_nil, List.cons_append, List.nil_append, List.replicate, Nat.reduceAdd, Nat.reduceSub, List.getElem?_cons_zero, List.getElem?_cons_succ, List.getElem?_nil, List.set_cons_zero, List.set_cons_succ, Option.bind_some, Option.map_some, Option.isSome_some, true_and, and_true, if_true, if_false, Bool.false_eq_true, reduceIte, Int.reduceBEq, Bool.not_true, Bool.not_false, List.nodup_cons, List.nodup_nil, List.not_mem_nil, not_false_eq_true, List.mem_cons, or_false, ↓opt_f, ↓optF_some, ↓ite_cd, ↓cd_true, ↓cd_false, ↓forL_f, ↓lcL_f, ↓dcL_f, ↓noEr_run, ↓w_frz, ↓getW_own, ↓dListRg1, ↓dIndex, ↓dCKw, ↓dMake, ↓dList, seq_lst, seq_tup, kwP1, kwP10, beq_self_eq_true, ↓dEqO, ↓dBinO, ↓dNev, tyV_dct, tyV_ins, kno_dct, clV_ptr, kit_sameR, nf_same, nf_none, nf_int, nf_bool, nf_str, nf_lst, nf_tup, nf_dct, ↓dLenO, eq_bl, ne_bl, ↓hot_run, ↓w_try, ↓w_try0, ↓erH_cons, ↓erH_nil, ↓shutD_mk, x1_mk, x2_mk, ↓w_rz, ↓dXf, ↓dIsX, ↓dBinS, ↓w_nest, ↓w_dnSeq, ↓w_dnT, ↓w_dnFrz, dnCons, dnNil, hideR, hid_val, hid_own, hid_par, hid_no, oL_none, oL_some, ltO_none, ltO_some, hidL_cons, hidL_nil, dgSq, ↓dLc2, lcL2_f, ↓dChain3, ↓w_seqP, ↓w_retT, ↓w_callT, ↓dIfF, ↓w_nestL, ↓w_dnSeq2, dnLc, ↓w_dnPar2, ↓w_dnFC, lcN_f, ixn (xs := xs) rfl hi, List.getElem?_eq_getElem hi]
  exact k _ w' (List.getElem_mem hi) hw'
theorem rng_ok (c : Int) {q : D → List D → Prop} {er} (k : ∀ w', Rng 0 w' → q w' []) : dsp_p_law_rng K A [.val (.int c)] q er := by
  unfold dsp_p_law_rng body_p_law_rng
  have h3 : D.mod (.int c) (.int 2147483629) = some (.int (c % 2147483629)) := D_mod (by decide)
  have h4 : 0 + 1 + 1 + 1 ≤ sizeLine := by decide
  have h5 : D.abs [.int c] = some (.int (if c < 0 then -c else c)) := rfl
  simp -implicitDefEqProofs -dsimp only [idd_eq, Nat.reduceEqDiff, ↓w_seq, ↓w_if, ↓dTest, ↓dOp, ↓dUn, ↓w_var, ↓getS_val, ↓getS_own, ↓getS_par, ↓dC, rd_val, rd_bor, ownD_own, ownD_par, rds_nil, rds_cons, ↓w_asg, ↓dCB, ↓dCons, ↓dNil, ↓dgName, ↓dgTup, ↓dgCons, ↓dgNil, ↓w_setIx, ↓w_ret, ↓w_retF, ↓w_retN, ↓w_next, ↓w_drop, ↓w_own, ↓w_brk, ↓w_cnt, ↓w_setF, ↓w_dput, ↓w_body, ↓dN, ↓dCall, ↓dCallF, argsOf_nil, argsOf_val, argsOf_bor, bors, ↓dV, ↓dTup, ↓dLst, vals_nil, vals_val, ↓w_par, ↓w_par3, ↓w_parVO, ↓w_parOV, ↓w_parOO, ↓dTruth, ↓dIsi, ↓dIsiT, ↓dInO, insOf_ins, ↓dDNew, ↓dDGet, ↓dDIn, toTup_lst, toTup_tup, pf_nil, lk_self, key_str, key_int, isN_non, isNN_non, kno_int, kno_str, kno_lst, kno_tup, kno_bl, kno_non, tyV_int, tyV_bl, tyV_str, tyV_lst, tyV_tup, tyV_non, clV_ty, clVT_nil, clVT_val, kit_same, kit_int_bool, kit_bool_int, kits_list, kits_tuple, ↓dNot, ↓dAnd, ↓dOr, ↓dIf, ↓dAndV, ↓dOrV, ↓dNotV, ↓dChain, ↓dMeth, ↓dMethF, ↓dKw, ↓dSl, ↓dNoP, ↓dPart, ↓w_for, diRng1, diRng2, diRevR1, diEnumX, diAny, items_lst, items_tup, ↓dLc, ↓dDc, ↓dFld, ownAt_def, setD, Sl.setD, isPar0, isParS, isPN, isP_val, isP_own, isP_no, isP_par, ↓doF, outs_nil, outs_cons, parD_par, parIx, putOuts, wipeD, ↓dBodyF, ↓dAppend, D.isLst, cmp_int, bool_bl, toInt_int, toInt_bl, truth_bl, truth_int, truth_non, len_lst, len_tup, D_add, D_sub, D_mod, eq_int, ne_int, neg_int, ix0, ix1, ix2, ix3, ix4, tx0, tx1, tx2, sx0, sx1, sx2, List.length_cons, List.length_nil, List.cons_append, List.nil_append, List.replicate, Nat.reduceAdd, Nat.reduceSub, List.getElem?_cons_zero, List.getElem?_cons_succ, List.getElem?_nil, List.set_cons_zero, List.set_cons_succ, Option.bind_some, Option.map_some, Option.isSome_some, true_and, and_true, if_true, if_false, Bool.false_eq_true, reduceIte, Int.reduceBEq, Bool.not_true, Bool.not_false, List.nodup_cons, List.nodup_nil, List.not_mem_nil, not_false_eq_true, List.mem_cons, or_false, ↓opt_f, ↓optF_some, ↓ite_cd, ↓cd_true, ↓cd_false, ↓forL_f, ↓lcL_f, ↓dcL_f, ↓noEr_run, ↓w_frz, ↓getW_own, ↓dListRg1, ↓dIndex, ↓dCKw, ↓dMake, ↓dList, seq_lst, seq_tup, kwP1, kwP10, beq_self_eq_true, ↓dEqO, ↓dBinO, ↓dNev, tyV_dct, tyV_ins, kno_dct, clV_ptr, kit_sameR, nf_same, nf_none, nf_int, nf_bool, nf_str, nf_lst, nf_tup, nf_dct, ↓dLenO, eq_bl, ne_bl, ↓hot_run, ↓w_try, ↓w_try0, ↓erH_cons, ↓erH_nil, ↓shutD_mk, x1_mk, x2_mk, ↓w_rz, ↓dXf, ↓dIsX, ↓dBinS, ↓w_nest, ↓w_dnSeq, ↓w_dnT, ↓w_dnFrz, dnCons, dnNil, hideR, hid_val, hid_own, hid_par, hid_no, oL_none, oL_some, ltO_none, ltO_some, hidL_cons, hidL_nil, dgSq, ↓dLc2, lcL2_f, ↓dChain3, ↓w_seqP, ↓w_retT, ↓w_callT, ↓dIfF, ↓w_nestL, ↓w_dnSeq2, dnLc, ↓w_dnPar2, ↓w_dnFC, lcN_f, h5, h3, h4]
  exact k _ ⟨_, _, _, rfl, by split <;> omega, Int.emod_nonneg _ (by decide), Int.emod_lt_of_pos _ (by decide), by decide, by decide⟩
end
/-! how often a gap lasts -/
def lastN : Nat → Nat → Nat
  | 0, _ => 0
  | f + 1, n => if 2 ≤ n then lastN f ((n - 2) / 3) + 1 else 0
theorem lastN_fuel : ∀ (f g n : Nat), n ≤ f → n ≤ g → lastN f n = lastN g n
  | 0, 0, n, h, h2 => rfl
  | 0, g + 1, n, h, h2 => by
    have : n = 0 := by omega
    subst this; rfl
  | f + 1, 0, n, h, h2 => by
    have : n = 0 := by omega
    subst this; rfl
  | f + 1, g + 1, n, h, h2 => by
    unfold lastN
    by_cases c : 2 ≤ n
    · rw [if_pos c, if_pos c, lastN_fuel f g ((n - 2) / 3) (by omega) (by omega)]
    · rw [if_neg c, if_neg c]
def lst (n : Nat) : Nat := lastN n n
theorem lst_step {n : Nat} (h : 2 ≤ n) : lst n = lst ((n - 2) / 3) + 1 := by
  obtain ⟨m, rfl⟩ : ∃ m, n = m + 1 := ⟨n - 1, by omega⟩
  show lastN (m + 1) (m + 1) = _
  rw [lastN, if_pos h]
  rw [lastN_fuel m ((m + 1 - 2) / 3) _ (by omega) (Nat.le_refl _)]
  rfl
theorem lst_0 {n : Nat} (h : n < 2) : lst n = 0 := by
  match n, h with
  | 0, _ => rfl
  | 1, _ => rfl
theorem lst_pow : ∀ (f n : Nat), n ≤ f → 3 ^ lst n ≤ n + 1
  | 0, n, h => by
    have : n = 0 := by omega
    subst this; decide
  | f + 1, n, h => by
    by_cases c : 2 ≤ n
    · rw [lst_step c, Nat.pow_succ]
      have := lst_pow f ((n - 2) / 3) (by omega)
      omega
    · rw [lst_0 (by omega)]; omega
theorem lst_le {n : Nat} (h : n ≤ 10 ^ 30) : lst n ≤ 63 := by
  refine Classical.byContradiction fun c => ?_
  have h1 := lst_pow n n (Nat.le_refl _)
  have h2 : 3 ^ 64 ≤ 3 ^ lst n := Nat.pow_le_pow_right (by decide) (by omega)
  have h3 : 10 ^ 30 + 1 < 3 ^ 64 := by decide
  omega
theorem lst_mono : ∀ (f a b : Nat), b ≤ f → a ≤ b → lst a ≤ lst b
  | 0, a, b, h, h2 => by
    have : a = b := by omega
    subst this; exact Nat.le_refl _
  | f + 1, a, b, h, h2 => by
    by_cases c : 2 ≤ a
    · rw [lst_step c, lst_step (show 2 ≤ b by omega)]
      have := lst_mono f ((a - 2) / 3) ((b - 2) / 3) (by omega) (by omega)
      omega
    · rw [lst_0 (by omega)]; exact Nat.zero_le _
theorem div3 (n : Int) : D.fdiv (.int (n - 2)) (.int 3) = some (.int ((n - 2) / 3)) := D_div ⟨by decide, by decide⟩
theorem third {n : Int} (h : 2 ≤ n) : ((n - 2) / 3).toNat = (n.toNat - 2) / 3 ∧ 0 ≤ (n - 2) / 3 ∧ 3 * ((n - 2) / 3) ≤ n - 2 := by omega
section
variable {K : PySem.W.Frag} (A : Ads)
theorem isint_ok (n : Int) {q : D → List D → Prop} {er} (k : q (.bl true) []) : dsp_is_integer K A [.val (.int n)] q er := by
  unfold dsp_is_integer body_is_integer
  simp -implicitDefEqProofs -dsimp only [idd_eq, Nat.reduceEqDiff, ↓w_seq, ↓w_if, ↓dTest, ↓dOp, ↓dUn, ↓w_var, ↓getS_val, ↓getS_own, ↓getS_par, ↓dC, rd_val, rd_bor, ownD_own, ownD_par, rds_nil, rds_cons, ↓w_asg, ↓dCB, ↓dCons, ↓dNil, ↓dgName, ↓dgTup, ↓dgCons, ↓dgNil, ↓w_setIx, ↓w_ret, ↓w_retF, ↓w_retN, ↓w_next, ↓w_drop, ↓w_own, ↓w_brk, ↓w_cnt, ↓w_setF, ↓w_dput, ↓w_body, ↓dN, ↓dCall, ↓dCallF, argsOf_nil, argsOf_val, argsOf_bor, bors, ↓dV, ↓dTup, ↓dLst, vals_nil, vals_val, ↓w_par, ↓w_par3, ↓w_parVO, ↓w_parOV, ↓w_parOO, ↓dTruth, ↓dIsi, ↓dIsiT, ↓dInO, insOf_ins, ↓dDNew, ↓dDGet, ↓dDIn, toTup_lst, toTup_tup, pf_nil, lk_self, key_str, key_int, isN_non, isNN_non, kno_int, kno_str, kno_lst, kno_tup, kno_bl, kno_non, tyV_int, tyV_bl, tyV_str, tyV_lst, tyV_tup, tyV_non, clV_ty, clVT_nil, clVT_val, kit_same, kit_int_bool, kit_bool_int, kits_list, kits_tuple, ↓dNot, ↓dAnd, ↓dOr, ↓dIf, ↓dAndV, ↓dOrV, ↓dNotV, ↓dChain, ↓dMeth, ↓dMethF, ↓dKw, ↓dSl, ↓dNoP, ↓dPart, ↓w_for, diRng1, diRng2, diRevR1, diEnumX, diAny, items_lst, items_tup, ↓dLc, ↓dDc, ↓dFld, ownAt_def, setD, Sl.setD, isPar0, isParS, isPN, isP_val, isP_own, isP_no, isP_par, ↓doF, outs_nil, outs_cons, parD_par, parIx, putOuts, wipeD, ↓dBodyF, ↓dAppend, D.isLst, cmp_int, bool_bl, toInt_int, toInt_bl, truth_bl, truth_int, truth_non, len_lst, len_tup, D_add, D_sub, D_mod, eq_int, ne_int, neg_int, ix0, ix1, ix2, ix3, ix4, tx0, tx1, tx2, sx0, sx1, sx2, List.length_cons, List.length_nil, List.cons_append, List.nil_append, List.replicate, Nat.reduceAdd, Nat.reduceSub, List.getElem?_cons_zero, List.getElem?_cons_succ, List.getElem?_nil, List.set_cons_zero, List.set_cons_succ, Option.bind_some, Option.map_some, Option.isSome_some, true_and, and_true, if_true, if_false, Bool.false_eq_true, reduceIte, Int.reduceBEq, Bool.not_true, Bool.not_false, List.nodup_cons, List.nodup_nil, List.not_mem_nil, not_false_eq_true, List.mem_cons, or_false, ↓opt_f, ↓optF_some, ↓ite_cd, ↓cd_true, ↓cd_false, ↓forL_f, ↓lcL_f, ↓dcL_f, ↓noEr_run, ↓w_frz, ↓getW_own, ↓dListRg1, ↓dIndex, ↓dCKw, ↓dMake, ↓dList, seq_lst, seq_tup, kwP1, kwP10, beq_self_eq_true, ↓dEqO, ↓dBinO, ↓dNev, tyV_dct, tyV_ins, kno_dct, clV_ptr, kit_sameR, nf_same, nf_none, nf_int, nf_bool, nf_str, nf_lst, nf_tup, nf_dct, ↓dLenO, eq_bl, ne_bl, ↓hot_run, ↓w_try, ↓w_try0, ↓erH_cons, ↓erH_nil, ↓shutD_mk, x1_mk, x2_mk, ↓w_rz, ↓dXf, ↓dIsX, ↓dBinS, ↓w_nest, ↓w_dnSeq, ↓w_dnT, ↓w_dnFrz, dnCons, dnNil, hideR, hid_val, hid_own, hid_par, hid_no, oL_none, oL_some, ltO_none, ltO_some, hidL_cons, hidL_nil, dgSq, ↓dLc2, lcL2_f, ↓dChain3, ↓w_seqP, ↓w_retT, ↓w_callT, ↓dIfF, ↓w_nestL, ↓w_dnSeq2, dnLc, ↓w_dnPar2, ↓w_dnFC, lcN_f]
  exact k
theorem check_ok {n : Int} (h0 : 0 ≤ n) (h1 : n ≤ 10 ^ 30) {q : D → List D → Prop} {er} (k : q .non []) : dsp_p_check_count K A [.val (.int n)] q er := by
  unfold dsp_p_check_count body_p_check_count
  have h1' : n ≤ 1000000000000000000000000000000 := h1
  simp -implicitDefEqProofs -dsimp only [idd_eq, Nat.reduceEqDiff, ↓w_seq, ↓w_if, ↓dTest, ↓dOp, ↓dUn, ↓w_var, ↓getS_val, ↓getS_own, ↓getS_par, ↓dC, rd_val, rd_bor, ownD_own, ownD_par, rds_nil, rds_cons, ↓w_asg, ↓dCB, ↓dCons, ↓dNil, ↓dgName, ↓dgTup, ↓dgCons, ↓dgNil, ↓w_setIx, ↓w_ret, ↓w_retF, ↓w_retN, ↓w_next, ↓w_drop, ↓w_own, ↓w_brk, ↓w_cnt, ↓w_setF, ↓w_dput, ↓w_body, ↓dN, ↓dCall, ↓dCallF, argsOf_nil, argsOf_val, argsOf_bor, bors, ↓dV, ↓dTup, ↓dLst, vals_nil, vals_val, ↓w_par, ↓w_par3, ↓w_parVO, ↓w_parOV, ↓w_parOO, ↓dTruth, ↓dIsi, ↓dIsiT, ↓dInO, insOf_ins, ↓dDNew, ↓dDGet, ↓dDIn, toTup_lst, toTup_tup, pf_nil, lk_self, key_str, key_int, isN_non, isNN_non, kno_int, kno_str, kno_lst, kno_tup, kno_bl, kno_non, tyV_int, tyV_bl, tyV_str, tyV_lst, tyV_tup, tyV_non, clV_ty, clVT_nil, clVT_val, kit_same, kit_int_bool, kit_bool_int, kits_list, kits_tuple, ↓dNot, ↓dAnd, ↓dOr, ↓dIf, ↓dAndV, ↓dOrV, ↓dNotV, ↓dChain, ↓dMeth, ↓dMethF, ↓dKw, ↓dSl, ↓dNoP, ↓dPart, ↓w_for, diRng1, diRng2, diRevR1, diEnumX, diAny, items_lst, items_tup, ↓dLc, ↓dDc, ↓dFld, ownAt_def, setD, Sl.setD, isPar0, isParS, isPN, isP_val, isP_own, isP_no, isP_par, ↓doF, outs_nil, outs_cons, parD_par, parIx, putOuts, wipeD, ↓dBodyF, ↓dAppend, D.isLst, cmp_int, bool_bl, toInt_int, toInt_bl, truth_bl, truth_int, truth_non, len_lst, len_tup, D_add, D_sub, D_mod, eq_int, ne_int, neg_int, ix0, ix1, ix2, ix3, ix4, tx0, tx1, tx2, sx0, sx1, sx2, List.length_cons, List.length_nil, List.cons_append, List.nil_append, List.replicate, Nat.reduceAdd, Nat.reduceSub, List.getElem?_cons_zero, List.getElem?_cons_succ, List.getElem?_nil, List.set_cons_zero, List.set_cons_succ, Option.bind_some, Option.map_some, Option.isSome_some, true_and, and_true, if_true, if_false, Bool.false_eq_true, reduceIte, Int.reduceBEq, Bool.not_true, Bool.not_false, List.nodup_cons, List.nodup_nil, List.not_mem_nil, not_false_eq_true, List.mem_cons, or_false, ↓opt_f, ↓optF_some, ↓ite_cd, ↓cd_true, ↓cd_false, ↓forL_f, ↓lcL_f, ↓dcL_f, ↓noEr_run, ↓w_frz, ↓getW_own, ↓dListRg1, ↓dIndex, ↓dCKw, ↓dMake, ↓dList, seq_lst, seq_tup, kwP1, kwP10, beq_self_eq_true, ↓dEqO, ↓dBinO, ↓dNev, tyV_dct, tyV_ins, kno_dct, clV_ptr, kit_sameR, nf_same, nf_none, nf_int, nf_bool, nf_str, nf_lst, nf_tup, nf_dct, ↓dLenO, eq_bl, ne_bl, ↓hot_run, ↓w_try, ↓w_try0, ↓erH_cons, ↓erH_nil, ↓shutD_mk, x1_mk, x2_mk, ↓w_rz, ↓dXf, ↓dIsX, ↓dBinS, ↓w_nest, ↓w_dnSeq, ↓w_dnT, ↓w_dnFrz, dnCons, dnNil, hideR, hid_val, hid_own, hid_par, hid_no, oL_none, oL_some, ltO_none, ltO_some, hidL_cons, hidL_nil, dgSq, ↓dLc2, lcL2_f, ↓dChain3, ↓w_seqP, ↓w_retT, ↓w_callT, ↓dIfF, ↓w_nestL, ↓w_dnSeq2, dnLc, ↓w_dnPar2, ↓w_dnFC, lcN_f]
  refine isint_ok A n ?_
  simp -implicitDefEqProofs -dsimp only [idd_eq, Nat.reduceEqDiff, ↓w_seq, ↓w_if, ↓dTest, ↓dOp, ↓dUn, ↓w_var, ↓getS_val, ↓getS_own, ↓getS_par, ↓dC, rd_val, rd_bor, ownD_own, ownD_par, rds_nil, rds_cons, ↓w_asg, ↓dCB, ↓dCons, ↓dNil, ↓dgName, ↓dgTup, ↓dgCons, ↓dgNil, ↓w_setIx, ↓w_ret, ↓w_retF, ↓w_retN, ↓w_next, ↓w_drop, ↓w_own, ↓w_brk, ↓w_cnt, ↓w_setF, ↓w_dput, ↓w_body, ↓dN, ↓dCall, ↓dCallF, argsOf_nil, argsOf_val, argsOf_bor, bors, ↓dV, ↓dTup, ↓dLst, vals_nil, vals_val, ↓w_par, ↓w_par3, ↓w_parVO, ↓w_parOV, ↓w_parOO, ↓dTruth, ↓dIsi, ↓dIsiT, ↓dInO, insOf_ins, ↓dDNew, ↓dDGet, ↓dDIn, toTup_lst, toTup_tup, pf_nil, lk_self, key_str, key_int, isN_non, isNN_non, kno_int, kno_str, kno_lst, kno_tup, kno_bl, kno_non, tyV_int, tyV_bl, tyV_str, tyV_lst, tyV_tup, tyV_non, clV_ty, clVT_nil, clVT_val, kit_same, kit_int_bool, kit_bool_int, kits_list, kits_tuple, ↓dNot, ↓dAnd, ↓dOr, ↓dIf, ↓dAndV, ↓dOrV, ↓dNotV, ↓dChain, ↓dMeth, ↓dMethF, ↓dKw, ↓dSl, ↓dNoP, ↓dPart, ↓w_for, diRng1, diRng2, diRevR1, diEnumX, diAny, items_lst, items_tup, ↓dLc, ↓dDc, ↓dFld, ownAt_def, setD, Sl.setD, isPar0, isParS, isPN, isP_val, isP_own, isP_no, isP_par, ↓doF, outs_nil, outs_cons, parD_par, parIx, putOuts, wipeD, ↓dBodyF, ↓dAppend, D.isLst, cmp_int, bool_bl, toInt_int, toInt_bl, truth_bl, truth_int, truth_non, len_lst, len_tup, D_add, D_sub, D_mod, eq_int, ne_int, neg_int, ix0, ix1, ix2, ix3, ix4, tx0, tx1, tx2, sx0, sx1, sx2, List.length_cons, List.length_nil, List.cons_append, List.nil_append, List.replicate, Nat.reduceAdd, Nat.reduceSub, List.getElem?_cons_zero, List.getElem?_cons_succ, List.getElem?_nil, List.set_cons_zero, List.set_cons_succ, Option.bind_some, Option.map_some, Option.isSome_some, true_and, and_true, if_true, if_false, Bool.false_eq_true, reduceIte, Int.reduceBEq, Bool.not_true, Bool.not_false, List.nodup_cons, List.nodup_nil, List.not_mem_nil, not_false_eq_true, List.mem_cons, or_false, ↓opt_f, ↓optF_some, ↓ite_cd, ↓cd_true, ↓cd_false, ↓forL_f, ↓lcL_f, ↓dcL_f, ↓noEr_run, ↓w_frz, ↓getW_own, ↓dListRg1, ↓dIndex, ↓dCKw, ↓dMake, ↓dList, seq_lst, seq_tup, kwP1, kwP10, beq_self_eq_true, ↓dEqO, ↓dBinO, ↓dNev, tyV_dct, tyV_ins, kno_dct, clV_ptr, kit_sameR, nf_same, nf_none, nf_int, nf_bool, nf_str, nf_lst, nf_tup, nf_dct, ↓dLenO, eq_bl, ne_bl, ↓hot_run, ↓w_try, ↓w_try0, ↓erH_cons, ↓erH_nil, ↓shutD_mk, x1_mk, x2_mk, ↓w_rz, ↓dXf, ↓dIsX, ↓dBinS, ↓w_nest, ↓w_dnSeq, ↓w_dnT, ↓w_dnFrz, dnCons, dnNil, hideR, hid_val, hid_own, hid_par, hid_no, oL_none, oL_some, ltO_none, ltO_some, hidL_cons, hidL_nil, dgSq, ↓dLc2, lcL2_f, ↓dChain3, ↓w_seqP, ↓w_retT, ↓w_callT, ↓dIfF, ↓w_nestL, ↓w_dnSeq2, dnLc, ↓w_dnPar2, ↓w_dnFC, lcN_f, decide_eq_true h0, decide_eq_true h1']
  exact k
theorem lasting_ok {n : Int} (h0 : 0 ≤ n) (h1 : n ≤ 10 ^ 30) {q : D → List D → Prop} {er} (k : q (.int (lst n.toNat : Nat)) []) : dsp_lasting K A [.val (.int n)] q er := by
  unfold dsp_lasting body_lasting
  simp -implicitDefEqProofs -dsimp only [idd_eq, Nat.reduceEqDiff, ↓w_seq, ↓w_if, ↓dTest, ↓dOp, ↓dUn, ↓w_var, ↓getS_val, ↓getS_own, ↓getS_par, ↓dC, rd_val, rd_bor, ownD_own, ownD_par, rds_nil, rds_cons, ↓w_asg, ↓dCB, ↓dCons, ↓dNil, ↓dgName, ↓dgTup, ↓dgCons, ↓dgNil, ↓w_setIx, ↓w_ret, ↓w_retF, ↓w_retN, ↓w_next, ↓w_drop, ↓w_own, ↓w_brk, ↓w_cnt, ↓w_setF, ↓w_dput, ↓w_body, ↓dN, ↓dCall, ↓dCallF, argsOf_nil, argsOf_val, argsOf_bor, bors, ↓dV, ↓dTup, ↓dLst, vals_nil, vals_val, ↓w_par, ↓w_par3, ↓w_parVO, ↓w_parOV, ↓w_parOO, ↓dTruth, ↓dIsi, ↓dIsiT, ↓dInO, insOf_ins, ↓dDNew, ↓dDGet, ↓dDIn, toTup_lst, toTup_tup, pf_nil, lk_self, key_str, key_int, isN_non, isNN_non, kno_int, kno_str, kno_lst, kno_tup, kno_bl, kno_non, tyV_int, tyV_bl, tyV_str, tyV_lst, tyV_tup, tyV_non, clV_ty, clVT_nil, clVT_val, kit_same, kit_int_bool, kit_bool_int, kits_list, kits_tuple, ↓dNot, ↓dAnd, ↓dOr, ↓dIf, ↓dAndV, ↓dOrV, ↓dNotV, ↓dChain, ↓dMeth, ↓dMethF, ↓dKw, ↓dSl, ↓dNoP, ↓dPart, ↓w_for, diRng1, diRng2, diRevR1, diEnumX, diAny, items_lst, items_tup, ↓dLc, ↓dDc, ↓dFld, ownAt_def, setD, Sl.setD, isPar0, isParS, isPN, isP_val, isP_own, isP_no, isP_par, ↓doF, outs_nil, outs_cons, parD_par, parIx, putOuts, wipeD, ↓dBodyF, ↓dAppend, D.isLst, cmp_int, bool_bl, toInt_int, toInt_bl, truth_bl, truth_int, truth_non, len_lst, len_tup, D_add, D_sub, D_mod, eq_int, ne_int, neg_int, ix0, ix1, ix2, ix3, ix4, tx0, tx1, tx2, sx0, sx1, sx2, List.length_cons, List.length_nil, List.cons_append, List.nil_append, List.replicate, Nat.reduceAdd, Nat.reduceSub, List.getElem?_cons_zero, List.getElem?_cons_succ, List.getElem?_nil, List.set_cons_zero, List.set_cons_succ, Option.bind_some, Option.map_some, Option.isSome_some, true_and, and_true, if_true, if_false, Bool.false_eq_true, reduceIte, Int.reduceBEq, Bool.not_true, Bool.not_false, List.nodup_cons, List.nodup_nil, List.not_mem_nil, not_false_eq_true, List.mem_cons, or_false, ↓opt_f, ↓optF_some, ↓ite_cd, ↓cd_true, ↓cd_false, ↓forL_f, ↓lcL_f, ↓dcL_f, ↓noEr_run, ↓w_frz, ↓getW_own, ↓dListRg1, ↓dIndex, ↓dCKw, ↓dMake, ↓dList, seq_lst, seq_tup, kwP1, kwP10, beq_self_eq_true, ↓dEqO, ↓dBinO, ↓dNev, tyV_dct, tyV_ins, kno_dct, clV_ptr, kit_sameR, nf_same, nf_none, nf_int, nf_bool, nf_str, nf_lst, nf_tup, nf_dct, ↓dLenO, eq_bl, ne_bl, ↓hot_run, ↓w_try, ↓w_try0, ↓erH_cons, ↓erH_nil, ↓shutD_mk, x1_mk, x2_mk, ↓w_rz, ↓dXf, ↓dIsX, ↓dBinS, ↓w_nest, ↓w_dnSeq, ↓w_dnT, ↓w_dnFrz, dnCons, dnNil, hideR, hid_val, hid_own, hid_par, hid_no, oL_none, oL_some, ltO_none, ltO_some, hidL_cons, hidL_nil, dgSq, ↓dLc2, lcL2_f, ↓dChain3, ↓w_seqP, ↓w_retT, ↓w_callT, ↓dIfF, ↓w_nestL, ↓w_dnSeq2, dnLc, ↓w_dnPar2, ↓w_dnFC, lcN_f]
  refine check_ok A h0 h1 ?_
  simp -implicitDefEqProofs -dsimp only [idd_eq, Nat.reduceEqDiff, ↓w_seq, ↓w_if, ↓dTest, ↓dOp, ↓dUn, ↓w_var, ↓getS_val, ↓getS_own, ↓getS_par, ↓dC, rd_val, rd_bor, ownD_own, ownD_par, rds_nil, rds_cons, ↓w_asg, ↓dCB, ↓dCons, ↓dNil, ↓dgName, ↓dgTup, ↓dgCons, ↓dgNil, ↓w_setIx, ↓w_ret, ↓w_retF, ↓w_retN, ↓w_next, ↓w_drop, ↓w_own, ↓w_brk, ↓w_cnt, ↓w_setF, ↓w_dput, ↓w_body, ↓dN, ↓dCall, ↓dCallF, argsOf_nil, argsOf_val, argsOf_bor, bors, ↓dV, ↓dTup, ↓dLst, vals_nil, vals_val, ↓w_par, ↓w_par3, ↓w_parVO, ↓w_parOV, ↓w_parOO, ↓dTruth, ↓dIsi, ↓dIsiT, ↓dInO, insOf_ins, ↓dDNew, ↓dDGet, ↓dDIn, toTup_lst, toTup_tup, pf_nil, lk_self, key_str, key_int, isN_non, isNN_non, kno_int, kno_str, kno_lst, kno_tup, kno_bl, kno_non, tyV_int, tyV_bl, tyV_str, tyV_lst, tyV_tup, tyV_non, clV_ty, clVT_nil, clVT_val, kit_same, kit_int_bool, kit_bool_int, kits_list, kits_tuple, ↓dNot, ↓dAnd, ↓dOr, ↓dIf, ↓dAndV, ↓dOrV, ↓dNotV, ↓dChain, ↓dMeth, ↓dMethF, ↓dKw, ↓dSl, ↓dNoP, ↓dPart, ↓w_for, diRng1, diRng2, diRevR1, diEnumX, diAny, items_lst, items_tup, ↓dLc, ↓dDc, ↓dFld, ownAt_def, setD, Sl.setD, isPar0, isParS, isPN, isP_val, isP_own, isP_no, isP_par, ↓doF, outs_nil, outs_cons, parD_par, parIx, putOuts, wipeD, ↓dBodyF, ↓dAppend, D.isLst, cmp_int, bool_bl, toInt_int, toInt_bl, truth_bl, truth_int, truth_non, len_lst, len_tup, D_add, D_sub, D_mod, eq_int, ne_int, neg_int, ix0, ix1, ix2, ix3, ix4, tx0, tx1, tx2, sx0, sx1, sx2, List.length_cons, List.length_nil, List.cons_append, List.nil_append, List.replicate, Nat.reduceAdd, Nat.reduceSub, List.getElem?_cons_zero, List.getElem?_cons_succ, List.getElem?_nil, List.set_cons_zero, List.set_cons_succ, Option.bind_some, Option.map_some, Option.isSome_some, true_and, and_true, if_true, if_false, Bool.false_eq_true, reduceIte, Int.reduceBEq, Bool.not_true, Bool.not_false, List.nodup_cons, List.nodup_nil, List.not_mem_nil, not_false_eq_true, List.mem_cons, or_false, ↓opt_f, ↓optF_some, ↓ite_cd, ↓cd_true, ↓cd_false, ↓forL_f, ↓lcL_f, ↓dcL_f, ↓noEr_run, ↓w_frz, ↓getW_own, ↓dListRg1, ↓dIndex, ↓dCKw, ↓dMake, ↓dList, seq_lst, seq_tup, kwP1, kwP10, beq_self_eq_true, ↓dEqO, ↓dBinO, ↓dNev, tyV_dct, tyV_ins, kno_dct, clV_ptr, kit_sameR, nf_same, nf_none, nf_int, nf_bool, nf_str, nf_lst, nf_tup, nf_dct, ↓dLenO, eq_bl, ne_bl, ↓hot_run, ↓w_try, ↓w_try0, ↓erH_cons, ↓erH_nil, ↓shutD_mk, x1_mk, x2_mk, ↓w_rz, ↓dXf, ↓dIsX, ↓dBinS, ↓w_nest, ↓w_dnSeq, ↓w_dnT, ↓w_dnFrz, dnCons, dnNil, hideR, hid_val, hid_own, hid_par, hid_no, oL_none, oL_some, ltO_none, ltO_some, hidL_cons, hidL_nil, dgSq, ↓dLc2, lcL2_f, ↓dChain3, ↓w_seqP, ↓w_retT, ↓w_callT, ↓dIfF, ↓w_nestL, ↓w_dnSeq2, dnLc, ↓w_dnPar2, ↓w_dnFC, lcN_f]
  refine while_inv (m0 := n.toNat) (fun m ρ => ∃ (a : Int) (t : Nat), 0 ≤ a ∧ a ≤ 10 ^ 30 ∧ m = a.toNat ∧ lst a.toNat + t = lst n.toNat ∧ ρ = [.val (.int a), .val (.int (t : Nat))]) ⟨n, 0, h0, h1, rfl, rfl, rfl⟩ ?_
  rintro m ρ nx ⟨a, t, a0, a1, rfl, e, rfl⟩ hnx
  by_cases c : 2 ≤ a
  · simp -implicitDefEqProofs -dsimp only [idd_eq, Nat.reduceEqDiff, ↓w_seq, ↓w_if, ↓dTest, ↓dOp, ↓dUn, ↓w_var, ↓getS_val, ↓getS_own, ↓getS_par, ↓dC, rd_val, rd_bor, ownD_own, ownD_par, rds_nil, rds_cons, ↓w_asg, ↓dCB, ↓dCons, ↓dNil, ↓dgName, ↓dgTup, ↓dgCons, ↓dgNil, ↓w_setIx, ↓w_ret, ↓w_retF, ↓w_retN, ↓w_next, ↓w_drop, ↓w_own, ↓w_brk, ↓w_cnt, ↓w_setF, ↓w_dput, ↓w_body, ↓dN, ↓dCall, ↓dCallF, argsOf_nil, argsOf_val, argsOf_bor, bors, ↓dV, ↓dTup, ↓dLst, vals_nil, vals_val, ↓w_par, ↓w_par3, ↓w_parVO, ↓w_parOV, ↓w_parOO, ↓dTruth, ↓dIsi, ↓dIsiT, ↓dInO, insOf_ins, ↓dDNew, ↓dDGet, ↓dDIn, toTup_lst, toTup_tup, pf_nil, lk_self, key_str, key_int, isN_non, isNN_non, kno_int, kno_str, kno_lst, kno_tup, kno_bl, kno_non, tyV_int, tyV_bl, tyV_str, tyV_lst, tyV_tup, tyV_non, clV_ty, clVT_nil, clVT_val, kit_same, kit_int_bool, kit_bool_int, kits_list, kits_tuple, ↓dNot, ↓dAnd, ↓dOr, ↓dIf, ↓dAndV, ↓dOrV, ↓dNotV, ↓dChain, ↓dMeth, ↓dMethF, ↓dKw, ↓dSl, ↓dNoP, ↓dPart, ↓w_for, diRng1, diRng2, diRevR1, diEnumX, diAny, items_lst, items_tup, ↓dLc, ↓dDc, ↓dFld, ownAt_def, setD, Sl.setD, isPar0, isParS, isPN, isP_val, isP_own, isP_no, isP_par, ↓doF, outs_nil, outs_cons, parD_par, parIx, putOuts, wipeD, ↓dBodyF, ↓dAppend, D.isLst, cmp_int, bool_bl, toInt_int, toInt_bl, truth_bl, truth_int, truth_non, len_lst, len_tup, D_add, D_sub, D_mod, eq_int, ne_int, neg_int, ix0, ix1, ix2, ix3, ix4, tx0, tx1, tx2, sx0, sx1, sx2, List.length_cons, List.length_nil, List.cons_append, List.nil_append, List.replicate, Nat.reduceAdd, Nat.reduceSub, List.getElem?_cons_zero, List.getElem?_cons_succ, List.getElem?_nil, List.set_cons_zero, List.set_cons_succ, Option.bind_some, Option.map_some, Option.isSome_some, true_and, and_true, if_true, if_false, Bool.false_eq_true, reduceIte, Int.reduceBEq, Bool.not_true, Bool.not_false, List.nodup_cons, List.nodup_nil, List.not_mem_nil, not_false_eq_true, List.mem_cons, or_false, ↓opt_f, ↓optF_some, ↓ite_cd, ↓cd_true, ↓cd_false, ↓forL_f, ↓lcL_f, ↓dcL_f, ↓noEr_run, ↓w_frz, ↓getW_own, ↓dListRg1, ↓dIndex, ↓dCKw, ↓dMake, ↓dList, seq_lst, seq_tup, kwP1, kwP10, beq_self_eq_true, ↓dEqO, ↓dBinO, ↓dNev, tyV_dct, tyV_ins, kno_dct, clV_ptr, kit_sameR, nf_same, nf_none, nf_int, nf_bool, nf_str, nf_lst, nf_tup, nf_dct, ↓dLenO, eq_bl, ne_bl, ↓hot_run, ↓w_try, ↓w_try0, ↓erH_cons, ↓erH_nil, ↓shutD_mk, x1_mk, x2_mk, ↓w_rz, ↓dXf, ↓dIsX, ↓dBinS, ↓w_nest, ↓w_dnSeq, ↓w_dnT, ↓w_dnFrz, dnCons, dnNil, hideR, hid_val, hid_own, hid_par, hid_no, oL_none, oL_some, ltO_none, ltO_some, hidL_cons, hidL_nil, dgSq, ↓dLc2, lcL2_f, ↓dChain3, ↓w_seqP, ↓w_retT, ↓w_callT, ↓dIfF, ↓w_nestL, ↓w_dnSeq2, dnLc, ↓w_dnPar2, ↓w_dnFC, lcN_f, decide_eq_true c, div3, iadd_int]
    have e3 := third c
    refine hnx _ _ ?_ ⟨(a - 2) / 3, t + 1, e3.2.1, by omega, rfl, ?_, rfl⟩
    · omega
    · have := lst_step (n := a.toNat) (by omega)
      rw [e3.1]; omega
  · simp -implicitDefEqProofs -dsimp only [idd_eq, Nat.reduceEqDiff, ↓w_seq, ↓w_if, ↓dTest, ↓dOp, ↓dUn, ↓w_var, ↓getS_val, ↓getS_own, ↓getS_par, ↓dC, rd_val, rd_bor, ownD_own, ownD_par, rds_nil, rds_cons, ↓w_asg, ↓dCB, ↓dCons, ↓dNil, ↓dgName, ↓dgTup, ↓dgCons, ↓dgNil, ↓w_setIx, ↓w_ret, ↓w_retF, ↓w_retN, ↓w_next, ↓w_drop, ↓w_own, ↓w_brk, ↓w_cnt, ↓w_setF, ↓w_dput, ↓w_body, ↓dN, ↓dCall, ↓dCallF, argsOf_nil, argsOf_val, argsOf_bor, bors, ↓dV, ↓dTup, ↓dLst, vals_nil, vals_val, ↓w_par, ↓w_par3, ↓w_parVO, ↓w_parOV, ↓w_parOO, ↓dTruth, ↓dIsi, ↓dIsiT, ↓dInO, insOf_ins, ↓dDNew, ↓dDGet, ↓dDIn, toTup_lst, toTup_tup, pf_nil, lk_self, key_str, key_int, isN_non, isNN_non, kno_int, kno_str, kno_lst, kno_tup, kno_bl, kno_non, tyV_int, tyV_bl, tyV_str, tyV_lst, tyV_tup, tyV_non, clV_ty, clVT_nil, clVT_val, kit_same, kit_int_bool, kit_bool_int, kits_list, kits_tuple, ↓dNot, ↓dAnd, ↓dOr, ↓dIf, ↓dAndV, ↓dOrV, ↓dNotV, ↓dChain, ↓dMeth, ↓dMethF, ↓dKw, ↓dSl, ↓dNoP, ↓dPart, ↓w_for, diRng1, diRng2, diRevR1, diEnumX, diAny, items_lst, items_tup, ↓dLc, ↓dDc, ↓dFld, ownAt_def, setD, Sl.setD, isPar0, isParS, isPN, isP_val, isP_own, isP_no, isP_par, ↓doF, outs_nil, outs_cons, parD_par, parIx, putOuts, wipeD, ↓dBodyF, ↓dAppend, D.isLst, cmp_int, bool_bl, toInt_int, toInt_bl, truth_bl, truth_int, truth_non, len_lst, len_tup, D_add, D_sub, D_mod, eq_int, ne_int, neg_int, ix0, ix1, ix2, ix3, ix4, tx0, tx1, tx2, sx0, sx1, sx2, List.length_cons, List.length_nil, List.cons_append, List.nil_append, List.replicate, Nat.reduceAdd, Nat.reduceSub, List.getElem?_cons_zero, List.getElem?_cons_succ, List.getElem?_nil, List.set_cons_zero, List.set_cons_succ, Option.bind_some, Option.map_some, Option.isSome_some, true_and, and_true, if_true, if_false, Bool.false_eq_true, reduceIte, Int.reduceBEq, Bool.not_true, Bool.not_false, List.nodup_cons, List.nodup_nil, List.not_mem_nil, not_false_eq_true, List.mem_cons, or_false, ↓opt_f, ↓optF_some, ↓ite_cd, ↓cd_true, ↓cd_false, ↓forL_f, ↓lcL_f, ↓dcL_f, ↓noEr_run, ↓w_frz, ↓getW_own, ↓dListRg1, ↓dIndex, ↓dCKw, ↓dMake, ↓dList, seq_lst, seq_tup, kwP1, kwP10, beq_self_eq_true, ↓dEqO, ↓dBinO, ↓dNev, tyV_dct, tyV_ins, kno_dct, clV_ptr, kit_sameR, nf_same, nf_none, nf_int, nf_bool, nf_str, nf_lst, nf_tup, nf_dct, ↓dLenO, eq_bl, ne_bl, ↓hot_run, ↓w_try, ↓w_try0, ↓erH_cons, ↓erH_nil, ↓shutD_mk, x1_mk, x2_mk, ↓w_rz, ↓dXf, ↓dIsX, ↓dBinS, ↓w_nest, ↓w_dnSeq, ↓w_dnT, ↓w_dnFrz, dnCons, dnNil, hideR, hid_val, hid_own, hid_par, hid_no, oL_none, oL_some, ltO_none, ltO_some, hidL_cons, hidL_nil, dgSq, ↓dLc2, lcL2_f, ↓dChain3, ↓w_seqP, ↓w_retT, ↓w_callT, ↓dIfF, ↓w_nestL, ↓w_dnSeq2, dnLc, ↓w_dnPar2, ↓w_dnFC, lcN_f, decide_eq_false c]
    rw [lst_0 (show a.toNat < 2 by omega), Nat.zero_add] at e
    rw [e]
    exact k
theorem placed_no {n : Int} (h0 : 0 ≤ n) (h1 : n < 2) {q : D → List D → Prop} {er} (k : q .non []) : dsp_placed K A [.val (.int n)] q er := by
  unfold dsp_placed body_placed
  simp -implicitDefEqProofs -dsimp only [idd_eq, Nat.reduceEqDiff, ↓w_seq, ↓w_if, ↓dTest, ↓dOp, ↓dUn, ↓w_var, ↓getS_val, ↓getS_own, ↓getS_par, ↓dC, rd_val, rd_bor, ownD_own, ownD_par, rds_nil, rds_cons, ↓w_asg, ↓dCB, ↓dCons, ↓dNil, ↓dgName, ↓dgTup, ↓dgCons, ↓dgNil, ↓w_setIx, ↓w_ret, ↓w_retF, ↓w_retN, ↓w_next, ↓w_drop, ↓w_own, ↓w_brk, ↓w_cnt, ↓w_setF, ↓w_dput, ↓w_body, ↓dN, ↓dCall, ↓dCallF, argsOf_nil, argsOf_val, argsOf_bor, bors, ↓dV, ↓dTup, ↓dLst, vals_nil, vals_val, ↓w_par, ↓w_par3, ↓w_parVO, ↓w_parOV, ↓w_parOO, ↓dTruth, ↓dIsi, ↓dIsiT, ↓dInO, insOf_ins, ↓dDNew, ↓dDGet, ↓dDIn, toTup_lst, toTup_tup, pf_nil, lk_self, key_str, key_int, isN_non, isNN_non, kno_int, kno_str, kno_lst, kno_tup, kno_bl, kno_non, tyV_int, tyV_bl, tyV_str, tyV_lst, tyV_tup, tyV_non, clV_ty, clVT_nil, clVT_val, kit_same, kit_int_bool, kit_bool_int, kits_list, kits_tuple, ↓dNot, ↓dAnd, ↓dOr, ↓dIf, ↓dAndV, ↓dOrV, ↓dNotV, ↓dChain, ↓dMeth, ↓dMethF, ↓dKw, ↓dSl, ↓dNoP, ↓dPart, ↓w_for, diRng1, diRng2, diRevR1, diEnumX, diAny, items_lst, items_tup, ↓dLc, ↓dDc, ↓dFld, ownAt_def, setD, Sl.setD, isPar0, isParS, isPN, isP_val, isP_own, isP_no, isP_par, ↓doF, outs_nil, outs_cons, parD_par, parIx, putOuts, wipeD, ↓dBodyF, ↓dAppend, D.isLst, cmp_int, bool_bl, toInt_int, toInt_bl, truth_bl, truth_int, truth_non, len_lst, len_tup, D_add, D_sub, D_mod, eq_int, ne_int, neg_int, ix0, ix1, ix2, ix3, ix4, tx0, tx1, tx2, sx0, sx1, sx2, List.length_cons, List.length_nil, List.cons_append, List.nil_append, List.replicate, Nat.reduceAdd, Nat.reduceSub, List.getElem?_cons_zero, List.getElem?_cons_succ, List.getElem?_nil, List.set_cons_zero, List.set_cons_succ, Option.bind_some, Option.map_some, Option.isSome_some, true_and, and_true, if_true, if_false, Bool.false_eq_true, reduceIte, Int.reduceBEq, Bool.not_true, Bool.not_false, List.nodup_cons, List.nodup_nil, List.not_mem_nil, not_false_eq_true, List.mem_cons, or_false, ↓opt_f, ↓optF_some, ↓ite_cd, ↓cd_true, ↓cd_false, ↓forL_f, ↓lcL_f, ↓dcL_f, ↓noEr_run, ↓w_frz, ↓getW_own, ↓dListRg1, ↓dIndex, ↓dCKw, ↓dMake, ↓dList, seq_lst, seq_tup, kwP1, kwP10, beq_self_eq_true, ↓dEqO, ↓dBinO, ↓dNev, tyV_dct, tyV_ins, kno_dct, clV_ptr, kit_sameR, nf_same, nf_none, nf_int, nf_bool, nf_str, nf_lst, nf_tup, nf_dct, ↓dLenO, eq_bl, ne_bl, ↓hot_run, ↓w_try, ↓w_try0, ↓erH_cons, ↓erH_nil, ↓shutD_mk, x1_mk, x2_mk, ↓w_rz, ↓dXf, ↓dIsX, ↓dBinS, ↓w_nest, ↓w_dnSeq, ↓w_dnT, ↓w_dnFrz, dnCons, dnNil, hideR, hid_val, hid_own, hid_par, hid_no, oL_none, oL_some, ltO_none, ltO_some, hidL_cons, hidL_nil, dgSq, ↓dLc2, lcL2_f, ↓dChain3, ↓w_seqP, ↓w_retT, ↓w_callT, ↓dIfF, ↓w_nestL, ↓w_dnSeq2, dnLc, ↓w_dnPar2, ↓w_dnFC, lcN_f]
  refine check_ok A h0 (by omega) ?_
  simp -implicitDefEqProofs -dsimp only [idd_eq, Nat.reduceEqDiff, ↓w_seq, ↓w_if, ↓dTest, ↓dOp, ↓dUn, ↓w_var, ↓getS_val, ↓getS_own, ↓getS_par, ↓dC, rd_val, rd_bor, ownD_own, ownD_par, rds_nil, rds_cons, ↓w_asg, ↓dCB, ↓dCons, ↓dNil, ↓dgName, ↓dgTup, ↓dgCons, ↓dgNil, ↓w_setIx, ↓w_ret, ↓w_retF, ↓w_retN, ↓w_next, ↓w_drop, ↓w_own, ↓w_brk, ↓w_cnt, ↓w_setF, ↓w_dput, ↓w_body, ↓dN, ↓dCall, ↓dCallF, argsOf_nil, argsOf_val, argsOf_bor, bors, ↓dV, ↓dTup, ↓dLst, vals_nil, vals_val, ↓w_par, ↓w_par3, ↓w_parVO, ↓w_parOV, ↓w_parOO, ↓dTruth, ↓dIsi, ↓dIsiT, ↓dInO, insOf_ins, ↓dDNew, ↓dDGet, ↓dDIn, toTup_lst, toTup_tup, pf_nil, lk_self, key_str, key_int, isN_non, isNN_non, kno_int, kno_str, kno_lst, kno_tup, kno_bl, kno_non, tyV_int, tyV_bl, tyV_str, tyV_lst, tyV_tup, tyV_non, clV_ty, clVT_nil, clVT_val, kit_same, kit_int_bool, kit_bool_int, kits_list, kits_tuple, ↓dNot, ↓dAnd, ↓dOr, ↓dIf, ↓dAndV, ↓dOrV, ↓dNotV, ↓dChain, ↓dMeth, ↓dMethF, ↓dKw, ↓dSl, ↓dNoP, ↓dPart, ↓w_for, diRng1, diRng2, diRevR1, diEnumX, diAny, items_lst, items_tup, ↓dLc, ↓dDc, ↓dFld, ownAt_def, setD, Sl.setD, isPar0, isParS, isPN, isP_val, isP_own, isP_no, isP_par, ↓doF, outs_nil, outs_cons, parD_par, parIx, putOuts, wipeD, ↓dBodyF, ↓dAppend, D.isLst, cmp_int, bool_bl, toInt_int, toInt_bl, truth_bl, truth_int, truth_non, len_lst, len_tup, D_add, D_sub, D_mod, eq_int, ne_int, neg_int, ix0, ix1, ix2, ix3, ix4, tx0, tx1, tx2, sx0, sx1, sx2, List.length_cons, List.length_nil, List.cons_append, List.nil_append, List.replicate, Nat.reduceAdd, Nat.reduceSub, List.getElem?_cons_zero, List.getElem?_cons_succ, List.getElem?_nil, List.set_cons_zero, List.set_cons_succ, Option.bind_some, Option.map_some, Option.isSome_some, true_and, and_true, if_true, if_false, Bool.false_eq_true, reduceIte, Int.reduceBEq, Bool.not_true, Bool.not_false, List.nodup_cons, List.nodup_nil, List.not_mem_nil, not_false_eq_true, List.mem_cons, or_false, ↓opt_f, ↓optF_some, ↓ite_cd, ↓cd_true, ↓cd_false, ↓forL_f, ↓lcL_f, ↓dcL_f, ↓noEr_run, ↓w_frz, ↓getW_own, ↓dListRg1, ↓dIndex, ↓dCKw, ↓dMake, ↓dList, seq_lst, seq_tup, kwP1, kwP10, beq_self_eq_true, ↓dEqO, ↓dBinO, ↓dNev, tyV_dct, tyV_ins, kno_dct, clV_ptr, kit_sameR, nf_same, nf_none, nf_int, nf_bool, nf_str, nf_lst, nf_tup, nf_dct, ↓dLenO, eq_bl, ne_bl, ↓hot_run, ↓w_try, ↓w_try0, ↓erH_cons, ↓erH_nil, ↓shutD_mk, x1_mk, x2_mk, ↓w_rz, ↓dXf, ↓dIsX, ↓dBinS, ↓w_nest, ↓w_dnSeq, ↓w_dnT, ↓w_dnFrz, dnCons, dnNil, hideR, hid_val, hid_own, hid_par, hid_no, oL_none, oL_some, ltO_none, ltO_some, hidL_cons, hidL_nil, dgSq, ↓dLc2, lcL2_f, ↓dChain3, ↓w_seqP, ↓w_retT, ↓w_callT, ↓dIfF, ↓w_nestL, ↓w_dnSeq2, dnLc, ↓w_dnPar2, ↓w_dnFC, lcN_f, decide_eq_true h1]
  exact k
theorem placed_ok {n : Int} (h0 : 2 ≤ n) (h1 : n ≤ 10 ^ 30) {q : D → List D → Prop} {er} (k : q (.tup [.int ((n - 2) / 3), .int ((n - 2) / 3)]) []) : dsp_placed K A [.val (.int n)] q er := by
  unfold dsp_placed body_placed
  have h2 : 0 + 1 + 1 ≤ sizeLine := by decide
  simp -implicitDefEqProofs -dsimp only [idd_eq, Nat.reduceEqDiff, ↓w_seq, ↓w_if, ↓dTest, ↓dOp, ↓dUn, ↓w_var, ↓getS_val, ↓getS_own, ↓getS_par, ↓dC, rd_val, rd_bor, ownD_own, ownD_par, rds_nil, rds_cons, ↓w_asg, ↓dCB, ↓dCons, ↓dNil, ↓dgName, ↓dgTup, ↓dgCons, ↓dgNil, ↓w_setIx, ↓w_ret, ↓w_retF, ↓w_retN, ↓w_next, ↓w_drop, ↓w_own, ↓w_brk, ↓w_cnt, ↓w_setF, ↓w_dput, ↓w_body, ↓dN, ↓dCall, ↓dCallF, argsOf_nil, argsOf_val, argsOf_bor, bors, ↓dV, ↓dTup, ↓dLst, vals_nil, vals_val, ↓w_par, ↓w_par3, ↓w_parVO, ↓w_parOV, ↓w_parOO, ↓dTruth, ↓dIsi, ↓dIsiT, ↓dInO, insOf_ins, ↓dDNew, ↓dDGet, ↓dDIn, toTup_lst, toTup_tup, pf_nil, lk_self, key_str, key_int, isN_non, isNN_non, kno_int, kno_str, kno_lst, kno_tup, kno_bl, kno_non, tyV_int, tyV_bl, tyV_str, tyV_lst, tyV_tup, tyV_non, clV_ty, clVT_nil, clVT_val, kit_same, kit_int_bool, kit_bool_int, kits_list, kits_tuple, ↓dNot, ↓dAnd, ↓dOr, ↓dIf, ↓dAndV, ↓dOrV, ↓dNotV, ↓dChain, ↓dMeth, ↓dMethF, ↓dKw, ↓dSl, ↓dNoP, ↓dPart, ↓w_for, diRng1, diRng2, diRevR1, diEnumX, diAny, items_lst, items_tup, ↓dLc, ↓dDc, ↓dFld, ownAt_def, setD, Sl.setD, isPar0, isParS, isPN, isP_val, isP_own, isP_no, isP_par, ↓doF, outs_nil, outs_cons, parD_par, parIx, putOuts, wipeD, ↓dBodyF, ↓dAppend, D.isLst, cmp_int, bool_bl, toInt_int, toInt_bl, truth_bl, truth_int, truth_non, len_lst, len_tup, D_add, D_sub, D_mod, eq_int, ne_int, neg_int, ix0, ix1, ix2, ix3, ix4, tx0, tx1, tx2, sx0, sx1, sx2, List.length_cons, List.length_nil, List.cons_append, List.nil_append, List.replicate, Nat.reduceAdd, Nat.reduceSub, List.getElem?_cons_zero, List.getElem?_cons_succ, List.getElem?_nil, List.set_cons_zero, List.set_cons_succ, Option.bind_some, Option.map_some, Option.isSome_some, true_and, and_true, if_true, if_false, Bool.false_eq_true, reduceIte, Int.reduceBEq, Bool.not_true, Bool.not_false, List.nodup_cons, List.nodup_nil, List.not_mem_nil, not_false_eq_true, List.mem_cons, or_false, ↓opt_f, ↓optF_some, ↓ite_cd, ↓cd_true, ↓cd_false, ↓forL_f, ↓lcL_f, ↓dcL_f, ↓noEr_run, ↓w_frz, ↓getW_own, ↓dListRg1, ↓dIndex, ↓dCKw, ↓dMake, ↓dList, seq_lst, seq_tup, kwP1, kwP10, beq_self_eq_true, ↓dEqO, ↓dBinO, ↓dNev, tyV_dct, tyV_ins, kno_dct, clV_ptr, kit_sameR, nf_same, nf_none, nf_int, nf_bool, nf_str, nf_lst, nf_tup, nf_dct, ↓dLenO, eq_bl, ne_bl, ↓hot_run, ↓w_try, ↓w_try0, ↓erH_cons, ↓erH_nil, ↓shutD_mk, x1_mk, x2_mk, ↓w_rz, ↓dXf, ↓dIsX, ↓dBinS, ↓w_nest, ↓w_dnSeq, ↓w_dnT, ↓w_dnFrz, dnCons, dnNil, hideR, hid_val, hid_own, hid_par, hid_no, oL_none, oL_some, ltO_none, ltO_some, hidL_cons, hidL_nil, dgSq, ↓dLc2, lcL2_f, ↓dChain3, ↓w_seqP, ↓w_retT, ↓w_callT, ↓dIfF, ↓w_nestL, ↓w_dnSeq2, dnLc, ↓w_dnPar2, ↓w_dnFC, lcN_f]
  refine check_ok A (by omega) h1 ?_
  simp -implicitDefEqProofs -dsimp only [idd_eq, Nat.reduceEqDiff, ↓w_seq, ↓w_if, ↓dTest, ↓dOp, ↓dUn, ↓w_var, ↓getS_val, ↓getS_own, ↓getS_par, ↓dC, rd_val, rd_bor, ownD_own, ownD_par, rds_nil, rds_cons, ↓w_asg, ↓dCB, ↓dCons, ↓dNil, ↓dgName, ↓dgTup, ↓dgCons, ↓dgNil, ↓w_setIx, ↓w_ret, ↓w_retF, ↓w_retN, ↓w_next, ↓w_drop, ↓w_own, ↓w_brk, ↓w_cnt, ↓w_setF, ↓w_dput, ↓w_body, ↓dN, ↓dCall, ↓dCallF, argsOf_nil, argsOf_val, argsOf_bor, bors, ↓dV, ↓dTup, ↓dLst, vals_nil, vals_val, ↓w_par, ↓w_par3, ↓w_parVO, ↓w_parOV, ↓w_parOO, ↓dTruth, ↓dIsi, ↓dIsiT, ↓dInO, insOf_ins, ↓dDNew, ↓dDGet, ↓dDIn, toTup_lst, toTup_tup, pf_nil, lk_self, key_str, key_int, isN_non, isNN_non, kno_int, kno_str, kno_lst, kno_tup, kno_bl, kno_non, tyV_int, tyV_bl, tyV_str, tyV_lst, tyV_tup, tyV_non, clV_ty, clVT_nil, clVT_val, kit_same, kit_int_bool, kit_bool_int, kits_list, kits_tuple, ↓dNot, ↓dAnd, ↓dOr, ↓dIf, ↓dAndV, ↓dOrV, ↓dNotV, ↓dChain, ↓dMeth, ↓dMethF, ↓dKw, ↓dSl, ↓dNoP, ↓dPart, ↓w_for, diRng1, diRng2, diRevR1, diEnumX, diAny, items_lst, items_tup, ↓dLc, ↓dDc, ↓dFld, ownAt_def, setD, Sl.setD, isPar0, isParS, isPN, isP_val, isP_own, isP_no, isP_par, ↓doF, outs_nil, outs_cons, parD_par, parIx, putOuts, wipeD, ↓dBodyF, ↓dAppend, D.isLst, cmp_int, bool_bl, toInt_int, toInt_bl, truth_bl, truth_int, truth_non, len_lst, len_tup, D_add, D_sub, D_mod, eq_int, ne_int, neg_int, ix0, ix1, ix2, ix3, ix4, tx0, tx1, tx2, sx0, sx1, sx2, List.length_cons, List.length_nil, List.cons_append, List.nil_append, List.replicate, Nat.reduceAdd, Nat.reduceSub, List.getElem?_cons_zero, List.getElem?_cons_succ, List.getElem?_nil, List.set_cons_zero, List.set_cons_succ, Option.bind_some, Option.map_some, Option.isSome_some, true_and, and_true, if_true, if_false, Bool.false_eq_true, reduceIte, Int.reduceBEq, Bool.not_true, Bool.not_false, List.nodup_cons, List.nodup_nil, List.not_mem_nil, not_false_eq_true, List.mem_cons, or_false, ↓opt_f, ↓optF_some, ↓ite_cd, ↓cd_true, ↓cd_false, ↓forL_f, ↓lcL_f, ↓dcL_f, ↓noEr_run, ↓w_frz, ↓getW_own, ↓dListRg1, ↓dIndex, ↓dCKw, ↓dMake, ↓dList, seq_lst, seq_tup, kwP1, kwP10, beq_self_eq_true, ↓dEqO, ↓dBinO, ↓dNev, tyV_dct, tyV_ins, kno_dct, clV_ptr, kit_sameR, nf_same, nf_none, nf_int, nf_bool, nf_str, nf_lst, nf_tup, nf_dct, ↓dLenO, eq_bl, ne_bl, ↓hot_run, ↓w_try, ↓w_try0, ↓erH_cons, ↓erH_nil, ↓shutD_mk, x1_mk, x2_mk, ↓w_rz, ↓dXf, ↓dIsX, ↓dBinS, ↓w_nest, ↓w_dnSeq, ↓w_dnT, ↓w_dnFrz, dnCons, dnNil, hideR, hid_val, hid_own, hid_par, hid_no, oL_none, oL_some, ltO_none, ltO_some, hidL_cons, hidL_nil, dgSq, ↓dLc2, lcL2_f, ↓dChain3, ↓w_seqP, ↓w_retT, ↓w_callT, ↓dIfF, ↓w_nestL, ↓w_dnSeq2, dnLc, ↓w_dnPar2, ↓w_dnFC, lcN_f, decide_eq_false (show ¬ n < 2 by omega), div3, h2]
  exact k
end
end My
set_option autoImplicit false
set_option Elab.async false
set_option maxRecDepth 100000
set_option maxHeartbeats 400000
set_option linter.all false
namespace My
open PySem L2 Evl ClX DL
/-! the table of the first ones -/
def mx (a b : Nat) : Nat := if b > a then b else a
def mn3 (a b c : Nat) : Nat := if c < (if b < a then b else a) then c else (if b < a then b else a)
def inF (L : List Nat) (n b : Nat) (acc : Nat) (i : Nat) : Nat := mx acc (1 + mn3 (L.getD b 0) (L.getD i 0) (L.getD (n - 2 - b - i) 0))
def outF (L : List Nat) (n : Nat) (acc b : Nat) : Nat := (List.range (n - 1 - b)).foldl (inF L n b) acc
def bestF (L : List Nat) (n : Nat) : Nat := (List.range (n - 1)).foldl (outF L n) 0
def knownF : Nat → List Nat
  | 0 => [0, 0]
  | k + 1 => knownF k ++ [bestF (knownF k) (k + 2)]
theorem known_len : ∀ k, (knownF k).length = k + 2
  | 0 => rfl
  | k + 1 => by rw [knownF, List.length_append, known_len k]; rfl
theorem known_29 : knownF 29 = (List.range 31).map lst := by decide +kernel
theorem min3_nat (a b c : Nat) : DL.min3 (a : Int) (b : Int) (c : Int) = ((mn3 a b c : Nat) : Int) := by
  unfold DL.min3 mn3
  split <;> split <;> split <;> split <;> omega
theorem max2_nat (a b : Nat) : D.max2 [.int (a : Int), .int (b : Int)] = some (.int ((mx a b : Nat) : Int)) := by
  show some (D.int (if (b : Int) > (a : Int) then (b : Int) else (a : Int))) = _
  unfold mx
  by_cases h : b > a
  · rw [if_pos h, if_pos (by omega)]
  · rw [if_neg h, if_neg (by omega)]
def ni (L : List Nat) : D := .lst (L.map fun (x : Nat) => D.int (x : Int))
theorem ni_ix {L : List Nat} {i : Nat} (h : i < L.length) : D.ix (ni L) (.int (i : Int)) = some (.int ((L.getD i 0 : Nat) : Int)) := by
  have h2 : i < (L.map fun (x : Nat) => D.int (x : Int)).length := by rw [List.length_map]; exact h
  unfold ni
  rw [ixn (xs := L.map fun (x : Nat) => D.int (x : Int)) rfl h2, List.getElem?_map]
  simp [List.getD, List.getElem?_eq_getElem h]
section
variable {K : PySem.W.Frag} (A : Ads)
theorem known_ok {q : D → List D → Prop} {er} (k : q (ni (knownF 29)) []) : dsp_p_law_known K A [] q er := by
  unfold dsp_p_law_known body_p_law_known
  have h2 : 0 + 1 + 1 ≤ sizeLine := by decide
  have e0 : (D.lst [.int 0, .int 0]) = ni (knownF 0) := rfl
  simp -implicitDefEqProofs -dsimp only [idd_eq, Nat.reduceEqDiff, ↓w_seq, ↓w_if, ↓dTest, ↓dOp, ↓dUn, ↓w_var, ↓getS_val, ↓getS_own, ↓getS_par, ↓dC, rd_val, rd_bor, ownD_own, ownD_par, rds_nil, rds_cons, ↓w_asg, ↓dCB, ↓dCons, ↓dNil, ↓dgName, ↓dgTup, ↓dgCons, ↓dgNil, ↓w_setIx, ↓w_ret, ↓w_retF, ↓w_retN, ↓w_next, ↓w_drop, ↓w_own, ↓w_brk, ↓w_cnt, ↓w_setF, ↓w_dput, ↓w_body, ↓dN, ↓dCall, ↓dCallF, argsOf_nil, argsOf_val, argsOf_bor, bors, ↓dV, ↓dTup, ↓dLst, vals_nil, vals_val, ↓w_par, ↓w_par3, ↓w_parVO, ↓w_parOV, ↓w_parOO, ↓dTruth, ↓dIsi, ↓dIsiT, ↓dInO, insOf_ins, ↓dDNew, ↓dDGet, ↓dDIn, toTup_lst, toTup_tup, pf_nil, lk_self, key_str, key_int, isN_non, isNN_non, kno_int, kno_str, kno_lst, kno_tup, kno_bl, kno_non, tyV_int, tyV_bl, tyV_str, tyV_lst, tyV_tup, tyV_non, clV_ty, clVT_nil, clVT_val, kit_same, kit_int_bool, kit_bool_int, kits_list, kits_tuple, ↓dNot, ↓dAnd, ↓dOr, ↓dIf, ↓dAndV, ↓dOrV, ↓dNotV, ↓dChain, ↓dMeth, ↓dMethF, ↓dKw, ↓dSl, ↓dNoP, ↓dPart, ↓w_for, diRng1, diRng2, diRevR1, diEnumX, diAny, items_lst, items_tup, ↓dLc, ↓dDc, ↓dFld, ownAt_def, setD, Sl.setD, isPar0, isParS, isPN, isP_val, isP_own, isP_no, isP_par, ↓doF, outs_nil, outs_cons, parD_par, parIx, putOuts, wipeD, ↓dBodyF, ↓dAppend, D.isLst, cmp_int, bool_bl, toInt_int, toInt_bl, truth_bl, truth_int, truth_non, len_lst, len_tup, D_add, D_sub, D_mod, eq_int, ne_int, neg_int, ix0, ix1, ix2, ix3, ix4, tx0, tx1, tx2, sx0, sx1, sx2, List.length_cons, List.length_nil, List.cons_append, List.nil_append, List.replicate, Nat.reduceAdd, Nat.reduceSub, List.getElem?_cons_zero, List.getElem?_cons_succ, List.getElem?_nil, List.set_cons_zero, List.set_cons_succ, Option.bind_some, Option.map_some, Option.isSome_some, true_and, and_true, if_true, if_false, Bool.false_eq_true, reduceIte, Int.reduceBEq, Bool.not_true, Bool.not_false, List.nodup_cons, List.nodup_nil, List.not_mem_nil, not_false_eq_true, List.mem_cons, or_false, ↓opt_f, ↓optF_some, ↓ite_cd, ↓cd_true, ↓cd_false, ↓forL_f, ↓lcL_f, ↓dcL_f, ↓noEr_run, ↓w_frz, ↓getW_own, ↓dListRg1, ↓dIndex, ↓dCKw, ↓dMake, ↓dList, seq_lst, seq_tup, kwP1, kwP10, beq_self_eq_true, ↓dEqO, ↓dBinO, ↓dNev, tyV_dct, tyV_ins, kno_dct, clV_ptr, kit_sameR, nf_same, nf_none, nf_int, nf_bool, nf_str, nf_lst, nf_tup, nf_dct, ↓dLenO, eq_bl, ne_bl, ↓hot_run, ↓w_try, ↓w_try0, ↓erH_cons, ↓erH_nil, ↓shutD_mk, x1_mk, x2_mk, ↓w_rz, ↓dXf, ↓dIsX, ↓dBinS, ↓w_nest, ↓w_dnSeq, ↓w_dnT, ↓w_dnFrz, dnCons, dnNil, hideR, hid_val, hid_own, hid_par, hid_no, oL_none, oL_some, ltO_none, ltO_some, hidL_cons, hidL_nil, dgSq, ↓dLc2, lcL2_f, ↓dChain3, ↓w_seqP, ↓w_retT, ↓w_callT, ↓dIfF, ↓w_nestL, ↓w_dnSeq2, dnLc, ↓w_dnPar2, ↓w_dnFC, lcN_f, h2, Nat.reduceLT]
  rw [e0]
  refine ⟨⟨by decide, by decide, by decide, by decide⟩, ?_⟩
  refine forL_inv (fun i ρ => ∃ s1 s2 s3 s4, (s1.isP = false ∧ s2.isP = false ∧ s3.isP = false ∧ s4.isP = false) ∧ ρ = [.own (ni (knownF i)), s1, s2, s3, s4]) ⟨.no, .no, .no, .no, ⟨rfl, rfl, rfl, rfl⟩, rfl⟩ ?_ ?_
  · rintro i d ρ nx hd ⟨s1, s2, s3, s4, ⟨p1, p2, p3, p4⟩, rfl⟩ hnx
    have hi := (List.getElem?_eq_some_iff.mp hd).1
    have hi : i < 29 := by simpa using hi
    obtain rfl : d = .int (2 + (i : Int)) := by
      rw [List.getElem?_map, List.getElem?_range (by omega)] at hd
      exact (Option.some.inj hd).symm
    have hL := known_len i
    have hk : knownF (i + 1) = knownF i ++ [bestF (knownF i) (i + 2)] := rfl
    generalize knownF i = L at hL hk
    simp -implicitDefEqProofs -dsimp only [idd_eq, Nat.reduceEqDiff, ↓w_seq, ↓w_if, ↓dTest, ↓dOp, ↓dUn, ↓w_var, ↓getS_val, ↓getS_own, ↓getS_par, ↓dC, rd_val, rd_bor, ownD_own, ownD_par, rds_nil, rds_cons, ↓w_asg, ↓dCB, ↓dCons, ↓dNil, ↓dgName, ↓dgTup, ↓dgCons, ↓dgNil, ↓w_setIx, ↓w_ret, ↓w_retF, ↓w_retN, ↓w_next, ↓w_drop, ↓w_own, ↓w_brk, ↓w_cnt, ↓w_setF, ↓w_dput, ↓w_body, ↓dN, ↓dCall, ↓dCallF, argsOf_nil, argsOf_val, argsOf_bor, bors, ↓dV, ↓dTup, ↓dLst, vals_nil, vals_val, ↓w_par, ↓w_par3, ↓w_parVO, ↓w_parOV, ↓w_parOO, ↓dTruth, ↓dIsi, ↓dIsiT, ↓dInO, insOf_ins, ↓dDNew, ↓dDGet, ↓dDIn, toTup_lst, toTup_tup, pf_nil, lk_self, key_str, key_int, isN_non, isNN_non, kno_int, kno_str, kno_lst, kno_tup, kno_bl, kno_non, tyV_int, tyV_bl, tyV_str, tyV_lst, tyV_tup, tyV_non, clV_ty, clVT_nil, clVT_val, kit_same, kit_int_bool, kit_bool_int, kits_list, kits_tuple, ↓dNot, ↓dAnd, ↓dOr, ↓dIf, ↓dAndV, ↓dOrV, ↓dNotV, ↓dChain, ↓dMeth, ↓dMethF, ↓dKw, ↓dSl, ↓dNoP, ↓dPart, ↓w_for, diRng1, diRng2, diRevR1, diEnumX, diAny, items_lst, items_tup, ↓dLc, ↓dDc, ↓dFld, ownAt_def, setD, Sl.setD, isPar0, isParS, isPN, isP_val, isP_own, isP_no, isP_par, ↓doF, outs_nil, outs_cons, parD_par, parIx, putOuts, wipeD, ↓dBodyF, ↓dAppend, D.isLst, cmp_int, bool_bl, toInt_int, toInt_bl, truth_bl, truth_int, truth_non, len_lst, len_tup, D_add, D_sub, D_mod, eq_int, ne_int, neg_int, ix0, ix1, ix2, ix3, ix4, tx0, tx1, tx2, sx0, sx1, sx2, List.length_cons, List.length_nil, List.cons_append, List.nil_append, List.replicate, Nat.reduceAdd, Nat.reduceSub, List.getElem?_cons_zero, List.getElem?_cons_succ, List.getElem?_nil, List.set_cons_zero, List.set_cons_succ, Option.bind_some, Option.map_some, Option.isSome_some, true_and, and_true, if_true, if_false, Bool.false_eq_true, reduceIte, Int.reduceBEq, Bool.not_true, Bool.not_false, List.nodup_cons, List.nodup_nil, List.not_mem_nil, not_false_eq_true, List.mem_cons, or_false, ↓opt_f, ↓optF_some, ↓ite_cd, ↓cd_true, ↓cd_false, ↓forL_f, ↓lcL_f, ↓dcL_f, ↓noEr_run, ↓w_frz, ↓getW_own, ↓dListRg1, ↓dIndex, ↓dCKw, ↓dMake, ↓dList, seq_lst, seq_tup, kwP1, kwP10, beq_self_eq_true, ↓dEqO, ↓dBinO, ↓dNev, tyV_dct, tyV_ins, kno_dct, clV_ptr, kit_sameR, nf_same, nf_none, nf_int, nf_bool, nf_str, nf_lst, nf_tup, nf_dct, ↓dLenO, eq_bl, ne_bl, ↓hot_run, ↓w_try, ↓w_try0, ↓erH_cons, ↓erH_nil, ↓shutD_mk, x1_mk, x2_mk, ↓w_rz, ↓dXf, ↓dIsX, ↓dBinS, ↓w_nest, ↓w_dnSeq, ↓w_dnT, ↓w_dnFrz, dnCons, dnNil, hideR, hid_val, hid_own, hid_par, hid_no, oL_none, oL_some, ltO_none, ltO_some, hidL_cons, hidL_nil, dgSq, ↓dLc2, lcL2_f, ↓dChain3, ↓w_seqP, ↓w_retT, ↓w_callT, ↓dIfF, ↓w_nestL, ↓w_dnSeq2, dnLc, ↓w_dnPar2, ↓w_dnFC, lcN_f, p1, p2, p3, p4, Nat.reduceLT]
    have eb : ((2 + (i : Int)) - 1).toNat = i + 2 - 1 := by omega
    rw [eb]
    refine ⟨⟨by omega, by omega⟩, ?_⟩
    refine forL_inv (fun b ρ => ∃ s3 s4, (s3.isP = false ∧ s4.isP = false) ∧ ρ = [.own (ni L), .val (.int (2 + (i : Int))), .val (.int (((List.range b).foldl (outF L (i + 2)) 0 : Nat) : Int)), s3, s4]) ⟨s3, s4, ⟨p3, p4⟩, rfl⟩ ?_ ?_
    · rintro b d ρ nx2 hd2 ⟨s3, s4, ⟨p3, p4⟩, rfl⟩ hnx2
      have hb := (List.getElem?_eq_some_iff.mp hd2).1
      have hb : b < i + 2 - 1 := by simpa using hb
      obtain rfl : d = .int (b : Int) := by
        rw [List.getElem?_map, List.getElem?_range (by omega)] at hd2
        exact (Option.some.inj hd2).symm
      generalize hacc : (List.range b).foldl (outF L (i + 2)) 0 = acc
      simp -implicitDefEqProofs -dsimp only [idd_eq, Nat.reduceEqDiff, ↓w_seq, ↓w_if, ↓dTest, ↓dOp, ↓dUn, ↓w_var, ↓getS_val, ↓getS_own, ↓getS_par, ↓dC, rd_val, rd_bor, ownD_own, ownD_par, rds_nil, rds_cons, ↓w_asg, ↓dCB, ↓dCons, ↓dNil, ↓dgName, ↓dgTup, ↓dgCons, ↓dgNil, ↓w_setIx, ↓w_ret, ↓w_retF, ↓w_retN, ↓w_next, ↓w_drop, ↓w_own, ↓w_brk, ↓w_cnt, ↓w_setF, ↓w_dput, ↓w_body, ↓dN, ↓dCall, ↓dCallF, argsOf_nil, argsOf_val, argsOf_bor, bors, ↓dV, ↓dTup, ↓dLst, vals_nil, vals_val, ↓w_par, ↓w_par3, ↓w_parVO, ↓w_parOV, ↓w_parOO, ↓dTruth, ↓dIsi, ↓dIsiT, ↓dInO, insOf_ins, ↓dDNew, ↓dDGet, ↓dDIn, toTup_lst, toTup_tup, pf_nil, lk_self, key_str, key_int, isN_non, isNN_non, kno_int, kno_str, kno_lst, kno_tup, kno_bl, kno_non, tyV_int, tyV_bl, tyV_str, tyV_lst, tyV_tup, tyV_non, clV_ty, clVT_nil, clVT_val, kit_same, kit_int_bool, kit_bool_int, kits_list, kits_tuple, ↓dNot, ↓dAnd, ↓dOr, ↓dIf, ↓dAndV, ↓dOrV, ↓dNotV, ↓dChain, ↓dMeth, ↓dMethF, ↓dKw, ↓dSl, ↓dNoP, ↓dPart, ↓w_for, diRng1, diRng2, diRevR1, diEnumX, diAny, items_lst, items_tup, ↓dLc, ↓dDc, ↓dFld, ownAt_def, setD, Sl.setD, isPar0, isParS, isPN, isP_val, isP_own, isP_no, isP_par, ↓doF, outs_nil, outs_cons, parD_par, parIx, putOuts, wipeD, ↓dBodyF, ↓dAppend, D.isLst, cmp_int, bool_bl, toInt_int, toInt_bl, truth_bl, truth_int, truth_non, len_lst, len_tup, D_add, D_sub, D_mod, eq_int, ne_int, neg_int, ix0, ix1, ix2, ix3, ix4, tx0, tx1, tx2, sx0, sx1, sx2, List.length_cons, List.length_nil, List.cons_append, List.nil_append, List.replicate, Nat.reduceAdd, Nat.reduceSub, List.getElem?_cons_zero, List.getElem?_cons_succ, List.getElem?_nil, List.set_cons_zero, List.set_cons_succ, Option.bind_some, Option.map_some, Option.isSome_some, true_and, and_true, if_true, if_false, Bool.false_eq_true, reduceIte, Int.reduceBEq, Bool.not_true, Bool.not_false, List.nodup_cons, List.nodup_nil, List.not_mem_nil, not_false_eq_true, List.mem_cons, or_false, ↓opt_f, ↓optF_some, ↓ite_cd, ↓cd_true, ↓cd_false, ↓forL_f, ↓lcL_f, ↓dcL_f, ↓noEr_run, ↓w_frz, ↓getW_own, ↓dListRg1, ↓dIndex, ↓dCKw, ↓dMake, ↓dList, seq_lst, seq_tup, kwP1, kwP10, beq_self_eq_true, ↓dEqO, ↓dBinO, ↓dNev, tyV_dct, tyV_ins, kno_dct, clV_ptr, kit_sameR, nf_same, nf_none, nf_int, nf_bool, nf_str, nf_lst, nf_tup, nf_dct, ↓dLenO, eq_bl, ne_bl, ↓hot_run, ↓w_try, ↓w_try0, ↓erH_cons, ↓erH_nil, ↓shutD_mk, x1_mk, x2_mk, ↓w_rz, ↓dXf, ↓dIsX, ↓dBinS, ↓w_nest, ↓w_dnSeq, ↓w_dnT, ↓w_dnFrz, dnCons, dnNil, hideR, hid_val, hid_own, hid_par, hid_no, oL_none, oL_some, ltO_none, ltO_some, hidL_cons, hidL_nil, dgSq, ↓dLc2, lcL2_f, ↓dChain3, ↓w_seqP, ↓w_retT, ↓w_callT, ↓dIfF, ↓w_nestL, ↓w_dnSeq2, dnLc, ↓w_dnPar2, ↓w_dnFC, lcN_f, p3, p4, Nat.reduceLT]
      have eb2 : ((2 + (i : Int)) - 1 - (b : Int)).toNat = i + 2 - 1 - b := by omega
      rw [eb2]
      refine ⟨⟨by omega, by omega⟩, ?_⟩
      refine forL_inv (fun c ρ => ∃ s4, s4.isP = false ∧ ρ = [.own (ni L), .val (.int (2 + (i : Int))), .val (.int (((List.range c).foldl (inF L (i + 2) b) acc : Nat) : Int)), .val (.int (b : Int)), s4]) ⟨s4, p4, rfl⟩ ?_ ?_
      · rintro c d ρ nx3 hd3 ⟨s4, p4, rfl⟩ hnx3
        have hc := (List.getElem?_eq_some_iff.mp hd3).1
        have hc : c < i + 2 - 1 - b := by simpa using hc
        obtain rfl : d = .int (c : Int) := by
          rw [List.getElem?_map, List.getElem?_range (by omega)] at hd3
          exact (Option.some.inj hd3).symm
        have i1 := ni_ix (L := L) (i := b) (by omega)
        have i2 := ni_ix (L := L) (i := c) (by omega)
        have i3 := ni_ix (L := L) (i := i + 2 - 2 - b - c) (by omega)
        have e3 : ((i + 2 - 2 - b - c : Nat) : Int) = 2 + (i : Int) - 2 - (b : Int) - (c : Int) := by omega
        rw [e3] at i3
        have hm : ∀ x y z : Nat, D.min3 [.int (x : Int), .int (y : Int), .int (z : Int)] = some (.int ((mn3 x y z : Nat) : Int)) := fun x y z => by
          show some (D.int (DL.min3 _ _ _)) = _
          rw [min3_nat]
        simp -implicitDefEqProofs -dsimp only [idd_eq, Nat.reduceEqDiff, ↓w_seq, ↓w_if, ↓dTest, ↓dOp, ↓dUn, ↓w_var, ↓getS_val, ↓getS_own, ↓getS_par, ↓dC, rd_val, rd_bor, ownD_own, ownD_par, rds_nil, rds_cons, ↓w_asg, ↓dCB, ↓dCons, ↓dNil, ↓dgName, ↓dgTup, ↓dgCons, ↓dgNil, ↓w_setIx, ↓w_ret, ↓w_retF, ↓w_retN, ↓w_next, ↓w_drop, ↓w_own, ↓w_brk, ↓w_cnt, ↓w_setF, ↓w_dput, ↓w_body, ↓dN, ↓dCall, ↓dCallF, argsOf_nil, argsOf_val, argsOf_bor, bors, ↓dV, ↓dTup, ↓dLst, vals_nil, vals_val, ↓w_par, ↓w_par3, ↓w_parVO, ↓w_parOV, ↓w_parOO, ↓dTruth, ↓dIsi, ↓dIsiT, ↓dInO, insOf_ins, ↓dDNew, ↓dDGet, ↓dDIn, toTup_lst, toTup_tup, pf_nil, lk_self, key_str, key_int, isN_non, isNN_non, kno_int, kno_str, kno_lst, kno_tup, kno_bl, kno_non, tyV_int, tyV_bl, tyV_str, tyV_lst, tyV_tup, tyV_non, clV_ty, clVT_nil, clVT_val, kit_same, kit_int_bool, kit_bool_int, kits_list, kits_tuple, ↓dNot, ↓dAnd, ↓dOr, ↓dIf, ↓dAndV, ↓dOrV, ↓dNotV, ↓dChain, ↓dMeth, ↓dMethF, ↓dKw, ↓dSl, ↓dNoP, ↓dPart, ↓w_for, diRng1, diRng2, diRevR1, diEnumX, diAny, items_lst, items_tup, ↓dLc, ↓dDc, ↓dFld, ownAt_def, setD, Sl.setD, isPar0, isParS, isPN, isP_val, isP_own, isP_no, isP_par, ↓doF, outs_nil, outs_cons, parD_par, parIx, putOuts, wipeD, ↓dBodyF, ↓dAppend, D.isLst, cmp_int, bool_bl, toInt_int, toInt_bl, truth_bl, truth_int, truth_non, len_lst, len_tup, D_add, D_sub, D_mod, eq_int, ne_int, neg_int, ix0, ix1, ix2, ix3, ix4, tx0, tx1, tx2, sx0, sx1, sx2, List.length_cons, List.length_nil, List.cons_append, List.nil_append, List.replicate, Nat.reduceAdd, Nat.reduceSub, List.getElem?_cons_zero, List.getElem?_cons_succ, List.getElem?_nil, List.set_cons_zero, List.set_cons_succ, Option.bind_some, Option.map_some, Option.isSome_some, true_and, and_true, if_true, if_false, Bool.false_eq_true, reduceIte, Int.reduceBEq, Bool.not_true, Bool.not_false, List.nodup_cons, List.nodup_nil, List.not_mem_nil, not_false_eq_true, List.mem_cons, or_false, ↓opt_f, ↓optF_some, ↓ite_cd, ↓cd_true, ↓cd_false, ↓forL_f, ↓lcL_f, ↓dcL_f, ↓noEr_run, ↓w_frz, ↓getW_own, ↓dListRg1, ↓dIndex, ↓dCKw, ↓dMake, ↓dList, seq_lst, seq_tup, kwP1, kwP10, beq_self_eq_true, ↓dEqO, ↓dBinO, ↓dNev, tyV_dct, tyV_ins, kno_dct, clV_ptr, kit_sameR, nf_same, nf_none, nf_int, nf_bool, nf_str, nf_lst, nf_tup, nf_dct, ↓dLenO, eq_bl, ne_bl, ↓hot_run, ↓w_try, ↓w_try0, ↓erH_cons, ↓erH_nil, ↓shutD_mk, x1_mk, x2_mk, ↓w_rz, ↓dXf, ↓dIsX, ↓dBinS, ↓w_nest, ↓w_dnSeq, ↓w_dnT, ↓w_dnFrz, dnCons, dnNil, hideR, hid_val, hid_own, hid_par, hid_no, oL_none, oL_some, ltO_none, ltO_some, hidL_cons, hidL_nil, dgSq, ↓dLc2, lcL2_f, ↓dChain3, ↓w_seqP, ↓w_retT, ↓w_callT, ↓dIfF, ↓w_nestL, ↓w_dnSeq2, dnLc, ↓w_dnPar2, ↓w_dnFC, lcN_f, p4, Nat.reduceLT, i1, i2, i3, hm]
        have e4 : (1 : Int) + ((mn3 (L.getD b 0) (L.getD c 0) (L.getD (i + 2 - 2 - b - c) 0) : Nat) : Int) = ((1 + mn3 (L.getD b 0) (L.getD c 0) (L.getD (i + 2 - 2 - b - c) 0) : Nat) : Int) := by omega
        rw [e4]
        simp -implicitDefEqProofs -dsimp only [idd_eq, Nat.reduceEqDiff, ↓w_seq, ↓w_if, ↓dTest, ↓dOp, ↓dUn, ↓w_var, ↓getS_val, ↓getS_own, ↓getS_par, ↓dC, rd_val, rd_bor, ownD_own, ownD_par, rds_nil, rds_cons, ↓w_asg, ↓dCB, ↓dCons, ↓dNil, ↓dgName, ↓dgTup, ↓dgCons, ↓dgNil, ↓w_setIx, ↓w_ret, ↓w_retF, ↓w_retN, ↓w_next, ↓w_drop, ↓w_own, ↓w_brk, ↓w_cnt, ↓w_setF, ↓w_dput, ↓w_body, ↓dN, ↓dCall, ↓dCallF, argsOf_nil, argsOf_val, argsOf_bor, bors, ↓dV, ↓dTup, ↓dLst, vals_nil, vals_val, ↓w_par, ↓w_par3, ↓w_parVO, ↓w_parOV, ↓w_parOO, ↓dTruth, ↓dIsi, ↓dIsiT, ↓dInO, insOf_ins, ↓dDNew, ↓dDGet, ↓dDIn, toTup_lst, toTup_tup, pf_nil, lk_self, key_str, key_int, isN_non, isNN_non, kno_int, kno_str, kno_lst, kno_tup, kno_bl, kno_non, tyV_int, tyV_bl, tyV_str, tyV_lst, tyV_tup, tyV_non, clV_ty, clVT_nil, clVT_val, kit_same, kit_int_bool, kit_bool_int, kits_list, kits_tuple, ↓dNot, ↓dAnd, ↓dOr, ↓dIf, ↓dAndV, ↓dOrV, ↓dNotV, ↓dChain, ↓dMeth, ↓dMethF, ↓dKw, ↓dSl, ↓dNoP, ↓dPart, ↓w_for, diRng1, diRng2, diRevR1, diEnumX, diAny, items_lst, items_tup, ↓dLc, ↓dDc, ↓dFld, ownAt_def, setD, Sl.setD, isPar0, isParS, isPN, isP_val, isP_own, isP_no, isP_par, ↓doF, outs_nil, outs_cons, parD_par, parIx, putOuts, wipeD, ↓dBodyF, ↓dAppend, D.isLst, cmp_int, bool_bl, toInt_int, toInt_bl, truth_bl, truth_int, truth_non, len_lst, len_tup, D_add, D_sub, D_mod, eq_int, ne_int, neg_int, ix0, ix1, ix2, ix3, ix4, tx0, tx1, tx2, sx0, sx1, sx2, List.length_cons, List.length_nil, List.cons_append, List.nil_append, List.replicate, Nat.reduceAdd, Nat.reduceSub, List.getElem?_cons_zero, List.getElem?_cons_succ, List.getElem?_nil, List.set_cons_zero, List.set_cons_succ, Option.bind_some, Option.map_some, Option.isSome_some, true_and, and_true, if_true, if_false, Bool.false_eq_true, reduceIte, Int.reduceBEq, Bool.not_true, Bool.not_false, List.nodup_cons, List.nodup_nil, List.not_mem_nil, not_false_eq_true, List.mem_cons, or_false, ↓opt_f, ↓optF_some, ↓ite_cd, ↓cd_true, ↓cd_false, ↓forL_f, ↓lcL_f, ↓dcL_f, ↓noEr_run, ↓w_frz, ↓getW_own, ↓dListRg1, ↓dIndex, ↓dCKw, ↓dMake, ↓dList, seq_lst, seq_tup, kwP1, kwP10, beq_self_eq_true, ↓dEqO, ↓dBinO, ↓dNev, tyV_dct, tyV_ins, kno_dct, clV_ptr, kit_sameR, nf_same, nf_none, nf_int, nf_bool, nf_str, nf_lst, nf_tup, nf_dct, ↓dLenO, eq_bl, ne_bl, ↓hot_run, ↓w_try, ↓w_try0, ↓erH_cons, ↓erH_nil, ↓shutD_mk, x1_mk, x2_mk, ↓w_rz, ↓dXf, ↓dIsX, ↓dBinS, ↓w_nest, ↓w_dnSeq, ↓w_dnT, ↓w_dnFrz, dnCons, dnNil, hideR, hid_val, hid_own, hid_par, hid_no, oL_none, oL_some, ltO_none, ltO_some, hidL_cons, hidL_nil, dgSq, ↓dLc2, lcL2_f, ↓dChain3, ↓w_seqP, ↓w_retT, ↓w_callT, ↓dIfF, ↓w_nestL, ↓w_dnSeq2, dnLc, ↓w_dnPar2, ↓w_dnFC, lcN_f, p4, Nat.reduceLT, max2_nat]
        refine hnx3 _ ⟨.val (.int (c : Int)), rfl, ?_⟩
        rw [List.range_succ, List.foldl_append]
        rfl
      · rintro ρ ⟨s4, p4, rfl⟩
        rw [List.length_map, List.length_range]
        refine hnx2 _ ⟨.val (.int (b : Int)), s4, ⟨rfl, p4⟩, ?_⟩
        rw [List.range_succ, List.foldl_append, hacc]
        rfl
    · rintro ρ ⟨s3, s4, ⟨p3, p4⟩, rfl⟩
      rw [List.length_map, List.length_range]
      have hlen : (L.map fun (x : Nat) => D.int (x : Int)).length < sizeLine := by
        rw [List.length_map, hL]
        exact Nat.lt_of_lt_of_le (show i + 2 < 100 by omega) (by decide)
      unfold ni
      simp -implicitDefEqProofs -dsimp only [idd_eq, Nat.reduceEqDiff, ↓w_seq, ↓w_if, ↓dTest, ↓dOp, ↓dUn, ↓w_var, ↓getS_val, ↓getS_own, ↓getS_par, ↓dC, rd_val, rd_bor, ownD_own, ownD_par, rds_nil, rds_cons, ↓w_asg, ↓dCB, ↓dCons, ↓dNil, ↓dgName, ↓dgTup, ↓dgCons, ↓dgNil, ↓w_setIx, ↓w_ret, ↓w_retF, ↓w_retN, ↓w_next, ↓w_drop, ↓w_own, ↓w_brk, ↓w_cnt, ↓w_setF, ↓w_dput, ↓w_body, ↓dN, ↓dCall, ↓dCallF, argsOf_nil, argsOf_val, argsOf_bor, bors, ↓dV, ↓dTup, ↓dLst, vals_nil, vals_val, ↓w_par, ↓w_par3, ↓w_parVO, ↓w_parOV, ↓w_parOO, ↓dTruth, ↓dIsi, ↓dIsiT, ↓dInO, insOf_ins, ↓dDNew, ↓dDGet, ↓dDIn, toTup_lst, toTup_tup, pf_nil, lk_self, key_str, key_int, isN_non, isNN_non, kno_int, kno_str, kno_lst, kno_tup, kno_bl, kno_non, tyV_int, tyV_bl, tyV_str, tyV_lst, tyV_tup, tyV_non, clV_ty, clVT_nil, clVT_val, kit_same, kit_int_bool, kit_bool_int, kits_list, kits_tuple, ↓dNot, ↓dAnd, ↓dOr, ↓dIf, ↓dAndV, ↓dOrV, ↓dNotV, ↓dChain, ↓dMeth, ↓dMethF, ↓dKw, ↓dSl, ↓dNoP, ↓dPart, ↓w_for, diRng1, diRng2, diRevR1, diEnumX, diAny, items_lst, items_tup, ↓dLc, ↓dDc, ↓dFld, ownAt_def, setD, Sl.setD, isPar0, isParS, isPN, isP_val, isP_own, isP_no, isP_par, ↓doF, outs_nil, outs_cons, parD_par, parIx, putOuts, wipeD, ↓dBodyF, ↓dAppend, D.isLst, cmp_int, bool_bl, toInt_int, toInt_bl, truth_bl, truth_int, truth_non, len_lst, len_tup, D_add, D_sub, D_mod, eq_int, ne_int, neg_int, ix0, ix1, ix2, ix3, ix4, tx0, tx1, tx2, sx0, sx1, sx2, List.length_cons, List.length_nil, List.cons_append, List.nil_append, List.replicate, Nat.reduceAdd, Nat.reduceSub, List.getElem?_cons_zero, List.getElem?_cons_succ, List.getElem?_nil, List.set_cons_zero, List.set_cons_succ, Option.bind_some, Option.map_some, Option.isSome_some, true_and, and_true, if_true, if_false, Bool.false_eq_true, reduceIte, Int.reduceBEq, Bool.not_true, Bool.not_false, List.nodup_cons, List.nodup_nil, List.not_mem_nil, not_false_eq_true, List.mem_cons, or_false, ↓opt_f, ↓optF_some, ↓ite_cd, ↓cd_true, ↓cd_false, ↓forL_f, ↓lcL_f, ↓dcL_f, ↓noEr_run, ↓w_frz, ↓getW_own, ↓dListRg1, ↓dIndex, ↓dCKw, ↓dMake, ↓dList, seq_lst, seq_tup, kwP1, kwP10, beq_self_eq_true, ↓dEqO, ↓dBinO, ↓dNev, tyV_dct, tyV_ins, kno_dct, clV_ptr, kit_sameR, nf_same, nf_none, nf_int, nf_bool, nf_str, nf_lst, nf_tup, nf_dct, ↓dLenO, eq_bl, ne_bl, ↓hot_run, ↓w_try, ↓w_try0, ↓erH_cons, ↓erH_nil, ↓shutD_mk, x1_mk, x2_mk, ↓w_rz, ↓dXf, ↓dIsX, ↓dBinS, ↓w_nest, ↓w_dnSeq, ↓w_dnT, ↓w_dnFrz, dnCons, dnNil, hideR, hid_val, hid_own, hid_par, hid_no, oL_none, oL_some, ltO_none, ltO_some, hidL_cons, hidL_nil, dgSq, ↓dLc2, lcL2_f, ↓dChain3, ↓w_seqP, ↓w_retT, ↓w_callT, ↓dIfF, ↓w_nestL, ↓w_dnSeq2, dnLc, ↓w_dnPar2, ↓w_dnFC, lcN_f, Nat.reduceLT, hlen]
      refine hnx _ ⟨.val (.int (2 + (i : Int))), .val (.int ((bestF L (i + 2) : Nat) : Int)), s3, s4, ⟨rfl, rfl, p3, p4⟩, ?_⟩
      rw [hk]
      unfold ni
      rw [List.map_append]
      rfl
  · rintro ρ ⟨s1, s2, s3, s4, ⟨p1, p2, p3, p4⟩, rfl⟩
    simp -implicitDefEqProofs -dsimp only [idd_eq, Nat.reduceEqDiff, ↓w_seq, ↓w_if, ↓dTest, ↓dOp, ↓dUn, ↓w_var, ↓getS_val, ↓getS_own, ↓getS_par, ↓dC, rd_val, rd_bor, ownD_own, ownD_par, rds_nil, rds_cons, ↓w_asg, ↓dCB, ↓dCons, ↓dNil, ↓dgName, ↓dgTup, ↓dgCons, ↓dgNil, ↓w_setIx, ↓w_ret, ↓w_retF, ↓w_retN, ↓w_next, ↓w_drop, ↓w_own, ↓w_brk, ↓w_cnt, ↓w_setF, ↓w_dput, ↓w_body, ↓dN, ↓dCall, ↓dCallF, argsOf_nil, argsOf_val, argsOf_bor, bors, ↓dV, ↓dTup, ↓dLst, vals_nil, vals_val, ↓w_par, ↓w_par3, ↓w_parVO, ↓w_parOV, ↓w_parOO, ↓dTruth, ↓dIsi, ↓dIsiT, ↓dInO, insOf_ins, ↓dDNew, ↓dDGet, ↓dDIn, toTup_lst, toTup_tup, pf_nil, lk_self, key_str, key_int, isN_non, isNN_non, kno_int, kno_str, kno_lst, kno_tup, kno_bl, kno_non, tyV_int, tyV_bl, tyV_str, tyV_lst, tyV_tup, tyV_non, clV_ty, clVT_nil, clVT_val, kit_same, kit_int_bool, kit_bool_int, kits_list, kits_tuple, ↓dNot, ↓dAnd, ↓dOr, ↓dIf, ↓dAndV, ↓dOrV, ↓dNotV, ↓dChain, ↓dMeth, ↓dMethF, ↓dKw, ↓dSl, ↓dNoP, ↓dPart, ↓w_for, diRng1, diRng2, diRevR1, diEnumX, diAny, items_lst, items_tup, ↓dLc, ↓dDc, ↓dFld, ownAt_def, setD, Sl.setD, isPar0, isParS, isPN, isP_val, isP_own, isP_no, isP_par, ↓doF, outs_nil, outs_cons, parD_par, parIx, putOuts, wipeD, ↓dBodyF, ↓dAppend, D.isLst, cmp_int, bool_bl, toInt_int, toInt_bl, truth_bl, truth_int, truth_non, len_lst, len_tup, D_add, D_sub, D_mod, eq_int, ne_int, neg_int, ix0, ix1, ix2, ix3, ix4, tx0, tx1, tx2, sx0, sx1, sx2, List.length_cons, List.length_nil, List.cons_append, List.nil_append, List.replicate, Nat.reduceAdd, Nat.reduceSub, List.getElem?_cons_zero, List.getElem?_cons_succ, List.getElem?_nil, List.set_cons_zero, List.set_cons_succ, Option.bind_some, Option.map_some, Option.isSome_some, true_and, and_true, if_true, if_false, Bool.false_eq_true, reduceIte, Int.reduceBEq, Bool.not_true, Bool.not_false, List.nodup_cons, List.nodup_nil, List.not_mem_nil, not_false_eq_true, List.mem_cons, or_false, ↓opt_f, ↓optF_some, ↓ite_cd, ↓cd_true, ↓cd_false, ↓forL_f, ↓lcL_f, ↓dcL_f, ↓noEr_run, ↓w_frz, ↓getW_own, ↓dListRg1, ↓dIndex, ↓dCKw, ↓dMake, ↓dList, seq_lst, seq_tup, kwP1, kwP10, beq_self_eq_true, ↓dEqO, ↓dBinO, ↓dNev, tyV_dct, tyV_ins, kno_dct, clV_ptr, kit_sameR, nf_same, nf_none, nf_int, nf_bool, nf_str, nf_lst, nf_tup, nf_dct, ↓dLenO, eq_bl, ne_bl, ↓hot_run, ↓w_try, ↓w_try0, ↓erH_cons, ↓erH_nil, ↓shutD_mk, x1_mk, x2_mk, ↓w_rz, ↓dXf, ↓dIsX, ↓dBinS, ↓w_nest, ↓w_dnSeq, ↓w_dnT, ↓w_dnFrz, dnCons, dnNil, hideR, hid_val, hid_own, hid_par, hid_no, oL_none, oL_some, ltO_none, ltO_some, hidL_cons, hidL_nil, dgSq, ↓dLc2, lcL2_f, ↓dChain3, ↓w_seqP, ↓w_retT, ↓w_callT, ↓dIfF, ↓w_nestL, ↓w_dnSeq2, dnLc, ↓w_dnPar2, ↓w_dnFC, lcN_f, List.length_map, List.length_range]
    exact k
end
end My
set_option autoImplicit false
set_option Elab.async false
set_option maxRecDepth 100000
set_option maxHeartbeats 400000
set_option linter.all false
namespace My
open PySem L2 Evl ClX DL
theorem ok_ofString (s : String) : PyData.strOk (PySem.Str.ofString s) = true := by
  rw [PySem.Str.ofString_eq_toList]
  unfold PyData.strOk
  simp only [List.all_toArray, List.all_eq_true, List.mem_map, decide_eq_true_eq]
  rintro x ⟨c, _, rfl⟩
  have h := c.valid
  rcases h with h | h
  · exact Nat.lt_trans h (by decide)
  · exact h.2
theorem repr_int (i : Int) (h : i.natAbs.log2 < 1920) : D.reprA [.int i] = some (.str (PySem.Str.ofString (toString i))) := by
  show (if i.natAbs.log2 < 1920 then some (D.str (PySem.Str.ofString (toString i))) else none) = _
  rw [if_pos h]
theorem ne_ofS (s : String) : D.ne (.str (PySem.Str.ofString s)) (.str (PySem.Str.ofString s)) = some (.bl false) := (DL.eq_self (a := D.str (PySem.Str.ofString s)) (n := 1) (ok_ofString s) (by decide)).2
def odds : List D := [.int (-1), .int (10 ^ 30 + 1), .non, .bl true, .bl false, .str (PySem.Str.ofString "2"), .lst [.int 2], .tup [], .dct []]
def shownO : D → D
  | .int i => if i = -1 then .str (PySem.Str.ofString (toString (-1 : Int))) else .str (PySem.Str.ofString (toString ((10 : Int) ^ 30 + 1)))
  | .non => .str (PySem.Str.ofString "None")
  | .bl b => .str (if b then "True" else "False")
  | .str _ => .str (PySem.reprText (PySem.Str.ofString "2"))
  | .lst _ => .str (PyData.shown (.list [.int 2]))
  | .tup _ => .str (PyData.shown (.tuple []))
  | _ => .str (PySem.Str.ofString "{}")
theorem lg1 : (-1 : Int).natAbs.log2 < 1920 := by decide
theorem lg2 : ((10 : Int) ^ 30 + 1).natAbs.log2 < 1920 := by
  have h : ((10 : Int) ^ 30 + 1).natAbs < 2 ^ 200 := by decide
  have := (Nat.log2_lt (n := ((10 : Int) ^ 30 + 1).natAbs) (by decide)).mpr h
  omega
theorem reprO {d : D} (h : d ∈ odds) : D.reprA [d] = some (shownO d) := by
  simp only [odds, List.mem_cons, List.not_mem_nil, or_false] at h
  rcases h with rfl | rfl | rfl | rfl | rfl | rfl | rfl | rfl | rfl
  · exact repr_int _ lg1
  · exact repr_int _ lg2
  · rfl
  · rfl
  · rfl
  · show (if (PySem.reprText (PySem.Str.ofString "2")).length ≤ sizeLine then some (D.str (PySem.reprText (PySem.Str.ofString "2"))) else none) = _
    rw [if_pos (by decide +kernel)]; rfl
  · show (if (PyData.list [.int 2]).showable = true ∧ (PyData.list [.int 2]).hasDict = false ∧ (PyData.list [.int 2]).depth ≤ 60 ∧ (PyData.list [.int 2]).shown.length ≤ sizeLine then some (D.str (PyData.list [.int 2]).shown) else none) = _
    rw [if_pos (by decide +kernel)]; rfl
  · show (if (PyData.tuple []).showable = true ∧ (PyData.tuple []).hasDict = false ∧ (PyData.tuple []).depth ≤ 60 ∧ (PyData.tuple []).shown.length ≤ sizeLine then some (D.str (PyData.tuple []).shown) else none) = _
    rw [if_pos (by decide +kernel)]; rfl
  · rfl
theorem okO {d : D} (h : d ∈ odds) : (shownO d).nice 1 = true := by
  simp only [odds, List.mem_cons, List.not_mem_nil, or_false] at h
  rcases h with rfl | rfl | rfl | rfl | rfl | rfl | rfl | rfl | rfl
  · exact ok_ofString _
  · exact ok_ofString _
  · exact ok_ofString _
  · exact ok_ofString _
  · exact ok_ofString _
  · decide +kernel
  · decide +kernel
  · decide +kernel
  · exact ok_ofString _
section
variable {K : PySem.W.Frag} (A : Ads)
theorem j1 : PySem.W.kitOne K (.type "NoneType") (.type "int") = some false := by rfl
theorem j3 : PySem.W.kitOne K (.type "str") (.type "int") = some false := by rfl
theorem j4 : PySem.W.kitOne K (.type "list") (.type "int") = some false := by rfl
theorem j5 : PySem.W.kitOne K (.type "tuple") (.type "int") = some false := by rfl
theorem j6 : PySem.W.kitOne K (.type "dict") (.type "int") = some false := by rfl
theorem check_bad {d : D} (h : d ∈ odds) {q : D → List D → Prop} {er} (k : er A.c_NoCount [("free", d)] []) : dsp_p_check_count K A [.val d] q er := by
  unfold dsp_p_check_count body_p_check_count
  have x1v : ∀ d : D, x1 ("free" : Str) [d] = some [(("free" : Str), d)] := fun d => rfl
  simp -implicitDefEqProofs -dsimp only [idd_eq, Nat.reduceEqDiff, ↓w_seq, ↓w_if, ↓dTest, ↓dOp, ↓dUn, ↓w_var, ↓getS_val, ↓getS_own, ↓getS_par, ↓dC, rd_val, rd_bor, ownD_own, ownD_par, rds_nil, rds_cons, ↓w_asg, ↓dCB, ↓dCons, ↓dNil, ↓dgName, ↓dgTup, ↓dgCons, ↓dgNil, ↓w_setIx, ↓w_ret, ↓w_retF, ↓w_retN, ↓w_next, ↓w_drop, ↓w_own, ↓w_brk, ↓w_cnt, ↓w_setF, ↓w_dput, ↓w_body, ↓dN, ↓dCall, ↓dCallF, argsOf_nil, argsOf_val, argsOf_bor, bors, ↓dV, ↓dTup, ↓dLst, vals_nil, vals_val, ↓w_par, ↓w_par3, ↓w_parVO, ↓w_parOV, ↓w_parOO, ↓dTruth, ↓dIsi, ↓dIsiT, ↓dInO, insOf_ins, ↓dDNew, ↓dDGet, ↓dDIn, toTup_lst, toTup_tup, pf_nil, lk_self, key_str, key_int, isN_non, isNN_non, kno_int, kno_str, kno_lst, kno_tup, kno_bl, kno_non, tyV_int, tyV_bl, tyV_str, tyV_lst, tyV_tup, tyV_non, clV_ty, clVT_nil, clVT_val, kit_same, kit_int_bool, kit_bool_int, kits_list, kits_tuple, ↓dNot, ↓dAnd, ↓dOr, ↓dIf, ↓dAndV, ↓dOrV, ↓dNotV, ↓dChain, ↓dMeth, ↓dMethF, ↓dKw, ↓dSl, ↓dNoP, ↓dPart, ↓w_for, diRng1, diRng2, diRevR1, diEnumX, diAny, items_lst, items_tup, ↓dLc, ↓dDc, ↓dFld, ownAt_def, setD, Sl.setD, isPar0, isParS, isPN, isP_val, isP_own, isP_no, isP_par, ↓doF, outs_nil, outs_cons, parD_par, parIx, putOuts, wipeD, ↓dBodyF, ↓dAppend, D.isLst, cmp_int, bool_bl, toInt_int, toInt_bl, truth_bl, truth_int, truth_non, len_lst, len_tup, D_add, D_sub, D_mod, eq_int, ne_int, neg_int, ix0, ix1, ix2, ix3, ix4, tx0, tx1, tx2, sx0, sx1, sx2, List.length_cons, List.length_nil, List.cons_append, List.nil_append, List.replicate, Nat.reduceAdd, Nat.reduceSub, List.getElem?_cons_zero, List.getElem?_cons_succ, List.getElem?_nil, List.set_cons_zero, List.set_cons_succ, Option.bind_some, Option.map_some, Option.isSome_some, true_and, and_true, if_true, if_false, Bool.false_eq_true, reduceIte, Int.reduceBEq, Bool.not_true, Bool.not_false, List.nodup_cons, List.nodup_nil, List.not_mem_nil, not_false_eq_true, List.mem_cons, or_false, ↓opt_f, ↓optF_some, ↓ite_cd, ↓cd_true, ↓cd_false, ↓forL_f, ↓lcL_f, ↓dcL_f, ↓noEr_run, ↓w_frz, ↓getW_own, ↓dListRg1, ↓dIndex, ↓dCKw, ↓dMake, ↓dList, seq_lst, seq_tup, kwP1, kwP10, beq_self_eq_true, ↓dEqO, ↓dBinO, ↓dNev, tyV_dct, tyV_ins, kno_dct, clV_ptr, kit_sameR, nf_same, nf_none, nf_int, nf_bool, nf_str, nf_lst, nf_tup, nf_dct, ↓dLenO, eq_bl, ne_bl, ↓hot_run, ↓w_try, ↓w_try0, ↓erH_cons, ↓erH_nil, ↓shutD_mk, x1_mk, x2_mk, ↓w_rz, ↓dXf, ↓dIsX, ↓dBinS, ↓w_nest, ↓w_dnSeq, ↓w_dnT, ↓w_dnFrz, dnCons, dnNil, hideR, hid_val, hid_own, hid_par, hid_no, oL_none, oL_some, ltO_none, ltO_some, hidL_cons, hidL_nil, dgSq, ↓dLc2, lcL2_f, ↓dChain3, ↓w_seqP, ↓w_retT, ↓w_callT, ↓dIfF, ↓w_nestL, ↓w_dnSeq2, dnLc, ↓w_dnPar2, ↓w_dnFC, lcN_f]
  simp only [odds, List.mem_cons, List.not_mem_nil, or_false] at h
  rcases h with rfl | rfl | rfl | rfl | rfl | rfl | rfl | rfl | rfl
  · refine isint_ok A _ ?_
    simp -implicitDefEqProofs -dsimp only [idd_eq, Nat.reduceEqDiff, ↓w_seq, ↓w_if, ↓dTest, ↓dOp, ↓dUn, ↓w_var, ↓getS_val, ↓getS_own, ↓getS_par, ↓dC, rd_val, rd_bor, ownD_own, ownD_par, rds_nil, rds_cons, ↓w_asg, ↓dCB, ↓dCons, ↓dNil, ↓dgName, ↓dgTup, ↓dgCons, ↓dgNil, ↓w_setIx, ↓w_ret, ↓w_retF, ↓w_retN, ↓w_next, ↓w_drop, ↓w_own, ↓w_brk, ↓w_cnt, ↓w_setF, ↓w_dput, ↓w_body, ↓dN, ↓dCall, ↓dCallF, argsOf_nil, argsOf_val, argsOf_bor, bors, ↓dV, ↓dTup, ↓dLst, vals_nil, vals_val, ↓w_par, ↓w_par3, ↓w_parVO, ↓w_parOV, ↓w_parOO, ↓dTruth, ↓dIsi, ↓dIsiT, ↓dInO, insOf_ins, ↓dDNew, ↓dDGet, ↓dDIn, toTup_lst, toTup_tup, pf_nil, lk_self, key_str, key_int, isN_non, isNN_non, kno_int, kno_str, kno_lst, kno_tup, kno_bl, kno_non, tyV_int, tyV_bl, tyV_str, tyV_lst, tyV_tup, tyV_non, clV_ty, clVT_nil, clVT_val, kit_same, kit_int_bool, kit_bool_int, kits_list, kits_tuple, ↓dNot, ↓dAnd, ↓dOr, ↓dIf, ↓dAndV, ↓dOrV, ↓dNotV, ↓dChain, ↓dMeth, ↓dMethF, ↓dKw, ↓dSl, ↓dNoP, ↓dPart, ↓w_for, diRng1, diRng2, diRevR1, diEnumX, diAny, items_lst, items_tup, ↓dLc, ↓dDc, ↓dFld, ownAt_def, setD, Sl.setD, isPar0, isParS, isPN, isP_val, isP_own, isP_no, isP_par, ↓doF, outs_nil, outs_cons, parD_par, parIx, putOuts, wipeD, ↓dBodyF, ↓dAppend, D.isLst, cmp_int, bool_bl, toInt_int, toInt_bl, truth_bl, truth_int, truth_non, len_lst, len_tup, D_add, D_sub, D_mod, eq_int, ne_int, neg_int, ix0, ix1, ix2, ix3, ix4, tx0, tx1, tx2, sx0, sx1, sx2, List.length_cons, List.length_nil, List.cons_append, List.nil_append, List.replicate, Nat.reduceAdd, Nat.reduceSub, List.getElem?_cons_zero, List.getElem?_cons_succ, List.getElem?_nil, List.set_cons_zero, List.set_cons_succ, Option.bind_some, Option.map_some, Option.isSome_some, true_and, and_true, if_true, if_false, Bool.false_eq_true, reduceIte, Int.reduceBEq, Bool.not_true, Bool.not_false, List.nodup_cons, List.nodup_nil, List.not_mem_nil, not_false_eq_true, List.mem_cons, or_false, ↓opt_f, ↓optF_some, ↓ite_cd, ↓cd_true, ↓cd_false, ↓forL_f, ↓lcL_f, ↓dcL_f, ↓noEr_run, ↓w_frz, ↓getW_own, ↓dListRg1, ↓dIndex, ↓dCKw, ↓dMake, ↓dList, seq_lst, seq_tup, kwP1, kwP10, beq_self_eq_true, ↓dEqO, ↓dBinO, ↓dNev, tyV_dct, tyV_ins, kno_dct, clV_ptr, kit_sameR, nf_same, nf_none, nf_int, nf_bool, nf_str, nf_lst, nf_tup, nf_dct, ↓dLenO, eq_bl, ne_bl, ↓hot_run, ↓w_try, ↓w_try0, ↓erH_cons, ↓erH_nil, ↓shutD_mk, x1_mk, x2_mk, ↓w_rz, ↓dXf, ↓dIsX, ↓dBinS, ↓w_nest, ↓w_dnSeq, ↓w_dnT, ↓w_dnFrz, dnCons, dnNil, hideR, hid_val, hid_own, hid_par, hid_no, oL_none, oL_some, ltO_none, ltO_some, hidL_cons, hidL_nil, dgSq, ↓dLc2, lcL2_f, ↓dChain3, ↓w_seqP, ↓w_retT, ↓w_callT, ↓dIfF, ↓w_nestL, ↓w_dnSeq2, dnLc, ↓w_dnPar2, ↓w_dnFC, lcN_f, decide_eq_false (show ¬ (0 : Int) ≤ -1 by decide), x1v]
    exact k
  · refine isint_ok A _ ?_
    simp -implicitDefEqProofs -dsimp only [idd_eq, Nat.reduceEqDiff, ↓w_seq, ↓w_if, ↓dTest, ↓dOp, ↓dUn, ↓w_var, ↓getS_val, ↓getS_own, ↓getS_par, ↓dC, rd_val, rd_bor, ownD_own, ownD_par, rds_nil, rds_cons, ↓w_asg, ↓dCB, ↓dCons, ↓dNil, ↓dgName, ↓dgTup, ↓dgCons, ↓dgNil, ↓w_setIx, ↓w_ret, ↓w_retF, ↓w_retN, ↓w_next, ↓w_drop, ↓w_own, ↓w_brk, ↓w_cnt, ↓w_setF, ↓w_dput, ↓w_body, ↓dN, ↓dCall, ↓dCallF, argsOf_nil, argsOf_val, argsOf_bor, bors, ↓dV, ↓dTup, ↓dLst, vals_nil, vals_val, ↓w_par, ↓w_par3, ↓w_parVO, ↓w_parOV, ↓w_parOO, ↓dTruth, ↓dIsi, ↓dIsiT, ↓dInO, insOf_ins, ↓dDNew, ↓dDGet, ↓dDIn, toTup_lst, toTup_tup, pf_nil, lk_self, key_str, key_int, isN_non, isNN_non, kno_int, kno_str, kno_lst, kno_tup, kno_bl, kno_non, tyV_int, tyV_bl, tyV_str, tyV_lst, tyV_tup, tyV_non, clV_ty, clVT_nil, clVT_val, kit_same, kit_int_bool, kit_bool_int, kits_list, kits_tuple, ↓dNot, ↓dAnd, ↓dOr, ↓dIf, ↓dAndV, ↓dOrV, ↓dNotV, ↓dChain, ↓dMeth, ↓dMethF, ↓dKw, ↓dSl, ↓dNoP, ↓dPart, ↓w_for, diRng1, diRng2, diRevR1, diEnumX, diAny, items_lst, items_tup, ↓dLc, ↓dDc, ↓dFld, ownAt_def, setD, Sl.setD, isPar0, isParS, isPN, isP_val, isP_own, isP_no, isP_par, ↓doF, outs_nil, outs_cons, parD_par, parIx, putOuts, wipeD, ↓dBodyF, ↓dAppend, D.isLst, cmp_int, bool_bl, toInt_int, toInt_bl, truth_bl, truth_int, truth_non, len_lst, len_tup, D_add, D_sub, D_mod, eq_int, ne_int, neg_int, ix0, ix1, ix2, ix3, ix4, tx0, tx1, tx2, sx0, sx1, sx2, List.length_cons, List.length_nil, List.cons_append, List.nil_append, List.replicate, Nat.reduceAdd, Nat.reduceSub, List.getElem?_cons_zero, List.getElem?_cons_succ, List.getElem?_nil, List.set_cons_zero, List.set_cons_succ, Option.bind_some, Option.map_some, Option.isSome_some, true_and, and_true, if_true, if_false, Bool.false_eq_true, reduceIte, Int.reduceBEq, Bool.not_true, Bool.not_false, List.nodup_cons, List.nodup_nil, List.not_mem_nil, not_false_eq_true, List.mem_cons, or_false, ↓opt_f, ↓optF_some, ↓ite_cd, ↓cd_true, ↓cd_false, ↓forL_f, ↓lcL_f, ↓dcL_f, ↓noEr_run, ↓w_frz, ↓getW_own, ↓dListRg1, ↓dIndex, ↓dCKw, ↓dMake, ↓dList, seq_lst, seq_tup, kwP1, kwP10, beq_self_eq_true, ↓dEqO, ↓dBinO, ↓dNev, tyV_dct, tyV_ins, kno_dct, clV_ptr, kit_sameR, nf_same, nf_none, nf_int, nf_bool, nf_str, nf_lst, nf_tup, nf_dct, ↓dLenO, eq_bl, ne_bl, ↓hot_run, ↓w_try, ↓w_try0, ↓erH_cons, ↓erH_nil, ↓shutD_mk, x1_mk, x2_mk, ↓w_rz, ↓dXf, ↓dIsX, ↓dBinS, ↓w_nest, ↓w_dnSeq, ↓w_dnT, ↓w_dnFrz, dnCons, dnNil, hideR, hid_val, hid_own, hid_par, hid_no, oL_none, oL_some, ltO_none, ltO_some, hidL_cons, hidL_nil, dgSq, ↓dLc2, lcL2_f, ↓dChain3, ↓w_seqP, ↓w_retT, ↓w_callT, ↓dIfF, ↓w_nestL, ↓w_dnSeq2, dnLc, ↓w_dnPar2, ↓w_dnFC, lcN_f, decide_eq_true (show (0 : Int) ≤ 10 ^ 30 + 1 by decide), decide_eq_false (show ¬ (10 : Int) ^ 30 + 1 ≤ 1000000000000000000000000000000 by decide), x1v]
    exact k
  all_goals
    unfold DL.Run dsp_is_integer body_is_integer
    simp -implicitDefEqProofs -dsimp only [idd_eq, Nat.reduceEqDiff, ↓w_seq, ↓w_if, ↓dTest, ↓dOp, ↓dUn, ↓w_var, ↓getS_val, ↓getS_own, ↓getS_par, ↓dC, rd_val, rd_bor, ownD_own, ownD_par, rds_nil, rds_cons, ↓w_asg, ↓dCB, ↓dCons, ↓dNil, ↓dgName, ↓dgTup, ↓dgCons, ↓dgNil, ↓w_setIx, ↓w_ret, ↓w_retF, ↓w_retN, ↓w_next, ↓w_drop, ↓w_own, ↓w_brk, ↓w_cnt, ↓w_setF, ↓w_dput, ↓w_body, ↓dN, ↓dCall, ↓dCallF, argsOf_nil, argsOf_val, argsOf_bor, bors, ↓dV, ↓dTup, ↓dLst, vals_nil, vals_val, ↓w_par, ↓w_par3, ↓w_parVO, ↓w_parOV, ↓w_parOO, ↓dTruth, ↓dIsi, ↓dIsiT, ↓dInO, insOf_ins, ↓dDNew, ↓dDGet, ↓dDIn, toTup_lst, toTup_tup, pf_nil, lk_self, key_str, key_int, isN_non, isNN_non, kno_int, kno_str, kno_lst, kno_tup, kno_bl, kno_non, tyV_int, tyV_bl, tyV_str, tyV_lst, tyV_tup, tyV_non, clV_ty, clVT_nil, clVT_val, kit_same, kit_int_bool, kit_bool_int, kits_list, kits_tuple, ↓dNot, ↓dAnd, ↓dOr, ↓dIf, ↓dAndV, ↓dOrV, ↓dNotV, ↓dChain, ↓dMeth, ↓dMethF, ↓dKw, ↓dSl, ↓dNoP, ↓dPart, ↓w_for, diRng1, diRng2, diRevR1, diEnumX, diAny, items_lst, items_tup, ↓dLc, ↓dDc, ↓dFld, ownAt_def, setD, Sl.setD, isPar0, isParS, isPN, isP_val, isP_own, isP_no, isP_par, ↓doF, outs_nil, outs_cons, parD_par, parIx, putOuts, wipeD, ↓dBodyF, ↓dAppend, D.isLst, cmp_int, bool_bl, toInt_int, toInt_bl, truth_bl, truth_int, truth_non, len_lst, len_tup, D_add, D_sub, D_mod, eq_int, ne_int, neg_int, ix0, ix1, ix2, ix3, ix4, tx0, tx1, tx2, sx0, sx1, sx2, List.length_cons, List.length_nil, List.cons_append, List.nil_append, List.replicate, Nat.reduceAdd, Nat.reduceSub, List.getElem?_cons_zero, List.getElem?_cons_succ, List.getElem?_nil, List.set_cons_zero, List.set_cons_succ, Option.bind_some, Option.map_some, Option.isSome_some, true_and, and_true, if_true, if_false, Bool.false_eq_true, reduceIte, Int.reduceBEq, Bool.not_true, Bool.not_false, List.nodup_cons, List.nodup_nil, List.not_mem_nil, not_false_eq_true, List.mem_cons, or_false, ↓opt_f, ↓optF_some, ↓ite_cd, ↓cd_true, ↓cd_false, ↓forL_f, ↓lcL_f, ↓dcL_f, ↓noEr_run, ↓w_frz, ↓getW_own, ↓dListRg1, ↓dIndex, ↓dCKw, ↓dMake, ↓dList, seq_lst, seq_tup, kwP1, kwP10, beq_self_eq_true, ↓dEqO, ↓dBinO, ↓dNev, tyV_dct, tyV_ins, kno_dct, clV_ptr, kit_sameR, nf_same, nf_none, nf_int, nf_bool, nf_str, nf_lst, nf_tup, nf_dct, ↓dLenO, eq_bl, ne_bl, ↓hot_run, ↓w_try, ↓w_try0, ↓erH_cons, ↓erH_nil, ↓shutD_mk, x1_mk, x2_mk, ↓w_rz, ↓dXf, ↓dIsX, ↓dBinS, ↓w_nest, ↓w_dnSeq, ↓w_dnT, ↓w_dnFrz, dnCons, dnNil, hideR, hid_val, hid_own, hid_par, hid_no, oL_none, oL_some, ltO_none, ltO_some, hidL_cons, hidL_nil, dgSq, ↓dLc2, lcL2_f, ↓dChain3, ↓w_seqP, ↓w_retT, ↓w_callT, ↓dIfF, ↓w_nestL, ↓w_dnSeq2, dnLc, ↓w_dnPar2, ↓w_dnFC, lcN_f, j1, j3, j4, j5, j6, x1v]
    exact k
theorem lasting_bad {d : D} (h : d ∈ odds) {q : D → List D → Prop} {er} (k : er A.c_NoCount [("free", d)] []) : dsp_lasting K A [.val d] q er := by
  unfold dsp_lasting body_lasting
  simp -implicitDefEqProofs -dsimp only [idd_eq, Nat.reduceEqDiff, ↓w_seq, ↓w_if, ↓dTest, ↓dOp, ↓dUn, ↓w_var, ↓getS_val, ↓getS_own, ↓getS_par, ↓dC, rd_val, rd_bor, ownD_own, ownD_par, rds_nil, rds_cons, ↓w_asg, ↓dCB, ↓dCons, ↓dNil, ↓dgName, ↓dgTup, ↓dgCons, ↓dgNil, ↓w_setIx, ↓w_ret, ↓w_retF, ↓w_retN, ↓w_next, ↓w_drop, ↓w_own, ↓w_brk, ↓w_cnt, ↓w_setF, ↓w_dput, ↓w_body, ↓dN, ↓dCall, ↓dCallF, argsOf_nil, argsOf_val, argsOf_bor, bors, ↓dV, ↓dTup, ↓dLst, vals_nil, vals_val, ↓w_par, ↓w_par3, ↓w_parVO, ↓w_parOV, ↓w_parOO, ↓dTruth, ↓dIsi, ↓dIsiT, ↓dInO, insOf_ins, ↓dDNew, ↓dDGet, ↓dDIn, toTup_lst, toTup_tup, pf_nil, lk_self, key_str, key_int, isN_non, isNN_non, kno_int, kno_str, kno_lst, kno_tup, kno_bl, kno_non, tyV_int, tyV_bl, tyV_str, tyV_lst, tyV_tup, tyV_non, clV_ty, clVT_nil, clVT_val, kit_same, kit_int_bool, kit_bool_int, kits_list, kits_tuple, ↓dNot, ↓dAnd, ↓dOr, ↓dIf, ↓dAndV, ↓dOrV, ↓dNotV, ↓dChain, ↓dMeth, ↓dMethF, ↓dKw, ↓dSl, ↓dNoP, ↓dPart, ↓w_for, diRng1, diRng2, diRevR1, diEnumX, diAny, items_lst, items_tup, ↓dLc, ↓dDc, ↓dFld, ownAt_def, setD, Sl.setD, isPar0, isParS, isPN, isP_val, isP_own, isP_no, isP_par, ↓doF, outs_nil, outs_cons, parD_par, parIx, putOuts, wipeD, ↓dBodyF, ↓dAppend, D.isLst, cmp_int, bool_bl, toInt_int, toInt_bl, truth_bl, truth_int, truth_non, len_lst, len_tup, D_add, D_sub, D_mod, eq_int, ne_int, neg_int, ix0, ix1, ix2, ix3, ix4, tx0, tx1, tx2, sx0, sx1, sx2, List.length_cons, List.length_nil, List.cons_append, List.nil_append, List.replicate, Nat.reduceAdd, Nat.reduceSub, List.getElem?_cons_zero, List.getElem?_cons_succ, List.getElem?_nil, List.set_cons_zero, List.set_cons_succ, Option.bind_some, Option.map_some, Option.isSome_some, true_and, and_true, if_true, if_false, Bool.false_eq_true, reduceIte, Int.reduceBEq, Bool.not_true, Bool.not_false, List.nodup_cons, List.nodup_nil, List.not_mem_nil, not_false_eq_true, List.mem_cons, or_false, ↓opt_f, ↓optF_some, ↓ite_cd, ↓cd_true, ↓cd_false, ↓forL_f, ↓lcL_f, ↓dcL_f, ↓noEr_run, ↓w_frz, ↓getW_own, ↓dListRg1, ↓dIndex, ↓dCKw, ↓dMake, ↓dList, seq_lst, seq_tup, kwP1, kwP10, beq_self_eq_true, ↓dEqO, ↓dBinO, ↓dNev, tyV_dct, tyV_ins, kno_dct, clV_ptr, kit_sameR, nf_same, nf_none, nf_int, nf_bool, nf_str, nf_lst, nf_tup, nf_dct, ↓dLenO, eq_bl, ne_bl, ↓hot_run, ↓w_try, ↓w_try0, ↓erH_cons, ↓erH_nil, ↓shutD_mk, x1_mk, x2_mk, ↓w_rz, ↓dXf, ↓dIsX, ↓dBinS, ↓w_nest, ↓w_dnSeq, ↓w_dnT, ↓w_dnFrz, dnCons, dnNil, hideR, hid_val, hid_own, hid_par, hid_no, oL_none, oL_some, ltO_none, ltO_some, hidL_cons, hidL_nil, dgSq, ↓dLc2, lcL2_f, ↓dChain3, ↓w_seqP, ↓w_retT, ↓w_callT, ↓dIfF, ↓w_nestL, ↓w_dnSeq2, dnLc, ↓w_dnPar2, ↓w_dnFC, lcN_f]
  refine check_bad A h ?_
  simp -implicitDefEqProofs -dsimp only [idd_eq, Nat.reduceEqDiff, ↓w_seq, ↓w_if, ↓dTest, ↓dOp, ↓dUn, ↓w_var, ↓getS_val, ↓getS_own, ↓getS_par, ↓dC, rd_val, rd_bor, ownD_own, ownD_par, rds_nil, rds_cons, ↓w_asg, ↓dCB, ↓dCons, ↓dNil, ↓dgName, ↓dgTup, ↓dgCons, ↓dgNil, ↓w_setIx, ↓w_ret, ↓w_retF, ↓w_retN, ↓w_next, ↓w_drop, ↓w_own, ↓w_brk, ↓w_cnt, ↓w_setF, ↓w_dput, ↓w_body, ↓dN, ↓dCall, ↓dCallF, argsOf_nil, argsOf_val, argsOf_bor, bors, ↓dV, ↓dTup, ↓dLst, vals_nil, vals_val, ↓w_par, ↓w_par3, ↓w_parVO, ↓w_parOV, ↓w_parOO, ↓dTruth, ↓dIsi, ↓dIsiT, ↓dInO, insOf_ins, ↓dDNew, ↓dDGet, ↓dDIn, toTup_lst, toTup_tup, pf_nil, lk_self, key_str, key_int, isN_non, isNN_non, kno_int, kno_str, kno_lst, kno_tup, kno_bl, kno_non, tyV_int, tyV_bl, tyV_str, tyV_lst, tyV_tup, tyV_non, clV_ty, clVT_nil, clVT_val, kit_same, kit_int_bool, kit_bool_int, kits_list, kits_tuple, ↓dNot, ↓dAnd, ↓dOr, ↓dIf, ↓dAndV, ↓dOrV, ↓dNotV, ↓dChain, ↓dMeth, ↓dMethF, ↓dKw, ↓dSl, ↓dNoP, ↓dPart, ↓w_for, diRng1, diRng2, diRevR1, diEnumX, diAny, items_lst, items_tup, ↓dLc, ↓dDc, ↓dFld, ownAt_def, setD, Sl.setD, isPar0, isParS, isPN, isP_val, isP_own, isP_no, isP_par, ↓doF, outs_nil, outs_cons, parD_par, parIx, putOuts, wipeD, ↓dBodyF, ↓dAppend, D.isLst, cmp_int, bool_bl, toInt_int, toInt_bl, truth_bl, truth_int, truth_non, len_lst, len_tup, D_add, D_sub, D_mod, eq_int, ne_int, neg_int, ix0, ix1, ix2, ix3, ix4, tx0, tx1, tx2, sx0, sx1, sx2, List.length_cons, List.length_nil, List.cons_append, List.nil_append, List.replicate, Nat.reduceAdd, Nat.reduceSub, List.getElem?_cons_zero, List.getElem?_cons_succ, List.getElem?_nil, List.set_cons_zero, List.set_cons_succ, Option.bind_some, Option.map_some, Option.isSome_some, true_and, and_true, if_true, if_false, Bool.false_eq_true, reduceIte, Int.reduceBEq, Bool.not_true, Bool.not_false, List.nodup_cons, List.nodup_nil, List.not_mem_nil, not_false_eq_true, List.mem_cons, or_false, ↓opt_f, ↓optF_some, ↓ite_cd, ↓cd_true, ↓cd_false, ↓forL_f, ↓lcL_f, ↓dcL_f, ↓noEr_run, ↓w_frz, ↓getW_own, ↓dListRg1, ↓dIndex, ↓dCKw, ↓dMake, ↓dList, seq_lst, seq_tup, kwP1, kwP10, beq_self_eq_true, ↓dEqO, ↓dBinO, ↓dNev, tyV_dct, tyV_ins, kno_dct, clV_ptr, kit_sameR, nf_same, nf_none, nf_int, nf_bool, nf_str, nf_lst, nf_tup, nf_dct, ↓dLenO, eq_bl, ne_bl, ↓hot_run, ↓w_try, ↓w_try0, ↓erH_cons, ↓erH_nil, ↓shutD_mk, x1_mk, x2_mk, ↓w_rz, ↓dXf, ↓dIsX, ↓dBinS, ↓w_nest, ↓w_dnSeq, ↓w_dnT, ↓w_dnFrz, dnCons, dnNil, hideR, hid_val, hid_own, hid_par, hid_no, oL_none, oL_some, ltO_none, ltO_some, hidL_cons, hidL_nil, dgSq, ↓dLc2, lcL2_f, ↓dChain3, ↓w_seqP, ↓w_retT, ↓w_callT, ↓dIfF, ↓w_nestL, ↓w_dnSeq2, dnLc, ↓w_dnPar2, ↓w_dnFC, lcN_f]
  exact k
theorem placed_bad {d : D} (h : d ∈ odds) {q : D → List D → Prop} {er} (k : er A.c_NoCount [("free", d)] []) : dsp_placed K A [.val d] q er := by
  unfold dsp_placed body_placed
  simp -implicitDefEqProofs -dsimp only [idd_eq, Nat.reduceEqDiff, ↓w_seq, ↓w_if, ↓dTest, ↓dOp, ↓dUn, ↓w_var, ↓getS_val, ↓getS_own, ↓getS_par, ↓dC, rd_val, rd_bor, ownD_own, ownD_par, rds_nil, rds_cons, ↓w_asg, ↓dCB, ↓dCons, ↓dNil, ↓dgName, ↓dgTup, ↓dgCons, ↓dgNil, ↓w_setIx, ↓w_ret, ↓w_retF, ↓w_retN, ↓w_next, ↓w_drop, ↓w_own, ↓w_brk, ↓w_cnt, ↓w_setF, ↓w_dput, ↓w_body, ↓dN, ↓dCall, ↓dCallF, argsOf_nil, argsOf_val, argsOf_bor, bors, ↓dV, ↓dTup, ↓dLst, vals_nil, vals_val, ↓w_par, ↓w_par3, ↓w_parVO, ↓w_parOV, ↓w_parOO, ↓dTruth, ↓dIsi, ↓dIsiT, ↓dInO, insOf_ins, ↓dDNew, ↓dDGet, ↓dDIn, toTup_lst, toTup_tup, pf_nil, lk_self, key_str, key_int, isN_non, isNN_non, kno_int, kno_str, kno_lst, kno_tup, kno_bl, kno_non, tyV_int, tyV_bl, tyV_str, tyV_lst, tyV_tup, tyV_non, clV_ty, clVT_nil, clVT_val, kit_same, kit_int_bool, kit_bool_int, kits_list, kits_tuple, ↓dNot, ↓dAnd, ↓dOr, ↓dIf, ↓dAndV, ↓dOrV, ↓dNotV, ↓dChain, ↓dMeth, ↓dMethF, ↓dKw, ↓dSl, ↓dNoP, ↓dPart, ↓w_for, diRng1, diRng2, diRevR1, diEnumX, diAny, items_lst, items_tup, ↓dLc, ↓dDc, ↓dFld, ownAt_def, setD, Sl.setD, isPar0, isParS, isPN, isP_val, isP_own, isP_no, isP_par, ↓doF, outs_nil, outs_cons, parD_par, parIx, putOuts, wipeD, ↓dBodyF, ↓dAppend, D.isLst, cmp_int, bool_bl, toInt_int, toInt_bl, truth_bl, truth_int, truth_non, len_lst, len_tup, D_add, D_sub, D_mod, eq_int, ne_int, neg_int, ix0, ix1, ix2, ix3, ix4, tx0, tx1, tx2, sx0, sx1, sx2, List.length_cons, List.length_nil, List.cons_append, List.nil_append, List.replicate, Nat.reduceAdd, Nat.reduceSub, List.getElem?_cons_zero, List.getElem?_cons_succ, List.getElem?_nil, List.set_cons_zero, List.set_cons_succ, Option.bind_some, Option.map_some, Option.isSome_some, true_and, and_true, if_true, if_false, Bool.false_eq_true, reduceIte, Int.reduceBEq, Bool.not_true, Bool.not_false, List.nodup_cons, List.nodup_nil, List.not_mem_nil, not_false_eq_true, List.mem_cons, or_false, ↓opt_f, ↓optF_some, ↓ite_cd, ↓cd_true, ↓cd_false, ↓forL_f, ↓lcL_f, ↓dcL_f, ↓noEr_run, ↓w_frz, ↓getW_own, ↓dListRg1, ↓dIndex, ↓dCKw, ↓dMake, ↓dList, seq_lst, seq_tup, kwP1, kwP10, beq_self_eq_true, ↓dEqO, ↓dBinO, ↓dNev, tyV_dct, tyV_ins, kno_dct, clV_ptr, kit_sameR, nf_same, nf_none, nf_int, nf_bool, nf_str, nf_lst, nf_tup, nf_dct, ↓dLenO, eq_bl, ne_bl, ↓hot_run, ↓w_try, ↓w_try0, ↓erH_cons, ↓erH_nil, ↓shutD_mk, x1_mk, x2_mk, ↓w_rz, ↓dXf, ↓dIsX, ↓dBinS, ↓w_nest, ↓w_dnSeq, ↓w_dnT, ↓w_dnFrz, dnCons, dnNil, hideR, hid_val, hid_own, hid_par, hid_no, oL_none, oL_some, ltO_none, ltO_some, hidL_cons, hidL_nil, dgSq, ↓dLc2, lcL2_f, ↓dChain3, ↓w_seqP, ↓w_retT, ↓w_callT, ↓dIfF, ↓w_nestL, ↓w_dnSeq2, dnLc, ↓w_dnPar2, ↓w_dnFC, lcN_f]
  refine check_bad A h ?_
  simp -implicitDefEqProofs -dsimp only [idd_eq, Nat.reduceEqDiff, ↓w_seq, ↓w_if, ↓dTest, ↓dOp, ↓dUn, ↓w_var, ↓getS_val, ↓getS_own, ↓getS_par, ↓dC, rd_val, rd_bor, ownD_own, ownD_par, rds_nil, rds_cons, ↓w_asg, ↓dCB, ↓dCons, ↓dNil, ↓dgName, ↓dgTup, ↓dgCons, ↓dgNil, ↓w_setIx, ↓w_ret, ↓w_retF, ↓w_retN, ↓w_next, ↓w_drop, ↓w_own, ↓w_brk, ↓w_cnt, ↓w_setF, ↓w_dput, ↓w_body, ↓dN, ↓dCall, ↓dCallF, argsOf_nil, argsOf_val, argsOf_bor, bors, ↓dV, ↓dTup, ↓dLst, vals_nil, vals_val, ↓w_par, ↓w_par3, ↓w_parVO, ↓w_parOV, ↓w_parOO, ↓dTruth, ↓dIsi, ↓dIsiT, ↓dInO, insOf_ins, ↓dDNew, ↓dDGet, ↓dDIn, toTup_lst, toTup_tup, pf_nil, lk_self, key_str, key_int, isN_non, isNN_non, kno_int, kno_str, kno_lst, kno_tup, kno_bl, kno_non, tyV_int, tyV_bl, tyV_str, tyV_lst, tyV_tup, tyV_non, clV_ty, clVT_nil, clVT_val, kit_same, kit_int_bool, kit_bool_int, kits_list, kits_tuple, ↓dNot, ↓dAnd, ↓dOr, ↓dIf, ↓dAndV, ↓dOrV, ↓dNotV, ↓dChain, ↓dMeth, ↓dMethF, ↓dKw, ↓dSl, ↓dNoP, ↓dPart, ↓w_for, diRng1, diRng2, diRevR1, diEnumX, diAny, items_lst, items_tup, ↓dLc, ↓dDc, ↓dFld, ownAt_def, setD, Sl.setD, isPar0, isParS, isPN, isP_val, isP_own, isP_no, isP_par, ↓doF, outs_nil, outs_cons, parD_par, parIx, putOuts, wipeD, ↓dBodyF, ↓dAppend, D.isLst, cmp_int, bool_bl, toInt_int, toInt_bl, truth_bl, truth_int, truth_non, len_lst, len_tup, D_add, D_sub, D_mod, eq_int, ne_int, neg_int, ix0, ix1, ix2, ix3, ix4, tx0, tx1, tx2, sx0, sx1, sx2, List.length_cons, List.length_nil, List.cons_append, List.nil_append, List.replicate, Nat.reduceAdd, Nat.reduceSub, List.getElem?_cons_zero, List.getElem?_cons_succ, List.getElem?_nil, List.set_cons_zero, List.set_cons_succ, Option.bind_some, Option.map_some, Option.isSome_some, true_and, and_true, if_true, if_false, Bool.false_eq_true, reduceIte, Int.reduceBEq, Bool.not_true, Bool.not_false, List.nodup_cons, List.nodup_nil, List.not_mem_nil, not_false_eq_true, List.mem_cons, or_false, ↓opt_f, ↓optF_some, ↓ite_cd, ↓cd_true, ↓cd_false, ↓forL_f, ↓lcL_f, ↓dcL_f, ↓noEr_run, ↓w_frz, ↓getW_own, ↓dListRg1, ↓dIndex, ↓dCKw, ↓dMake, ↓dList, seq_lst, seq_tup, kwP1, kwP10, beq_self_eq_true, ↓dEqO, ↓dBinO, ↓dNev, tyV_dct, tyV_ins, kno_dct, clV_ptr, kit_sameR, nf_same, nf_none, nf_int, nf_bool, nf_str, nf_lst, nf_tup, nf_dct, ↓dLenO, eq_bl, ne_bl, ↓hot_run, ↓w_try, ↓w_try0, ↓erH_cons, ↓erH_nil, ↓shutD_mk, x1_mk, x2_mk, ↓w_rz, ↓dXf, ↓dIsX, ↓dBinS, ↓w_nest, ↓w_dnSeq, ↓w_dnT, ↓w_dnFrz, dnCons, dnNil, hideR, hid_val, hid_own, hid_par, hid_no, oL_none, oL_some, ltO_none, ltO_some, hidL_cons, hidL_nil, dgSq, ↓dLc2, lcL2_f, ↓dChain3, ↓w_seqP, ↓w_retT, ↓w_callT, ↓dIfF, ↓w_nestL, ↓w_dnSeq2, dnLc, ↓w_dnPar2, ↓w_dnFC, lcN_f]
  exact k
theorem lkF {a : D} : List.lookup ("free" : Str) [("free", a)] = some a := rfl
theorem said_lasting (fx : Fax K A) {d : D} (h : d ∈ odds) {ρ : Ro} (h7 : (plL ρ)[7]? = some (.val d)) {f : Addr} {q : D → Prop} (k : q (shownO d)) :
    dspL_p_law_said K A (lwOf (dCall (hot (dsp_lasting K A)) (dN 1 (dCons (dVar 7) dNil))) ρ) f q := by
  unfold dspL_p_law_said bodyL_p_law_said
  rw [w_bodyL]
  simp -implicitDefEqProofs -dsimp only [idd_eq, Nat.reduceEqDiff, ↓w_seq, ↓w_if, ↓dTest, ↓dOp, ↓dUn, ↓w_var, ↓getS_val, ↓getS_own, ↓getS_par, ↓dC, rd_val, rd_bor, ownD_own, ownD_par, rds_nil, rds_cons, ↓w_asg, ↓dCB, ↓dCons, ↓dNil, ↓dgName, ↓dgTup, ↓dgCons, ↓dgNil, ↓w_setIx, ↓w_ret, ↓w_retF, ↓w_retN, ↓w_next, ↓w_drop, ↓w_own, ↓w_brk, ↓w_cnt, ↓w_setF, ↓w_dput, ↓w_body, ↓dN, ↓dCall, ↓dCallF, argsOf_nil, argsOf_val, argsOf_bor, bors, ↓dV, ↓dTup, ↓dLst, vals_nil, vals_val, ↓w_par, ↓w_par3, ↓w_parVO, ↓w_parOV, ↓w_parOO, ↓dTruth, ↓dIsi, ↓dIsiT, ↓dInO, insOf_ins, ↓dDNew, ↓dDGet, ↓dDIn, toTup_lst, toTup_tup, pf_nil, lk_self, key_str, key_int, isN_non, isNN_non, kno_int, kno_str, kno_lst, kno_tup, kno_bl, kno_non, tyV_int, tyV_bl, tyV_str, tyV_lst, tyV_tup, tyV_non, clV_ty, clVT_nil, clVT_val, kit_same, kit_int_bool, kit_bool_int, kits_list, kits_tuple, ↓dNot, ↓dAnd, ↓dOr, ↓dIf, ↓dAndV, ↓dOrV, ↓dNotV, ↓dChain, ↓dMeth, ↓dMethF, ↓dKw, ↓dSl, ↓dNoP, ↓dPart, ↓w_for, diRng1, diRng2, diRevR1, diEnumX, diAny, items_lst, items_tup, ↓dLc, ↓dDc, ↓dFld, ownAt_def, setD, Sl.setD, isPar0, isParS, isPN, isP_val, isP_own, isP_no, isP_par, ↓doF, outs_nil, outs_cons, parD_par, parIx, putOuts, wipeD, ↓dBodyF, ↓dAppend, D.isLst, cmp_int, bool_bl, toInt_int, toInt_bl, truth_bl, truth_int, truth_non, len_lst, len_tup, D_add, D_sub, D_mod, eq_int, ne_int, neg_int, ix0, ix1, ix2, ix3, ix4, tx0, tx1, tx2, sx0, sx1, sx2, List.length_cons, List.length_nil, List.cons_append, List.nil_append, List.replicate, Nat.reduceAdd, Nat.reduceSub, List.getElem?_cons_zero, List.getElem?_cons_succ, List.getElem?_nil, List.set_cons_zero, List.set_cons_succ, Option.bind_some, Option.map_some, Option.isSome_some, true_and, and_true, if_true, if_false, Bool.false_eq_true, reduceIte, Int.reduceBEq, Bool.not_true, Bool.not_false, List.nodup_cons, List.nodup_nil, List.not_mem_nil, not_false_eq_true, List.mem_cons, or_false, ↓opt_f, ↓optF_some, ↓ite_cd, ↓cd_true, ↓cd_false, ↓forL_f, ↓lcL_f, ↓dcL_f, ↓noEr_run, ↓w_frz, ↓getW_own, ↓dListRg1, ↓dIndex, ↓dCKw, ↓dMake, ↓dList, seq_lst, seq_tup, kwP1, kwP10, beq_self_eq_true, ↓dEqO, ↓dBinO, ↓dNev, tyV_dct, tyV_ins, kno_dct, clV_ptr, kit_sameR, nf_same, nf_none, nf_int, nf_bool, nf_str, nf_lst, nf_tup, nf_dct, ↓dLenO, eq_bl, ne_bl, ↓hot_run, ↓w_try, ↓w_try0, ↓erH_cons, ↓erH_nil, ↓shutD_mk, x1_mk, x2_mk, ↓w_rz, ↓dXf, ↓dIsX, ↓dBinS, ↓w_nest, ↓w_dnSeq, ↓w_dnT, ↓w_dnFrz, dnCons, dnNil, hideR, hid_val, hid_own, hid_par, hid_no, oL_none, oL_some, ltO_none, ltO_some, hidL_cons, hidL_nil, dgSq, ↓dLc2, lcL2_f, ↓dChain3, ↓w_seqP, ↓w_retT, ↓w_callT, ↓dIfF, ↓w_nestL, ↓w_dnSeq2, dnLc, ↓w_dnPar2, ↓w_dnFC, lcN_f, w_act, isAt0, lwOf, h7]
  refine lasting_bad A h ?_
  simp -implicitDefEqProofs -dsimp only [idd_eq, Nat.reduceEqDiff, ↓w_seq, ↓w_if, ↓dTest, ↓dOp, ↓dUn, ↓w_var, ↓getS_val, ↓getS_own, ↓getS_par, ↓dC, rd_val, rd_bor, ownD_own, ownD_par, rds_nil, rds_cons, ↓w_asg, ↓dCB, ↓dCons, ↓dNil, ↓dgName, ↓dgTup, ↓dgCons, ↓dgNil, ↓w_setIx, ↓w_ret, ↓w_retF, ↓w_retN, ↓w_next, ↓w_drop, ↓w_own, ↓w_brk, ↓w_cnt, ↓w_setF, ↓w_dput, ↓w_body, ↓dN, ↓dCall, ↓dCallF, argsOf_nil, argsOf_val, argsOf_bor, bors, ↓dV, ↓dTup, ↓dLst, vals_nil, vals_val, ↓w_par, ↓w_par3, ↓w_parVO, ↓w_parOV, ↓w_parOO, ↓dTruth, ↓dIsi, ↓dIsiT, ↓dInO, insOf_ins, ↓dDNew, ↓dDGet, ↓dDIn, toTup_lst, toTup_tup, pf_nil, lk_self, key_str, key_int, isN_non, isNN_non, kno_int, kno_str, kno_lst, kno_tup, kno_bl, kno_non, tyV_int, tyV_bl, tyV_str, tyV_lst, tyV_tup, tyV_non, clV_ty, clVT_nil, clVT_val, kit_same, kit_int_bool, kit_bool_int, kits_list, kits_tuple, ↓dNot, ↓dAnd, ↓dOr, ↓dIf, ↓dAndV, ↓dOrV, ↓dNotV, ↓dChain, ↓dMeth, ↓dMethF, ↓dKw, ↓dSl, ↓dNoP, ↓dPart, ↓w_for, diRng1, diRng2, diRevR1, diEnumX, diAny, items_lst, items_tup, ↓dLc, ↓dDc, ↓dFld, ownAt_def, setD, Sl.setD, isPar0, isParS, isPN, isP_val, isP_own, isP_no, isP_par, ↓doF, outs_nil, outs_cons, parD_par, parIx, putOuts, wipeD, ↓dBodyF, ↓dAppend, D.isLst, cmp_int, bool_bl, toInt_int, toInt_bl, truth_bl, truth_int, truth_non, len_lst, len_tup, D_add, D_sub, D_mod, eq_int, ne_int, neg_int, ix0, ix1, ix2, ix3, ix4, tx0, tx1, tx2, sx0, sx1, sx2, List.length_cons, List.length_nil, List.cons_append, List.nil_append, List.replicate, Nat.reduceAdd, Nat.reduceSub, List.getElem?_cons_zero, List.getElem?_cons_succ, List.getElem?_nil, List.set_cons_zero, List.set_cons_succ, Option.bind_some, Option.map_some, Option.isSome_some, true_and, and_true, if_true, if_false, Bool.false_eq_true, reduceIte, Int.reduceBEq, Bool.not_true, Bool.not_false, List.nodup_cons, List.nodup_nil, List.not_mem_nil, not_false_eq_true, List.mem_cons, or_false, ↓opt_f, ↓optF_some, ↓ite_cd, ↓cd_true, ↓cd_false, ↓forL_f, ↓lcL_f, ↓dcL_f, ↓noEr_run, ↓w_frz, ↓getW_own, ↓dListRg1, ↓dIndex, ↓dCKw, ↓dMake, ↓dList, seq_lst, seq_tup, kwP1, kwP10, beq_self_eq_true, ↓dEqO, ↓dBinO, ↓dNev, tyV_dct, tyV_ins, kno_dct, clV_ptr, kit_sameR, nf_same, nf_none, nf_int, nf_bool, nf_str, nf_lst, nf_tup, nf_dct, ↓dLenO, eq_bl, ne_bl, ↓hot_run, ↓w_try, ↓w_try0, ↓erH_cons, ↓erH_nil, ↓shutD_mk, x1_mk, x2_mk, ↓w_rz, ↓dXf, ↓dIsX, ↓dBinS, ↓w_nest, ↓w_dnSeq, ↓w_dnT, ↓w_dnFrz, dnCons, dnNil, hideR, hid_val, hid_own, hid_par, hid_no, oL_none, oL_some, ltO_none, ltO_some, hidL_cons, hidL_nil, dgSq, ↓dLc2, lcL2_f, ↓dChain3, ↓w_seqP, ↓w_retT, ↓w_callT, ↓dIfF, ↓w_nestL, ↓w_dnSeq2, dnLc, ↓w_dnPar2, ↓w_dnFC, lcN_f, fx.xm_NoCount_NoCount, lkF, reprO h, forall_const]
  exact k
theorem said_placed (fx : Fax K A) {d : D} (h : d ∈ odds) {ρ : Ro} (h7 : (plL ρ)[7]? = some (.val d)) {f : Addr} {q : D → Prop} (k : q (shownO d)) :
    dspL_p_law_said K A (lwOf (dCall (hot (dsp_placed K A)) (dN 1 (dCons (dVar 7) dNil))) ρ) f q := by
  unfold dspL_p_law_said bodyL_p_law_said
  rw [w_bodyL]
  simp -implicitDefEqProofs -dsimp only [idd_eq, Nat.reduceEqDiff, ↓w_seq, ↓w_if, ↓dTest, ↓dOp, ↓dUn, ↓w_var, ↓getS_val, ↓getS_own, ↓getS_par, ↓dC, rd_val, rd_bor, ownD_own, ownD_par, rds_nil, rds_cons, ↓w_asg, ↓dCB, ↓dCons, ↓dNil, ↓dgName, ↓dgTup, ↓dgCons, ↓dgNil, ↓w_setIx, ↓w_ret, ↓w_retF, ↓w_retN, ↓w_next, ↓w_drop, ↓w_own, ↓w_brk, ↓w_cnt, ↓w_setF, ↓w_dput, ↓w_body, ↓dN, ↓dCall, ↓dCallF, argsOf_nil, argsOf_val, argsOf_bor, bors, ↓dV, ↓dTup, ↓dLst, vals_nil, vals_val, ↓w_par, ↓w_par3, ↓w_parVO, ↓w_parOV, ↓w_parOO, ↓dTruth, ↓dIsi, ↓dIsiT, ↓dInO, insOf_ins, ↓dDNew, ↓dDGet, ↓dDIn, toTup_lst, toTup_tup, pf_nil, lk_self, key_str, key_int, isN_non, isNN_non, kno_int, kno_str, kno_lst, kno_tup, kno_bl, kno_non, tyV_int, tyV_bl, tyV_str, tyV_lst, tyV_tup, tyV_non, clV_ty, clVT_nil, clVT_val, kit_same, kit_int_bool, kit_bool_int, kits_list, kits_tuple, ↓dNot, ↓dAnd, ↓dOr, ↓dIf, ↓dAndV, ↓dOrV, ↓dNotV, ↓dChain, ↓dMeth, ↓dMethF, ↓dKw, ↓dSl, ↓dNoP, ↓dPart, ↓w_for, diRng1, diRng2, diRevR1, diEnumX, diAny, items_lst, items_tup, ↓dLc, ↓dDc, ↓dFld, ownAt_def, setD, Sl.setD, isPar0, isParS, isPN, isP_val, isP_own, isP_no, isP_par, ↓doF, outs_nil, outs_cons, parD_par, parIx, putOuts, wipeD, ↓dBodyF, ↓dAppend, D.isLst, cmp_int, bool_bl, toInt_int, toInt_bl, truth_bl, truth_int, truth_non, len_lst, len_tup, D_add, D_sub, D_mod, eq_int, ne_int, neg_int, ix0, ix1, ix2, ix3, ix4, tx0, tx1, tx2, sx0, sx1, sx2, List.length_cons, List.length_nil, List.cons_append, List.nil_append, List.replicate, Nat.reduceAdd, Nat.reduceSub, List.getElem?_cons_zero, List.getElem?_cons_succ, List.getElem?_nil, List.set_cons_zero, List.set_cons_succ, Option.bind_some, Option.map_some, Option.isSome_some, true_and, and_true, if_true, if_false, Bool.false_eq_true, reduceIte, Int.reduceBEq, Bool.not_true, Bool.not_false, List.nodup_cons, List.nodup_nil, List.not_mem_nil, not_false_eq_true, List.mem_cons, or_false, ↓opt_f, ↓optF_some, ↓ite_cd, ↓cd_true, ↓cd_false, ↓forL_f, ↓lcL_f, ↓dcL_f, ↓noEr_run, ↓w_frz, ↓getW_own, ↓dListRg1, ↓dIndex, ↓dCKw, ↓dMake, ↓dList, seq_lst, seq_tup, kwP1, kwP10, beq_self_eq_true, ↓dEqO, ↓dBinO, ↓dNev, tyV_dct, tyV_ins, kno_dct, clV_ptr, kit_sameR, nf_same, nf_none, nf_int, nf_bool, nf_str, nf_lst, nf_tup, nf_dct, ↓dLenO, eq_bl, ne_bl, ↓hot_run, ↓w_try, ↓w_try0, ↓erH_cons, ↓erH_nil, ↓shutD_mk, x1_mk, x2_mk, ↓w_rz, ↓dXf, ↓dIsX, ↓dBinS, ↓w_nest, ↓w_dnSeq, ↓w_dnT, ↓w_dnFrz, dnCons, dnNil, hideR, hid_val, hid_own, hid_par, hid_no, oL_none, oL_some, ltO_none, ltO_some, hidL_cons, hidL_nil, dgSq, ↓dLc2, lcL2_f, ↓dChain3, ↓w_seqP, ↓w_retT, ↓w_callT, ↓dIfF, ↓w_nestL, ↓w_dnSeq2, dnLc, ↓w_dnPar2, ↓w_dnFC, lcN_f, w_act, isAt0, lwOf, h7]
  refine placed_bad A h ?_
  simp -implicitDefEqProofs -dsimp only [idd_eq, Nat.reduceEqDiff, ↓w_seq, ↓w_if, ↓dTest, ↓dOp, ↓dUn, ↓w_var, ↓getS_val, ↓getS_own, ↓getS_par, ↓dC, rd_val, rd_bor, ownD_own, ownD_par, rds_nil, rds_cons, ↓w_asg, ↓dCB, ↓dCons, ↓dNil, ↓dgName, ↓dgTup, ↓dgCons, ↓dgNil, ↓w_setIx, ↓w_ret, ↓w_retF, ↓w_retN, ↓w_next, ↓w_drop, ↓w_own, ↓w_brk, ↓w_cnt, ↓w_setF, ↓w_dput, ↓w_body, ↓dN, ↓dCall, ↓dCallF, argsOf_nil, argsOf_val, argsOf_bor, bors, ↓dV, ↓dTup, ↓dLst, vals_nil, vals_val, ↓w_par, ↓w_par3, ↓w_parVO, ↓w_parOV, ↓w_parOO, ↓dTruth, ↓dIsi, ↓dIsiT, ↓dInO, insOf_ins, ↓dDNew, ↓dDGet, ↓dDIn, toTup_lst, toTup_tup, pf_nil, lk_self, key_str, key_int, isN_non, isNN_non, kno_int, kno_str, kno_lst, kno_tup, kno_bl, kno_non, tyV_int, tyV_bl, tyV_str, tyV_lst, tyV_tup, tyV_non, clV_ty, clVT_nil, clVT_val, kit_same, kit_int_bool, kit_bool_int, kits_list, kits_tuple, ↓dNot, ↓dAnd, ↓dOr, ↓dIf, ↓dAndV, ↓dOrV, ↓dNotV, ↓dChain, ↓dMeth, ↓dMethF, ↓dKw, ↓dSl, ↓dNoP, ↓dPart, ↓w_for, diRng1, diRng2, diRevR1, diEnumX, diAny, items_lst, items_tup, ↓dLc, ↓dDc, ↓dFld, ownAt_def, setD, Sl.setD, isPar0, isParS, isPN, isP_val, isP_own, isP_no, isP_par, ↓doF, outs_nil, outs_cons, parD_par, parIx, putOuts, wipeD, ↓dBodyF, ↓dAppend, D.isLst, cmp_int, bool_bl, toInt_int, toInt_bl, truth_bl, truth_int, truth_non, len_lst, len_tup, D_add, D_sub, D_mod, eq_int, ne_int, neg_int, ix0, ix1, ix2, ix3, ix4, tx0, tx1, tx2, sx0, sx1, sx2, List.length_cons, List.length_nil, List.cons_append, List.nil_append, List.replicate, Nat.reduceAdd, Nat.reduceSub, List.getElem?_cons_zero, List.getElem?_cons_succ, List.getElem?_nil, List.set_cons_zero, List.set_cons_succ, Option.bind_some, Option.map_some, Option.isSome_some, true_and, and_true, if_true, if_false, Bool.false_eq_true, reduceIte, Int.reduceBEq, Bool.not_true, Bool.not_false, List.nodup_cons, List.nodup_nil, List.not_mem_nil, not_false_eq_true, List.mem_cons, or_false, ↓opt_f, ↓optF_some, ↓ite_cd, ↓cd_true, ↓cd_false, ↓forL_f, ↓lcL_f, ↓dcL_f, ↓noEr_run, ↓w_frz, ↓getW_own, ↓dListRg1, ↓dIndex, ↓dCKw, ↓dMake, ↓dList, seq_lst, seq_tup, kwP1, kwP10, beq_self_eq_true, ↓dEqO, ↓dBinO, ↓dNev, tyV_dct, tyV_ins, kno_dct, clV_ptr, kit_sameR, nf_same, nf_none, nf_int, nf_bool, nf_str, nf_lst, nf_tup, nf_dct, ↓dLenO, eq_bl, ne_bl, ↓hot_run, ↓w_try, ↓w_try0, ↓erH_cons, ↓erH_nil, ↓shutD_mk, x1_mk, x2_mk, ↓w_rz, ↓dXf, ↓dIsX, ↓dBinS, ↓w_nest, ↓w_dnSeq, ↓w_dnT, ↓w_dnFrz, dnCons, dnNil, hideR, hid_val, hid_own, hid_par, hid_no, oL_none, oL_some, ltO_none, ltO_some, hidL_cons, hidL_nil, dgSq, ↓dLc2, lcL2_f, ↓dChain3, ↓w_seqP, ↓w_retT, ↓w_callT, ↓dIfF, ↓w_nestL, ↓w_dnSeq2, dnLc, ↓w_dnPar2, ↓w_dnFC, lcN_f, fx.xm_NoCount_NoCount, lkF, reprO h, forall_const]
  exact k
theorem due_ok {n : Int} (h0 : 0 ≤ n) (h1 : n ≤ 10 ^ 30) {q : D → List D → Prop} {er} (k : q (.int (lst n.toNat : Nat)) []) : dsp_p_law_due K A [.val (.int n)] q er := by
  unfold dsp_p_law_due body_p_law_due
  simp -implicitDefEqProofs -dsimp only [idd_eq, Nat.reduceEqDiff, ↓w_seq, ↓w_if, ↓dTest, ↓dOp, ↓dUn, ↓w_var, ↓getS_val, ↓getS_own, ↓getS_par, ↓dC, rd_val, rd_bor, ownD_own, ownD_par, rds_nil, rds_cons, ↓w_asg, ↓dCB, ↓dCons, ↓dNil, ↓dgName, ↓dgTup, ↓dgCons, ↓dgNil, ↓w_setIx, ↓w_ret, ↓w_retF, ↓w_retN, ↓w_next, ↓w_drop, ↓w_own, ↓w_brk, ↓w_cnt, ↓w_setF, ↓w_dput, ↓w_body, ↓dN, ↓dCall, ↓dCallF, argsOf_nil, argsOf_val, argsOf_bor, bors, ↓dV, ↓dTup, ↓dLst, vals_nil, vals_val, ↓w_par, ↓w_par3, ↓w_parVO, ↓w_parOV, ↓w_parOO, ↓dTruth, ↓dIsi, ↓dIsiT, ↓dInO, insOf_ins, ↓dDNew, ↓dDGet, ↓dDIn, toTup_lst, toTup_tup, pf_nil, lk_self, key_str, key_int, isN_non, isNN_non, kno_int, kno_str, kno_lst, kno_tup, kno_bl, kno_non, tyV_int, tyV_bl, tyV_str, tyV_lst, tyV_tup, tyV_non, clV_ty, clVT_nil, clVT_val, kit_same, kit_int_bool, kit_bool_int, kits_list, kits_tuple, ↓dNot, ↓dAnd, ↓dOr, ↓dIf, ↓dAndV, ↓dOrV, ↓dNotV, ↓dChain, ↓dMeth, ↓dMethF, ↓dKw, ↓dSl, ↓dNoP, ↓dPart, ↓w_for, diRng1, diRng2, diRevR1, diEnumX, diAny, items_lst, items_tup, ↓dLc, ↓dDc, ↓dFld, ownAt_def, setD, Sl.setD, isPar0, isParS, isPN, isP_val, isP_own, isP_no, isP_par, ↓doF, outs_nil, outs_cons, parD_par, parIx, putOuts, wipeD, ↓dBodyF, ↓dAppend, D.isLst, cmp_int, bool_bl, toInt_int, toInt_bl, truth_bl, truth_int, truth_non, len_lst, len_tup, D_add, D_sub, D_mod, eq_int, ne_int, neg_int, ix0, ix1, ix2, ix3, ix4, tx0, tx1, tx2, sx0, sx1, sx2, List.length_cons, List.length_nil, List.cons_append, List.nil_append, List.replicate, Nat.reduceAdd, Nat.reduceSub, List.getElem?_cons_zero, List.getElem?_cons_succ, List.getElem?_nil, List.set_cons_zero, List.set_cons_succ, Option.bind_some, Option.map_some, Option.isSome_some, true_and, and_true, if_true, if_false, Bool.false_eq_true, reduceIte, Int.reduceBEq, Bool.not_true, Bool.not_false, List.nodup_cons, List.nodup_nil, List.not_mem_nil, not_false_eq_true, List.mem_cons, or_false, ↓opt_f, ↓optF_some, ↓ite_cd, ↓cd_true, ↓cd_false, ↓forL_f, ↓lcL_f, ↓dcL_f, ↓noEr_run, ↓w_frz, ↓getW_own, ↓dListRg1, ↓dIndex, ↓dCKw, ↓dMake, ↓dList, seq_lst, seq_tup, kwP1, kwP10, beq_self_eq_true, ↓dEqO, ↓dBinO, ↓dNev, tyV_dct, tyV_ins, kno_dct, clV_ptr, kit_sameR, nf_same, nf_none, nf_int, nf_bool, nf_str, nf_lst, nf_tup, nf_dct, ↓dLenO, eq_bl, ne_bl, ↓hot_run, ↓w_try, ↓w_try0, ↓erH_cons, ↓erH_nil, ↓shutD_mk, x1_mk, x2_mk, ↓w_rz, ↓dXf, ↓dIsX, ↓dBinS, ↓w_nest, ↓w_dnSeq, ↓w_dnT, ↓w_dnFrz, dnCons, dnNil, hideR, hid_val, hid_own, hid_par, hid_no, oL_none, oL_some, ltO_none, ltO_some, hidL_cons, hidL_nil, dgSq, ↓dLc2, lcL2_f, ↓dChain3, ↓w_seqP, ↓w_retT, ↓w_callT, ↓dIfF, ↓w_nestL, ↓w_dnSeq2, dnLc, ↓w_dnPar2, ↓w_dnFC, lcN_f]
  refine while_inv (m0 := n.toNat) (fun m ρ => ∃ (a : Int) (t : Nat), 0 ≤ a ∧ a ≤ 10 ^ 30 ∧ m = a.toNat ∧ lst a.toNat + t = lst n.toNat ∧ ρ = [.val (.int a), .val (.int (t : Nat))]) ⟨n, 0, h0, h1, rfl, rfl, rfl⟩ ?_
  rintro m ρ nx ⟨a, t, a0, a1, rfl, e, rfl⟩ hnx
  by_cases c : 2 ≤ a
  · simp -implicitDefEqProofs -dsimp only [idd_eq, Nat.reduceEqDiff, ↓w_seq, ↓w_if, ↓dTest, ↓dOp, ↓dUn, ↓w_var, ↓getS_val, ↓getS_own, ↓getS_par, ↓dC, rd_val, rd_bor, ownD_own, ownD_par, rds_nil, rds_cons, ↓w_asg, ↓dCB, ↓dCons, ↓dNil, ↓dgName, ↓dgTup, ↓dgCons, ↓dgNil, ↓w_setIx, ↓w_ret, ↓w_retF, ↓w_retN, ↓w_next, ↓w_drop, ↓w_own, ↓w_brk, ↓w_cnt, ↓w_setF, ↓w_dput, ↓w_body, ↓dN, ↓dCall, ↓dCallF, argsOf_nil, argsOf_val, argsOf_bor, bors, ↓dV, ↓dTup, ↓dLst, vals_nil, vals_val, ↓w_par, ↓w_par3, ↓w_parVO, ↓w_parOV, ↓w_parOO, ↓dTruth, ↓dIsi, ↓dIsiT, ↓dInO, insOf_ins, ↓dDNew, ↓dDGet, ↓dDIn, toTup_lst, toTup_tup, pf_nil, lk_self, key_str, key_int, isN_non, isNN_non, kno_int, kno_str, kno_lst, kno_tup, kno_bl, kno_non, tyV_int, tyV_bl, tyV_str, tyV_lst, tyV_tup, tyV_non, clV_ty, clVT_nil, clVT_val, kit_same, kit_int_bool, kit_bool_int, kits_list, kits_tuple, ↓dNot, ↓dAnd, ↓dOr, ↓dIf, ↓dAndV, ↓dOrV, ↓dNotV, ↓dChain, ↓dMeth, ↓dMethF, ↓dKw, ↓dSl, ↓dNoP, ↓dPart, ↓w_for, diRng1, diRng2, diRevR1, diEnumX, diAny, items_lst, items_tup, ↓dLc, ↓dDc, ↓dFld, ownAt_def, setD, Sl.setD, isPar0, isParS, isPN, isP_val, isP_own, isP_no, isP_par, ↓doF, outs_nil, outs_cons, parD_par, parIx, putOuts, wipeD, ↓dBodyF, ↓dAppend, D.isLst, cmp_int, bool_bl, toInt_int, toInt_bl, truth_bl, truth_int, truth_non, len_lst, len_tup, D_add, D_sub, D_mod, eq_int, ne_int, neg_int, ix0, ix1, ix2, ix3, ix4, tx0, tx1, tx2, sx0, sx1, sx2, List.length_cons, List.length_nil, List.cons_append, List.nil_append, List.replicate, Nat.reduceAdd, Nat.reduceSub, List.getElem?_cons_zero, List.getElem?_cons_succ, List.getElem?_nil, List.set_cons_zero, List.set_cons_succ, Option.bind_some, Option.map_some, Option.isSome_some, true_and, and_true, if_true, if_false, Bool.false_eq_true, reduceIte, Int.reduceBEq, Bool.not_true, Bool.not_false, List.nodup_cons, List.nodup_nil, List.not_mem_nil, not_false_eq_true, List.mem_cons, or_false, ↓opt_f, ↓optF_some, ↓ite_cd, ↓cd_true, ↓cd_false, ↓forL_f, ↓lcL_f, ↓dcL_f, ↓noEr_run, ↓w_frz, ↓getW_own, ↓dListRg1, ↓dIndex, ↓dCKw, ↓dMake, ↓dList, seq_lst, seq_tup, kwP1, kwP10, beq_self_eq_true, ↓dEqO, ↓dBinO, ↓dNev, tyV_dct, tyV_ins, kno_dct, clV_ptr, kit_sameR, nf_same, nf_none, nf_int, nf_bool, nf_str, nf_lst, nf_tup, nf_dct, ↓dLenO, eq_bl, ne_bl, ↓hot_run, ↓w_try, ↓w_try0, ↓erH_cons, ↓erH_nil, ↓shutD_mk, x1_mk, x2_mk, ↓w_rz, ↓dXf, ↓dIsX, ↓dBinS, ↓w_nest, ↓w_dnSeq, ↓w_dnT, ↓w_dnFrz, dnCons, dnNil, hideR, hid_val, hid_own, hid_par, hid_no, oL_none, oL_some, ltO_none, ltO_some, hidL_cons, hidL_nil, dgSq, ↓dLc2, lcL2_f, ↓dChain3, ↓w_seqP, ↓w_retT, ↓w_callT, ↓dIfF, ↓w_nestL, ↓w_dnSeq2, dnLc, ↓w_dnPar2, ↓w_dnFC, lcN_f, decide_eq_true (show a ≥ 2 from c), div3]
    have e3 := third c
    refine hnx _ _ ?_ ⟨(a - 2) / 3, t + 1, e3.2.1, by omega, rfl, ?_, rfl⟩
    · omega
    · have := lst_step (n := a.toNat) (by omega)
      rw [e3.1]; omega
  · simp -implicitDefEqProofs -dsimp only [idd_eq, Nat.reduceEqDiff, ↓w_seq, ↓w_if, ↓dTest, ↓dOp, ↓dUn, ↓w_var, ↓getS_val, ↓getS_own, ↓getS_par, ↓dC, rd_val, rd_bor, ownD_own, ownD_par, rds_nil, rds_cons, ↓w_asg, ↓dCB, ↓dCons, ↓dNil, ↓dgName, ↓dgTup, ↓dgCons, ↓dgNil, ↓w_setIx, ↓w_ret, ↓w_retF, ↓w_retN, ↓w_next, ↓w_drop, ↓w_own, ↓w_brk, ↓w_cnt, ↓w_setF, ↓w_dput, ↓w_body, ↓dN, ↓dCall, ↓dCallF, argsOf_nil, argsOf_val, argsOf_bor, bors, ↓dV, ↓dTup, ↓dLst, vals_nil, vals_val, ↓w_par, ↓w_par3, ↓w_parVO, ↓w_parOV, ↓w_parOO, ↓dTruth, ↓dIsi, ↓dIsiT, ↓dInO, insOf_ins, ↓dDNew, ↓dDGet, ↓dDIn, toTup_lst, toTup_tup, pf_nil, lk_self, key_str, key_int, isN_non, isNN_non, kno_int, kno_str, kno_lst, kno_tup, kno_bl, kno_non, tyV_int, tyV_bl, tyV_str, tyV_lst, tyV_tup, tyV_non, clV_ty, clVT_nil, clVT_val, kit_same, kit_int_bool, kit_bool_int, kits_list, kits_tuple, ↓dNot, ↓dAnd, ↓dOr, ↓dIf, ↓dAndV, ↓dOrV, ↓dNotV, ↓dChain, ↓dMeth, ↓dMethF, ↓dKw, ↓dSl, ↓dNoP, ↓dPart, ↓w_for, diRng1, diRng2, diRevR1, diEnumX, diAny, items_lst, items_tup, ↓dLc, ↓dDc, ↓dFld, ownAt_def, setD, Sl.setD, isPar0, isParS, isPN, isP_val, isP_own, isP_no, isP_par, ↓doF, outs_nil, outs_cons, parD_par, parIx, putOuts, wipeD, ↓dBodyF, ↓dAppend, D.isLst, cmp_int, bool_bl, toInt_int, toInt_bl, truth_bl, truth_int, truth_non, len_lst, len_tup, D_add, D_sub, D_mod, eq_int, ne_int, neg_int, ix0, ix1, ix2, ix3, ix4, tx0, tx1, tx2, sx0, sx1, sx2, List.length_cons, List.length_nil, List.cons_append, List.nil_append, List.replicate, Nat.reduceAdd, Nat.reduceSub, List.getElem?_cons_zero, List.getElem?_cons_succ, List.getElem?_nil, List.set_cons_zero, List.set_cons_succ, Option.bind_some, Option.map_some, Option.isSome_some, true_and, and_true, if_true, if_false, Bool.false_eq_true, reduceIte, Int.reduceBEq, Bool.not_true, Bool.not_false, List.nodup_cons, List.nodup_nil, List.not_mem_nil, not_false_eq_true, List.mem_cons, or_false, ↓opt_f, ↓optF_some, ↓ite_cd, ↓cd_true, ↓cd_false, ↓forL_f, ↓lcL_f, ↓dcL_f, ↓noEr_run, ↓w_frz, ↓getW_own, ↓dListRg1, ↓dIndex, ↓dCKw, ↓dMake, ↓dList, seq_lst, seq_tup, kwP1, kwP10, beq_self_eq_true, ↓dEqO, ↓dBinO, ↓dNev, tyV_dct, tyV_ins, kno_dct, clV_ptr, kit_sameR, nf_same, nf_none, nf_int, nf_bool, nf_str, nf_lst, nf_tup, nf_dct, ↓dLenO, eq_bl, ne_bl, ↓hot_run, ↓w_try, ↓w_try0, ↓erH_cons, ↓erH_nil, ↓shutD_mk, x1_mk, x2_mk, ↓w_rz, ↓dXf, ↓dIsX, ↓dBinS, ↓w_nest, ↓w_dnSeq, ↓w_dnT, ↓w_dnFrz, dnCons, dnNil, hideR, hid_val, hid_own, hid_par, hid_no, oL_none, oL_some, ltO_none, ltO_some, hidL_cons, hidL_nil, dgSq, ↓dLc2, lcL2_f, ↓dChain3, ↓w_seqP, ↓w_retT, ↓w_callT, ↓dIfF, ↓w_nestL, ↓w_dnSeq2, dnLc, ↓w_dnPar2, ↓w_dnFC, lcN_f, decide_eq_false (show ¬ a ≥ 2 from c)]
    rw [lst_0 (show a.toNat < 2 by omega), Nat.zero_add] at e
    rw [e]
    exact k
theorem bool_ne (a b : Bool) : D.ne (.bl a) (.bl b) = some (.bl (!(a == b))) := by cases a <;> cases b <;> rfl
theorem isN_tup (xs : List D) : D.isN (.tup xs) .non = some (.bl false) := rfl
theorem lg (n : Nat) (h : n ≤ 63) : ((n : Nat) : Int).natAbs.log2 < 1920 := by
  rw [Int.natAbs_natCast]
  rcases Nat.eq_zero_or_pos n with e | e
  · subst e; decide
  · have := (Nat.log2_lt (n := n) (k := 10) (by omega)).mpr (by omega)
    omega
end
theorem ni_nices : ∀ L : List Nat, D.nices 1 (L.map fun (x : Nat) => D.int (x : Int)) = true
  | [] => rfl
  | x :: L => by
    rw [List.map_cons]
    show (D.nice 1 (.int (x : Int)) && D.nices 1 (L.map fun (x : Nat) => D.int (x : Int))) = true
    rw [ni_nices L]; rfl
theorem ni_nice (L : List Nat) : (ni L).nice 2 = true := ni_nices L
theorem law_true {K : PySem.W.Frag} (A : Ads) (fx : Fax K A) (ns : List Int) (hl : ns.length ≤ 63) : dsp_law K A [.val (.lst (ns.map D.int))] (fun d _ => d = .bl true) (fun _ _ _ => False) := by
  unfold dsp_law body_law
  have h1 : 0 + 1 ≤ sizeLine := by decide
  have h2 : 0 + 1 + 1 ≤ sizeLine := by decide
  have h5 : 0 + 1 + 1 + 1 + 1 + 1 ≤ sizeLine := by decide
  have h9 : 0 + 1 + 1 + 1 + 1 + 1 + 1 + 1 + 1 + 1 ≤ sizeLine := by decide
  have h0 : 0 ≤ sizeLine := by decide
  have hp9 : D.pow (.int 10) (.int 9) = some (.int (10 ^ 9)) := D_pow ⟨by decide, by decide, by decide⟩
  have hp30 : D.pow (.int 10) (.int 30) = some (.int (10 ^ 30)) := D_pow ⟨by decide, by decide, by decide⟩
  have ha : D.add (.lst (ns.map D.int)) (.lst [.int 0]) = some (.lst ((ns ++ [0]).map D.int)) := by
    rw [D_addL (by rw [List.length_map, List.length_singleton]; exact Nat.le_trans (by omega : _ ≤ 64) (by decide)), List.map_append]; rfl
  have hc : D.cut (.lst ((ns ++ [0]).map D.int)) none (some 4) = some (.lst (((ns ++ [0]).take 4).map D.int)) := by
    rw [show (4 : Int) = ((4 : Nat) : Int) from rfl, cutL_lo, List.map_take]
  have hne : D.ne (ni (knownF 29)) (ni (knownF 29)) = some (.bl false) := by
    refine (eq_self (n := 2) (ni_nice _) (by decide)).2
  simp -implicitDefEqProofs -dsimp only [idd_eq, Nat.reduceEqDiff, ↓w_seq, ↓w_if, ↓dTest, ↓dOp, ↓dUn, ↓w_var, ↓getS_val, ↓getS_own, ↓getS_par, ↓dC, rd_val, rd_bor, ownD_own, ownD_par, rds_nil, rds_cons, ↓w_asg, ↓dCB, ↓dCons, ↓dNil, ↓dgName, ↓dgTup, ↓dgCons, ↓dgNil, ↓w_setIx, ↓w_ret, ↓w_retF, ↓w_retN, ↓w_next, ↓w_drop, ↓w_own, ↓w_brk, ↓w_cnt, ↓w_setF, ↓w_dput, ↓w_body, ↓dN, ↓dCall, ↓dCallF, argsOf_nil, argsOf_val, argsOf_bor, bors, ↓dV, ↓dTup, ↓dLst, vals_nil, vals_val, ↓w_par, ↓w_par3, ↓w_parVO, ↓w_parOV, ↓w_parOO, ↓dTruth, ↓dIsi, ↓dIsiT, ↓dInO, insOf_ins, ↓dDNew, ↓dDGet, ↓dDIn, toTup_lst, toTup_tup, pf_nil, lk_self, key_str, key_int, isN_non, isNN_non, kno_int, kno_str, kno_lst, kno_tup, kno_bl, kno_non, tyV_int, tyV_bl, tyV_str, tyV_lst, tyV_tup, tyV_non, clV_ty, clVT_nil, clVT_val, kit_same, kit_int_bool, kit_bool_int, kits_list, kits_tuple, ↓dNot, ↓dAnd, ↓dOr, ↓dIf, ↓dAndV, ↓dOrV, ↓dNotV, ↓dChain, ↓dMeth, ↓dMethF, ↓dKw, ↓dSl, ↓dNoP, ↓dPart, ↓w_for, diRng1, diRng2, diRevR1, diEnumX, diAny, items_lst, items_tup, ↓dLc, ↓dDc, ↓dFld, ownAt_def, setD, Sl.setD, isPar0, isParS, isPN, isP_val, isP_own, isP_no, isP_par, ↓doF, outs_nil, outs_cons, parD_par, parIx, putOuts, wipeD, ↓dBodyF, ↓dAppend, D.isLst, cmp_int, bool_bl, toInt_int, toInt_bl, truth_bl, truth_int, truth_non, len_lst, len_tup, D_add, D_sub, D_mod, eq_int, ne_int, neg_int, ix0, ix1, ix2, ix3, ix4, tx0, tx1, tx2, sx0, sx1, sx2, List.length_cons, List.length_nil, List.cons_append, List.nil_append, List.replicate, Nat.reduceAdd, Nat.reduceSub, List.getElem?_cons_zero, List.getElem?_cons_succ, List.getElem?_nil, List.set_cons_zero, List.set_cons_succ, Option.bind_some, Option.map_some, Option.isSome_some, true_and, and_true, if_true, if_false, Bool.false_eq_true, reduceIte, Int.reduceBEq, Bool.not_true, Bool.not_false, List.nodup_cons, List.nodup_nil, List.not_mem_nil, not_false_eq_true, List.mem_cons, or_false, ↓opt_f, ↓optF_some, ↓ite_cd, ↓cd_true, ↓cd_false, ↓forL_f, ↓lcL_f, ↓dcL_f, ↓noEr_run, ↓w_frz, ↓getW_own, ↓dListRg1, ↓dIndex, ↓dCKw, ↓dMake, ↓dList, seq_lst, seq_tup, kwP1, kwP10, beq_self_eq_true, ↓dEqO, ↓dBinO, ↓dNev, tyV_dct, tyV_ins, kno_dct, clV_ptr, kit_sameR, nf_same, nf_none, nf_int, nf_bool, nf_str, nf_lst, nf_tup, nf_dct, ↓dLenO, eq_bl, ne_bl, ↓hot_run, ↓w_try, ↓w_try0, ↓erH_cons, ↓erH_nil, ↓shutD_mk, x1_mk, x2_mk, ↓w_rz, ↓dXf, ↓dIsX, ↓dBinS, ↓w_nest, ↓w_dnSeq, ↓w_dnT, ↓w_dnFrz, dnCons, dnNil, hideR, hid_val, hid_own, hid_par, hid_no, oL_none, oL_some, ltO_none, ltO_some, hidL_cons, hidL_nil, dgSq, ↓dLc2, lcL2_f, ↓dChain3, ↓w_seqP, ↓w_retT, ↓w_callT, ↓dIfF, ↓w_nestL, ↓w_dnSeq2, dnLc, ↓w_dnPar2, ↓w_dnFC, lcN_f, Nat.reduceLT]
  refine ⟨⟨by decide, by decide⟩, ?_⟩
  refine lcL_inv (fun i acc ρ => acc = (List.range i).map (fun (x : Nat) => D.int ((lst x : Nat) : Int)) ∧ ρ = [.val (.lst (ns.map D.int)), .no, .no, .no, .no, .no, .no, .no]) ⟨rfl, rfl⟩ ?_ ?_
  · rintro i d acc ρ nx hd ⟨rfl, rfl⟩ hnx
    have hi := (List.getElem?_eq_some_iff.mp hd).1
    have hi : i < 31 := by simpa using hi
    obtain rfl : d = .int (i : Int) := by
      rw [List.getElem?_map, List.getElem?_range (by omega)] at hd
      exact (Option.some.inj hd).symm
    simp -implicitDefEqProofs -dsimp only [idd_eq, Nat.reduceEqDiff, ↓w_seq, ↓w_if, ↓dTest, ↓dOp, ↓dUn, ↓w_var, ↓getS_val, ↓getS_own, ↓getS_par, ↓dC, rd_val, rd_bor, ownD_own, ownD_par, rds_nil, rds_cons, ↓w_asg, ↓dCB, ↓dCons, ↓dNil, ↓dgName, ↓dgTup, ↓dgCons, ↓dgNil, ↓w_setIx, ↓w_ret, ↓w_retF, ↓w_retN, ↓w_next, ↓w_drop, ↓w_own, ↓w_brk, ↓w_cnt, ↓w_setF, ↓w_dput, ↓w_body, ↓dN, ↓dCall, ↓dCallF, argsOf_nil, argsOf_val, argsOf_bor, bors, ↓dV, ↓dTup, ↓dLst, vals_nil, vals_val, ↓w_par, ↓w_par3, ↓w_parVO, ↓w_parOV, ↓w_parOO, ↓dTruth, ↓dIsi, ↓dIsiT, ↓dInO, insOf_ins, ↓dDNew, ↓dDGet, ↓dDIn, toTup_lst, toTup_tup, pf_nil, lk_self, key_str, key_int, isN_non, isNN_non, kno_int, kno_str, kno_lst, kno_tup, kno_bl, kno_non, tyV_int, tyV_bl, tyV_str, tyV_lst, tyV_tup, tyV_non, clV_ty, clVT_nil, clVT_val, kit_same, kit_int_bool, kit_bool_int, kits_list, kits_tuple, ↓dNot, ↓dAnd, ↓dOr, ↓dIf, ↓dAndV, ↓dOrV, ↓dNotV, ↓dChain, ↓dMeth, ↓dMethF, ↓dKw, ↓dSl, ↓dNoP, ↓dPart, ↓w_for, diRng1, diRng2, diRevR1, diEnumX, diAny, items_lst, items_tup, ↓dLc, ↓dDc, ↓dFld, ownAt_def, setD, Sl.setD, isPar0, isParS, isPN, isP_val, isP_own, isP_no, isP_par, ↓doF, outs_nil, outs_cons, parD_par, parIx, putOuts, wipeD, ↓dBodyF, ↓dAppend, D.isLst, cmp_int, bool_bl, toInt_int, toInt_bl, truth_bl, truth_int, truth_non, len_lst, len_tup, D_add, D_sub, D_mod, eq_int, ne_int, neg_int, ix0, ix1, ix2, ix3, ix4, tx0, tx1, tx2, sx0, sx1, sx2, List.length_cons, List.length_nil, List.cons_append, List.nil_append, List.replicate, Nat.reduceAdd, Nat.reduceSub, List.getElem?_cons_zero, List.getElem?_cons_succ, List.getElem?_nil, List.set_cons_zero, List.set_cons_succ, Option.bind_some, Option.map_some, Option.isSome_some, true_and, and_true, if_true, if_false, Bool.false_eq_true, reduceIte, Int.reduceBEq, Bool.not_true, Bool.not_false, List.nodup_cons, List.nodup_nil, List.not_mem_nil, not_false_eq_true, List.mem_cons, or_false, ↓opt_f, ↓optF_some, ↓ite_cd, ↓cd_true, ↓cd_false, ↓forL_f, ↓lcL_f, ↓dcL_f, ↓noEr_run, ↓w_frz, ↓getW_own, ↓dListRg1, ↓dIndex, ↓dCKw, ↓dMake, ↓dList, seq_lst, seq_tup, kwP1, kwP10, beq_self_eq_true, ↓dEqO, ↓dBinO, ↓dNev, tyV_dct, tyV_ins, kno_dct, clV_ptr, kit_sameR, nf_same, nf_none, nf_int, nf_bool, nf_str, nf_lst, nf_tup, nf_dct, ↓dLenO, eq_bl, ne_bl, ↓hot_run, ↓w_try, ↓w_try0, ↓erH_cons, ↓erH_nil, ↓shutD_mk, x1_mk, x2_mk, ↓w_rz, ↓dXf, ↓dIsX, ↓dBinS, ↓w_nest, ↓w_dnSeq, ↓w_dnT, ↓w_dnFrz, dnCons, dnNil, hideR, hid_val, hid_own, hid_par, hid_no, oL_none, oL_some, ltO_none, ltO_some, hidL_cons, hidL_nil, dgSq, ↓dLc2, lcL2_f, ↓dChain3, ↓w_seqP, ↓w_retT, ↓w_callT, ↓dIfF, ↓w_nestL, ↓w_dnSeq2, dnLc, ↓w_dnPar2, ↓w_dnFC, lcN_f, Nat.reduceLT]
    refine lasting_ok A (by omega) (by omega) ?_
    simp -implicitDefEqProofs -dsimp only [idd_eq, Nat.reduceEqDiff, ↓w_seq, ↓w_if, ↓dTest, ↓dOp, ↓dUn, ↓w_var, ↓getS_val, ↓getS_own, ↓getS_par, ↓dC, rd_val, rd_bor, ownD_own, ownD_par, rds_nil, rds_cons, ↓w_asg, ↓dCB, ↓dCons, ↓dNil, ↓dgName, ↓dgTup, ↓dgCons, ↓dgNil, ↓w_setIx, ↓w_ret, ↓w_retF, ↓w_retN, ↓w_next, ↓w_drop, ↓w_own, ↓w_brk, ↓w_cnt, ↓w_setF, ↓w_dput, ↓w_body, ↓dN, ↓dCall, ↓dCallF, argsOf_nil, argsOf_val, argsOf_bor, bors, ↓dV, ↓dTup, ↓dLst, vals_nil, vals_val, ↓w_par, ↓w_par3, ↓w_parVO, ↓w_parOV, ↓w_parOO, ↓dTruth, ↓dIsi, ↓dIsiT, ↓dInO, insOf_ins, ↓dDNew, ↓dDGet, ↓dDIn, toTup_lst, toTup_tup, pf_nil, lk_self, key_str, key_int, isN_non, isNN_non, kno_int, kno_str, kno_lst, kno_tup, kno_bl, kno_non, tyV_int, tyV_bl, tyV_str, tyV_lst, tyV_tup, tyV_non, clV_ty, clVT_nil, clVT_val, kit_same, kit_int_bool, kit_bool_int, kits_list, kits_tuple, ↓dNot, ↓dAnd, ↓dOr, ↓dIf, ↓dAndV, ↓dOrV, ↓dNotV, ↓dChain, ↓dMeth, ↓dMethF, ↓dKw, ↓dSl, ↓dNoP, ↓dPart, ↓w_for, diRng1, diRng2, diRevR1, diEnumX, diAny, items_lst, items_tup, ↓dLc, ↓dDc, ↓dFld, ownAt_def, setD, Sl.setD, isPar0, isParS, isPN, isP_val, isP_own, isP_no, isP_par, ↓doF, outs_nil, outs_cons, parD_par, parIx, putOuts, wipeD, ↓dBodyF, ↓dAppend, D.isLst, cmp_int, bool_bl, toInt_int, toInt_bl, truth_bl, truth_int, truth_non, len_lst, len_tup, D_add, D_sub, D_mod, eq_int, ne_int, neg_int, ix0, ix1, ix2, ix3, ix4, tx0, tx1, tx2, sx0, sx1, sx2, List.length_cons, List.length_nil, List.cons_append, List.nil_append, List.replicate, Nat.reduceAdd, Nat.reduceSub, List.getElem?_cons_zero, List.getElem?_cons_succ, List.getElem?_nil, List.set_cons_zero, List.set_cons_succ, Option.bind_some, Option.map_some, Option.isSome_some, true_and, and_true, if_true, if_false, Bool.false_eq_true, reduceIte, Int.reduceBEq, Bool.not_true, Bool.not_false, List.nodup_cons, List.nodup_nil, List.not_mem_nil, not_false_eq_true, List.mem_cons, or_false, ↓opt_f, ↓optF_some, ↓ite_cd, ↓cd_true, ↓cd_false, ↓forL_f, ↓lcL_f, ↓dcL_f, ↓noEr_run, ↓w_frz, ↓getW_own, ↓dListRg1, ↓dIndex, ↓dCKw, ↓dMake, ↓dList, seq_lst, seq_tup, kwP1, kwP10, beq_self_eq_true, ↓dEqO, ↓dBinO, ↓dNev, tyV_dct, tyV_ins, kno_dct, clV_ptr, kit_sameR, nf_same, nf_none, nf_int, nf_bool, nf_str, nf_lst, nf_tup, nf_dct, ↓dLenO, eq_bl, ne_bl, ↓hot_run, ↓w_try, ↓w_try0, ↓erH_cons, ↓erH_nil, ↓shutD_mk, x1_mk, x2_mk, ↓w_rz, ↓dXf, ↓dIsX, ↓dBinS, ↓w_nest, ↓w_dnSeq, ↓w_dnT, ↓w_dnFrz, dnCons, dnNil, hideR, hid_val, hid_own, hid_par, hid_no, oL_none, oL_some, ltO_none, ltO_some, hidL_cons, hidL_nil, dgSq, ↓dLc2, lcL2_f, ↓dChain3, ↓w_seqP, ↓w_retT, ↓w_callT, ↓dIfF, ↓w_nestL, ↓w_dnSeq2, dnLc, ↓w_dnPar2, ↓w_dnFC, lcN_f, Nat.reduceLT]
    refine ⟨by rw [List.length_map, List.length_range]; exact Nat.lt_of_lt_of_le (show i < 100 by omega) (by decide), hnx _ _ ⟨?_, rfl⟩⟩
    rw [List.range_succ, List.map_append]; rfl
  rintro acc ρ ⟨hacc, rfl⟩
  have ek : D.lst acc = ni (knownF 29) := by
    rw [hacc, known_29, List.length_map, List.length_range]
    unfold ni
    rw [List.map_map]; rfl
  simp -implicitDefEqProofs -dsimp only [idd_eq, Nat.reduceEqDiff, ↓w_seq, ↓w_if, ↓dTest, ↓dOp, ↓dUn, ↓w_var, ↓getS_val, ↓getS_own, ↓getS_par, ↓dC, rd_val, rd_bor, ownD_own, ownD_par, rds_nil, rds_cons, ↓w_asg, ↓dCB, ↓dCons, ↓dNil, ↓dgName, ↓dgTup, ↓dgCons, ↓dgNil, ↓w_setIx, ↓w_ret, ↓w_retF, ↓w_retN, ↓w_next, ↓w_drop, ↓w_own, ↓w_brk, ↓w_cnt, ↓w_setF, ↓w_dput, ↓w_body, ↓dN, ↓dCall, ↓dCallF, argsOf_nil, argsOf_val, argsOf_bor, bors, ↓dV, ↓dTup, ↓dLst, vals_nil, vals_val, ↓w_par, ↓w_par3, ↓w_parVO, ↓w_parOV, ↓w_parOO, ↓dTruth, ↓dIsi, ↓dIsiT, ↓dInO, insOf_ins, ↓dDNew, ↓dDGet, ↓dDIn, toTup_lst, toTup_tup, pf_nil, lk_self, key_str, key_int, isN_non, isNN_non, kno_int, kno_str, kno_lst, kno_tup, kno_bl, kno_non, tyV_int, tyV_bl, tyV_str, tyV_lst, tyV_tup, tyV_non, clV_ty, clVT_nil, clVT_val, kit_same, kit_int_bool, kit_bool_int, kits_list, kits_tuple, ↓dNot, ↓dAnd, ↓dOr, ↓dIf, ↓dAndV, ↓dOrV, ↓dNotV, ↓dChain, ↓dMeth, ↓dMethF, ↓dKw, ↓dSl, ↓dNoP, ↓dPart, ↓w_for, diRng1, diRng2, diRevR1, diEnumX, diAny, items_lst, items_tup, ↓dLc, ↓dDc, ↓dFld, ownAt_def, setD, Sl.setD, isPar0, isParS, isPN, isP_val, isP_own, isP_no, isP_par, ↓doF, outs_nil, outs_cons, parD_par, parIx, putOuts, wipeD, ↓dBodyF, ↓dAppend, D.isLst, cmp_int, bool_bl, toInt_int, toInt_bl, truth_bl, truth_int, truth_non, len_lst, len_tup, D_add, D_sub, D_mod, eq_int, ne_int, neg_int, ix0, ix1, ix2, ix3, ix4, tx0, tx1, tx2, sx0, sx1, sx2, List.length_cons, List.length_nil, List.cons_append, List.nil_append, List.replicate, Nat.reduceAdd, Nat.reduceSub, List.getElem?_cons_zero, List.getElem?_cons_succ, List.getElem?_nil, List.set_cons_zero, List.set_cons_succ, Option.bind_some, Option.map_some, Option.isSome_some, true_and, and_true, if_true, if_false, Bool.false_eq_true, reduceIte, Int.reduceBEq, Bool.not_true, Bool.not_false, List.nodup_cons, List.nodup_nil, List.not_mem_nil, not_false_eq_true, List.mem_cons, or_false, ↓opt_f, ↓optF_some, ↓ite_cd, ↓cd_true, ↓cd_false, ↓forL_f, ↓lcL_f, ↓dcL_f, ↓noEr_run, ↓w_frz, ↓getW_own, ↓dListRg1, ↓dIndex, ↓dCKw, ↓dMake, ↓dList, seq_lst, seq_tup, kwP1, kwP10, beq_self_eq_true, ↓dEqO, ↓dBinO, ↓dNev, tyV_dct, tyV_ins, kno_dct, clV_ptr, kit_sameR, nf_same, nf_none, nf_int, nf_bool, nf_str, nf_lst, nf_tup, nf_dct, ↓dLenO, eq_bl, ne_bl, ↓hot_run, ↓w_try, ↓w_try0, ↓erH_cons, ↓erH_nil, ↓shutD_mk, x1_mk, x2_mk, ↓w_rz, ↓dXf, ↓dIsX, ↓dBinS, ↓w_nest, ↓w_dnSeq, ↓w_dnT, ↓w_dnFrz, dnCons, dnNil, hideR, hid_val, hid_own, hid_par, hid_no, oL_none, oL_some, ltO_none, ltO_some, hidL_cons, hidL_nil, dgSq, ↓dLc2, lcL2_f, ↓dChain3, ↓w_seqP, ↓w_retT, ↓w_callT, ↓dIfF, ↓w_nestL, ↓w_dnSeq2, dnLc, ↓w_dnPar2, ↓w_dnFC, lcN_f, ek]
  refine known_ok A ?_
  simp -implicitDefEqProofs -dsimp only [idd_eq, Nat.reduceEqDiff, ↓w_seq, ↓w_if, ↓dTest, ↓dOp, ↓dUn, ↓w_var, ↓getS_val, ↓getS_own, ↓getS_par, ↓dC, rd_val, rd_bor, ownD_own, ownD_par, rds_nil, rds_cons, ↓w_asg, ↓dCB, ↓dCons, ↓dNil, ↓dgName, ↓dgTup, ↓dgCons, ↓dgNil, ↓w_setIx, ↓w_ret, ↓w_retF, ↓w_retN, ↓w_next, ↓w_drop, ↓w_own, ↓w_brk, ↓w_cnt, ↓w_setF, ↓w_dput, ↓w_body, ↓dN, ↓dCall, ↓dCallF, argsOf_nil, argsOf_val, argsOf_bor, bors, ↓dV, ↓dTup, ↓dLst, vals_nil, vals_val, ↓w_par, ↓w_par3, ↓w_parVO, ↓w_parOV, ↓w_parOO, ↓dTruth, ↓dIsi, ↓dIsiT, ↓dInO, insOf_ins, ↓dDNew, ↓dDGet, ↓dDIn, toTup_lst, toTup_tup, pf_nil, lk_self, key_str, key_int, isN_non, isNN_non, kno_int, kno_str, kno_lst, kno_tup, kno_bl, kno_non, tyV_int, tyV_bl, tyV_str, tyV_lst, tyV_tup, tyV_non, clV_ty, clVT_nil, clVT_val, kit_same, kit_int_bool, kit_bool_int, kits_list, kits_tuple, ↓dNot, ↓dAnd, ↓dOr, ↓dIf, ↓dAndV, ↓dOrV, ↓dNotV, ↓dChain, ↓dMeth, ↓dMethF, ↓dKw, ↓dSl, ↓dNoP, ↓dPart, ↓w_for, diRng1, diRng2, diRevR1, diEnumX, diAny, items_lst, items_tup, ↓dLc, ↓dDc, ↓dFld, ownAt_def, setD, Sl.setD, isPar0, isParS, isPN, isP_val, isP_own, isP_no, isP_par, ↓doF, outs_nil, outs_cons, parD_par, parIx, putOuts, wipeD, ↓dBodyF, ↓dAppend, D.isLst, cmp_int, bool_bl, toInt_int, toInt_bl, truth_bl, truth_int, truth_non, len_lst, len_tup, D_add, D_sub, D_mod, eq_int, ne_int, neg_int, ix0, ix1, ix2, ix3, ix4, tx0, tx1, tx2, sx0, sx1, sx2, List.length_cons, List.length_nil, List.cons_append, List.nil_append, List.replicate, Nat.reduceAdd, Nat.reduceSub, List.getElem?_cons_zero, List.getElem?_cons_succ, List.getElem?_nil, List.set_cons_zero, List.set_cons_succ, Option.bind_some, Option.map_some, Option.isSome_some, true_and, and_true, if_true, if_false, Bool.false_eq_true, reduceIte, Int.reduceBEq, Bool.not_true, Bool.not_false, List.nodup_cons, List.nodup_nil, List.not_mem_nil, not_false_eq_true, List.mem_cons, or_false, ↓opt_f, ↓optF_some, ↓ite_cd, ↓cd_true, ↓cd_false, ↓forL_f, ↓lcL_f, ↓dcL_f, ↓noEr_run, ↓w_frz, ↓getW_own, ↓dListRg1, ↓dIndex, ↓dCKw, ↓dMake, ↓dList, seq_lst, seq_tup, kwP1, kwP10, beq_self_eq_true, ↓dEqO, ↓dBinO, ↓dNev, tyV_dct, tyV_ins, kno_dct, clV_ptr, kit_sameR, nf_same, nf_none, nf_int, nf_bool, nf_str, nf_lst, nf_tup, nf_dct, ↓dLenO, eq_bl, ne_bl, ↓hot_run, ↓w_try, ↓w_try0, ↓erH_cons, ↓erH_nil, ↓shutD_mk, x1_mk, x2_mk, ↓w_rz, ↓dXf, ↓dIsX, ↓dBinS, ↓w_nest, ↓w_dnSeq, ↓w_dnT, ↓w_dnFrz, dnCons, dnNil, hideR, hid_val, hid_own, hid_par, hid_no, oL_none, oL_some, ltO_none, ltO_some, hidL_cons, hidL_nil, dgSq, ↓dLc2, lcL2_f, ↓dChain3, ↓w_seqP, ↓w_retT, ↓w_callT, ↓dIfF, ↓w_nestL, ↓w_dnSeq2, dnLc, ↓w_dnPar2, ↓w_dnFC, lcN_f, ek, hne, h1, ha, hc]
  refine forL_inv (fun i ρ => ∃ s1 s2 s3 s4 s5 s6 s7, (s1.isP = false ∧ s2.isP = false ∧ s3.isP = false ∧ s4.isP = false ∧ s5.isP = false ∧ s6.isP = false ∧ s7.isP = false) ∧ ρ = [.val (.lst (ns.map D.int)), s1, s2, s3, s4, s5, s6, s7]) ⟨.no, .no, .no, .no, .no, .no, .no, ⟨rfl, rfl, rfl, rfl, rfl, rfl, rfl⟩, rfl⟩ ?_ ?_
  · rintro i d ρ nx hd ⟨s1, s2, s3, s4, s5, s6, s7, ⟨p1, p2, p3, p4, p5, p6, p7⟩, rfl⟩ hnx
    obtain ⟨c, -, rfl⟩ := List.mem_map.mp (List.mem_of_getElem? hd)
    simp -implicitDefEqProofs -dsimp only [idd_eq, Nat.reduceEqDiff, ↓w_seq, ↓w_if, ↓dTest, ↓dOp, ↓dUn, ↓w_var, ↓getS_val, ↓getS_own, ↓getS_par, ↓dC, rd_val, rd_bor, ownD_own, ownD_par, rds_nil, rds_cons, ↓w_asg, ↓dCB, ↓dCons, ↓dNil, ↓dgName, ↓dgTup, ↓dgCons, ↓dgNil, ↓w_setIx, ↓w_ret, ↓w_retF, ↓w_retN, ↓w_next, ↓w_drop, ↓w_own, ↓w_brk, ↓w_cnt, ↓w_setF, ↓w_dput, ↓w_body, ↓dN, ↓dCall, ↓dCallF, argsOf_nil, argsOf_val, argsOf_bor, bors, ↓dV, ↓dTup, ↓dLst, vals_nil, vals_val, ↓w_par, ↓w_par3, ↓w_parVO, ↓w_parOV, ↓w_parOO, ↓dTruth, ↓dIsi, ↓dIsiT, ↓dInO, insOf_ins, ↓dDNew, ↓dDGet, ↓dDIn, toTup_lst, toTup_tup, pf_nil, lk_self, key_str, key_int, isN_non, isNN_non, kno_int, kno_str, kno_lst, kno_tup, kno_bl, kno_non, tyV_int, tyV_bl, tyV_str, tyV_lst, tyV_tup, tyV_non, clV_ty, clVT_nil, clVT_val, kit_same, kit_int_bool, kit_bool_int, kits_list, kits_tuple, ↓dNot, ↓dAnd, ↓dOr, ↓dIf, ↓dAndV, ↓dOrV, ↓dNotV, ↓dChain, ↓dMeth, ↓dMethF, ↓dKw, ↓dSl, ↓dNoP, ↓dPart, ↓w_for, diRng1, diRng2, diRevR1, diEnumX, diAny, items_lst, items_tup, ↓dLc, ↓dDc, ↓dFld, ownAt_def, setD, Sl.setD, isPar0, isParS, isPN, isP_val, isP_own, isP_no, isP_par, ↓doF, outs_nil, outs_cons, parD_par, parIx, putOuts, wipeD, ↓dBodyF, ↓dAppend, D.isLst, cmp_int, bool_bl, toInt_int, toInt_bl, truth_bl, truth_int, truth_non, len_lst, len_tup, D_add, D_sub, D_mod, eq_int, ne_int, neg_int, ix0, ix1, ix2, ix3, ix4, tx0, tx1, tx2, sx0, sx1, sx2, List.length_cons, List.length_nil, List.cons_append, List.nil_append, List.replicate, Nat.reduceAdd, Nat.reduceSub, List.getElem?_cons_zero, List.getElem?_cons_succ, List.getElem?_nil, List.set_cons_zero, List.set_cons_succ, Option.bind_some, Option.map_some, Option.isSome_some, true_and, and_true, if_true, if_false, Bool.false_eq_true, reduceIte, Int.reduceBEq, Bool.not_true, Bool.not_false, List.nodup_cons, List.nodup_nil, List.not_mem_nil, not_false_eq_true, List.mem_cons, or_false, ↓opt_f, ↓optF_some, ↓ite_cd, ↓cd_true, ↓cd_false, ↓forL_f, ↓lcL_f, ↓dcL_f, ↓noEr_run, ↓w_frz, ↓getW_own, ↓dListRg1, ↓dIndex, ↓dCKw, ↓dMake, ↓dList, seq_lst, seq_tup, kwP1, kwP10, beq_self_eq_true, ↓dEqO, ↓dBinO, ↓dNev, tyV_dct, tyV_ins, kno_dct, clV_ptr, kit_sameR, nf_same, nf_none, nf_int, nf_bool, nf_str, nf_lst, nf_tup, nf_dct, ↓dLenO, eq_bl, ne_bl, ↓hot_run, ↓w_try, ↓w_try0, ↓erH_cons, ↓erH_nil, ↓shutD_mk, x1_mk, x2_mk, ↓w_rz, ↓dXf, ↓dIsX, ↓dBinS, ↓w_nest, ↓w_dnSeq, ↓w_dnT, ↓w_dnFrz, dnCons, dnNil, hideR, hid_val, hid_own, hid_par, hid_no, oL_none, oL_some, ltO_none, ltO_some, hidL_cons, hidL_nil, dgSq, ↓dLc2, lcL2_f, ↓dChain3, ↓w_seqP, ↓w_retT, ↓w_callT, ↓dIfF, ↓w_nestL, ↓w_dnSeq2, dnLc, ↓w_dnPar2, ↓w_dnFC, lcN_f, Nat.reduceLT, p1, p2, p3, p4, p5, p6, p7]
    refine rng_ok A c ?_
    intro w0 hw0
    simp -implicitDefEqProofs -dsimp only [idd_eq, Nat.reduceEqDiff, ↓w_seq, ↓w_if, ↓dTest, ↓dOp, ↓dUn, ↓w_var, ↓getS_val, ↓getS_own, ↓getS_par, ↓dC, rd_val, rd_bor, ownD_own, ownD_par, rds_nil, rds_cons, ↓w_asg, ↓dCB, ↓dCons, ↓dNil, ↓dgName, ↓dgTup, ↓dgCons, ↓dgNil, ↓w_setIx, ↓w_ret, ↓w_retF, ↓w_retN, ↓w_next, ↓w_drop, ↓w_own, ↓w_brk, ↓w_cnt, ↓w_setF, ↓w_dput, ↓w_body, ↓dN, ↓dCall, ↓dCallF, argsOf_nil, argsOf_val, argsOf_bor, bors, ↓dV, ↓dTup, ↓dLst, vals_nil, vals_val, ↓w_par, ↓w_par3, ↓w_parVO, ↓w_parOV, ↓w_parOO, ↓dTruth, ↓dIsi, ↓dIsiT, ↓dInO, insOf_ins, ↓dDNew, ↓dDGet, ↓dDIn, toTup_lst, toTup_tup, pf_nil, lk_self, key_str, key_int, isN_non, isNN_non, kno_int, kno_str, kno_lst, kno_tup, kno_bl, kno_non, tyV_int, tyV_bl, tyV_str, tyV_lst, tyV_tup, tyV_non, clV_ty, clVT_nil, clVT_val, kit_same, kit_int_bool, kit_bool_int, kits_list, kits_tuple, ↓dNot, ↓dAnd, ↓dOr, ↓dIf, ↓dAndV, ↓dOrV, ↓dNotV, ↓dChain, ↓dMeth, ↓dMethF, ↓dKw, ↓dSl, ↓dNoP, ↓dPart, ↓w_for, diRng1, diRng2, diRevR1, diEnumX, diAny, items_lst, items_tup, ↓dLc, ↓dDc, ↓dFld, ownAt_def, setD, Sl.setD, isPar0, isParS, isPN, isP_val, isP_own, isP_no, isP_par, ↓doF, outs_nil, outs_cons, parD_par, parIx, putOuts, wipeD, ↓dBodyF, ↓dAppend, D.isLst, cmp_int, bool_bl, toInt_int, toInt_bl, truth_bl, truth_int, truth_non, len_lst, len_tup, D_add, D_sub, D_mod, eq_int, ne_int, neg_int, ix0, ix1, ix2, ix3, ix4, tx0, tx1, tx2, sx0, sx1, sx2, List.length_cons, List.length_nil, List.cons_append, List.nil_append, List.replicate, Nat.reduceAdd, Nat.reduceSub, List.getElem?_cons_zero, List.getElem?_cons_succ, List.getElem?_nil, List.set_cons_zero, List.set_cons_succ, Option.bind_some, Option.map_some, Option.isSome_some, true_and, and_true, if_true, if_false, Bool.false_eq_true, reduceIte, Int.reduceBEq, Bool.not_true, Bool.not_false, List.nodup_cons, List.nodup_nil, List.not_mem_nil, not_false_eq_true, List.mem_cons, or_false, ↓opt_f, ↓optF_some, ↓ite_cd, ↓cd_true, ↓cd_false, ↓forL_f, ↓lcL_f, ↓dcL_f, ↓noEr_run, ↓w_frz, ↓getW_own, ↓dListRg1, ↓dIndex, ↓dCKw, ↓dMake, ↓dList, seq_lst, seq_tup, kwP1, kwP10, beq_self_eq_true, ↓dEqO, ↓dBinO, ↓dNev, tyV_dct, tyV_ins, kno_dct, clV_ptr, kit_sameR, nf_same, nf_none, nf_int, nf_bool, nf_str, nf_lst, nf_tup, nf_dct, ↓dLenO, eq_bl, ne_bl, ↓hot_run, ↓w_try, ↓w_try0, ↓erH_cons, ↓erH_nil, ↓shutD_mk, x1_mk, x2_mk, ↓w_rz, ↓dXf, ↓dIsX, ↓dBinS, ↓w_nest, ↓w_dnSeq, ↓w_dnT, ↓w_dnFrz, dnCons, dnNil, hideR, hid_val, hid_own, hid_par, hid_no, oL_none, oL_some, ltO_none, ltO_some, hidL_cons, hidL_nil, dgSq, ↓dLc2, lcL2_f, ↓dChain3, ↓w_seqP, ↓w_retT, ↓w_callT, ↓dIfF, ↓w_nestL, ↓w_dnSeq2, dnLc, ↓w_dnPar2, ↓w_dnFC, lcN_f, Nat.reduceLT, p1, p2, p3, p4, p5, p6, p7]
    refine ⟨⟨by omega, by omega⟩, ?_⟩
    refine forL_inv (fun i ρ => ∃ w s3 s4 s5 s6, (s3.isP = false ∧ s4.isP = false ∧ s5.isP = false ∧ s6.isP = false) ∧ Rng (400 * i) w ∧ ρ = [.val (.lst (ns.map D.int)), .val (.int c), .own w, s3, s4, s5, s6, s7]) ⟨w0, s3, s4, s5, s6, ⟨p3, p4, p5, p6⟩, hw0, rfl⟩ ?_ ?_
    · rintro i d ρ nx2 hd ⟨w, s3, s4, s5, s6, ⟨p3, p4, p5, p6⟩, hw, rfl⟩ hnx2
      have hi : i < 10 := by have := (List.getElem?_eq_some_iff.mp hd).1; simpa using this
      obtain ⟨z, rfl⟩ : ∃ z, d = .int z := by
        obtain ⟨z, -, e⟩ := List.mem_map.mp (List.mem_of_getElem? hd)
        exact ⟨_, e.symm⟩
      simp -implicitDefEqProofs -dsimp only [idd_eq, Nat.reduceEqDiff, ↓w_seq, ↓w_if, ↓dTest, ↓dOp, ↓dUn, ↓w_var, ↓getS_val, ↓getS_own, ↓getS_par, ↓dC, rd_val, rd_bor, ownD_own, ownD_par, rds_nil, rds_cons, ↓w_asg, ↓dCB, ↓dCons, ↓dNil, ↓dgName, ↓dgTup, ↓dgCons, ↓dgNil, ↓w_setIx, ↓w_ret, ↓w_retF, ↓w_retN, ↓w_next, ↓w_drop, ↓w_own, ↓w_brk, ↓w_cnt, ↓w_setF, ↓w_dput, ↓w_body, ↓dN, ↓dCall, ↓dCallF, argsOf_nil, argsOf_val, argsOf_bor, bors, ↓dV, ↓dTup, ↓dLst, vals_nil, vals_val, ↓w_par, ↓w_par3, ↓w_parVO, ↓w_parOV, ↓w_parOO, ↓dTruth, ↓dIsi, ↓dIsiT, ↓dInO, insOf_ins, ↓dDNew, ↓dDGet, ↓dDIn, toTup_lst, toTup_tup, pf_nil, lk_self, key_str, key_int, isN_non, isNN_non, kno_int, kno_str, kno_lst, kno_tup, kno_bl, kno_non, tyV_int, tyV_bl, tyV_str, tyV_lst, tyV_tup, tyV_non, clV_ty, clVT_nil, clVT_val, kit_same, kit_int_bool, kit_bool_int, kits_list, kits_tuple, ↓dNot, ↓dAnd, ↓dOr, ↓dIf, ↓dAndV, ↓dOrV, ↓dNotV, ↓dChain, ↓dMeth, ↓dMethF, ↓dKw, ↓dSl, ↓dNoP, ↓dPart, ↓w_for, diRng1, diRng2, diRevR1, diEnumX, diAny, items_lst, items_tup, ↓dLc, ↓dDc, ↓dFld, ownAt_def, setD, Sl.setD, isPar0, isParS, isPN, isP_val, isP_own, isP_no, isP_par, ↓doF, outs_nil, outs_cons, parD_par, parIx, putOuts, wipeD, ↓dBodyF, ↓dAppend, D.isLst, cmp_int, bool_bl, toInt_int, toInt_bl, truth_bl, truth_int, truth_non, len_lst, len_tup, D_add, D_sub, D_mod, eq_int, ne_int, neg_int, ix0, ix1, ix2, ix3, ix4, tx0, tx1, tx2, sx0, sx1, sx2, List.length_cons, List.length_nil, List.cons_append, List.nil_append, List.replicate, Nat.reduceAdd, Nat.reduceSub, List.getElem?_cons_zero, List.getElem?_cons_succ, List.getElem?_nil, List.set_cons_zero, List.set_cons_succ, Option.bind_some, Option.map_some, Option.isSome_some, true_and, and_true, if_true, if_false, Bool.false_eq_true, reduceIte, Int.reduceBEq, Bool.not_true, Bool.not_false, List.nodup_cons, List.nodup_nil, List.not_mem_nil, not_false_eq_true, List.mem_cons, or_false, ↓opt_f, ↓optF_some, ↓ite_cd, ↓cd_true, ↓cd_false, ↓forL_f, ↓lcL_f, ↓dcL_f, ↓noEr_run, ↓w_frz, ↓getW_own, ↓dListRg1, ↓dIndex, ↓dCKw, ↓dMake, ↓dList, seq_lst, seq_tup, kwP1, kwP10, beq_self_eq_true, ↓dEqO, ↓dBinO, ↓dNev, tyV_dct, tyV_ins, kno_dct, clV_ptr, kit_sameR, nf_same, nf_none, nf_int, nf_bool, nf_str, nf_lst, nf_tup, nf_dct, ↓dLenO, eq_bl, ne_bl, ↓hot_run, ↓w_try, ↓w_try0, ↓erH_cons, ↓erH_nil, ↓shutD_mk, x1_mk, x2_mk, ↓w_rz, ↓dXf, ↓dIsX, ↓dBinS, ↓w_nest, ↓w_dnSeq, ↓w_dnT, ↓w_dnFrz, dnCons, dnNil, hideR, hid_val, hid_own, hid_par, hid_no, oL_none, oL_some, ltO_none, ltO_some, hidL_cons, hidL_nil, dgSq, ↓dLc2, lcL2_f, ↓dChain3, ↓w_seqP, ↓w_retT, ↓w_callT, ↓dIfF, ↓w_nestL, ↓w_dnSeq2, dnLc, ↓w_dnPar2, ↓w_dnFC, lcN_f, Nat.reduceLT, p3, p4, p5, p6, p7]
      refine draw_ok A (n := 400 * i) (m := 62) (by omega) hw (by decide) (by decide) fun x1 w1 x10 x11 hw1 => ?_
      simp -implicitDefEqProofs -dsimp only [idd_eq, Nat.reduceEqDiff, ↓w_seq, ↓w_if, ↓dTest, ↓dOp, ↓dUn, ↓w_var, ↓getS_val, ↓getS_own, ↓getS_par, ↓dC, rd_val, rd_bor, ownD_own, ownD_par, rds_nil, rds_cons, ↓w_asg, ↓dCB, ↓dCons, ↓dNil, ↓dgName, ↓dgTup, ↓dgCons, ↓dgNil, ↓w_setIx, ↓w_ret, ↓w_retF, ↓w_retN, ↓w_next, ↓w_drop, ↓w_own, ↓w_brk, ↓w_cnt, ↓w_setF, ↓w_dput, ↓w_body, ↓dN, ↓dCall, ↓dCallF, argsOf_nil, argsOf_val, argsOf_bor, bors, ↓dV, ↓dTup, ↓dLst, vals_nil, vals_val, ↓w_par, ↓w_par3, ↓w_parVO, ↓w_parOV, ↓w_parOO, ↓dTruth, ↓dIsi, ↓dIsiT, ↓dInO, insOf_ins, ↓dDNew, ↓dDGet, ↓dDIn, toTup_lst, toTup_tup, pf_nil, lk_self, key_str, key_int, isN_non, isNN_non, kno_int, kno_str, kno_lst, kno_tup, kno_bl, kno_non, tyV_int, tyV_bl, tyV_str, tyV_lst, tyV_tup, tyV_non, clV_ty, clVT_nil, clVT_val, kit_same, kit_int_bool, kit_bool_int, kits_list, kits_tuple, ↓dNot, ↓dAnd, ↓dOr, ↓dIf, ↓dAndV, ↓dOrV, ↓dNotV, ↓dChain, ↓dMeth, ↓dMethF, ↓dKw, ↓dSl, ↓dNoP, ↓dPart, ↓w_for, diRng1, diRng2, diRevR1, diEnumX, diAny, items_lst, items_tup, ↓dLc, ↓dDc, ↓dFld, ownAt_def, setD, Sl.setD, isPar0, isParS, isPN, isP_val, isP_own, isP_no, isP_par, ↓doF, outs_nil, outs_cons, parD_par, parIx, putOuts, wipeD, ↓dBodyF, ↓dAppend, D.isLst, cmp_int, bool_bl, toInt_int, toInt_bl, truth_bl, truth_int, truth_non, len_lst, len_tup, D_add, D_sub, D_mod, eq_int, ne_int, neg_int, ix0, ix1, ix2, ix3, ix4, tx0, tx1, tx2, sx0, sx1, sx2, List.length_cons, List.length_nil, List.cons_append, List.nil_append, List.replicate, Nat.reduceAdd, Nat.reduceSub, List.getElem?_cons_zero, List.getElem?_cons_succ, List.getElem?_nil, List.set_cons_zero, List.set_cons_succ, Option.bind_some, Option.map_some, Option.isSome_some, true_and, and_true, if_true, if_false, Bool.false_eq_true, reduceIte, Int.reduceBEq, Bool.not_true, Bool.not_false, List.nodup_cons, List.nodup_nil, List.not_mem_nil, not_false_eq_true, List.mem_cons, or_false, ↓opt_f, ↓optF_some, ↓ite_cd, ↓cd_true, ↓cd_false, ↓forL_f, ↓lcL_f, ↓dcL_f, ↓noEr_run, ↓w_frz, ↓getW_own, ↓dListRg1, ↓dIndex, ↓dCKw, ↓dMake, ↓dList, seq_lst, seq_tup, kwP1, kwP10, beq_self_eq_true, ↓dEqO, ↓dBinO, ↓dNev, tyV_dct, tyV_ins, kno_dct, clV_ptr, kit_sameR, nf_same, nf_none, nf_int, nf_bool, nf_str, nf_lst, nf_tup, nf_dct, ↓dLenO, eq_bl, ne_bl, ↓hot_run, ↓w_try, ↓w_try0, ↓erH_cons, ↓erH_nil, ↓shutD_mk, x1_mk, x2_mk, ↓w_rz, ↓dXf, ↓dIsX, ↓dBinS, ↓w_nest, ↓w_dnSeq, ↓w_dnT, ↓w_dnFrz, dnCons, dnNil, hideR, hid_val, hid_own, hid_par, hid_no, oL_none, oL_some, ltO_none, ltO_some, hidL_cons, hidL_nil, dgSq, ↓dLc2, lcL2_f, ↓dChain3, ↓w_seqP, ↓w_retT, ↓w_callT, ↓dIfF, ↓w_nestL, ↓w_dnSeq2, dnLc, ↓w_dnPar2, ↓w_dnFC, lcN_f, Nat.reduceLT, p3, p4, p5, p6, p7]
      refine ⟨⟨by omega, by omega⟩, ?_⟩
      refine forL_inv (fun j ρ => ∃ (e : Int) (s5 : Sl), s5.isP = false ∧ 0 ≤ e ∧ ρ = [.val (.lst (ns.map D.int)), .val (.int c), .own w1, .val (.int z), .val (.int e), s5, s6, s7]) ⟨0, s5, p5, by decide, rfl⟩ ?_ ?_
      · rintro j d ρ nx3 hd3 ⟨e, s5, p5, e0, rfl⟩ hnx3
        have hm : D.mul (.int 3) (.int e) = some (.int (3 * e)) := D_mul (Or.inl ⟨by decide, by decide⟩)
        simp -implicitDefEqProofs -dsimp only [idd_eq, Nat.reduceEqDiff, ↓w_seq, ↓w_if, ↓dTest, ↓dOp, ↓dUn, ↓w_var, ↓getS_val, ↓getS_own, ↓getS_par, ↓dC, rd_val, rd_bor, ownD_own, ownD_par, rds_nil, rds_cons, ↓w_asg, ↓dCB, ↓dCons, ↓dNil, ↓dgName, ↓dgTup, ↓dgCons, ↓dgNil, ↓w_setIx, ↓w_ret, ↓w_retF, ↓w_retN, ↓w_next, ↓w_drop, ↓w_own, ↓w_brk, ↓w_cnt, ↓w_setF, ↓w_dput, ↓w_body, ↓dN, ↓dCall, ↓dCallF, argsOf_nil, argsOf_val, argsOf_bor, bors, ↓dV, ↓dTup, ↓dLst, vals_nil, vals_val, ↓w_par, ↓w_par3, ↓w_parVO, ↓w_parOV, ↓w_parOO, ↓dTruth, ↓dIsi, ↓dIsiT, ↓dInO, insOf_ins, ↓dDNew, ↓dDGet, ↓dDIn, toTup_lst, toTup_tup, pf_nil, lk_self, key_str, key_int, isN_non, isNN_non, kno_int, kno_str, kno_lst, kno_tup, kno_bl, kno_non, tyV_int, tyV_bl, tyV_str, tyV_lst, tyV_tup, tyV_non, clV_ty, clVT_nil, clVT_val, kit_same, kit_int_bool, kit_bool_int, kits_list, kits_tuple, ↓dNot, ↓dAnd, ↓dOr, ↓dIf, ↓dAndV, ↓dOrV, ↓dNotV, ↓dChain, ↓dMeth, ↓dMethF, ↓dKw, ↓dSl, ↓dNoP, ↓dPart, ↓w_for, diRng1, diRng2, diRevR1, diEnumX, diAny, items_lst, items_tup, ↓dLc, ↓dDc, ↓dFld, ownAt_def, setD, Sl.setD, isPar0, isParS, isPN, isP_val, isP_own, isP_no, isP_par, ↓doF, outs_nil, outs_cons, parD_par, parIx, putOuts, wipeD, ↓dBodyF, ↓dAppend, D.isLst, cmp_int, bool_bl, toInt_int, toInt_bl, truth_bl, truth_int, truth_non, len_lst, len_tup, D_add, D_sub, D_mod, eq_int, ne_int, neg_int, ix0, ix1, ix2, ix3, ix4, tx0, tx1, tx2, sx0, sx1, sx2, List.length_cons, List.length_nil, List.cons_append, List.nil_append, List.replicate, Nat.reduceAdd, Nat.reduceSub, List.getElem?_cons_zero, List.getElem?_cons_succ, List.getElem?_nil, List.set_cons_zero, List.set_cons_succ, Option.bind_some, Option.map_some, Option.isSome_some, true_and, and_true, if_true, if_false, Bool.false_eq_true, reduceIte, Int.reduceBEq, Bool.not_true, Bool.not_false, List.nodup_cons, List.nodup_nil, List.not_mem_nil, not_false_eq_true, List.mem_cons, or_false, ↓opt_f, ↓optF_some, ↓ite_cd, ↓cd_true, ↓cd_false, ↓forL_f, ↓lcL_f, ↓dcL_f, ↓noEr_run, ↓w_frz, ↓getW_own, ↓dListRg1, ↓dIndex, ↓dCKw, ↓dMake, ↓dList, seq_lst, seq_tup, kwP1, kwP10, beq_self_eq_true, ↓dEqO, ↓dBinO, ↓dNev, tyV_dct, tyV_ins, kno_dct, clV_ptr, kit_sameR, nf_same, nf_none, nf_int, nf_bool, nf_str, nf_lst, nf_tup, nf_dct, ↓dLenO, eq_bl, ne_bl, ↓hot_run, ↓w_try, ↓w_try0, ↓erH_cons, ↓erH_nil, ↓shutD_mk, x1_mk, x2_mk, ↓w_rz, ↓dXf, ↓dIsX, ↓dBinS, ↓w_nest, ↓w_dnSeq, ↓w_dnT, ↓w_dnFrz, dnCons, dnNil, hideR, hid_val, hid_own, hid_par, hid_no, oL_none, oL_some, ltO_none, ltO_some, hidL_cons, hidL_nil, dgSq, ↓dLc2, lcL2_f, ↓dChain3, ↓w_seqP, ↓w_retT, ↓w_callT, ↓dIfF, ↓w_nestL, ↓w_dnSeq2, dnLc, ↓w_dnPar2, ↓w_dnFC, lcN_f, Nat.reduceLT, p5, p6, p7, hm]
        exact hnx3 _ ⟨3 * e + 2, .val d, rfl, by omega, rfl⟩
      · rintro ρ ⟨e, s5, p5, e0, rfl⟩
        have hx2 : D.max2 [.int 0, .int (e - 1)] = some (.int (if e - 1 > 0 then e - 1 else 0)) := rfl
        have hn2 : ∀ y : Int, D.min2 [.int (10 ^ 30), .int y] = some (.int (if y < 10 ^ 30 then y else 10 ^ 30)) := fun y => rfl
        simp -implicitDefEqProofs -dsimp only [idd_eq, Nat.reduceEqDiff, ↓w_seq, ↓w_if, ↓dTest, ↓dOp, ↓dUn, ↓w_var, ↓getS_val, ↓getS_own, ↓getS_par, ↓dC, rd_val, rd_bor, ownD_own, ownD_par, rds_nil, rds_cons, ↓w_asg, ↓dCB, ↓dCons, ↓dNil, ↓dgName, ↓dgTup, ↓dgCons, ↓dgNil, ↓w_setIx, ↓w_ret, ↓w_retF, ↓w_retN, ↓w_next, ↓w_drop, ↓w_own, ↓w_brk, ↓w_cnt, ↓w_setF, ↓w_dput, ↓w_body, ↓dN, ↓dCall, ↓dCallF, argsOf_nil, argsOf_val, argsOf_bor, bors, ↓dV, ↓dTup, ↓dLst, vals_nil, vals_val, ↓w_par, ↓w_par3, ↓w_parVO, ↓w_parOV, ↓w_parOO, ↓dTruth, ↓dIsi, ↓dIsiT, ↓dInO, insOf_ins, ↓dDNew, ↓dDGet, ↓dDIn, toTup_lst, toTup_tup, pf_nil, lk_self, key_str, key_int, isN_non, isNN_non, kno_int, kno_str, kno_lst, kno_tup, kno_bl, kno_non, tyV_int, tyV_bl, tyV_str, tyV_lst, tyV_tup, tyV_non, clV_ty, clVT_nil, clVT_val, kit_same, kit_int_bool, kit_bool_int, kits_list, kits_tuple, ↓dNot, ↓dAnd, ↓dOr, ↓dIf, ↓dAndV, ↓dOrV, ↓dNotV, ↓dChain, ↓dMeth, ↓dMethF, ↓dKw, ↓dSl, ↓dNoP, ↓dPart, ↓w_for, diRng1, diRng2, diRevR1, diEnumX, diAny, items_lst, items_tup, ↓dLc, ↓dDc, ↓dFld, ownAt_def, setD, Sl.setD, isPar0, isParS, isPN, isP_val, isP_own, isP_no, isP_par, ↓doF, outs_nil, outs_cons, parD_par, parIx, putOuts, wipeD, ↓dBodyF, ↓dAppend, D.isLst, cmp_int, bool_bl, toInt_int, toInt_bl, truth_bl, truth_int, truth_non, len_lst, len_tup, D_add, D_sub, D_mod, eq_int, ne_int, neg_int, ix0, ix1, ix2, ix3, ix4, tx0, tx1, tx2, sx0, sx1, sx2, List.length_cons, List.length_nil, List.cons_append, List.nil_append, List.replicate, Nat.reduceAdd, Nat.reduceSub, List.getElem?_cons_zero, List.getElem?_cons_succ, List.getElem?_nil, List.set_cons_zero, List.set_cons_succ, Option.bind_some, Option.map_some, Option.isSome_some, true_and, and_true, if_true, if_false, Bool.false_eq_true, reduceIte, Int.reduceBEq, Bool.not_true, Bool.not_false, List.nodup_cons, List.nodup_nil, List.not_mem_nil, not_false_eq_true, List.mem_cons, or_false, ↓opt_f, ↓optF_some, ↓ite_cd, ↓cd_true, ↓cd_false, ↓forL_f, ↓lcL_f, ↓dcL_f, ↓noEr_run, ↓w_frz, ↓getW_own, ↓dListRg1, ↓dIndex, ↓dCKw, ↓dMake, ↓dList, seq_lst, seq_tup, kwP1, kwP10, beq_self_eq_true, ↓dEqO, ↓dBinO, ↓dNev, tyV_dct, tyV_ins, kno_dct, clV_ptr, kit_sameR, nf_same, nf_none, nf_int, nf_bool, nf_str, nf_lst, nf_tup, nf_dct, ↓dLenO, eq_bl, ne_bl, ↓hot_run, ↓w_try, ↓w_try0, ↓erH_cons, ↓erH_nil, ↓shutD_mk, x1_mk, x2_mk, ↓w_rz, ↓dXf, ↓dIsX, ↓dBinS, ↓w_nest, ↓w_dnSeq, ↓w_dnT, ↓w_dnFrz, dnCons, dnNil, hideR, hid_val, hid_own, hid_par, hid_no, oL_none, oL_some, ltO_none, ltO_some, hidL_cons, hidL_nil, dgSq, ↓dLc2, lcL2_f, ↓dChain3, ↓w_seqP, ↓w_retT, ↓w_callT, ↓dIfF, ↓w_nestL, ↓w_dnSeq2, dnLc, ↓w_dnPar2, ↓w_dnFC, lcN_f, Nat.reduceLT, p3, p4, p5, p6, p7, hx2, hp9]
        refine draw_ok A (n := 400 * i + 1) (m := 10 ^ 9) (by omega) hw1 (by decide) (by decide) fun x2 w2 x20 x21 hw2 => ?_
        simp -implicitDefEqProofs -dsimp only [idd_eq, Nat.reduceEqDiff, ↓w_seq, ↓w_if, ↓dTest, ↓dOp, ↓dUn, ↓w_var, ↓getS_val, ↓getS_own, ↓getS_par, ↓dC, rd_val, rd_bor, ownD_own, ownD_par, rds_nil, rds_cons, ↓w_asg, ↓dCB, ↓dCons, ↓dNil, ↓dgName, ↓dgTup, ↓dgCons, ↓dgNil, ↓w_setIx, ↓w_ret, ↓w_retF, ↓w_retN, ↓w_next, ↓w_drop, ↓w_own, ↓w_brk, ↓w_cnt, ↓w_setF, ↓w_dput, ↓w_body, ↓dN, ↓dCall, ↓dCallF, argsOf_nil, argsOf_val, argsOf_bor, bors, ↓dV, ↓dTup, ↓dLst, vals_nil, vals_val, ↓w_par, ↓w_par3, ↓w_parVO, ↓w_parOV, ↓w_parOO, ↓dTruth, ↓dIsi, ↓dIsiT, ↓dInO, insOf_ins, ↓dDNew, ↓dDGet, ↓dDIn, toTup_lst, toTup_tup, pf_nil, lk_self, key_str, key_int, isN_non, isNN_non, kno_int, kno_str, kno_lst, kno_tup, kno_bl, kno_non, tyV_int, tyV_bl, tyV_str, tyV_lst, tyV_tup, tyV_non, clV_ty, clVT_nil, clVT_val, kit_same, kit_int_bool, kit_bool_int, kits_list, kits_tuple, ↓dNot, ↓dAnd, ↓dOr, ↓dIf, ↓dAndV, ↓dOrV, ↓dNotV, ↓dChain, ↓dMeth, ↓dMethF, ↓dKw, ↓dSl, ↓dNoP, ↓dPart, ↓w_for, diRng1, diRng2, diRevR1, diEnumX, diAny, items_lst, items_tup, ↓dLc, ↓dDc, ↓dFld, ownAt_def, setD, Sl.setD, isPar0, isParS, isPN, isP_val, isP_own, isP_no, isP_par, ↓doF, outs_nil, outs_cons, parD_par, parIx, putOuts, wipeD, ↓dBodyF, ↓dAppend, D.isLst, cmp_int, bool_bl, toInt_int, toInt_bl, truth_bl, truth_int, truth_non, len_lst, len_tup, D_add, D_sub, D_mod, eq_int, ne_int, neg_int, ix0, ix1, ix2, ix3, ix4, tx0, tx1, tx2, sx0, sx1, sx2, List.length_cons, List.length_nil, List.cons_append, List.nil_append, List.replicate, Nat.reduceAdd, Nat.reduceSub, List.getElem?_cons_zero, List.getElem?_cons_succ, List.getElem?_nil, List.set_cons_zero, List.set_cons_succ, Option.bind_some, Option.map_some, Option.isSome_some, true_and, and_true, if_true, if_false, Bool.false_eq_true, reduceIte, Int.reduceBEq, Bool.not_true, Bool.not_false, List.nodup_cons, List.nodup_nil, List.not_mem_nil, not_false_eq_true, List.mem_cons, or_false, ↓opt_f, ↓optF_some, ↓ite_cd, ↓cd_true, ↓cd_false, ↓forL_f, ↓lcL_f, ↓dcL_f, ↓noEr_run, ↓w_frz, ↓getW_own, ↓dListRg1, ↓dIndex, ↓dCKw, ↓dMake, ↓dList, seq_lst, seq_tup, kwP1, kwP10, beq_self_eq_true, ↓dEqO, ↓dBinO, ↓dNev, tyV_dct, tyV_ins, kno_dct, clV_ptr, kit_sameR, nf_same, nf_none, nf_int, nf_bool, nf_str, nf_lst, nf_tup, nf_dct, ↓dLenO, eq_bl, ne_bl, ↓hot_run, ↓w_try, ↓w_try0, ↓erH_cons, ↓erH_nil, ↓shutD_mk, x1_mk, x2_mk, ↓w_rz, ↓dXf, ↓dIsX, ↓dBinS, ↓w_nest, ↓w_dnSeq, ↓w_dnT, ↓w_dnFrz, dnCons, dnNil, hideR, hid_val, hid_own, hid_par, hid_no, oL_none, oL_some, ltO_none, ltO_some, hidL_cons, hidL_nil, dgSq, ↓dLc2, lcL2_f, ↓dChain3, ↓w_seqP, ↓w_retT, ↓w_callT, ↓dIfF, ↓w_nestL, ↓w_dnSeq2, dnLc, ↓w_dnPar2, ↓w_dnFC, lcN_f, Nat.reduceLT, p3, p4, p5, p6, p7, hp30, h5]
        refine pick_ok A (n := 400 * i + 1 + 1) (by omega) hw2 (List.cons_ne_nil _ _) (by simp) fun y w3 hy hw3 => ?_
        obtain ⟨f, rfl, f0⟩ : ∃ f : Int, y = .int f ∧ 0 ≤ f := by
          simp only [List.mem_cons, List.not_mem_nil, or_false] at hy
          rcases hy with rfl | rfl | rfl | rfl | rfl
          · exact ⟨_, rfl, e0⟩
          · exact ⟨_, rfl, by split <;> omega⟩
          · exact ⟨_, rfl, by omega⟩
          · exact ⟨_, rfl, x20⟩
          · exact ⟨_, rfl, by decide⟩
        simp -implicitDefEqProofs -dsimp only [idd_eq, Nat.reduceEqDiff, ↓w_seq, ↓w_if, ↓dTest, ↓dOp, ↓dUn, ↓w_var, ↓getS_val, ↓getS_own, ↓getS_par, ↓dC, rd_val, rd_bor, ownD_own, ownD_par, rds_nil, rds_cons, ↓w_asg, ↓dCB, ↓dCons, ↓dNil, ↓dgName, ↓dgTup, ↓dgCons, ↓dgNil, ↓w_setIx, ↓w_ret, ↓w_retF, ↓w_retN, ↓w_next, ↓w_drop, ↓w_own, ↓w_brk, ↓w_cnt, ↓w_setF, ↓w_dput, ↓w_body, ↓dN, ↓dCall, ↓dCallF, argsOf_nil, argsOf_val, argsOf_bor, bors, ↓dV, ↓dTup, ↓dLst, vals_nil, vals_val, ↓w_par, ↓w_par3, ↓w_parVO, ↓w_parOV, ↓w_parOO, ↓dTruth, ↓dIsi, ↓dIsiT, ↓dInO, insOf_ins, ↓dDNew, ↓dDGet, ↓dDIn, toTup_lst, toTup_tup, pf_nil, lk_self, key_str, key_int, isN_non, isNN_non, kno_int, kno_str, kno_lst, kno_tup, kno_bl, kno_non, tyV_int, tyV_bl, tyV_str, tyV_lst, tyV_tup, tyV_non, clV_ty, clVT_nil, clVT_val, kit_same, kit_int_bool, kit_bool_int, kits_list, kits_tuple, ↓dNot, ↓dAnd, ↓dOr, ↓dIf, ↓dAndV, ↓dOrV, ↓dNotV, ↓dChain, ↓dMeth, ↓dMethF, ↓dKw, ↓dSl, ↓dNoP, ↓dPart, ↓w_for, diRng1, diRng2, diRevR1, diEnumX, diAny, items_lst, items_tup, ↓dLc, ↓dDc, ↓dFld, ownAt_def, setD, Sl.setD, isPar0, isParS, isPN, isP_val, isP_own, isP_no, isP_par, ↓doF, outs_nil, outs_cons, parD_par, parIx, putOuts, wipeD, ↓dBodyF, ↓dAppend, D.isLst, cmp_int, bool_bl, toInt_int, toInt_bl, truth_bl, truth_int, truth_non, len_lst, len_tup, D_add, D_sub, D_mod, eq_int, ne_int, neg_int, ix0, ix1, ix2, ix3, ix4, tx0, tx1, tx2, sx0, sx1, sx2, List.length_cons, List.length_nil, List.cons_append, List.nil_append, List.replicate, Nat.reduceAdd, Nat.reduceSub, List.getElem?_cons_zero, List.getElem?_cons_succ, List.getElem?_nil, List.set_cons_zero, List.set_cons_succ, Option.bind_some, Option.map_some, Option.isSome_some, true_and, and_true, if_true, if_false, Bool.false_eq_true, reduceIte, Int.reduceBEq, Bool.not_true, Bool.not_false, List.nodup_cons, List.nodup_nil, List.not_mem_nil, not_false_eq_true, List.mem_cons, or_false, ↓opt_f, ↓optF_some, ↓ite_cd, ↓cd_true, ↓cd_false, ↓forL_f, ↓lcL_f, ↓dcL_f, ↓noEr_run, ↓w_frz, ↓getW_own, ↓dListRg1, ↓dIndex, ↓dCKw, ↓dMake, ↓dList, seq_lst, seq_tup, kwP1, kwP10, beq_self_eq_true, ↓dEqO, ↓dBinO, ↓dNev, tyV_dct, tyV_ins, kno_dct, clV_ptr, kit_sameR, nf_same, nf_none, nf_int, nf_bool, nf_str, nf_lst, nf_tup, nf_dct, ↓dLenO, eq_bl, ne_bl, ↓hot_run, ↓w_try, ↓w_try0, ↓erH_cons, ↓erH_nil, ↓shutD_mk, x1_mk, x2_mk, ↓w_rz, ↓dXf, ↓dIsX, ↓dBinS, ↓w_nest, ↓w_dnSeq, ↓w_dnT, ↓w_dnFrz, dnCons, dnNil, hideR, hid_val, hid_own, hid_par, hid_no, oL_none, oL_some, ltO_none, ltO_some, hidL_cons, hidL_nil, dgSq, ↓dLc2, lcL2_f, ↓dChain3, ↓w_seqP, ↓w_retT, ↓w_callT, ↓dIfF, ↓w_nestL, ↓w_dnSeq2, dnLc, ↓w_dnPar2, ↓w_dnFC, lcN_f, Nat.reduceLT, p3, p4, p5, p6, p7, hp30, hn2]
        have g0 : 0 ≤ (if f < 10 ^ 30 then f else (10 : Int) ^ 30) := by split <;> omega
        have g1 : (if f < 10 ^ 30 then f else (10 : Int) ^ 30) ≤ 10 ^ 30 := by split <;> omega
        generalize (if f < 10 ^ 30 then f else (10 : Int) ^ 30) = g at g0 g1
        have hg : lst g.toNat ≤ 63 := lst_le (by omega)
        refine lasting_ok A g0 g1 ?_
        simp -implicitDefEqProofs -dsimp only [idd_eq, Nat.reduceEqDiff, ↓w_seq, ↓w_if, ↓dTest, ↓dOp, ↓dUn, ↓w_var, ↓getS_val, ↓getS_own, ↓getS_par, ↓dC, rd_val, rd_bor, ownD_own, ownD_par, rds_nil, rds_cons, ↓w_asg, ↓dCB, ↓dCons, ↓dNil, ↓dgName, ↓dgTup, ↓dgCons, ↓dgNil, ↓w_setIx, ↓w_ret, ↓w_retF, ↓w_retN, ↓w_next, ↓w_drop, ↓w_own, ↓w_brk, ↓w_cnt, ↓w_setF, ↓w_dput, ↓w_body, ↓dN, ↓dCall, ↓dCallF, argsOf_nil, argsOf_val, argsOf_bor, bors, ↓dV, ↓dTup, ↓dLst, vals_nil, vals_val, ↓w_par, ↓w_par3, ↓w_parVO, ↓w_parOV, ↓w_parOO, ↓dTruth, ↓dIsi, ↓dIsiT, ↓dInO, insOf_ins, ↓dDNew, ↓dDGet, ↓dDIn, toTup_lst, toTup_tup, pf_nil, lk_self, key_str, key_int, isN_non, isNN_non, kno_int, kno_str, kno_lst, kno_tup, kno_bl, kno_non, tyV_int, tyV_bl, tyV_str, tyV_lst, tyV_tup, tyV_non, clV_ty, clVT_nil, clVT_val, kit_same, kit_int_bool, kit_bool_int, kits_list, kits_tuple, ↓dNot, ↓dAnd, ↓dOr, ↓dIf, ↓dAndV, ↓dOrV, ↓dNotV, ↓dChain, ↓dMeth, ↓dMethF, ↓dKw, ↓dSl, ↓dNoP, ↓dPart, ↓w_for, diRng1, diRng2, diRevR1, diEnumX, diAny, items_lst, items_tup, ↓dLc, ↓dDc, ↓dFld, ownAt_def, setD, Sl.setD, isPar0, isParS, isPN, isP_val, isP_own, isP_no, isP_par, ↓doF, outs_nil, outs_cons, parD_par, parIx, putOuts, wipeD, ↓dBodyF, ↓dAppend, D.isLst, cmp_int, bool_bl, toInt_int, toInt_bl, truth_bl, truth_int, truth_non, len_lst, len_tup, D_add, D_sub, D_mod, eq_int, ne_int, neg_int, ix0, ix1, ix2, ix3, ix4, tx0, tx1, tx2, sx0, sx1, sx2, List.length_cons, List.length_nil, List.cons_append, List.nil_append, List.replicate, Nat.reduceAdd, Nat.reduceSub, List.getElem?_cons_zero, List.getElem?_cons_succ, List.getElem?_nil, List.set_cons_zero, List.set_cons_succ, Option.bind_some, Option.map_some, Option.isSome_some, true_and, and_true, if_true, if_false, Bool.false_eq_true, reduceIte, Int.reduceBEq, Bool.not_true, Bool.not_false, List.nodup_cons, List.nodup_nil, List.not_mem_nil, not_false_eq_true, List.mem_cons, or_false, ↓opt_f, ↓optF_some, ↓ite_cd, ↓cd_true, ↓cd_false, ↓forL_f, ↓lcL_f, ↓dcL_f, ↓noEr_run, ↓w_frz, ↓getW_own, ↓dListRg1, ↓dIndex, ↓dCKw, ↓dMake, ↓dList, seq_lst, seq_tup, kwP1, kwP10, beq_self_eq_true, ↓dEqO, ↓dBinO, ↓dNev, tyV_dct, tyV_ins, kno_dct, clV_ptr, kit_sameR, nf_same, nf_none, nf_int, nf_bool, nf_str, nf_lst, nf_tup, nf_dct, ↓dLenO, eq_bl, ne_bl, ↓hot_run, ↓w_try, ↓w_try0, ↓erH_cons, ↓erH_nil, ↓shutD_mk, x1_mk, x2_mk, ↓w_rz, ↓dXf, ↓dIsX, ↓dBinS, ↓w_nest, ↓w_dnSeq, ↓w_dnT, ↓w_dnFrz, dnCons, dnNil, hideR, hid_val, hid_own, hid_par, hid_no, oL_none, oL_some, ltO_none, ltO_some, hidL_cons, hidL_nil, dgSq, ↓dLc2, lcL2_f, ↓dChain3, ↓w_seqP, ↓w_retT, ↓w_callT, ↓dIfF, ↓w_nestL, ↓w_dnSeq2, dnLc, ↓w_dnPar2, ↓w_dnFC, lcN_f, Nat.reduceLT, p3, p4, p5, p6, p7, repr_int _ (lg _ hg)]
        refine due_ok A g0 g1 ?_
        simp -implicitDefEqProofs -dsimp only [idd_eq, Nat.reduceEqDiff, ↓w_seq, ↓w_if, ↓dTest, ↓dOp, ↓dUn, ↓w_var, ↓getS_val, ↓getS_own, ↓getS_par, ↓dC, rd_val, rd_bor, ownD_own, ownD_par, rds_nil, rds_cons, ↓w_asg, ↓dCB, ↓dCons, ↓dNil, ↓dgName, ↓dgTup, ↓dgCons, ↓dgNil, ↓w_setIx, ↓w_ret, ↓w_retF, ↓w_retN, ↓w_next, ↓w_drop, ↓w_own, ↓w_brk, ↓w_cnt, ↓w_setF, ↓w_dput, ↓w_body, ↓dN, ↓dCall, ↓dCallF, argsOf_nil, argsOf_val, argsOf_bor, bors, ↓dV, ↓dTup, ↓dLst, vals_nil, vals_val, ↓w_par, ↓w_par3, ↓w_parVO, ↓w_parOV, ↓w_parOO, ↓dTruth, ↓dIsi, ↓dIsiT, ↓dInO, insOf_ins, ↓dDNew, ↓dDGet, ↓dDIn, toTup_lst, toTup_tup, pf_nil, lk_self, key_str, key_int, isN_non, isNN_non, kno_int, kno_str, kno_lst, kno_tup, kno_bl, kno_non, tyV_int, tyV_bl, tyV_str, tyV_lst, tyV_tup, tyV_non, clV_ty, clVT_nil, clVT_val, kit_same, kit_int_bool, kit_bool_int, kits_list, kits_tuple, ↓dNot, ↓dAnd, ↓dOr, ↓dIf, ↓dAndV, ↓dOrV, ↓dNotV, ↓dChain, ↓dMeth, ↓dMethF, ↓dKw, ↓dSl, ↓dNoP, ↓dPart, ↓w_for, diRng1, diRng2, diRevR1, diEnumX, diAny, items_lst, items_tup, ↓dLc, ↓dDc, ↓dFld, ownAt_def, setD, Sl.setD, isPar0, isParS, isPN, isP_val, isP_own, isP_no, isP_par, ↓doF, outs_nil, outs_cons, parD_par, parIx, putOuts, wipeD, ↓dBodyF, ↓dAppend, D.isLst, cmp_int, bool_bl, toInt_int, toInt_bl, truth_bl, truth_int, truth_non, len_lst, len_tup, D_add, D_sub, D_mod, eq_int, ne_int, neg_int, ix0, ix1, ix2, ix3, ix4, tx0, tx1, tx2, sx0, sx1, sx2, List.length_cons, List.length_nil, List.cons_append, List.nil_append, List.replicate, Nat.reduceAdd, Nat.reduceSub, List.getElem?_cons_zero, List.getElem?_cons_succ, List.getElem?_nil, List.set_cons_zero, List.set_cons_succ, Option.bind_some, Option.map_some, Option.isSome_some, true_and, and_true, if_true, if_false, Bool.false_eq_true, reduceIte, Int.reduceBEq, Bool.not_true, Bool.not_false, List.nodup_cons, List.nodup_nil, List.not_mem_nil, not_false_eq_true, List.mem_cons, or_false, ↓opt_f, ↓optF_some, ↓ite_cd, ↓cd_true, ↓cd_false, ↓forL_f, ↓lcL_f, ↓dcL_f, ↓noEr_run, ↓w_frz, ↓getW_own, ↓dListRg1, ↓dIndex, ↓dCKw, ↓dMake, ↓dList, seq_lst, seq_tup, kwP1, kwP10, beq_self_eq_true, ↓dEqO, ↓dBinO, ↓dNev, tyV_dct, tyV_ins, kno_dct, clV_ptr, kit_sameR, nf_same, nf_none, nf_int, nf_bool, nf_str, nf_lst, nf_tup, nf_dct, ↓dLenO, eq_bl, ne_bl, ↓hot_run, ↓w_try, ↓w_try0, ↓erH_cons, ↓erH_nil, ↓shutD_mk, x1_mk, x2_mk, ↓w_rz, ↓dXf, ↓dIsX, ↓dBinS, ↓w_nest, ↓w_dnSeq, ↓w_dnT, ↓w_dnFrz, dnCons, dnNil, hideR, hid_val, hid_own, hid_par, hid_no, oL_none, oL_some, ltO_none, ltO_some, hidL_cons, hidL_nil, dgSq, ↓dLc2, lcL2_f, ↓dChain3, ↓w_seqP, ↓w_retT, ↓w_callT, ↓dIfF, ↓w_nestL, ↓w_dnSeq2, dnLc, ↓w_dnPar2, ↓w_dnFC, lcN_f, Nat.reduceLT, p3, p4, p5, p6, p7, repr_int _ (lg _ hg), ne_ofS]
        by_cases b : g < 2
        · refine placed_no A g0 b ?_
          simp -implicitDefEqProofs -dsimp only [idd_eq, Nat.reduceEqDiff, ↓w_seq, ↓w_if, ↓dTest, ↓dOp, ↓dUn, ↓w_var, ↓getS_val, ↓getS_own, ↓getS_par, ↓dC, rd_val, rd_bor, ownD_own, ownD_par, rds_nil, rds_cons, ↓w_asg, ↓dCB, ↓dCons, ↓dNil, ↓dgName, ↓dgTup, ↓dgCons, ↓dgNil, ↓w_setIx, ↓w_ret, ↓w_retF, ↓w_retN, ↓w_next, ↓w_drop, ↓w_own, ↓w_brk, ↓w_cnt, ↓w_setF, ↓w_dput, ↓w_body, ↓dN, ↓dCall, ↓dCallF, argsOf_nil, argsOf_val, argsOf_bor, bors, ↓dV, ↓dTup, ↓dLst, vals_nil, vals_val, ↓w_par, ↓w_par3, ↓w_parVO, ↓w_parOV, ↓w_parOO, ↓dTruth, ↓dIsi, ↓dIsiT, ↓dInO, insOf_ins, ↓dDNew, ↓dDGet, ↓dDIn, toTup_lst, toTup_tup, pf_nil, lk_self, key_str, key_int, isN_non, isNN_non, kno_int, kno_str, kno_lst, kno_tup, kno_bl, kno_non, tyV_int, tyV_bl, tyV_str, tyV_lst, tyV_tup, tyV_non, clV_ty, clVT_nil, clVT_val, kit_same, kit_int_bool, kit_bool_int, kits_list, kits_tuple, ↓dNot, ↓dAnd, ↓dOr, ↓dIf, ↓dAndV, ↓dOrV, ↓dNotV, ↓dChain, ↓dMeth, ↓dMethF, ↓dKw, ↓dSl, ↓dNoP, ↓dPart, ↓w_for, diRng1, diRng2, diRevR1, diEnumX, diAny, items_lst, items_tup, ↓dLc, ↓dDc, ↓dFld, ownAt_def, setD, Sl.setD, isPar0, isParS, isPN, isP_val, isP_own, isP_no, isP_par, ↓doF, outs_nil, outs_cons, parD_par, parIx, putOuts, wipeD, ↓dBodyF, ↓dAppend, D.isLst, cmp_int, bool_bl, toInt_int, toInt_bl, truth_bl, truth_int, truth_non, len_lst, len_tup, D_add, D_sub, D_mod, eq_int, ne_int, neg_int, ix0, ix1, ix2, ix3, ix4, tx0, tx1, tx2, sx0, sx1, sx2, List.length_cons, List.length_nil, List.cons_append, List.nil_append, List.replicate, Nat.reduceAdd, Nat.reduceSub, List.getElem?_cons_zero, List.getElem?_cons_succ, List.getElem?_nil, List.set_cons_zero, List.set_cons_succ, Option.bind_some, Option.map_some, Option.isSome_some, true_and, and_true, if_true, if_false, Bool.false_eq_true, reduceIte, Int.reduceBEq, Bool.not_true, Bool.not_false, List.nodup_cons, List.nodup_nil, List.not_mem_nil, not_false_eq_true, List.mem_cons, or_false, ↓opt_f, ↓optF_some, ↓ite_cd, ↓cd_true, ↓cd_false, ↓forL_f, ↓lcL_f, ↓dcL_f, ↓noEr_run, ↓w_frz, ↓getW_own, ↓dListRg1, ↓dIndex, ↓dCKw, ↓dMake, ↓dList, seq_lst, seq_tup, kwP1, kwP10, beq_self_eq_true, ↓dEqO, ↓dBinO, ↓dNev, tyV_dct, tyV_ins, kno_dct, clV_ptr, kit_sameR, nf_same, nf_none, nf_int, nf_bool, nf_str, nf_lst, nf_tup, nf_dct, ↓dLenO, eq_bl, ne_bl, ↓hot_run, ↓w_try, ↓w_try0, ↓erH_cons, ↓erH_nil, ↓shutD_mk, x1_mk, x2_mk, ↓w_rz, ↓dXf, ↓dIsX, ↓dBinS, ↓w_nest, ↓w_dnSeq, ↓w_dnT, ↓w_dnFrz, dnCons, dnNil, hideR, hid_val, hid_own, hid_par, hid_no, oL_none, oL_some, ltO_none, ltO_some, hidL_cons, hidL_nil, dgSq, ↓dLc2, lcL2_f, ↓dChain3, ↓w_seqP, ↓w_retT, ↓w_callT, ↓dIfF, ↓w_nestL, ↓w_dnSeq2, dnLc, ↓w_dnPar2, ↓w_dnFC, lcN_f, Nat.reduceLT, p3, p4, p5, p6, p7, decide_eq_true b, bool_ne]
          exact hnx2 _ ⟨_, .val (.int z), .val (.int e), s5, .val (.int g), ⟨rfl, rfl, p5, rfl⟩, hw3.mono (by omega), rfl⟩
        · refine placed_ok A (by omega) g1 ?_
          simp -implicitDefEqProofs -dsimp only [idd_eq, Nat.reduceEqDiff, ↓w_seq, ↓w_if, ↓dTest, ↓dOp, ↓dUn, ↓w_var, ↓getS_val, ↓getS_own, ↓getS_par, ↓dC, rd_val, rd_bor, ownD_own, ownD_par, rds_nil, rds_cons, ↓w_asg, ↓dCB, ↓dCons, ↓dNil, ↓dgName, ↓dgTup, ↓dgCons, ↓dgNil, ↓w_setIx, ↓w_ret, ↓w_retF, ↓w_retN, ↓w_next, ↓w_drop, ↓w_own, ↓w_brk, ↓w_cnt, ↓w_setF, ↓w_dput, ↓w_body, ↓dN, ↓dCall, ↓dCallF, argsOf_nil, argsOf_val, argsOf_bor, bors, ↓dV, ↓dTup, ↓dLst, vals_nil, vals_val, ↓w_par, ↓w_par3, ↓w_parVO, ↓w_parOV, ↓w_parOO, ↓dTruth, ↓dIsi, ↓dIsiT, ↓dInO, insOf_ins, ↓dDNew, ↓dDGet, ↓dDIn, toTup_lst, toTup_tup, pf_nil, lk_self, key_str, key_int, isN_non, isNN_non, kno_int, kno_str, kno_lst, kno_tup, kno_bl, kno_non, tyV_int, tyV_bl, tyV_str, tyV_lst, tyV_tup, tyV_non, clV_ty, clVT_nil, clVT_val, kit_same, kit_int_bool, kit_bool_int, kits_list, kits_tuple, ↓dNot, ↓dAnd, ↓dOr, ↓dIf, ↓dAndV, ↓dOrV, ↓dNotV, ↓dChain, ↓dMeth, ↓dMethF, ↓dKw, ↓dSl, ↓dNoP, ↓dPart, ↓w_for, diRng1, diRng2, diRevR1, diEnumX, diAny, items_lst, items_tup, ↓dLc, ↓dDc, ↓dFld, ownAt_def, setD, Sl.setD, isPar0, isParS, isPN, isP_val, isP_own, isP_no, isP_par, ↓doF, outs_nil, outs_cons, parD_par, parIx, putOuts, wipeD, ↓dBodyF, ↓dAppend, D.isLst, cmp_int, bool_bl, toInt_int, toInt_bl, truth_bl, truth_int, truth_non, len_lst, len_tup, D_add, D_sub, D_mod, eq_int, ne_int, neg_int, ix0, ix1, ix2, ix3, ix4, tx0, tx1, tx2, sx0, sx1, sx2, List.length_cons, List.length_nil, List.cons_append, List.nil_append, List.replicate, Nat.reduceAdd, Nat.reduceSub, List.getElem?_cons_zero, List.getElem?_cons_succ, List.getElem?_nil, List.set_cons_zero, List.set_cons_succ, Option.bind_some, Option.map_some, Option.isSome_some, true_and, and_true, if_true, if_false, Bool.false_eq_true, reduceIte, Int.reduceBEq, Bool.not_true, Bool.not_false, List.nodup_cons, List.nodup_nil, List.not_mem_nil, not_false_eq_true, List.mem_cons, or_false, ↓opt_f, ↓optF_some, ↓ite_cd, ↓cd_true, ↓cd_false, ↓forL_f, ↓lcL_f, ↓dcL_f, ↓noEr_run, ↓w_frz, ↓getW_own, ↓dListRg1, ↓dIndex, ↓dCKw, ↓dMake, ↓dList, seq_lst, seq_tup, kwP1, kwP10, beq_self_eq_true, ↓dEqO, ↓dBinO, ↓dNev, tyV_dct, tyV_ins, kno_dct, clV_ptr, kit_sameR, nf_same, nf_none, nf_int, nf_bool, nf_str, nf_lst, nf_tup, nf_dct, ↓dLenO, eq_bl, ne_bl, ↓hot_run, ↓w_try, ↓w_try0, ↓erH_cons, ↓erH_nil, ↓shutD_mk, x1_mk, x2_mk, ↓w_rz, ↓dXf, ↓dIsX, ↓dBinS, ↓w_nest, ↓w_dnSeq, ↓w_dnT, ↓w_dnFrz, dnCons, dnNil, hideR, hid_val, hid_own, hid_par, hid_no, oL_none, oL_some, ltO_none, ltO_some, hidL_cons, hidL_nil, dgSq, ↓dLc2, lcL2_f, ↓dChain3, ↓w_seqP, ↓w_retT, ↓w_callT, ↓dIfF, ↓w_nestL, ↓w_dnSeq2, dnLc, ↓w_dnPar2, ↓w_dnFC, lcN_f, Nat.reduceLT, p3, p4, p5, p6, p7, decide_eq_false b, bool_ne, isN_tup]
          exact hnx2 _ ⟨_, .val (.int z), .val (.int e), s5, .val (.int g), ⟨rfl, rfl, p5, rfl⟩, hw3.mono (by omega), rfl⟩
    · rintro ρ ⟨w, s3, s4, s5, s6, ⟨p3, p4, p5, p6⟩, hw, rfl⟩
      rw [List.length_map, List.length_range] at hw
      simp -implicitDefEqProofs -dsimp only [idd_eq, Nat.reduceEqDiff, ↓w_seq, ↓w_if, ↓dTest, ↓dOp, ↓dUn, ↓w_var, ↓getS_val, ↓getS_own, ↓getS_par, ↓dC, rd_val, rd_bor, ownD_own, ownD_par, rds_nil, rds_cons, ↓w_asg, ↓dCB, ↓dCons, ↓dNil, ↓dgName, ↓dgTup, ↓dgCons, ↓dgNil, ↓w_setIx, ↓w_ret, ↓w_retF, ↓w_retN, ↓w_next, ↓w_drop, ↓w_own, ↓w_brk, ↓w_cnt, ↓w_setF, ↓w_dput, ↓w_body, ↓dN, ↓dCall, ↓dCallF, argsOf_nil, argsOf_val, argsOf_bor, bors, ↓dV, ↓dTup, ↓dLst, vals_nil, vals_val, ↓w_par, ↓w_par3, ↓w_parVO, ↓w_parOV, ↓w_parOO, ↓dTruth, ↓dIsi, ↓dIsiT, ↓dInO, insOf_ins, ↓dDNew, ↓dDGet, ↓dDIn, toTup_lst, toTup_tup, pf_nil, lk_self, key_str, key_int, isN_non, isNN_non, kno_int, kno_str, kno_lst, kno_tup, kno_bl, kno_non, tyV_int, tyV_bl, tyV_str, tyV_lst, tyV_tup, tyV_non, clV_ty, clVT_nil, clVT_val, kit_same, kit_int_bool, kit_bool_int, kits_list, kits_tuple, ↓dNot, ↓dAnd, ↓dOr, ↓dIf, ↓dAndV, ↓dOrV, ↓dNotV, ↓dChain, ↓dMeth, ↓dMethF, ↓dKw, ↓dSl, ↓dNoP, ↓dPart, ↓w_for, diRng1, diRng2, diRevR1, diEnumX, diAny, items_lst, items_tup, ↓dLc, ↓dDc, ↓dFld, ownAt_def, setD, Sl.setD, isPar0, isParS, isPN, isP_val, isP_own, isP_no, isP_par, ↓doF, outs_nil, outs_cons, parD_par, parIx, putOuts, wipeD, ↓dBodyF, ↓dAppend, D.isLst, cmp_int, bool_bl, toInt_int, toInt_bl, truth_bl, truth_int, truth_non, len_lst, len_tup, D_add, D_sub, D_mod, eq_int, ne_int, neg_int, ix0, ix1, ix2, ix3, ix4, tx0, tx1, tx2, sx0, sx1, sx2, List.length_cons, List.length_nil, List.cons_append, List.nil_append, List.replicate, Nat.reduceAdd, Nat.reduceSub, List.getElem?_cons_zero, List.getElem?_cons_succ, List.getElem?_nil, List.set_cons_zero, List.set_cons_succ, Option.bind_some, Option.map_some, Option.isSome_some, true_and, and_true, if_true, if_false, Bool.false_eq_true, reduceIte, Int.reduceBEq, Bool.not_true, Bool.not_false, List.nodup_cons, List.nodup_nil, List.not_mem_nil, not_false_eq_true, List.mem_cons, or_false, ↓opt_f, ↓optF_some, ↓ite_cd, ↓cd_true, ↓cd_false, ↓forL_f, ↓lcL_f, ↓dcL_f, ↓noEr_run, ↓w_frz, ↓getW_own, ↓dListRg1, ↓dIndex, ↓dCKw, ↓dMake, ↓dList, seq_lst, seq_tup, kwP1, kwP10, beq_self_eq_true, ↓dEqO, ↓dBinO, ↓dNev, tyV_dct, tyV_ins, kno_dct, clV_ptr, kit_sameR, nf_same, nf_none, nf_int, nf_bool, nf_str, nf_lst, nf_tup, nf_dct, ↓dLenO, eq_bl, ne_bl, ↓hot_run, ↓w_try, ↓w_try0, ↓erH_cons, ↓erH_nil, ↓shutD_mk, x1_mk, x2_mk, ↓w_rz, ↓dXf, ↓dIsX, ↓dBinS, ↓w_nest, ↓w_dnSeq, ↓w_dnT, ↓w_dnFrz, dnCons, dnNil, hideR, hid_val, hid_own, hid_par, hid_no, oL_none, oL_some, ltO_none, ltO_some, hidL_cons, hidL_nil, dgSq, ↓dLc2, lcL2_f, ↓dChain3, ↓w_seqP, ↓w_retT, ↓w_callT, ↓dIfF, ↓w_nestL, ↓w_dnSeq2, dnLc, ↓w_dnPar2, ↓w_dnFC, lcN_f, Nat.reduceLT, p3, p4, p5, p6, p7, hp30, h9, h1, h0]
      refine pick_ok A (n := 400 * (10 : Int).toNat) (by decide) hw (List.cons_ne_nil _ _) (by simp) fun y w3 hy hw3 => ?_
      have hy : y ∈ odds := hy
      simp -implicitDefEqProofs -dsimp only [idd_eq, Nat.reduceEqDiff, ↓w_seq, ↓w_if, ↓dTest, ↓dOp, ↓dUn, ↓w_var, ↓getS_val, ↓getS_own, ↓getS_par, ↓dC, rd_val, rd_bor, ownD_own, ownD_par, rds_nil, rds_cons, ↓w_asg, ↓dCB, ↓dCons, ↓dNil, ↓dgName, ↓dgTup, ↓dgCons, ↓dgNil, ↓w_setIx, ↓w_ret, ↓w_retF, ↓w_retN, ↓w_next, ↓w_drop, ↓w_own, ↓w_brk, ↓w_cnt, ↓w_setF, ↓w_dput, ↓w_body, ↓dN, ↓dCall, ↓dCallF, argsOf_nil, argsOf_val, argsOf_bor, bors, ↓dV, ↓dTup, ↓dLst, vals_nil, vals_val, ↓w_par, ↓w_par3, ↓w_parVO, ↓w_parOV, ↓w_parOO, ↓dTruth, ↓dIsi, ↓dIsiT, ↓dInO, insOf_ins, ↓dDNew, ↓dDGet, ↓dDIn, toTup_lst, toTup_tup, pf_nil, lk_self, key_str, key_int, isN_non, isNN_non, kno_int, kno_str, kno_lst, kno_tup, kno_bl, kno_non, tyV_int, tyV_bl, tyV_str, tyV_lst, tyV_tup, tyV_non, clV_ty, clVT_nil, clVT_val, kit_same, kit_int_bool, kit_bool_int, kits_list, kits_tuple, ↓dNot, ↓dAnd, ↓dOr, ↓dIf, ↓dAndV, ↓dOrV, ↓dNotV, ↓dChain, ↓dMeth, ↓dMethF, ↓dKw, ↓dSl, ↓dNoP, ↓dPart, ↓w_for, diRng1, diRng2, diRevR1, diEnumX, diAny, items_lst, items_tup, ↓dLc, ↓dDc, ↓dFld, ownAt_def, setD, Sl.setD, isPar0, isParS, isPN, isP_val, isP_own, isP_no, isP_par, ↓doF, outs_nil, outs_cons, parD_par, parIx, putOuts, wipeD, ↓dBodyF, ↓dAppend, D.isLst, cmp_int, bool_bl, toInt_int, toInt_bl, truth_bl, truth_int, truth_non, len_lst, len_tup, D_add, D_sub, D_mod, eq_int, ne_int, neg_int, ix0, ix1, ix2, ix3, ix4, tx0, tx1, tx2, sx0, sx1, sx2, List.length_cons, List.length_nil, List.cons_append, List.nil_append, List.replicate, Nat.reduceAdd, Nat.reduceSub, List.getElem?_cons_zero, List.getElem?_cons_succ, List.getElem?_nil, List.set_cons_zero, List.set_cons_succ, Option.bind_some, Option.map_some, Option.isSome_some, true_and, and_true, if_true, if_false, Bool.false_eq_true, reduceIte, Int.reduceBEq, Bool.not_true, Bool.not_false, List.nodup_cons, List.nodup_nil, List.not_mem_nil, not_false_eq_true, List.mem_cons, or_false, ↓opt_f, ↓optF_some, ↓ite_cd, ↓cd_true, ↓cd_false, ↓forL_f, ↓lcL_f, ↓dcL_f, ↓noEr_run, ↓w_frz, ↓getW_own, ↓dListRg1, ↓dIndex, ↓dCKw, ↓dMake, ↓dList, seq_lst, seq_tup, kwP1, kwP10, beq_self_eq_true, ↓dEqO, ↓dBinO, ↓dNev, tyV_dct, tyV_ins, kno_dct, clV_ptr, kit_sameR, nf_same, nf_none, nf_int, nf_bool, nf_str, nf_lst, nf_tup, nf_dct, ↓dLenO, eq_bl, ne_bl, ↓hot_run, ↓w_try, ↓w_try0, ↓erH_cons, ↓erH_nil, ↓shutD_mk, x1_mk, x2_mk, ↓w_rz, ↓dXf, ↓dIsX, ↓dBinS, ↓w_nest, ↓w_dnSeq, ↓w_dnT, ↓w_dnFrz, dnCons, dnNil, hideR, hid_val, hid_own, hid_par, hid_no, oL_none, oL_some, ltO_none, ltO_some, hidL_cons, hidL_nil, dgSq, ↓dLc2, lcL2_f, ↓dChain3, ↓w_seqP, ↓w_retT, ↓w_callT, ↓dIfF, ↓w_nestL, ↓w_dnSeq2, dnLc, ↓w_dnPar2, ↓w_dnFC, lcN_f, Nat.reduceLT, p3, p4, p5, p6, p7, w_lamC]
      intro f1
      refine said_lasting A fx hy (by rfl) ?_
      intro f2
      refine said_placed A fx hy (by rfl) ?_
      have hm2 : D.mul (.lst [shownO y]) (.int 2) = some (.lst [shownO y, shownO y]) := by
        show (if (0 : Int) ≤ 2 ∧ (2 : Int) < 2 ^ 63 ∧ [shownO y].length * (2 : Int).toNat ≤ sizeLine then some (D.lst (List.replicate (2 : Int).toNat [shownO y]).flatten) else none) = _
        rw [if_pos ⟨by decide, by decide, by show 1 * 2 ≤ sizeLine; decide⟩]; rfl
      have hne2 : D.ne (.lst [shownO y, shownO y]) (.lst [shownO y, shownO y]) = some (.bl false) := by
        refine (eq_self (n := 2) ?_ (by decide)).2
        show (D.nice 1 (shownO y) && (D.nice 1 (shownO y) && true)) = true
        rw [okO hy]; rfl
      simp -implicitDefEqProofs -dsimp only [idd_eq, Nat.reduceEqDiff, ↓w_seq, ↓w_if, ↓dTest, ↓dOp, ↓dUn, ↓w_var, ↓getS_val, ↓getS_own, ↓getS_par, ↓dC, rd_val, rd_bor, ownD_own, ownD_par, rds_nil, rds_cons, ↓w_asg, ↓dCB, ↓dCons, ↓dNil, ↓dgName, ↓dgTup, ↓dgCons, ↓dgNil, ↓w_setIx, ↓w_ret, ↓w_retF, ↓w_retN, ↓w_next, ↓w_drop, ↓w_own, ↓w_brk, ↓w_cnt, ↓w_setF, ↓w_dput, ↓w_body, ↓dN, ↓dCall, ↓dCallF, argsOf_nil, argsOf_val, argsOf_bor, bors, ↓dV, ↓dTup, ↓dLst, vals_nil, vals_val, ↓w_par, ↓w_par3, ↓w_parVO, ↓w_parOV, ↓w_parOO, ↓dTruth, ↓dIsi, ↓dIsiT, ↓dInO, insOf_ins, ↓dDNew, ↓dDGet, ↓dDIn, toTup_lst, toTup_tup, pf_nil, lk_self, key_str, key_int, isN_non, isNN_non, kno_int, kno_str, kno_lst, kno_tup, kno_bl, kno_non, tyV_int, tyV_bl, tyV_str, tyV_lst, tyV_tup, tyV_non, clV_ty, clVT_nil, clVT_val, kit_same, kit_int_bool, kit_bool_int, kits_list, kits_tuple, ↓dNot, ↓dAnd, ↓dOr, ↓dIf, ↓dAndV, ↓dOrV, ↓dNotV, ↓dChain, ↓dMeth, ↓dMethF, ↓dKw, ↓dSl, ↓dNoP, ↓dPart, ↓w_for, diRng1, diRng2, diRevR1, diEnumX, diAny, items_lst, items_tup, ↓dLc, ↓dDc, ↓dFld, ownAt_def, setD, Sl.setD, isPar0, isParS, isPN, isP_val, isP_own, isP_no, isP_par, ↓doF, outs_nil, outs_cons, parD_par, parIx, putOuts, wipeD, ↓dBodyF, ↓dAppend, D.isLst, cmp_int, bool_bl, toInt_int, toInt_bl, truth_bl, truth_int, truth_non, len_lst, len_tup, D_add, D_sub, D_mod, eq_int, ne_int, neg_int, ix0, ix1, ix2, ix3, ix4, tx0, tx1, tx2, sx0, sx1, sx2, List.length_cons, List.length_nil, List.cons_append, List.nil_append, List.replicate, Nat.reduceAdd, Nat.reduceSub, List.getElem?_cons_zero, List.getElem?_cons_succ, List.getElem?_nil, List.set_cons_zero, List.set_cons_succ, Option.bind_some, Option.map_some, Option.isSome_some, true_and, and_true, if_true, if_false, Bool.false_eq_true, reduceIte, Int.reduceBEq, Bool.not_true, Bool.not_false, List.nodup_cons, List.nodup_nil, List.not_mem_nil, not_false_eq_true, List.mem_cons, or_false, ↓opt_f, ↓optF_some, ↓ite_cd, ↓cd_true, ↓cd_false, ↓forL_f, ↓lcL_f, ↓dcL_f, ↓noEr_run, ↓w_frz, ↓getW_own, ↓dListRg1, ↓dIndex, ↓dCKw, ↓dMake, ↓dList, seq_lst, seq_tup, kwP1, kwP10, beq_self_eq_true, ↓dEqO, ↓dBinO, ↓dNev, tyV_dct, tyV_ins, kno_dct, clV_ptr, kit_sameR, nf_same, nf_none, nf_int, nf_bool, nf_str, nf_lst, nf_tup, nf_dct, ↓dLenO, eq_bl, ne_bl, ↓hot_run, ↓w_try, ↓w_try0, ↓erH_cons, ↓erH_nil, ↓shutD_mk, x1_mk, x2_mk, ↓w_rz, ↓dXf, ↓dIsX, ↓dBinS, ↓w_nest, ↓w_dnSeq, ↓w_dnT, ↓w_dnFrz, dnCons, dnNil, hideR, hid_val, hid_own, hid_par, hid_no, oL_none, oL_some, ltO_none, ltO_some, hidL_cons, hidL_nil, dgSq, ↓dLc2, lcL2_f, ↓dChain3, ↓w_seqP, ↓w_retT, ↓w_callT, ↓dIfF, ↓w_nestL, ↓w_dnSeq2, dnLc, ↓w_dnPar2, ↓w_dnFC, lcN_f, Nat.reduceLT, p3, p4, p5, p6, p7, h1, h2, reprO hy, hm2, hne2]
      exact hnx _ ⟨_, _, _, _, _, _, _, ⟨rfl, rfl, p3, p4, p5, p6, rfl⟩, rfl⟩
  · rintro ρ ⟨s1, s2, s3, s4, s5, s6, s7, ⟨p1, p2, p3, p4, p5, p6, p7⟩, rfl⟩
    simp -implicitDefEqProofs -dsimp only [idd_eq, Nat.reduceEqDiff, ↓w_seq, ↓w_if, ↓dTest, ↓dOp, ↓dUn, ↓w_var, ↓getS_val, ↓getS_own, ↓getS_par, ↓dC, rd_val, rd_bor, ownD_own, ownD_par, rds_nil, rds_cons, ↓w_asg, ↓dCB, ↓dCons, ↓dNil, ↓dgName, ↓dgTup, ↓dgCons, ↓dgNil, ↓w_setIx, ↓w_ret, ↓w_retF, ↓w_retN, ↓w_next, ↓w_drop, ↓w_own, ↓w_brk, ↓w_cnt, ↓w_setF, ↓w_dput, ↓w_body, ↓dN, ↓dCall, ↓dCallF, argsOf_nil, argsOf_val, argsOf_bor, bors, ↓dV, ↓dTup, ↓dLst, vals_nil, vals_val, ↓w_par, ↓w_par3, ↓w_parVO, ↓w_parOV, ↓w_parOO, ↓dTruth, ↓dIsi, ↓dIsiT, ↓dInO, insOf_ins, ↓dDNew, ↓dDGet, ↓dDIn, toTup_lst, toTup_tup, pf_nil, lk_self, key_str, key_int, isN_non, isNN_non, kno_int, kno_str, kno_lst, kno_tup, kno_bl, kno_non, tyV_int, tyV_bl, tyV_str, tyV_lst, tyV_tup, tyV_non, clV_ty, clVT_nil, clVT_val, kit_same, kit_int_bool, kit_bool_int, kits_list, kits_tuple, ↓dNot, ↓dAnd, ↓dOr, ↓dIf, ↓dAndV, ↓dOrV, ↓dNotV, ↓dChain, ↓dMeth, ↓dMethF, ↓dKw, ↓dSl, ↓dNoP, ↓dPart, ↓w_for, diRng1, diRng2, diRevR1, diEnumX, diAny, items_lst, items_tup, ↓dLc, ↓dDc, ↓dFld, ownAt_def, setD, Sl.setD, isPar0, isParS, isPN, isP_val, isP_own, isP_no, isP_par, ↓doF, outs_nil, outs_cons, parD_par, parIx, putOuts, wipeD, ↓dBodyF, ↓dAppend, D.isLst, cmp_int, bool_bl, toInt_int, toInt_bl, truth_bl, truth_int, truth_non, len_lst, len_tup, D_add, D_sub, D_mod, eq_int, ne_int, neg_int, ix0, ix1, ix2, ix3, ix4, tx0, tx1, tx2, sx0, sx1, sx2, List.length_cons, List.length_nil, List.cons_append, List.nil_append, List.replicate, Nat.reduceAdd, Nat.reduceSub, List.getElem?_cons_zero, List.getElem?_cons_succ, List.getElem?_nil, List.set_cons_zero, List.set_cons_succ, Option.bind_some, Option.map_some, Option.isSome_some, true_and, and_true, if_true, if_false, Bool.false_eq_true, reduceIte, Int.reduceBEq, Bool.not_true, Bool.not_false, List.nodup_cons, List.nodup_nil, List.not_mem_nil, not_false_eq_true, List.mem_cons, or_false, ↓opt_f, ↓optF_some, ↓ite_cd, ↓cd_true, ↓cd_false, ↓forL_f, ↓lcL_f, ↓dcL_f, ↓noEr_run, ↓w_frz, ↓getW_own, ↓dListRg1, ↓dIndex, ↓dCKw, ↓dMake, ↓dList, seq_lst, seq_tup, kwP1, kwP10, beq_self_eq_true, ↓dEqO, ↓dBinO, ↓dNev, tyV_dct, tyV_ins, kno_dct, clV_ptr, kit_sameR, nf_same, nf_none, nf_int, nf_bool, nf_str, nf_lst, nf_tup, nf_dct, ↓dLenO, eq_bl, ne_bl, ↓hot_run, ↓w_try, ↓w_try0, ↓erH_cons, ↓erH_nil, ↓shutD_mk, x1_mk, x2_mk, ↓w_rz, ↓dXf, ↓dIsX, ↓dBinS, ↓w_nest, ↓w_dnSeq, ↓w_dnT, ↓w_dnFrz, dnCons, dnNil, hideR, hid_val, hid_own, hid_par, hid_no, oL_none, oL_some, ltO_none, ltO_some, hidL_cons, hidL_nil, dgSq, ↓dLc2, lcL2_f, ↓dChain3, ↓w_seqP, ↓w_retT, ↓w_callT, ↓dIfF, ↓w_nestL, ↓w_dnSeq2, dnLc, ↓w_dnPar2, ↓w_dnFC, lcN_f, Nat.reduceLT]
end My
set_option autoImplicit false
set_option Elab.async false
set_option linter.all false
set_option maxRecDepth 100000
set_option maxHeartbeats 2000000
namespace My
open PySem L2 Evl ClX DL
section
variable {w : World} {K : PySem.W.Frag} {h : Heap} {mg : Str → Option Value}
theorem all_mk {fa : Addr} (X : K.In h) (G : h.Ns mainGlobals mg) (hfa : mg "law" = some (.ref fa)) {c_ForestError c_NoCount a_NoCount_init a_is_integer a_p_check_count a_lasting a_placed a_p_law_rng a_p_law_draw a_p_law_pick a_p_law_said a_p_law_known a_p_law_due a_law k_law p_law : Addr} {od_NoCount_init an_NoCount_init od_is_integer an_is_integer od_p_check_count an_p_check_count od_lasting an_lasting od_placed an_placed od_p_law_rng an_p_law_rng od_p_law_draw an_p_law_draw od_p_law_pick an_p_law_pick od_p_law_said an_p_law_said od_p_law_known an_p_law_known od_p_law_due an_p_law_due od_law an_law : Option Addr} {sl_NoCount_init sl_is_integer sl_p_check_count sl_lasting sl_placed sl_p_law_rng sl_p_law_draw sl_p_law_pick sl_p_law_said sl_p_law_known sl_p_law_due sl_law : Array (Option Value)} {oc_NoCount_init kV_NoCount_init dc_NoCount_init pm_NoCount_init cd_NoCount_init ct_NoCount_init oc_is_integer kV_is_integer dc_is_integer pm_is_integer cd_is_integer ct_is_integer oc_p_check_count kV_p_check_count dc_p_check_count pm_p_check_count cd_p_check_count ct_p_check_count oc_lasting kV_lasting dc_lasting pm_lasting cd_lasting ct_lasting oc_placed kV_placed dc_placed pm_placed cd_placed ct_placed oc_p_law_rng kV_p_law_rng dc_p_law_rng pm_p_law_rng cd_p_law_rng ct_p_law_rng oc_p_law_draw kV_p_law_draw dc_p_law_draw pm_p_law_draw cd_p_law_draw ct_p_law_draw oc_p_law_pick kV_p_law_pick dc_p_law_pick pm_p_law_pick cd_p_law_pick ct_p_law_pick oc_p_law_said kV_p_law_said dc_p_law_said pm_p_law_said cd_p_law_said ct_p_law_said oc_p_law_known kV_p_law_known dc_p_law_known pm_p_law_known cd_p_law_known ct_p_law_known oc_p_law_due kV_p_law_due dc_p_law_due pm_p_law_due cd_p_law_due ct_p_law_due oc_law kV_law dc_law pm_law cd_law ct_law u_MOST_FREE : Value} {nm_NoCount q_NoCount : Str} {N_xNoCount : Addr} {bs_NoCount sub_NoCount : List Value} {sn_NoCount : List Str} {ab_NoCount : Bool} {col_NoCount : Option Bool} {dd_NoCount : Option Addr} {m0_NoCount m1_NoCount m2_NoCount m3_NoCount m5_NoCount : Option Value}
    (nC_ForestError : PySem.W.nsIn K mainGlobals "ForestError" = some (some (.ref c_ForestError)))
    (nC_NoCount : PySem.W.nsIn K mainGlobals "NoCount" = some (some (.ref c_NoCount)))
    (n_NoCount_init : PySem.W.findIn K (.ref c_NoCount) "__init__" = some (some (.ref a_NoCount_init)))
    (i_NoCount_init : PySem.W.isFn K (.ref a_NoCount_init) = true)
    (l_NoCount_init : K.lookup a_NoCount_init = some ⟨oc_NoCount_init, od_NoCount_init, .func (PySem.W.fnOf "__init__" "NoCount.__init__" (defArgs s_NoCount_init) (defBody s_NoCount_init) (defScope s_NoCount_init) .none kV_NoCount_init dc_NoCount_init pm_NoCount_init an_NoCount_init cd_NoCount_init ct_NoCount_init), sl_NoCount_init⟩)
    (c2_NoCount_init : PySem.W.codeIn K cd_NoCount_init "NoCount.__init__" = true)
    (k2_NoCount_init : PySem.W.keepIn K (.ref a_NoCount_init) = true)
    (n_is_integer : PySem.W.nsIn K mainGlobals "is_integer" = some (some (.ref a_is_integer)))
    (l_is_integer : K.lookup a_is_integer = some ⟨oc_is_integer, od_is_integer, .func (PySem.W.fnOf "is_integer" "is_integer" (defArgs s_is_integer) (defBody s_is_integer) (defScope s_is_integer) .none kV_is_integer dc_is_integer pm_is_integer an_is_integer cd_is_integer ct_is_integer), sl_is_integer⟩)
    (c2_is_integer : PySem.W.codeIn K cd_is_integer "is_integer" = true)
    (k2_is_integer : PySem.W.keepIn K (.ref a_is_integer) = true)
    (n_p_check_count : PySem.W.nsIn K mainGlobals "_check_count" = some (some (.ref a_p_check_count)))
    (l_p_check_count : K.lookup a_p_check_count = some ⟨oc_p_check_count, od_p_check_count, .func (PySem.W.fnOf "_check_count" "_check_count" (defArgs s_p_check_count) (defBody s_p_check_count) (defScope s_p_check_count) .none kV_p_check_count dc_p_check_count pm_p_check_count an_p_check_count cd_p_check_count ct_p_check_count), sl_p_check_count⟩)
    (c2_p_check_count : PySem.W.codeIn K cd_p_check_count "_check_count" = true)
    (k2_p_check_count : PySem.W.keepIn K (.ref a_p_check_count) = true)
    (n_lasting : PySem.W.nsIn K mainGlobals "lasting" = some (some (.ref a_lasting)))
    (l_lasting : K.lookup a_lasting = some ⟨oc_lasting, od_lasting, .func (PySem.W.fnOf "lasting" "lasting" (defArgs s_lasting) (defBody s_lasting) (defScope s_lasting) .none kV_lasting dc_lasting pm_lasting an_lasting cd_lasting ct_lasting), sl_lasting⟩)
    (c2_lasting : PySem.W.codeIn K cd_lasting "lasting" = true)
    (k2_lasting : PySem.W.keepIn K (.ref a_lasting) = true)
    (n_placed : PySem.W.nsIn K mainGlobals "placed" = some (some (.ref a_placed)))
    (l_placed : K.lookup a_placed = some ⟨oc_placed, od_placed, .func (PySem.W.fnOf "placed" "placed" (defArgs s_placed) (defBody s_placed) (defScope s_placed) .none kV_placed dc_placed pm_placed an_placed cd_placed ct_placed), sl_placed⟩)
    (c2_placed : PySem.W.codeIn K cd_placed "placed" = true)
    (k2_placed : PySem.W.keepIn K (.ref a_placed) = true)
    (n_p_law_rng : PySem.W.nsIn K mainGlobals "_law_rng" = some (some (.ref a_p_law_rng)))
    (l_p_law_rng : K.lookup a_p_law_rng = some ⟨oc_p_law_rng, od_p_law_rng, .func (PySem.W.fnOf "_law_rng" "_law_rng" (defArgs s_p_law_rng) (defBody s_p_law_rng) (defScope s_p_law_rng) .none kV_p_law_rng dc_p_law_rng pm_p_law_rng an_p_law_rng cd_p_law_rng ct_p_law_rng), sl_p_law_rng⟩)
    (c2_p_law_rng : PySem.W.codeIn K cd_p_law_rng "_law_rng" = true)
    (k2_p_law_rng : PySem.W.keepIn K (.ref a_p_law_rng) = true)
    (n_p_law_draw : PySem.W.nsIn K mainGlobals "_law_draw" = some (some (.ref a_p_law_draw)))
    (l_p_law_draw : K.lookup a_p_law_draw = some ⟨oc_p_law_draw, od_p_law_draw, .func (PySem.W.fnOf "_law_draw" "_law_draw" (defArgs s_p_law_draw) (defBody s_p_law_draw) (defScope s_p_law_draw) .none kV_p_law_draw dc_p_law_draw pm_p_law_draw an_p_law_draw cd_p_law_draw ct_p_law_draw), sl_p_law_draw⟩)
    (c2_p_law_draw : PySem.W.codeIn K cd_p_law_draw "_law_draw" = true)
    (k2_p_law_draw : PySem.W.keepIn K (.ref a_p_law_draw) = true)
    (n_p_law_pick : PySem.W.nsIn K mainGlobals "_law_pick" = some (some (.ref a_p_law_pick)))
    (l_p_law_pick : K.lookup a_p_law_pick = some ⟨oc_p_law_pick, od_p_law_pick, .func (PySem.W.fnOf "_law_pick" "_law_pick" (defArgs s_p_law_pick) (defBody s_p_law_pick) (defScope s_p_law_pick) .none kV_p_law_pick dc_p_law_pick pm_p_law_pick an_p_law_pick cd_p_law_pick ct_p_law_pick), sl_p_law_pick⟩)
    (c2_p_law_pick : PySem.W.codeIn K cd_p_law_pick "_law_pick" = true)
    (k2_p_law_pick : PySem.W.keepIn K (.ref a_p_law_pick) = true)
    (n_p_law_said : PySem.W.nsIn K mainGlobals "_law_said" = some (some (.ref a_p_law_said)))
    (l_p_law_said : K.lookup a_p_law_said = some ⟨oc_p_law_said, od_p_law_said, .func (PySem.W.fnOf "_law_said" "_law_said" (defArgs s_p_law_said) (defBody s_p_law_said) (defScope s_p_law_said) .none kV_p_law_said dc_p_law_said pm_p_law_said an_p_law_said cd_p_law_said ct_p_law_said), sl_p_law_said⟩)
    (c2_p_law_said : PySem.W.codeIn K cd_p_law_said "_law_said" = true)
    (k2_p_law_said : PySem.W.keepIn K (.ref a_p_law_said) = true)
    (n_p_law_known : PySem.W.nsIn K mainGlobals "_law_known" = some (some (.ref a_p_law_known)))
    (l_p_law_known : K.lookup a_p_law_known = some ⟨oc_p_law_known, od_p_law_known, .func (PySem.W.fnOf "_law_known" "_law_known" (defArgs s_p_law_known) (defBody s_p_law_known) (defScope s_p_law_known) .none kV_p_law_known dc_p_law_known pm_p_law_known an_p_law_known cd_p_law_known ct_p_law_known), sl_p_law_known⟩)
    (c2_p_law_known : PySem.W.codeIn K cd_p_law_known "_law_known" = true)
    (k2_p_law_known : PySem.W.keepIn K (.ref a_p_law_known) = true)
    (n_p_law_due : PySem.W.nsIn K mainGlobals "_law_due" = some (some (.ref a_p_law_due)))
    (l_p_law_due : K.lookup a_p_law_due = some ⟨oc_p_law_due, od_p_law_due, .func (PySem.W.fnOf "_law_due" "_law_due" (defArgs s_p_law_due) (defBody s_p_law_due) (defScope s_p_law_due) .none kV_p_law_due dc_p_law_due pm_p_law_due an_p_law_due cd_p_law_due ct_p_law_due), sl_p_law_due⟩)
    (c2_p_law_due : PySem.W.codeIn K cd_p_law_due "_law_due" = true)
    (k2_p_law_due : PySem.W.keepIn K (.ref a_p_law_due) = true)
    (n_law : PySem.W.nsIn K mainGlobals "law" = some (some (.ref a_law)))
    (l_law : K.lookup a_law = some ⟨oc_law, od_law, .func (PySem.W.fnOf "law" "law" (defArgs s_law) (defBody s_law) (defScope s_law) .none kV_law dc_law pm_law an_law cd_law ct_law), sl_law⟩)
    (c2_law : PySem.W.codeIn K cd_law "law" = true)
    (k2_law : PySem.W.keepIn K (.ref a_law) = true)
    (kk_law : cd_law = .ref k_law)
    (isi_n : PySem.W.specialIn K (.builtin "object.__class__") "__get__" = some (some (.builtin "getset_descriptor.__get__")))
    (isi_t : PySem.W.takesIn K (.builtin "object.__class__") = some true)
    (nk_MOST_FREE : PySem.W.nsIn K mainGlobals "MOST_FREE" = some (some u_MOST_FREE))
    (rk_MOST_FREE : RelV (.int (1000000000000000000000000000000)) u_MOST_FREE)
    (xL_NoCount : K.lookup c_NoCount = some (excClassObj nm_NoCount q_NoCount c_NoCount N_xNoCount bs_NoCount [.ref c_ForestError, .type "ValueError", .type "Exception", .type "BaseException", .type "object"] true sn_NoCount sub_NoCount ab_NoCount col_NoCount dd_NoCount m0_NoCount m1_NoCount m2_NoCount m3_NoCount m5_NoCount "ValueError.__new__"))
    (sa_NoCount : PySem.W.findIn K (.ref c_NoCount) "__setattr__" = some (some (.builtin "object.__setattr__")))
    (xb_NoCount : PySem.W.subIn K (.ref c_NoCount) (.type "BaseException") = some true)
    (tk_NoCount : PySem.W.typeIn K (.ref c_NoCount) = some (.type "type"))
    (kc_NoCount : PySem.W.keepIn K (.ref c_NoCount) = true)
    (xn_NoCount_free : PySem.W.findIn K (.ref c_NoCount) "free" = some none)
    (xg_NoCount : PySem.W.findIn K (.ref c_NoCount) "__getattribute__" = some (some (.builtin "BaseException.__getattribute__")))
    (xh_NoCount : PySem.W.findIn K (.ref c_NoCount) "__getattr__" = some none)
    (hd_NoCount : PySem.W.hasDictIn K c_NoCount = true)
    (ha_NoCount : PySem.W.findIn K (.ref c_NoCount) "__class__" = some (some (.builtin "object.__class__")))
    (hm_NoCount : PySem.W.mroIn K c_NoCount (.type "object") = some true)
    (xt_NoCount : PySem.W.typeIn K (.ref a_NoCount_init) = some (.type "function"))
    (z_abs : PySem.W.nsIn K mainGlobals "abs" = some none)
    (z_bool : PySem.W.nsIn K mainGlobals "bool" = some none)
    (z_int : PySem.W.nsIn K mainGlobals "int" = some none)
    (z_isinstance : PySem.W.nsIn K mainGlobals "isinstance" = some none)
    (z_len : PySem.W.nsIn K mainGlobals "len" = some none)
    (z_max : PySem.W.nsIn K mainGlobals "max" = some none)
    (z_min : PySem.W.nsIn K mainGlobals "min" = some none)
    (z_range : PySem.W.nsIn K mainGlobals "range" = some none)
    (z_repr : PySem.W.nsIn K mainGlobals "repr" = some none)
    (sb_NoCount_NoCount : PySem.W.subIn K (.ref c_NoCount) (.ref c_NoCount) = some true)
    (main : ∀ A : Ads, Fax K A → ∀ ns : List Int, ns.length ≤ 63 → dsp_law K A [.val (.lst (ns.map D.int))] (fun d _ => d = .bl true) (fun _ _ _ => False))
    : ∃ fd : FuncData, (∀ (s : Shared) (v : Value), BindsTo s fd ⟨[v], []⟩ [("_law_script", v)]) ∧ ∀ base : Heap, K.In base → base.Ns mainGlobals mg → (∀ p ∈ [(k_law, p_law)], LamX.TabB base mg p.1 p.2) → FnG (PySem.Challenge.rw_forestrows_k44_how_long_a_gap_lasts).prog w K mg base CX0 7 fa fd ["_law_script"] (spTrueT K (tabs_law p_law)) := by
  have e := hfa.symm.trans (PySem.W.mg_of X G n_law)
  cases e
  have F_NoCount_init := fun_mk (st := s_NoCount_init) l_NoCount_init c2_NoCount_init k2_NoCount_init
  have b_NoCount_init := F_NoCount_init.binds (ps := ["self", "free"]) fun _ _ _ _ _ _ us hl => match us, hl with | [_, _], _ => rfl
  have F_is_integer := fun_mk (st := s_is_integer) l_is_integer c2_is_integer k2_is_integer
  have b_is_integer := F_is_integer.binds (ps := ["x"]) fun _ _ _ _ _ _ us hl => match us, hl with | [_], _ => rfl
  have F_p_check_count := fun_mk (st := s_p_check_count) l_p_check_count c2_p_check_count k2_p_check_count
  have b_p_check_count := F_p_check_count.binds (ps := ["free"]) fun _ _ _ _ _ _ us hl => match us, hl with | [_], _ => rfl
  have F_lasting := fun_mk (st := s_lasting) l_lasting c2_lasting k2_lasting
  have b_lasting := F_lasting.binds (ps := ["free"]) fun _ _ _ _ _ _ us hl => match us, hl with | [_], _ => rfl
  have F_placed := fun_mk (st := s_placed) l_placed c2_placed k2_placed
  have b_placed := F_placed.binds (ps := ["free"]) fun _ _ _ _ _ _ us hl => match us, hl with | [_], _ => rfl
  have F_p_law_rng := fun_mk (st := s_p_law_rng) l_p_law_rng c2_p_law_rng k2_p_law_rng
  have b_p_law_rng := F_p_law_rng.binds (ps := ["_law_cell"]) fun _ _ _ _ _ _ us hl => match us, hl with | [_], _ => rfl
  have F_p_law_draw := fun_mk (st := s_p_law_draw) l_p_law_draw c2_p_law_draw k2_p_law_draw
  have b_p_law_draw := F_p_law_draw.binds (ps := ["_law_rng_here", "_law_limit"]) fun _ _ _ _ _ _ us hl => match us, hl with | [_, _], _ => rfl
  have F_p_law_pick := fun_mk (st := s_p_law_pick) l_p_law_pick c2_p_law_pick k2_p_law_pick
  have b_p_law_pick := F_p_law_pick.binds (ps := ["_law_rng_here", "_law_items"]) fun _ _ _ _ _ _ us hl => match us, hl with | [_, _], _ => rfl
  have F_p_law_said := fun_mk (st := s_p_law_said) l_p_law_said c2_p_law_said k2_p_law_said
  have b_p_law_said := F_p_law_said.binds (ps := ["_law_call"]) fun _ _ _ _ _ _ us hl => match us, hl with | [_], _ => rfl
  have F_p_law_known := fun_mk (st := s_p_law_known) l_p_law_known c2_p_law_known k2_p_law_known
  have b_p_law_known := F_p_law_known.binds (ps := []) fun _ _ _ _ _ _ us hl => match us, hl with | [], _ => rfl
  have F_p_law_due := fun_mk (st := s_p_law_due) l_p_law_due c2_p_law_due k2_p_law_due
  have b_p_law_due := F_p_law_due.binds (ps := ["_law_free"]) fun _ _ _ _ _ _ us hl => match us, hl with | [_], _ => rfl
  have F_law := fun_mk (st := s_law) l_law c2_law k2_law
  have b_law := F_law.binds (ps := ["_law_script"]) fun _ _ _ _ _ _ us hl => match us, hl with | [_], _ => rfl
  let A : Ads := { k_law := k_law, p_law := p_law, a_NoCount_init := a_NoCount_init, d_NoCount_init := (PySem.W.fnOf "__init__" "NoCount.__init__" (defArgs s_NoCount_init) (defBody s_NoCount_init) (defScope s_NoCount_init) .none kV_NoCount_init dc_NoCount_init pm_NoCount_init an_NoCount_init cd_NoCount_init ct_NoCount_init), a_is_integer := a_is_integer, d_is_integer := (PySem.W.fnOf "is_integer" "is_integer" (defArgs s_is_integer) (defBody s_is_integer) (defScope s_is_integer) .none kV_is_integer dc_is_integer pm_is_integer an_is_integer cd_is_integer ct_is_integer), a_p_check_count := a_p_check_count, d_p_check_count := (PySem.W.fnOf "_check_count" "_check_count" (defArgs s_p_check_count) (defBody s_p_check_count) (defScope s_p_check_count) .none kV_p_check_count dc_p_check_count pm_p_check_count an_p_check_count cd_p_check_count ct_p_check_count), a_lasting := a_lasting, d_lasting := (PySem.W.fnOf "lasting" "lasting" (defArgs s_lasting) (defBody s_lasting) (defScope s_lasting) .none kV_lasting dc_lasting pm_lasting an_lasting cd_lasting ct_lasting), a_placed := a_placed, d_placed := (PySem.W.fnOf "placed" "placed" (defArgs s_placed) (defBody s_placed) (defScope s_placed) .none kV_placed dc_placed pm_placed an_placed cd_placed ct_placed), a_p_law_rng := a_p_law_rng, d_p_law_rng := (PySem.W.fnOf "_law_rng" "_law_rng" (defArgs s_p_law_rng) (defBody s_p_law_rng) (defScope s_p_law_rng) .none kV_p_law_rng dc_p_law_rng pm_p_law_rng an_p_law_rng cd_p_law_rng ct_p_law_rng), a_p_law_draw := a_p_law_draw, d_p_law_draw := (PySem.W.fnOf "_law_draw" "_law_draw" (defArgs s_p_law_draw) (defBody s_p_law_draw) (defScope s_p_law_draw) .none kV_p_law_draw dc_p_law_draw pm_p_law_draw an_p_law_draw cd_p_law_draw ct_p_law_draw), a_p_law_pick := a_p_law_pick, d_p_law_pick := (PySem.W.fnOf "_law_pick" "_law_pick" (defArgs s_p_law_pick) (defBody s_p_law_pick) (defScope s_p_law_pick) .none kV_p_law_pick dc_p_law_pick pm_p_law_pick an_p_law_pick cd_p_law_pick ct_p_law_pick), a_p_law_said := a_p_law_said, d_p_law_said := (PySem.W.fnOf "_law_said" "_law_said" (defArgs s_p_law_said) (defBody s_p_law_said) (defScope s_p_law_said) .none kV_p_law_said dc_p_law_said pm_p_law_said an_p_law_said cd_p_law_said ct_p_law_said), a_p_law_known := a_p_law_known, d_p_law_known := (PySem.W.fnOf "_law_known" "_law_known" (defArgs s_p_law_known) (defBody s_p_law_known) (defScope s_p_law_known) .none kV_p_law_known dc_p_law_known pm_p_law_known an_p_law_known cd_p_law_known ct_p_law_known), a_p_law_due := a_p_law_due, d_p_law_due := (PySem.W.fnOf "_law_due" "_law_due" (defArgs s_p_law_due) (defBody s_p_law_due) (defScope s_p_law_due) .none kV_p_law_due dc_p_law_due pm_p_law_due an_p_law_due cd_p_law_due ct_p_law_due), a_law := fa, d_law := (PySem.W.fnOf "law" "law" (defArgs s_law) (defBody s_law) (defScope s_law) .none kV_law dc_law pm_law an_law cd_law ct_law), c_NoCount := c_NoCount, u_MOST_FREE := u_MOST_FREE }
  have T : Txt K mg A := {
    F_NoCount_init := F_NoCount_init,
    b_NoCount_init := b_NoCount_init,
    F_is_integer := F_is_integer,
    b_is_integer := b_is_integer,
    g_is_integer := PySem.W.mg_of X G n_is_integer,
    F_p_check_count := F_p_check_count,
    b_p_check_count := b_p_check_count,
    g_p_check_count := PySem.W.mg_of X G n_p_check_count,
    F_lasting := F_lasting,
    b_lasting := b_lasting,
    g_lasting := PySem.W.mg_of X G n_lasting,
    F_placed := F_placed,
    b_placed := b_placed,
    g_placed := PySem.W.mg_of X G n_placed,
    F_p_law_rng := F_p_law_rng,
    b_p_law_rng := b_p_law_rng,
    g_p_law_rng := PySem.W.mg_of X G n_p_law_rng,
    F_p_law_draw := F_p_law_draw,
    b_p_law_draw := b_p_law_draw,
    g_p_law_draw := PySem.W.mg_of X G n_p_law_draw,
    F_p_law_pick := F_p_law_pick,
    b_p_law_pick := b_p_law_pick,
    g_p_law_pick := PySem.W.mg_of X G n_p_law_pick,
    F_p_law_said := F_p_law_said,
    b_p_law_said := b_p_law_said,
    g_p_law_said := PySem.W.mg_of X G n_p_law_said,
    F_p_law_known := F_p_law_known,
    b_p_law_known := b_p_law_known,
    g_p_law_known := PySem.W.mg_of X G n_p_law_known,
    F_p_law_due := F_p_law_due,
    b_p_law_due := b_p_law_due,
    g_p_law_due := PySem.W.mg_of X G n_p_law_due,
    F_law := F_law,
    b_law := b_law,
    g_law := PySem.W.mg_of X G n_law,
    g_NoCount := PySem.W.mg_of X G nC_NoCount,
    ic := (fun C hC => by cases hC),
    isi := ⟨isi_n, isi_t⟩,
    k_MOST_FREE := ⟨PySem.W.mg_of X G nk_MOST_FREE, rk_MOST_FREE⟩,
    ox_NoCount := ⟨⟨nm_NoCount, q_NoCount, N_xNoCount, bs_NoCount, _, sn_NoCount, sub_NoCount, ab_NoCount, col_NoCount, dd_NoCount, m0_NoCount, m1_NoCount, m2_NoCount, m3_NoCount, m5_NoCount, xL_NoCount, by rfl⟩, sa_NoCount, xb_NoCount, tk_NoCount, kc_NoCount⟩,
    xi_NoCount := n_NoCount_init,
    xn_NoCount_free := xn_NoCount_free,
    xq_NoCount := ⟨⟨xg_NoCount, xh_NoCount, xb_NoCount, hd_NoCount⟩, ha_NoCount, hm_NoCount⟩,
    xt_NoCount := xt_NoCount,
    z_abs := PySem.W.mg_none_of X G z_abs,
    z_bool := PySem.W.mg_none_of X G z_bool,
    z_int := PySem.W.mg_none_of X G z_int,
    z_isinstance := PySem.W.mg_none_of X G z_isinstance,
    z_len := PySem.W.mg_none_of X G z_len,
    z_max := PySem.W.mg_none_of X G z_max,
    z_min := PySem.W.mg_none_of X G z_min,
    z_range := PySem.W.mg_none_of X G z_range,
    z_repr := PySem.W.mg_none_of X G z_repr }
  exact ⟨_, fun s v => .of_eq rfl, fun base _ _ tb => (ok_law (base := base) T (tb _ List.mem_cons_self) kk_law).imp (spTrueT_of (main A ⟨PySem.W.exm_ref xb_NoCount hd_NoCount tk_NoCount sb_NoCount_NoCount⟩))⟩
end

section
variable {w : World} {K : PySem.W.Frag} {h : Heap} {mg : Str → Option Value}
theorem all_mk2 {fa : Addr} (X : K.In h) (G : h.Ns mainGlobals mg) (hfa : mg "law" = some (.ref fa)) (c : DH.SaysB factsL fnL K)
    (main : ∀ A : Ads, Fax K A → ∀ ns : List Int, ns.length ≤ 63 → dsp_law K A [.val (.lst (ns.map D.int))] (fun d _ => d = .bl true) (fun _ _ _ => False))
    : ∃ fd : FuncData, (∀ (s : Shared) (v : Value), BindsTo s fd ⟨[v], []⟩ [("_law_script", v)]) ∧ ∀ base : Heap, K.In base → base.Ns mainGlobals mg → (∀ p ∈ [(Z_k_law K, Z_p_law K)], LamX.TabB base mg p.1 p.2) → FnG (PySem.Challenge.rw_forestrows_k44_how_long_a_gap_lasts).prog w K mg base CX0 7 fa fd ["_law_script"] (spTrueT K (tabs_law (Z_p_law K))) := by
  have g0 : (PySem.W.nsIn K mainGlobals "ForestError" = some (some (.ref (Z_c_ForestError K)))) ∧ (PySem.W.nsIn K mainGlobals "NoCount" = some (some (.ref (Z_c_NoCount K)))) ∧ (PySem.W.findIn K (.ref (Z_c_NoCount K)) "__init__" = some (some (.ref (Z_a_NoCount_init K)))) ∧ (PySem.W.isFn K (.ref (Z_a_NoCount_init K)) = true) ∧ (PySem.W.keepIn K (.ref (Z_a_NoCount_init K)) = true) ∧ (PySem.W.nsIn K mainGlobals "is_integer" = some (some (.ref (Z_a_is_integer K)))) ∧ (PySem.W.keepIn K (.ref (Z_a_is_integer K)) = true) ∧ (PySem.W.nsIn K mainGlobals "_check_count" = some (some (.ref (Z_a_p_check_count K)))) ∧ (PySem.W.keepIn K (.ref (Z_a_p_check_count K)) = true) ∧ (PySem.W.nsIn K mainGlobals "lasting" = some (some (.ref (Z_a_lasting K)))) ∧ (PySem.W.keepIn K (.ref (Z_a_lasting K)) = true) ∧ (PySem.W.nsIn K mainGlobals "placed" = some (some (.ref (Z_a_placed K)))) ∧ (PySem.W.keepIn K (.ref (Z_a_placed K)) = true) ∧ (PySem.W.nsIn K mainGlobals "_law_rng" = some (some (.ref (Z_a_p_law_rng K)))) ∧ (PySem.W.keepIn K (.ref (Z_a_p_law_rng K)) = true) := of_decide_eq_true (c.fact 0 rfl)
  have g1 : (PySem.W.nsIn K mainGlobals "_law_draw" = some (some (.ref (Z_a_p_law_draw K)))) ∧ (PySem.W.keepIn K (.ref (Z_a_p_law_draw K)) = true) ∧ (PySem.W.nsIn K mainGlobals "_law_pick" = some (some (.ref (Z_a_p_law_pick K)))) ∧ (PySem.W.keepIn K (.ref (Z_a_p_law_pick K)) = true) ∧ (PySem.W.nsIn K mainGlobals "_law_said" = some (some (.ref (Z_a_p_law_said K)))) ∧ (PySem.W.keepIn K (.ref (Z_a_p_law_said K)) = true) ∧ (PySem.W.nsIn K mainGlobals "_law_known" = some (some (.ref (Z_a_p_law_known K)))) ∧ (PySem.W.keepIn K (.ref (Z_a_p_law_known K)) = true) ∧ (PySem.W.nsIn K mainGlobals "_law_due" = some (some (.ref (Z_a_p_law_due K)))) ∧ (PySem.W.keepIn K (.ref (Z_a_p_law_due K)) = true) ∧ (PySem.W.nsIn K mainGlobals "law" = some (some (.ref (Z_a_law K)))) ∧ (PySem.W.keepIn K (.ref (Z_a_law K)) = true) ∧ (DH.codeHdB K (Z_a_law K) (Z_p_law K) = true) ∧ (PySem.W.specialIn K (.builtin "object.__class__") "__get__" = some (some (.builtin "getset_descriptor.__get__"))) ∧ (PySem.W.takesIn K (.builtin "object.__class__") = some true) := of_decide_eq_true (c.fact 1 rfl)
  have g2 : (DH.cstIn K "MOST_FREE" ((.int (1000000000000000000000000000000))) = true) ∧ (DH.excL K (Z_c_NoCount K) [(.ref (Z_c_ForestError K) : Value), .type "ValueError", .type "Exception", .type "BaseException", .type "object"] = true) ∧ (PySem.W.findIn K (.ref (Z_c_NoCount K)) "__setattr__" = some (some (.builtin "object.__setattr__"))) ∧ (PySem.W.subIn K (.ref (Z_c_NoCount K)) (.type "BaseException") = some true) ∧ (PySem.W.typeIn K (.ref (Z_c_NoCount K)) = some (.type "type")) ∧ (PySem.W.keepIn K (.ref (Z_c_NoCount K)) = true) ∧ (PySem.W.findIn K (.ref (Z_c_NoCount K)) "free" = some none) ∧ (PySem.W.findIn K (.ref (Z_c_NoCount K)) "__getattribute__" = some (some (.builtin "BaseException.__getattribute__"))) ∧ (PySem.W.findIn K (.ref (Z_c_NoCount K)) "__getattr__" = some none) ∧ (PySem.W.hasDictIn K (Z_c_NoCount K) = true) ∧ (PySem.W.findIn K (.ref (Z_c_NoCount K)) "__class__" = some (some (.builtin "object.__class__"))) ∧ (PySem.W.mroIn K (Z_c_NoCount K) (.type "object") = some true) ∧ (PySem.W.typeIn K (.ref (Z_a_NoCount_init K)) = some (.type "function")) ∧ (PySem.W.nsIn K mainGlobals "abs" = some none) ∧ (PySem.W.nsIn K mainGlobals "bool" = some none) := of_decide_eq_true (c.fact 2 rfl)
  have g3 : (PySem.W.nsIn K mainGlobals "int" = some none) ∧ (PySem.W.nsIn K mainGlobals "isinstance" = some none) ∧ (PySem.W.nsIn K mainGlobals "len" = some none) ∧ (PySem.W.nsIn K mainGlobals "max" = some none) ∧ (PySem.W.nsIn K mainGlobals "min" = some none) ∧ (PySem.W.nsIn K mainGlobals "range" = some none) ∧ (PySem.W.nsIn K mainGlobals "repr" = some none) ∧ (PySem.W.subIn K (.ref (Z_c_NoCount K)) (.ref (Z_c_NoCount K)) = some true) := of_decide_eq_true (c.fact 3 rfl)
  obtain ⟨oc_NoCount_init, od_NoCount_init, sl_NoCount_init, kV_NoCount_init, dc_NoCount_init, pm_NoCount_init, an_NoCount_init, cd_NoCount_init, ct_NoCount_init, l_NoCount_init, c2_NoCount_init⟩ := c.def_ 0 (d := fnd_NoCount_init) rfl
  obtain ⟨oc_is_integer, od_is_integer, sl_is_integer, kV_is_integer, dc_is_integer, pm_is_integer, an_is_integer, cd_is_integer, ct_is_integer, l_is_integer, c2_is_integer⟩ := c.def_ 1 (d := fnd_is_integer) rfl
  obtain ⟨oc_p_check_count, od_p_check_count, sl_p_check_count, kV_p_check_count, dc_p_check_count, pm_p_check_count, an_p_check_count, cd_p_check_count, ct_p_check_count, l_p_check_count, c2_p_check_count⟩ := c.def_ 2 (d := fnd_p_check_count) rfl
  obtain ⟨oc_lasting, od_lasting, sl_lasting, kV_lasting, dc_lasting, pm_lasting, an_lasting, cd_lasting, ct_lasting, l_lasting, c2_lasting⟩ := c.def_ 3 (d := fnd_lasting) rfl
  obtain ⟨oc_placed, od_placed, sl_placed, kV_placed, dc_placed, pm_placed, an_placed, cd_placed, ct_placed, l_placed, c2_placed⟩ := c.def_ 4 (d := fnd_placed) rfl
  obtain ⟨oc_p_law_rng, od_p_law_rng, sl_p_law_rng, kV_p_law_rng, dc_p_law_rng, pm_p_law_rng, an_p_law_rng, cd_p_law_rng, ct_p_law_rng, l_p_law_rng, c2_p_law_rng⟩ := c.def_ 5 (d := fnd_p_law_rng) rfl
  obtain ⟨oc_p_law_draw, od_p_law_draw, sl_p_law_draw, kV_p_law_draw, dc_p_law_draw, pm_p_law_draw, an_p_law_draw, cd_p_law_draw, ct_p_law_draw, l_p_law_draw, c2_p_law_draw⟩ := c.def_ 6 (d := fnd_p_law_draw) rfl
  obtain ⟨oc_p_law_pick, od_p_law_pick, sl_p_law_pick, kV_p_law_pick, dc_p_law_pick, pm_p_law_pick, an_p_law_pick, cd_p_law_pick, ct_p_law_pick, l_p_law_pick, c2_p_law_pick⟩ := c.def_ 7 (d := fnd_p_law_pick) rfl
  obtain ⟨oc_p_law_said, od_p_law_said, sl_p_law_said, kV_p_law_said, dc_p_law_said, pm_p_law_said, an_p_law_said, cd_p_law_said, ct_p_law_said, l_p_law_said, c2_p_law_said⟩ := c.def_ 8 (d := fnd_p_law_said) rfl
  obtain ⟨oc_p_law_known, od_p_law_known, sl_p_law_known, kV_p_law_known, dc_p_law_known, pm_p_law_known, an_p_law_known, cd_p_law_known, ct_p_law_known, l_p_law_known, c2_p_law_known⟩ := c.def_ 9 (d := fnd_p_law_known) rfl
  obtain ⟨oc_p_law_due, od_p_law_due, sl_p_law_due, kV_p_law_due, dc_p_law_due, pm_p_law_due, an_p_law_due, cd_p_law_due, ct_p_law_due, l_p_law_due, c2_p_law_due⟩ := c.def_ 10 (d := fnd_p_law_due) rfl
  obtain ⟨oc_law, od_law, sl_law, kV_law, dc_law, pm_law, an_law, cd_law, ct_law, l_law, c2_law⟩ := c.def_ 11 (d := fnd_law) rfl
  obtain ⟨u_MOST_FREE, nk_MOST_FREE, rk_MOST_FREE⟩ := DH.cstIn_ok (g2.1)
  obtain ⟨nm_NoCount, q_NoCount, N_xNoCount, bs_NoCount, sn_NoCount, sub_NoCount, ab_NoCount, col_NoCount, dd_NoCount, m0_NoCount, m1_NoCount, m2_NoCount, m3_NoCount, m5_NoCount, xL_NoCount⟩ := DH.excL_ok (g2.2.1)
  exact all_mk X G hfa (c_ForestError := Z_c_ForestError K) (c_NoCount := Z_c_NoCount K) (a_NoCount_init := Z_a_NoCount_init K) (a_is_integer := Z_a_is_integer K) (a_p_check_count := Z_a_p_check_count K) (a_lasting := Z_a_lasting K) (a_placed := Z_a_placed K) (a_p_law_rng := Z_a_p_law_rng K) (a_p_law_draw := Z_a_p_law_draw K) (a_p_law_pick := Z_a_p_law_pick K) (a_p_law_said := Z_a_p_law_said K) (a_p_law_known := Z_a_p_law_known K) (a_p_law_due := Z_a_p_law_due K) (a_law := Z_a_law K) (k_law := Z_k_law K) (p_law := Z_p_law K) (g0.1) (g0.2.1) (g0.2.2.1) (g0.2.2.2.1) l_NoCount_init c2_NoCount_init (g0.2.2.2.2.1) (g0.2.2.2.2.2.1) l_is_integer c2_is_integer (g0.2.2.2.2.2.2.1) (g0.2.2.2.2.2.2.2.1) l_p_check_count c2_p_check_count (g0.2.2.2.2.2.2.2.2.1) (g0.2.2.2.2.2.2.2.2.2.1) l_lasting c2_lasting (g0.2.2.2.2.2.2.2.2.2.2.1) (g0.2.2.2.2.2.2.2.2.2.2.2.1) l_placed c2_placed (g0.2.2.2.2.2.2.2.2.2.2.2.2.1) (g0.2.2.2.2.2.2.2.2.2.2.2.2.2.1) l_p_law_rng c2_p_law_rng (g0.2.2.2.2.2.2.2.2.2.2.2.2.2.2) (g1.1) l_p_law_draw c2_p_law_draw (g1.2.1) (g1.2.2.1) l_p_law_pick c2_p_law_pick (g1.2.2.2.1) (g1.2.2.2.2.1) l_p_law_said c2_p_law_said (g1.2.2.2.2.2.1) (g1.2.2.2.2.2.2.1) l_p_law_known c2_p_law_known (g1.2.2.2.2.2.2.2.1) (g1.2.2.2.2.2.2.2.2.1) l_p_law_due c2_p_law_due (g1.2.2.2.2.2.2.2.2.2.1) (g1.2.2.2.2.2.2.2.2.2.2.1) l_law c2_law (g1.2.2.2.2.2.2.2.2.2.2.2.1) ((DH.codeHd_ok (g1.2.2.2.2.2.2.2.2.2.2.2.2.1)).2 _ _ _ _ l_law) (g1.2.2.2.2.2.2.2.2.2.2.2.2.2.1) (g1.2.2.2.2.2.2.2.2.2.2.2.2.2.2) nk_MOST_FREE rk_MOST_FREE xL_NoCount (g2.2.2.1) (g2.2.2.2.1) (g2.2.2.2.2.1) (g2.2.2.2.2.2.1) (g2.2.2.2.2.2.2.1) (g2.2.2.2.2.2.2.2.1) (g2.2.2.2.2.2.2.2.2.1) (g2.2.2.2.2.2.2.2.2.2.1) (g2.2.2.2.2.2.2.2.2.2.2.1) (g2.2.2.2.2.2.2.2.2.2.2.2.1) (g2.2.2.2.2.2.2.2.2.2.2.2.2.1) (g2.2.2.2.2.2.2.2.2.2.2.2.2.2.1) (g2.2.2.2.2.2.2.2.2.2.2.2.2.2.2) (g3.1) (g3.2.1) (g3.2.2.1) (g3.2.2.2.1) (g3.2.2.2.2.1) (g3.2.2.2.2.2.1) (g3.2.2.2.2.2.2.1) (g3.2.2.2.2.2.2.2) main
end
theorem tab_fact {K : PySem.W.Frag} (c : DH.SaysB factsL fnL K) : DH.codeHdB K (Z_a_law K) (Z_p_law K) = true := by
  have g1 : (PySem.W.nsIn K mainGlobals "_law_draw" = some (some (.ref (Z_a_p_law_draw K)))) ∧ (PySem.W.keepIn K (.ref (Z_a_p_law_draw K)) = true) ∧ (PySem.W.nsIn K mainGlobals "_law_pick" = some (some (.ref (Z_a_p_law_pick K)))) ∧ (PySem.W.keepIn K (.ref (Z_a_p_law_pick K)) = true) ∧ (PySem.W.nsIn K mainGlobals "_law_said" = some (some (.ref (Z_a_p_law_said K)))) ∧ (PySem.W.keepIn K (.ref (Z_a_p_law_said K)) = true) ∧ (PySem.W.nsIn K mainGlobals "_law_known" = some (some (.ref (Z_a_p_law_known K)))) ∧ (PySem.W.keepIn K (.ref (Z_a_p_law_known K)) = true) ∧ (PySem.W.nsIn K mainGlobals "_law_due" = some (some (.ref (Z_a_p_law_due K)))) ∧ (PySem.W.keepIn K (.ref (Z_a_p_law_due K)) = true) ∧ (PySem.W.nsIn K mainGlobals "law" = some (some (.ref (Z_a_law K)))) ∧ (PySem.W.keepIn K (.ref (Z_a_law K)) = true) ∧ (DH.codeHdB K (Z_a_law K) (Z_p_law K) = true) ∧ (PySem.W.specialIn K (.builtin "object.__class__") "__get__" = some (some (.builtin "getset_descriptor.__get__"))) ∧ (PySem.W.takesIn K (.builtin "object.__class__") = some true) := of_decide_eq_true (c.fact 1 rfl)
  exact g1.2.2.2.2.2.2.2.2.2.2.2.2.1
end My
open PySem PySem.W PySem.Calls PyProof.Rows in
set_option maxRecDepth 100000 in
set_option maxHeartbeats 0 in
theorem PySem.Challenge.cw_forestrows_k44_how_long_a_gap_lasts_holds : PySem.Challenge.rw_forestrows_k44_how_long_a_gap_lasts.Holds := by
  w_on; o_law
  refine HandSHeadRun.head_any (r := OpenLaw.row PySem.Challenge.rw_forestrows_k44_how_long_a_gap_lasts) (q := view (OpenLaw.row PySem.Challenge.rw_forestrows_k44_how_long_a_gap_lasts).prog [18]) (H := My.hk) (ob := My.ob) (M := 60000) (loose := My.looseL) (d := HandSHeadRun.topDef (OpenLaw.row PySem.Challenge.rw_forestrows_k44_how_long_a_gap_lasts).prog 18) (kwd := []) My.ob_eq
    (by kernel_rfl) (fun s => by kernel_rfl) My.run (by kernel_rfl) (by kernel_rfl) (by kernel_rfl) (by rfl) (by first | assumption | decide +kernel) (by decide +kernel) ⟨rfl, rfl, rfl, rfl, rfl, by decide +kernel⟩ ?hw ?hc
  case hw => w_witness2
  case hc =>
    refine DL.walk_ofGT (l  := PySem.Challenge.rw_forestrows_k44_how_long_a_gap_lasts) (n := 63) (k := 7) (x := "_law_script") (CX := L2.CX0) rfl (by decide) (by kernel_rfl) ⟨rfl, by decide, by decide⟩ ?F (fun _ _ _ _ z => z)
    intro w mg fa h Y G hmg0
    obtain ⟨K, KX, c⟩ := Y
    have hmg : mg ("law" : PySem.Str) = some (.ref fa) := by
      have e : (HandSHeadRun.topDef (OpenLaw.row PySem.Challenge.rw_forestrows_k44_how_long_a_gap_lasts).prog 18).name = ("law" : PySem.Str) := by kernel_rfl
      rw [← e]
      exact hmg0
    obtain ⟨fd, hb, hF⟩ := My.all_mk2 (w := w) KX G hmg c.1 (fun A F ns hl => My.law_true A F ns hl)
    have hC := (DH.codeHd_ok (My.tab_fact c.1)).1 h KX
    exact ⟨K, fd, DL.spTrueT K (My.tabs_law (My.Z_p_law K)), [(My.Z_k_law K, My.Z_p_law K)], KX, fun p hp => by rw [List.mem_singleton.mp hp]; exact (c.2 _ List.mem_cons_self).1, fun p hp => by rw [List.mem_singleton.mp hp]; exact (c.2 _ List.mem_cons_self).2, fun p hp => by rw [List.mem_singleton.mp hp]; exact hC, hb, fun H a ns hl hT hS => ⟨a, ns, rfl, hS, hl, fun p hp => by rw [List.mem_singleton.mp hp]; exact hT _ List.mem_cons_self, fun _ => rfl⟩, hF⟩
