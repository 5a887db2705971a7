import PyProof.Rows.All
import Wide.All
import OpenK.AllK
import Wide.FinOn
import HandS.Base
import HandS.Call
import HandS.List
import HandS.Comp
import HandS.Dict
import HandS.Iter
import HandS.Text
import HandS.Ends
import HandS.Words
import HandS.Evl
import HandS.Exc
import HandS.ExcInit
import HandS.ExcValue
import HandS.Head0
import HandS.Head1
import HandS.Head2
import HandS.HeadEnd
import HandS.HeadHook1
import HandS.HeadHook2
import PySem.Challenge.RW_forestrows_k47_shortest_labels_tried_out
import HandS.Lambda
import HandS.Wide
import HandS.TupAny
import HandS.IsInst
import HandS.Style
import HandS.ExcOwn
import HandS.Deep
import HandS.RevRange
import HandS.ClsMeth
import HandS.DictComp
import HandS.MakeKw
import HandS.MakeKwOnly
import KE.KMinKey
import HandS.SortKw
import HandS.Conv
import HandS.SlotsOwn
import HandS.More
import HandS.ExcField
import HandS.ExcIs
import HandS.WordsExc
import KE.KExcIs
import KE.KExcMore
import KE.KEqNest
import HandS.DeepEq
import PyProof.NeKinds
import PyProof.StrOps2
import HandS.TryOnly
import HandS.OwnEq
import PyProof.ReprRoads
import HandS.FStr
import KE.GoesEnumKw
import KE.GoesMore
import HandS.Star
import HandS.HeadHook3
import HandS.RaiseMore
import HandS.EndTab
import KE.KDflt
import HandS.Flt
import HandS.Bytes
import HandS.BytesMake
import HandS.SortInts
import KE.SortData
import HandS.Flow
import KE.DataCmp
import Wide.WTab
set_option autoImplicit false
set_option Elab.async false
set_option linter.all false
set_option maxRecDepth 100000
set_option maxHeartbeats 1000000
set_option maxHeartbeats 2000000
namespace DH
open PySem PySem.Spec PyProof.Rows L2 He
section
variable {K : PySem.W.Frag}
def cstIn (K : PySem.W.Frag) (x : Str) (v : V) : Bool := match PySem.W.nsIn K mainGlobals x with
  | some (some u) => relB v u
  | _ => false
theorem cstIn_ok {x : Str} {v : V} (h : cstIn K x v = true) : ∃ u, PySem.W.nsIn K mainGlobals x = some (some u) ∧ RelV v u := by
  unfold cstIn at h
  cases e : PySem.W.nsIn K mainGlobals x with
  | none => rw [e] at h; cases h
  | some o =>
    rw [e] at h
    cases o with
    | none => cases h
    | some u => exact ⟨u, rfl, relB_ok h⟩
end
def forceL {α β : Type} : List α → (List α → β) → β
  | [], k => k []
  | a :: r, k => forceL r fun r' => k (a :: r')
theorem forceL_eq {α β : Type} : ∀ (xs : List α) (k : List α → β), forceL xs k = k xs
  | [], _ => rfl
  | a :: r, k => forceL_eq r fun r' => k (a :: r')
abbrev AlB : Type := Bool × List FnV
def obsB (ex : PySem.W.Frag → List Bool) (fn : List FnD) (K : PySem.W.Frag) : AlB := ((ex K).all id && fn.all fun d => (Fa.code d.at_ d.qual).ok K, fn.map fun d => fnObs K d.at_)
def valB (fn : List FnD) : AlB := (true, fn.map FnD.val)
def SaysB (ex : PySem.W.Frag → List Bool) (fn : List FnD) (K : PySem.W.Frag) : Prop := obsB ex fn K = valB fn
def obsBG (as : List Addr) (ex : PySem.W.Frag → List Bool) (fn : List FnD) (g : Addr → Option Obj) : AlB := forceL (frG g as) fun K => obsB ex fn K
def hookB (as : List Addr) (ex : PySem.W.Frag → List Bool) (fn : List FnD) : PySem.W.Hook where
  α := AlB
  obs := fun s => obsBG as ex fn s.heap.get?
  val := fun _ => valB fn
  says := fun _ h => ∃ K : PySem.W.Frag, K.In h ∧ SaysB ex fn K
  of := fun _ s e => ⟨frG s.heap.get? as, frG_in, by
    have e : obsBG as ex fn s.heap.get? = valB fn := e
    unfold obsBG at e
    rw [forceL_eq] at e
    exact e⟩
  keeps := fun _ _ _ ⟨K, hK, c⟩ k => ⟨K, PySem.W.Frag.In.keeps hK k, c⟩
theorem obsBG_eq {as : List Addr} {ex : PySem.W.Frag → List Bool} {fn : List FnD} {g : Addr → Option Obj} {s : Shared} (h : ∀ a, g a = s.heap.get? a) : obsBG as ex fn g = (hookB as ex fn).obs s := by
  have e : g = s.heap.get? := funext h
  rw [e] <;> rfl
section
variable {ex : PySem.W.Frag → List Bool} {fn : List FnD} {K : PySem.W.Frag}
theorem SaysB.fact (c : SaysB ex fn K) (i : Nat) {b : Bool} (h : (ex K)[i]? = some b := by rfl) : b = true := by
  have c1 := (ba (show ((ex K).all id && fn.all fun d => (Fa.code d.at_ d.qual).ok K) = true from congrArg (fun z : AlB => z.1) c)).1
  exact List.all_eq_true.mp c1 b (List.mem_of_getElem? h)
theorem SaysB.def_ (c : SaysB ex fn K) (i : Nat) {d : FnD} (h : fn[i]? = some d := by rfl) :
    ∃ oc od osl kV doc pm an cdv ct, K.lookup (fAd K d.at_) = some ⟨oc, od, .func (PySem.W.fnOf d.name d.qual d.params d.body d.scope .none kV doc pm an cdv ct), osl⟩ ∧ PySem.W.codeIn K cdv d.qual = true := by
  have c2 := (ba (show ((ex K).all id && fn.all fun d => (Fa.code d.at_ d.qual).ok K) = true from congrArg (fun z : AlB => z.1) c)).2
  have e : fn.map (fun d => fnObs K d.at_) = fn.map FnD.val := congrArg (fun z : AlB => z.2) c
  have e2 : (fn.map fun d => fnObs K d.at_)[i]? = (fn.map FnD.val)[i]? := by rw [e]
  rw [List.getElem?_map, List.getElem?_map, h] at e2
  exact fn_ok (Option.some.inj e2) (List.all_eq_true.mp c2 d (List.mem_of_getElem? h))
end
end DH
set_option maxHeartbeats 2000000
namespace My
open PySem L2 Evl
def topS (i : Nat) : Stmt := PySem.Challenge.pw_forestrows_k47_shortest_labels_tried_out.main.body.getD i (.Pass ⟨0, 0, 0, 0⟩)
abbrev s_is_integer : Stmt := topS 6
abbrev s_is_sequence : Stmt := topS 7
abbrev s_is_key : Stmt := topS 13
abbrev s_bytes_of : Stmt := topS 14
abbrev s_labels_between : Stmt := topS 15
abbrev s_first_labels : Stmt := topS 16
abbrev s_p_wrong_word : Stmt := topS 17
abbrev s_p_is_label : Stmt := topS 18
abbrev s_p_next_label : Stmt := topS 19
abbrev s_p_next_start : Stmt := topS 20
abbrev s_p_law_rng : Stmt := topS 22
abbrev s_p_law_draw : Stmt := topS 23
abbrev s_p_law_pick : Stmt := topS 24
abbrev s_p_law_short : Stmt := topS 25
abbrev s_p_law_near : Stmt := topS 26
abbrev s_p_law_all : Stmt := topS 27
abbrev s_p_law_can_begin : Stmt := topS 28
abbrev s_p_law_due : Stmt := topS 29
abbrev s_law : Stmt := topS 30
abbrev Z_a_is_integer (K : PySem.W.Frag) : Addr := He.fAd K ("is_integer", none)
abbrev Z_a_is_sequence (K : PySem.W.Frag) : Addr := He.fAd K ("is_sequence", none)
abbrev Z_a_is_key (K : PySem.W.Frag) : Addr := He.fAd K ("is_key", none)
abbrev Z_a_bytes_of (K : PySem.W.Frag) : Addr := He.fAd K ("bytes_of", none)
abbrev Z_a_p_is_label (K : PySem.W.Frag) : Addr := He.fAd K ("_is_label", none)
abbrev Z_a_p_wrong_word (K : PySem.W.Frag) : Addr := He.fAd K ("_wrong_word", none)
abbrev Z_a_p_next_start (K : PySem.W.Frag) : Addr := He.fAd K ("_next_start", none)
abbrev Z_a_p_next_label (K : PySem.W.Frag) : Addr := He.fAd K ("_next_label", none)
abbrev Z_a_first_labels (K : PySem.W.Frag) : Addr := He.fAd K ("first_labels", none)
abbrev Z_a_labels_between (K : PySem.W.Frag) : Addr := He.fAd K ("labels_between", none)
abbrev Z_a_p_law_rng (K : PySem.W.Frag) : Addr := He.fAd K ("_law_rng", none)
abbrev Z_a_p_law_draw (K : PySem.W.Frag) : Addr := He.fAd K ("_law_draw", none)
abbrev Z_a_p_law_pick (K : PySem.W.Frag) : Addr := He.fAd K ("_law_pick", none)
abbrev Z_a_p_law_short (K : PySem.W.Frag) : Addr := He.fAd K ("_law_short", none)
abbrev Z_a_p_law_near (K : PySem.W.Frag) : Addr := He.fAd K ("_law_near", none)
abbrev Z_a_p_law_all (K : PySem.W.Frag) : Addr := He.fAd K ("_law_all", none)
abbrev Z_a_p_law_can_begin (K : PySem.W.Frag) : Addr := He.fAd K ("_law_can_begin", none)
abbrev Z_a_p_law_due (K : PySem.W.Frag) : Addr := He.fAd K ("_law_due", none)
abbrev Z_a_law (K : PySem.W.Frag) : Addr := He.fAd K ("law", none)
def factsL (K : PySem.W.Frag) : List Bool := [
  decide ((PySem.W.nsIn K mainGlobals "is_integer" = some (some (.ref (Z_a_is_integer K)))) ∧ (PySem.W.keepIn K (.ref (Z_a_is_integer K)) = true) ∧ (PySem.W.nsIn K mainGlobals "is_sequence" = some (some (.ref (Z_a_is_sequence K)))) ∧ (PySem.W.keepIn K (.ref (Z_a_is_sequence K)) = true) ∧ (PySem.W.nsIn K mainGlobals "is_key" = some (some (.ref (Z_a_is_key K)))) ∧ (PySem.W.keepIn K (.ref (Z_a_is_key K)) = true) ∧ (PySem.W.nsIn K mainGlobals "bytes_of" = some (some (.ref (Z_a_bytes_of K)))) ∧ (PySem.W.keepIn K (.ref (Z_a_bytes_of K)) = true) ∧ (PySem.W.nsIn K mainGlobals "_is_label" = some (some (.ref (Z_a_p_is_label K)))) ∧ (PySem.W.keepIn K (.ref (Z_a_p_is_label K)) = true) ∧ (PySem.W.nsIn K mainGlobals "_wrong_word" = some (some (.ref (Z_a_p_wrong_word K)))) ∧ (PySem.W.keepIn K (.ref (Z_a_p_wrong_word K)) = true) ∧ (PySem.W.nsIn K mainGlobals "_next_start" = some (some (.ref (Z_a_p_next_start K)))) ∧ (PySem.W.keepIn K (.ref (Z_a_p_next_start K)) = true) ∧ (PySem.W.nsIn K mainGlobals "_next_label" = some (some (.ref (Z_a_p_next_label K))))),
  decide ((PySem.W.keepIn K (.ref (Z_a_p_next_label K)) = true) ∧ (PySem.W.nsIn K mainGlobals "first_labels" = some (some (.ref (Z_a_first_labels K)))) ∧ (PySem.W.keepIn K (.ref (Z_a_first_labels K)) = true) ∧ (PySem.W.nsIn K mainGlobals "labels_between" = some (some (.ref (Z_a_labels_between K)))) ∧ (PySem.W.keepIn K (.ref (Z_a_labels_between K)) = true) ∧ (PySem.W.nsIn K mainGlobals "_law_rng" = some (some (.ref (Z_a_p_law_rng K)))) ∧ (PySem.W.keepIn K (.ref (Z_a_p_law_rng K)) = true) ∧ (PySem.W.nsIn K mainGlobals "_law_draw" = some (some (.ref (Z_a_p_law_draw K)))) ∧ (PySem.W.keepIn K (.ref (Z_a_p_law_draw K)) = true) ∧ (PySem.W.nsIn K mainGlobals "_law_pick" = some (some (.ref (Z_a_p_law_pick K)))) ∧ (PySem.W.keepIn K (.ref (Z_a_p_law_pick K)) = true) ∧ (PySem.W.nsIn K mainGlobals "_law_short" = some (some (.ref (Z_a_p_law_short K)))) ∧ (PySem.W.keepIn K (.ref (Z_a_p_law_short K)) = true) ∧ (PySem.W.nsIn K mainGlobals "_law_near" = some (some (.ref (Z_a_p_law_near K)))) ∧ (PySem.W.keepIn K (.ref (Z_a_p_law_near K)) = true)),
  decide ((PySem.W.nsIn K mainGlobals "_law_all" = some (some (.ref (Z_a_p_law_all K)))) ∧ (PySem.W.keepIn K (.ref (Z_a_p_law_all K)) = true) ∧ (PySem.W.nsIn K mainGlobals "_law_can_begin" = some (some (.ref (Z_a_p_law_can_begin K)))) ∧ (PySem.W.keepIn K (.ref (Z_a_p_law_can_begin K)) = true) ∧ (PySem.W.nsIn K mainGlobals "_law_due" = some (some (.ref (Z_a_p_law_due K)))) ∧ (PySem.W.keepIn K (.ref (Z_a_p_law_due K)) = true) ∧ (PySem.W.nsIn K mainGlobals "law" = some (some (.ref (Z_a_law K)))) ∧ (PySem.W.keepIn K (.ref (Z_a_law K)) = true) ∧ (PySem.W.specialIn K (.builtin "object.__class__") "__get__" = some (some (.builtin "getset_descriptor.__get__"))) ∧ (PySem.W.takesIn K (.builtin "object.__class__") = some true) ∧ (DH.cstIn K "GREATEST_BYTE" ((.int (255))) = true) ∧ (DH.cstIn K "GREATEST_LAST" ((.int (254))) = true) ∧ (DH.cstIn K "LONGEST_LABEL" ((.int (1000))) = true) ∧ (DH.cstIn K "MOST_LABELS" ((.int (200))) = true) ∧ (PySem.W.nsIn K mainGlobals "abs" = some none)),
  decide ((PySem.W.nsIn K mainGlobals "all" = some none) ∧ (PySem.W.nsIn K mainGlobals "bool" = some none) ∧ (PySem.W.nsIn K mainGlobals "bytes" = some none) ∧ (PySem.W.nsIn K mainGlobals "enumerate" = some none) ∧ (PySem.W.nsIn K mainGlobals "int" = some none) ∧ (PySem.W.nsIn K mainGlobals "isinstance" = some none) ∧ (PySem.W.nsIn K mainGlobals "len" = some none) ∧ (PySem.W.nsIn K mainGlobals "list" = some none) ∧ (PySem.W.nsIn K mainGlobals "range" = some none) ∧ (PySem.W.nsIn K mainGlobals "sorted" = some none) ∧ (PySem.W.nsIn K mainGlobals "tuple" = some none))]
def fnd_is_integer : He.FnD := ⟨("is_integer", none), "is_integer", "is_integer", defArgs s_is_integer, defBody s_is_integer, defScope s_is_integer⟩
def fnd_is_sequence : He.FnD := ⟨("is_sequence", none), "is_sequence", "is_sequence", defArgs s_is_sequence, defBody s_is_sequence, defScope s_is_sequence⟩
def fnd_is_key : He.FnD := ⟨("is_key", none), "is_key", "is_key", defArgs s_is_key, defBody s_is_key, defScope s_is_key⟩
def fnd_bytes_of : He.FnD := ⟨("bytes_of", none), "bytes_of", "bytes_of", defArgs s_bytes_of, defBody s_bytes_of, defScope s_bytes_of⟩
def fnd_p_is_label : He.FnD := ⟨("_is_label", none), "_is_label", "_is_label", defArgs s_p_is_label, defBody s_p_is_label, defScope s_p_is_label⟩
def fnd_p_wrong_word : He.FnD := ⟨("_wrong_word", none), "_wrong_word", "_wrong_word", defArgs s_p_wrong_word, defBody s_p_wrong_word, defScope s_p_wrong_word⟩
def fnd_p_next_start : He.FnD := ⟨("_next_start", none), "_next_start", "_next_start", defArgs s_p_next_start, defBody s_p_next_start, defScope s_p_next_start⟩
def fnd_p_next_label : He.FnD := ⟨("_next_label", none), "_next_label", "_next_label", defArgs s_p_next_label, defBody s_p_next_label, defScope s_p_next_label⟩
def fnd_first_labels : He.FnD := ⟨("first_labels", none), "first_labels", "first_labels", defArgs s_first_labels, defBody s_first_labels, defScope s_first_labels⟩
def fnd_labels_between : He.FnD := ⟨("labels_between", none), "labels_between", "labels_between", defArgs s_labels_between, defBody s_labels_between, defScope s_labels_between⟩
def fnd_p_law_rng : He.FnD := ⟨("_law_rng", none), "_law_rng", "_law_rng", defArgs s_p_law_rng, defBody s_p_law_rng, defScope s_p_law_rng⟩
def fnd_p_law_draw : He.FnD := ⟨("_law_draw", none), "_law_draw", "_law_draw", defArgs s_p_law_draw, defBody s_p_law_draw, defScope s_p_law_draw⟩
def fnd_p_law_pick : He.FnD := ⟨("_law_pick", none), "_law_pick", "_law_pick", defArgs s_p_law_pick, defBody s_p_law_pick, defScope s_p_law_pick⟩
def fnd_p_law_short : He.FnD := ⟨("_law_short", none), "_law_short", "_law_short", defArgs s_p_law_short, defBody s_p_law_short, defScope s_p_law_short⟩
def fnd_p_law_near : He.FnD := ⟨("_law_near", none), "_law_near", "_law_near", defArgs s_p_law_near, defBody s_p_law_near, defScope s_p_law_near⟩
def fnd_p_law_all : He.FnD := ⟨("_law_all", none), "_law_all", "_law_all", defArgs s_p_law_all, defBody s_p_law_all, defScope s_p_law_all⟩
def fnd_p_law_can_begin : He.FnD := ⟨("_law_can_begin", none), "_law_can_begin", "_law_can_begin", defArgs s_p_law_can_begin, defBody s_p_law_can_begin, defScope s_p_law_can_begin⟩
def fnd_p_law_due : He.FnD := ⟨("_law_due", none), "_law_due", "_law_due", defArgs s_p_law_due, defBody s_p_law_due, defScope s_p_law_due⟩
def fnd_law : He.FnD := ⟨("law", none), "law", "law", defArgs s_law, defBody s_law, defScope s_law⟩
def fnL : List He.FnD := [fnd_is_integer, fnd_is_sequence, fnd_is_key, fnd_bytes_of, fnd_p_is_label, fnd_p_wrong_word, fnd_p_next_start, fnd_p_next_label, fnd_first_labels, fnd_labels_between, fnd_p_law_rng, fnd_p_law_draw, fnd_p_law_pick, fnd_p_law_short, fnd_p_law_near, fnd_p_law_all, fnd_p_law_can_begin, fnd_p_law_due, fnd_law]
def looseL : List Str := (["_wall", "ForestError", "NoKey", "NoLabel", "is_integer", "is_sequence", "LONGEST_LABEL", "MOST_LABELS", "GREATEST_BYTE", "GREATEST_LAST", "is_key", "bytes_of", "labels_between", "first_labels", "_wrong_word", "_is_label", "_next_label", "_next_start", "_law_rng", "_law_draw", "_law_pick", "_law_short", "_law_near", "_law_all", "_law_can_begin", "_law_due"] : List Str)
abbrev RR : PySem.W.OpenRow := PySem.W.OpenLaw.row PySem.Challenge.rw_forestrows_k47_shortest_labels_tried_out
def asL : List Addr := ([3, 100, 107, 114, 121, 128, 135, 142, 147, 154, 161, 168, 175, 182, 187, 194, 199, 206, 211, 216, 99, 106, 113, 120, 127, 134, 141, 146, 153, 160, 167, 174, 181, 186, 193, 198, 205, 210, 215] : List Addr)
abbrev hk : PySem.W.Hook := DH.hookB asL factsL fnL
def ob (s : PySem.W.SharedT) : DH.AlB := DH.obsBG asL factsL fnL (HandSHeadRun.getT s)
theorem ob_eq (s : PySem.W.SharedT) : ob s = hk.obs s.abs := DH.obsBG_eq (HandSHeadRun.getT_eq s)
set_option maxHeartbeats 0 in
theorem run (w : World) : HandSHeadRun.RunEq RR (PySem.W.view RR.prog [30]) hk ob 60000 looseL w := by
  intro os
  kernel_rfl
end My
namespace DL
open PySem L2 Evl
abbrev RSt := L2.St
inductive D where
  | non | bl (b : Bool) | int (i : Int) | str (x : Str) | byt (b : Array UInt8)
  | lst (xs : List D) | tup (xs : List D) | dct (kvs : List (Key × D))
  | ins (C : Addr) (fs : List (Str × D)) | ptr (a : Addr) | ty (n : String) | exc (C : Addr) (fs : List (Str × D))
section
variable (K : PySem.W.Frag) (G : Hp)
mutual
inductive Rep : V → D → Prop
  | non : Rep .non .non
  | bl (b : Bool) : Rep (.bl b) (.bl b)
  | int (i : Int) : Rep (.int i) (.int i)
  | str (x : Str) : Rep (.str x) (.str x)
  | byt (x : Array UInt8) : Rep (.byt x) (.byt x)
  | ty (n : String) : Rep (.ty n) (.ty n)
  | ptr (a : Addr) : Rep (.ref a) (.ptr a)
  | lst {a : Addr} {vs : List V} {ds : List D} : SqL K G a vs → Reps vs ds → Rep (.ref a) (.lst ds)
  | tup {a : Addr} {vs : List V} {ds : List D} : SqT K G a vs → Reps vs ds → Rep (.ref a) (.tup ds)
  | dct {a : Addr} {vs : List (Key × V)} {ds : List (Key × D)} : G a = some (.dK vs) → RepK vs ds → Rep (.ref a) (.dct ds)
  | ins {a C dx : Addr} {vs : List (Str × V)} {ds : List (Str × D)} : G a = some (.ins C dx vs) → RepF vs ds → Rep (.ref a) (.ins C ds)
  | exc {a C d : Addr} {vs : List (Str × V)} {ds : List (Str × D)} : G a = some (exo a C (some d)) → G d = some (exd d vs) → RepF vs ds → Rep (.ref a) (.exc C ds)
  | exc0 {a C : Addr} : G a = some (ExO (.ref C) a) → Rep (.ref a) (.exc C [])
inductive Reps : List V → List D → Prop
  | nil : Reps [] []
  | cons {v : V} {d : D} {vs : List V} {ds : List D} : Rep v d → Reps vs ds → Reps (v :: vs) (d :: ds)
inductive RepK : List (Key × V) → List (Key × D) → Prop
  | nil : RepK [] []
  | cons {k : Key} {v : V} {d : D} {vs : List (Key × V)} {ds : List (Key × D)} : Rep v d → RepK vs ds → RepK ((k, v) :: vs) ((k, d) :: ds)
inductive RepF : List (Str × V) → List (Str × D) → Prop
  | nil : RepF [] []
  | cons {k : Str} {v : V} {d : D} {vs : List (Str × V)} {ds : List (Str × D)} : Rep v d → RepF vs ds → RepF ((k, v) :: vs) ((k, d) :: ds)
end
end
section
variable {K : PySem.W.Frag} {G G' H H' : Hp}
mutual
theorem Rep.mono (e : Ex G G') : ∀ {v : V} {d : D}, Rep K G v d → Rep K G' v d
  | _, _, .non => .non
  | _, _, .bl b => .bl b
  | _, _, .int i => .int i
  | _, _, .str i => .str i
  | _, _, .byt i => .byt i
  | _, _, .ty i => .ty i
  | _, _, .ptr i => .ptr i
  | _, _, .lst h r => .lst (ex_l e h) (Reps.mono e r)
  | _, _, .tup h r => .tup (ex_t e h) (Reps.mono e r)
  | _, _, .dct h r => .dct (e _ _ h) (RepK.mono e r)
  | _, _, .ins h r => .ins (e _ _ h) (RepF.mono e r)
  | _, _, .exc h k r => .exc (e _ _ h) (e _ _ k) (RepF.mono e r)
  | _, _, .exc0 h => .exc0 (e _ _ h)
theorem Reps.mono (e : Ex G G') : ∀ {v : List V} {d : List D}, Reps K G v d → Reps K G' v d
  | _, _, .nil => .nil
  | _, _, .cons h r => .cons (Rep.mono e h) (Reps.mono e r)
theorem RepK.mono (e : Ex G G') : ∀ {v : List (Key × V)} {d : List (Key × D)}, RepK K G v d → RepK K G' v d
  | _, _, .nil => .nil
  | _, _, .cons h r => .cons (Rep.mono e h) (RepK.mono e r)
theorem RepF.mono (e : Ex G G') : ∀ {v : List (Str × V)} {d : List (Str × D)}, RepF K G v d → RepF K G' v d
  | _, _, .nil => .nil
  | _, _, .cons h r => .cons (Rep.mono e h) (RepF.mono e r)
end
theorem Reps.length : ∀ {vs : List V} {ds : List D}, Reps K G vs ds → vs.length = ds.length
  | _, _, .nil => rfl
  | _, _, .cons _ r => by rw [List.length_cons, List.length_cons, Reps.length r]
theorem Reps.get : ∀ {vs : List V} {ds : List D} {i : Nat} {d : D}, Reps K G vs ds → ds[i]? = some d → ∃ v, vs[i]? = some v ∧ Rep K G v d
  | _, _, _, _, .nil, e => by simp at e
  | _, _, 0, _, .cons r _, e => by simp at e; subst e; exact ⟨_, rfl, r⟩
  | _, _, i + 1, _, .cons _ t, e => by
    obtain ⟨v, h1, h2⟩ := Reps.get (i := i) t (by simpa using e)
    exact ⟨v, by simpa using h1, h2⟩
theorem Reps.set {v : V} {d : D} (r : Rep K G v d) : ∀ {vs : List V} {ds : List D} (i : Nat), Reps K G vs ds → Reps K G (vs.set i v) (ds.set i d)
  | _, _, _, .nil => .nil
  | _, _, 0, .cons _ t => .cons r t
  | _, _, i + 1, .cons q t => .cons q (Reps.set r i t)
theorem Reps.append : ∀ {vs ws : List V} {ds es : List D}, Reps K G vs ds → Reps K G ws es → Reps K G (vs ++ ws) (ds ++ es)
  | _, _, _, _, .nil, s => s
  | _, _, _, _, .cons r t, s => .cons r (Reps.append t s)
theorem Reps.take : ∀ {vs : List V} {ds : List D} (n : Nat), Reps K G vs ds → Reps K G (vs.take n) (ds.take n)
  | _, _, 0, _ => by simp; exact .nil
  | _, _, _ + 1, .nil => .nil
  | _, _, n + 1, .cons r t => .cons r (Reps.take n t)
theorem Reps.drop : ∀ {vs : List V} {ds : List D} (n : Nat), Reps K G vs ds → Reps K G (vs.drop n) (ds.drop n)
  | _, _, 0, r => r
  | _, _, _ + 1, .nil => .nil
  | _, _, n + 1, .cons _ t => Reps.drop n t
theorem Reps.dropLast {vs : List V} {ds : List D} (r : Reps K G vs ds) : Reps K G vs.dropLast ds.dropLast := by
  rw [List.dropLast_eq_take, List.dropLast_eq_take, r.length]; exact r.take _
theorem Reps.rep {vs : List V} {ds : List D} (r : Reps K G vs ds) : ∀ k : Nat, Reps K G (List.replicate k vs).flatten (List.replicate k ds).flatten
  | 0 => .nil
  | k + 1 => by
    rw [List.replicate_succ, List.replicate_succ, List.flatten_cons, List.flatten_cons]
    exact r.append (Reps.rep r k)
theorem Reps.ints : ∀ ns : List Int, Reps K G (ns.map V.int) (ns.map D.int)
  | [] => .nil
  | n :: ns => .cons (.int n) (Reps.ints ns)
end
inductive Sl where
  | no | val (d : D) | own (d : D) | par (d : D)
abbrev Ro := List Sl
def Sl.ownD : Sl → Option D
  | .own d => some d
  | .par d => some d
  | _ => none
inductive T where
  | val (d : D) | bor (i : Nat)
def rd (ρ : Ro) : T → Option D
  | .val d => some d
  | .bor i => (ρ[i]?).bind Sl.ownD
section
variable (K : PySem.W.Frag)
def OwnAt (G H : Hp) (p : Addr) : D → Prop
  | .lst ds => ∃ vs, H p = some (.lst vs) ∧ Reps K G vs ds
  | .dct es => ∃ kvs, H p = some (.dK kvs) ∧ RepK K G kvs es
  | .ins C es => ∃ dx fs, H p = some (.ins C dx fs) ∧ RepF K G fs es
  | _ => False
structure PaG where
  f : Nat → Addr
  g : Hp
  T : List (Addr × Str) := []
def NoCode (o : HO) : Prop := (∀ ps, o ≠ .tbl ps) ∧ ∀ c q, o ≠ LamX.CodeO c q
theorem noCode_lst {vs : List V} : NoCode (.lst vs) := ⟨fun _ z => (by cases z), fun _ _ z => (by unfold LamX.CodeO at z; cases z)⟩
theorem noCode_dK {vs : List (Key × V)} : NoCode (.dK vs) := ⟨fun _ z => (by cases z), fun _ _ z => (by unfold LamX.CodeO at z; cases z)⟩
theorem noCode_ins {C dx : Addr} {vs : List (Str × V)} : NoCode (.ins C dx vs) := ⟨fun _ z => (by cases z), fun _ _ z => (by unfold LamX.CodeO at z; cases z)⟩
theorem tabs_keep {T : List (Addr × Str)} {H H' : Hp} (t : LamX.Tabs T H) (k : ∀ b o, H b = some o → ¬ NoCode o → H' b = some o) : LamX.Tabs T H' := fun p hp => by
  obtain ⟨ps, h1, h2, h3⟩ := t p hp
  refine ⟨ps, k _ _ h1 fun z => z.1 _ rfl, h2, fun pos cv hc => ?_⟩
  obtain ⟨c, e1, e2⟩ := h3 pos cv hc
  exact ⟨c, e1, k _ _ e2 fun z => z.2 _ _ rfl⟩
structure DjT (T : List (Addr × Str)) (F G H : Hp) : Prop where
  of : ∀ (b : Addr) (o : HO), F b = some o → G b = none
  ft : ∀ p ∈ T, F p.1 = none ∧ G p.1 = none
  tb : LamX.Tabs T H
  nc : T ≠ [] → ∀ b c q, F b ≠ some (LamX.CodeO c q)
instance {T : List (Addr × Str)} {F G H : Hp} : CoeFun (DjT T F G H) (fun _ => ∀ (b : Addr) (o : HO), F b = some o → G b = none) := ⟨DjT.of⟩
section
variable {T : List (Addr × Str)} {F G H H' : Hp}
theorem DjT.hext (d : DjT T F G H) (e : Ex H H') : DjT T F G H' := ⟨d.of, d.ft, d.tb.ext e, d.nc⟩
theorem DjT.ne (d : DjT T F G H) {b : Addr} {u : HO} (h : H b = some u) (n : NoCode u) : ∀ p ∈ T, p.1 ≠ b := fun p hp z => by
  obtain ⟨ps, h1, _⟩ := d.tb p hp
  rw [z, h] at h1
  cases h1
  exact n.1 _ rfl
theorem DjT.new (d : DjT T F G H) {b : Addr} (h : H b = none) : ∀ p ∈ T, p.1 ≠ b := fun p hp z => by
  obtain ⟨ps, h1, _⟩ := d.tb p hp
  rw [z, h] at h1
  cases h1
theorem DjT.mut (d : DjT T F G H) {b : Addr} {u o : HO} (h : H b = some u) (n : NoCode u) : DjT T F G (upd H b o) := ⟨d.of, d.ft, tabs_keep d.tb fun c x hc nc => by
  rw [upd_ne (fun z => by rw [z, h] at hc; cases hc; exact nc n)]; exact hc, d.nc⟩
theorem DjT.gadd (d : DjT T F G H) {b : Addr} {o : HO} (f : F b = none) (h : ∀ p ∈ T, p.1 ≠ b) : DjT T F (upd G b o) H := ⟨fun c x hc => by rw [upd_ne (fun z => by rw [z, f] at hc; cases hc)]; exact d.of c x hc, fun p hp => ⟨(d.ft p hp).1, by rw [upd_ne (h p hp)]; exact (d.ft p hp).2⟩, d.tb, d.nc⟩
theorem DjT.fadd (d : DjT T F G H) {b : Addr} {o : HO} (n : NoCode o) (g : G b = none) (h : ∀ p ∈ T, p.1 ≠ b) : DjT T (upd F b o) G H := ⟨fun c x hc => by
  by_cases z : c = b
  · rw [z]; exact g
  · rw [upd_ne z] at hc; exact d.of c x hc, fun p hp => ⟨by rw [upd_ne (h p hp)]; exact (d.ft p hp).1, (d.ft p hp).2⟩, d.tb, fun ht c x q z => by
  by_cases e : c = b
  · rw [e, upd_same] at z; cases z; exact n.2 _ _ rfl
  · rw [upd_ne e] at z; exact d.nc ht c x q z⟩
theorem DjT.at_ (d : DjT T F G H) (t : LamX.Tabs T H') : DjT T F G H' := ⟨d.of, d.ft, t, d.nc⟩
theorem DjT.out (d : DjT T F G H) {b : Addr} {o : HO} (n : ∀ u, H b = some u → NoCode u) : DjT T F G (upd H b o) := by
  cases h : H b with
  | none => exact d.hext (Ex.new h)
  | some u => exact d.mut h (n u h)
theorem DjT.sub {F' : Hp} (d : DjT T F G H) (e : Ex F' F) : DjT T F' G H := ⟨fun b o q => d.of b o (e b o q), fun p hp => ⟨fresh_back e (d.ft p hp).1, (d.ft p hp).2⟩, d.tb, fun ht b c q z => d.nc ht b c q (e b _ z)⟩
theorem DjT.to {F' G' : Hp} (d : DjT T F G H) (of : ∀ (b : Addr) (o : HO), F' b = some o → G' b = none) (f : ∀ b, (∀ o, H b = some o → ¬ NoCode o) → F b = none → F' b = none) (g : ∀ b, (∀ o, H b = some o → ¬ NoCode o) → G b = none → G' b = none) (n : ∀ b o, F' b = some o → F b = some o ∨ NoCode o) : DjT T F' G' H := ⟨of, fun p hp => by
  obtain ⟨ps, h1, _⟩ := d.tb p hp
  have k : ∀ o, H p.1 = some o → ¬ NoCode o := fun o h n => by rw [h1] at h; cases h; exact n.1 _ rfl
  exact ⟨f _ k (d.ft p hp).1, g _ k (d.ft p hp).2⟩, d.tb, fun ht b c q z => (n b _ z).elim (d.nc ht b c q) (fun y => y.2 _ _ rfl)⟩
end
structure Sim (pa : PaG) (F G : Hp) (σ : RSt) (H : Hp) (ρ : Ro) : Prop where
  len : ρ.length = σ.length
  ex : Ex G H
  fx : Ex F H
  dj : DjT pa.T F G H
  val : ∀ (i : Nat) (d : D), ρ[i]? = some (.val d) → ∃ v, σ[i]? = some (some v) ∧ Rep K G v d
  own : ∀ (i : Nat) (s : Sl) (d : D), ρ[i]? = some s → s.ownD = some d → ∃ p, σ[i]? = some (some (.ref p)) ∧ G p = none ∧ OwnAt K G H p d
  ofr : ∀ (i : Nat) (s : Sl) (d : D) (p : Addr), ρ[i]? = some s → s.ownD = some d → σ[i]? = some (some (.ref p)) → F p = none
  par : ∀ (i : Nat) (d : D), ρ[i]? = some (.par d) → σ[i]? = some (some (.ref (pa.f i)))
  gx : Ex pa.g G
  dis : ∀ (i j : Nat) (s t : Sl) (d e : D) (p : Addr), i ≠ j → ρ[i]? = some s → s.ownD = some d → ρ[j]? = some t → t.ownD = some e → σ[i]? = some (some (.ref p)) → σ[j]? = some (some (.ref p)) → False
def TkR (G : Hp) (σ : RSt) (v : V) : T → Prop
  | .val d => Rep K G v d
  | .bor i => σ[i]? = some (some v)
def RepT (G H : Hp) (v : V) (d : D) : Prop := Rep K G v d ∨ ∃ p, v = .ref p ∧ G p = none ∧ OwnAt K G H p d
end
section
variable {K : PySem.W.Frag} {pa : PaG} {F G G' H H' : Hp} {σ : RSt} {ρ ρ' : Ro} {p : Addr} {d : D} {v : V} {t : T}
theorem TkR.mono (e : Ex G G') (h : TkR K G σ v t) : TkR K G' σ v t := by
  cases t with
  | val d => exact Rep.mono e h
  | bor i => exact h
theorem Sim.rdT (S : Sim K pa F G σ H ρ) (h : TkR K G σ v t) (e : rd ρ t = some d) : RepT K G H v d := by
  cases t with
  | val d' => cases e; exact .inl h
  | bor i =>
    replace e : (ρ[i]?).bind Sl.ownD = some d := e
    cases q : ρ[i]? with
    | none => rw [q] at e; cases e
    | some s =>
      rw [q] at e
      obtain ⟨p, h1, h2, h3⟩ := S.own i s d q e
      have h' : σ[i]? = some (some v) := h
      rw [h'] at h1
      cases h1
      exact .inr ⟨p, rfl, h2, h3⟩
theorem OwnAt.mono (e : Ex G G') (eh : H p = H' p) (h : OwnAt K G H p d) : OwnAt K G' H' p d := by
  cases d with
  | lst ds => obtain ⟨vs, h1, h2⟩ := h; exact ⟨vs, eh ▸ h1, h2.mono e⟩
  | dct ds => obtain ⟨vs, h1, h2⟩ := h; exact ⟨vs, eh ▸ h1, h2.mono e⟩
  | ins C ds => obtain ⟨dx, vs, h1, h2⟩ := h; exact ⟨dx, vs, eh ▸ h1, h2.mono e⟩
  | _ => exact h.elim
theorem OwnAt.code (h : OwnAt K G H p d) {o : HO} (e : H p = some o) : NoCode o := by
  cases d with
  | lst ds => obtain ⟨vs, h1, h2⟩ := h; rw [h1] at e; cases e; exact noCode_lst
  | dct ds => obtain ⟨vs, h1, h2⟩ := h; rw [h1] at e; cases e; exact noCode_dK
  | ins C ds => obtain ⟨dx, vs, h1, h2⟩ := h; rw [h1] at e; cases e; exact noCode_ins
  | _ => exact h.elim
theorem OwnAt.some (h : OwnAt K G H p d) : ∃ o, H p = some o := by
  cases d with
  | lst ds => obtain ⟨vs, h1, h2⟩ := h; exact ⟨_, h1⟩
  | dct ds => obtain ⟨vs, h1, h2⟩ := h; exact ⟨_, h1⟩
  | ins C ds => obtain ⟨dx, vs, h1, h2⟩ := h; exact ⟨_, h1⟩
  | _ => exact h.elim
theorem Sim.grow (S : Sim K pa F G σ H ρ) (e : Ex G G') (eh : Ex G' H') (ef : Ex F H') (ed : DjT pa.T F G' H') (k : ∀ (i : Nat) (s : Sl) (d : D) (p : Addr), ρ[i]? = some s → s.ownD = some d → σ[i]? = some (some (.ref p)) → G' p = none ∧ H' p = H p) : Sim K pa F G' σ H' ρ where
  len := S.len
  ex := eh
  fx := ef
  dj := ed
  val := fun i d h => let ⟨v, h1, h2⟩ := S.val i d h; ⟨v, h1, h2.mono e⟩
  own := fun i s d h hd => by
    obtain ⟨p, h1, h2, h3⟩ := S.own i s d h hd
    obtain ⟨k1, k2⟩ := k i s d p h hd h1
    exact ⟨p, h1, k1, h3.mono e k2.symm⟩
  ofr := S.ofr
  par := S.par
  gx := S.gx.trans e
  dis := S.dis
structure Al (G H G' H' : Hp) : Prop where
  g : Ex G G'
  h : Ex H H'
  gh : Ex G' H'
  n : ∀ b, G b = none → H b ≠ none → G' b = none
theorem Al.refl (e : Ex G H) : Al G H G H := ⟨Ex.refl G, Ex.refl H, e, fun _ h _ => h⟩
theorem Al.trans {G2 H2 : Hp} (a : Al G H G' H') (b : Al G' H' G2 H2) : Al G H G2 H2 := ⟨a.g.trans b.g, a.h.trans b.h, b.gh, fun x h1 h2 => b.n x (a.n x h1 h2) (by
  cases q : H x with
  | none => exact absurd q h2
  | some o => rw [a.h x o q]; simp)⟩
theorem Sim.al (S : Sim K pa F G σ H ρ) (a : Al G H G' H') : Sim K pa F G' σ H' ρ := S.grow a.g a.gh (S.fx.trans a.h) ⟨fun b o q => a.n b (S.dj b o q) (by rw [S.fx b o q]; simp), fun p hp => ⟨(S.dj.ft p hp).1, a.n _ (S.dj.ft p hp).2 (by obtain ⟨ps, h1, _⟩ := S.dj.tb p hp; rw [h1]; simp)⟩, S.dj.tb.ext a.h, S.dj.nc⟩ fun i s d p h1 h2 h3 => by
  obtain ⟨b, q1, q2, q3⟩ := S.own i s d h1 h2
  rw [h3] at q1
  cases q1
  obtain ⟨o, ho⟩ := q3.some
  exact ⟨a.n p q2 (by rw [ho]; simp), by rw [a.h p o ho, ho]⟩
theorem Sim.frame {F' : Hp} (S : Sim K pa F G σ H ρ) (e : Ex F' F) : Sim K pa F' G σ H ρ :=
  ⟨S.len, S.ex, e.trans S.fx, S.dj.sub e, S.val, S.own, fun i s d p h1 h2 h3 => fresh_back e (S.ofr i s d p h1 h2 h3), S.par, S.gx, S.dis⟩
theorem Al.one {o : HO} (e : Ex G H) (hp : H p = none) : Al G H (upd G p o) (upd H p o) := by
  have gp : G p = none := fresh_back e hp
  refine ⟨Ex.new gp, Ex.new hp, fun b u q => ?_, fun b h1 h2 => ?_⟩
  · by_cases hb : b = p
    · subst hb; rw [upd_same] at q ⊢; exact q
    · rw [upd_ne hb] at q ⊢; exact e b u q
  · rw [upd_ne (fun z => h2 (by rw [z]; exact hp))]; exact h1
end
section
variable {K : PySem.W.Frag} {G H : Hp} {v : V}
theorem RepT.int {i : Int} (h : RepT K G H v (.int i)) : v = .int i := by
  rcases h with h | ⟨p, _, _, h⟩
  · cases h; rfl
  · exact h.elim
theorem RepT.str {i : Str} (h : RepT K G H v (.str i)) : v = .str i := by
  rcases h with h | ⟨p, _, _, h⟩
  · cases h; rfl
  · exact h.elim
theorem RepT.bl {i : Bool} (h : RepT K G H v (.bl i)) : v = .bl i := by
  rcases h with h | ⟨p, _, _, h⟩
  · cases h; rfl
  · exact h.elim
theorem RepT.byt {i : Array UInt8} (h : RepT K G H v (.byt i)) : v = .byt i := by
  rcases h with h | ⟨p, _, _, h⟩
  · cases h; rfl
  · exact h.elim
theorem RepT.non (h : RepT K G H v .non) : v = .non := by
  rcases h with h | ⟨p, _, _, h⟩
  · cases h; rfl
  · exact h.elim
theorem RepT.ty {n : String} (h : RepT K G H v (.ty n)) : v = .ty n := by
  rcases h with h | ⟨p, _, _, h⟩
  · cases h; rfl
  · exact h.elim
theorem RepT.ptr {n : Addr} (h : RepT K G H v (.ptr n)) : v = .ref n := by
  rcases h with h | ⟨p, _, _, h⟩
  · cases h; rfl
  · exact h.elim
theorem RepT.lstR {ds : List D} (e : Ex G H) (h : RepT K G H v (.lst ds)) : ∃ p vs, v = .ref p ∧ SqL K H p vs ∧ Reps K G vs ds := by
  rcases h with h | ⟨p, hp, _, h⟩
  · cases h with | lst h r => exact ⟨_, _, rfl, ex_l e h, r⟩
  · obtain ⟨vs, h1, h2⟩ := h; exact ⟨p, vs, hp, SqL.of h1, h2⟩
theorem RepT.lst {ds : List D} (e : Ex G H) (h : RepT K G H v (.lst ds)) : ∃ p vs, v = .ref p ∧ SqL K H p vs ∧ Reps K G vs ds := by
  obtain ⟨p, vs, h1, h2, h3⟩ := h.lstR e
  exact ⟨p, vs, h1, h2, h3⟩
theorem RepT.tup {ds : List D} (e : Ex G H) (h : RepT K G H v (.tup ds)) : ∃ p vs, v = .ref p ∧ SqT K H p vs ∧ Reps K G vs ds := by
  rcases h with h | ⟨p, hp, _, h⟩
  · cases h with | tup h r => exact ⟨_, _, rfl, ex_t e h, r⟩
  · exact h.elim
theorem RepT.tupR {ds : List D} (h : RepT K G H v (.tup ds)) : Rep K G v (.tup ds) := by
  rcases h with h | ⟨p, hp, _, h⟩
  · exact h
  · exact h.elim
theorem RepT.dct {ds : List (Key × D)} (e : Ex G H) (h : RepT K G H v (.dct ds)) : ∃ p vs, v = .ref p ∧ H p = some (.dK vs) ∧ RepK K G vs ds := by
  rcases h with h | ⟨p, hp, _, h⟩
  · cases h with | dct h r => exact ⟨_, _, rfl, e _ _ h, r⟩
  · obtain ⟨vs, h1, h2⟩ := h; exact ⟨p, vs, hp, h1, h2⟩
theorem RepT.ins {C : Addr} {ds : List (Str × D)} (e : Ex G H) (h : RepT K G H v (.ins C ds)) : ∃ p dx vs, v = .ref p ∧ H p = some (.ins C dx vs) ∧ RepF K G vs ds := by
  rcases h with h | ⟨p, hp, _, h⟩
  · cases h with | ins h r => exact ⟨_, _, _, rfl, e _ _ h, r⟩
  · obtain ⟨dx, vs, h1, h2⟩ := h; exact ⟨p, dx, vs, hp, h1, h2⟩
end
def Opt {α : Type} (o : Option α) (k : α → Prop) : Prop := ∃ a, o = some a ∧ k a
theorem Opt_some {α : Type} {a : α} {k : α → Prop} : Opt (some a) k ↔ k a := by
  constructor
  · intro h
    obtain ⟨b, e, h⟩ := h
    cases e
    exact h
  · intro h
    exact ⟨a, rfl, h⟩
abbrev ER := Addr → List (Str × D) → Ro → Prop
abbrev E0 : ER := fun _ _ _ => False
abbrev DE := Ro → (T → Ro → Prop) → ER → Prop
abbrev DT := Ro → (Bool → Ro → Prop) → ER → Prop
abbrev DA := Ro → (List T → Ro → Prop) → ER → Prop
abbrev DF := Ro → (D → Ro → Prop) → ER → Prop
abbrev DI := Ro → (List D → Ro → Prop) → ER → Prop
structure Do where
  nx : Ro → Prop
  rt : T → Ro → Prop
  rf : D → Ro → Prop := fun _ _ => False
  bk : Ro → Prop := fun _ => False
  ct : Ro → Prop := fun _ => False
  er : ER := fun _ _ _ => False
abbrev DS := Do → Ro → Prop
abbrev DG := T → Ro → (Ro → Prop) → Prop
section
variable (K : PySem.W.Frag) (pa : PaG)
def XL (F G : Hp) (W : WX) (σ : RSt) (er : ER) : Prop := ∀ (G' H' : Hp) (ρ' : Ro) (C d : Addr) (vs : List (Str × V)) (fs : List (Str × D)), Ex G G' → Sim K pa F G' σ H' ρ' → er C fs ρ' → G' d = some (.xd vs) → RepF K G' vs fs → W (.ref C) (some d) σ H'
def SE (W : WX) (te : TE) (de : DE) : Prop := ∀ (F G : Hp) (σ : RSt) (H : Hp) (ρ : Ro) (Q : VK) (q : T → Ro → Prop) (er : ER), Sim K pa F G σ H ρ → de ρ q er →
  (∀ G' H' v t ρ', Ex G G' → Sim K pa F G' σ H' ρ' → TkR K G' σ v t → q t ρ' → Q v H') → XL K pa F G W σ er → te σ H Q
def SF (W : WX) (te : TE) (de : DF) : Prop := ∀ (F G : Hp) (σ : RSt) (H : Hp) (ρ : Ro) (Q : VK) (q : D → Ro → Prop) (er : ER), Sim K pa F G σ H ρ → de ρ q er →
  (∀ G' H' p d ρ', Ex G G' → Sim K pa F G' σ H' ρ' → G' p = none ∧ F p = none → OwnAt K G' H' p d → (∀ (i : Nat) (s : Sl) (d : D), ρ'[i]? = some s → s.ownD = some d → σ[i]? ≠ some (some (.ref p))) → q d ρ' → Q (.ref p) H') → XL K pa F G W σ er → te σ H Q
def ST (W : WX) (tt : TT) (dt : DT) : Prop := ∀ (F G : Hp) (σ : RSt) (H : Hp) (ρ : Ro) (Q : Bool → Hp → Prop) (q : Bool → Ro → Prop) (er : ER), Sim K pa F G σ H ρ → dt ρ q er →
  (∀ G' H' b ρ', Ex G G' → Sim K pa F G' σ H' ρ' → q b ρ' → Q b H') → XL K pa F G W σ er → tt σ H Q
inductive TkRs (G : Hp) (σ : RSt) : List V → List T → Prop
  | nil : TkRs G σ [] []
  | cons {v : V} {t : T} {vs : List V} {ts : List T} : TkR K G σ v t → TkRs G σ vs ts → TkRs G σ (v :: vs) (t :: ts)
def SA (W : WX) (ta : TA) (da : DA) : Prop := ∀ (F G : Hp) (σ : RSt) (H : Hp) (ρ : Ro) (Q : List V → Hp → Prop) (q : List T → Ro → Prop) (er : ER), Sim K pa F G σ H ρ → da ρ q er →
  (∀ G' H' vs ts ρ', Ex G G' → Sim K pa F G' σ H' ρ' → TkRs K G' σ vs ts → q ts ρ' → Q vs H') → XL K pa F G W σ er → ta σ H Q
def SG (ns : List Nat) (g : TG) (dg : DG) : Prop := ∀ (F G : Hp) (σ : RSt) (H : Hp) (ρ : Ro) (v : V) (t : T) (Q : RSt → Hp → Prop) (q : Ro → Prop), Sim K pa F G σ H ρ → TkR K G σ v t → dg t ρ q →
  (∀ G' σ' H' ρ', Ex G G' → Sim K pa F G' σ' H' ρ' → (∀ vs : List Nat, (∀ i ∈ ns, i ∈ vs) → wipe σ' vs = wipe σ vs) → q ρ' → Q σ' H') → g v σ H Q
structure Lk (F : Hp) (W : WX) (G : Hp) (D : Ends) (DD : Do) : Prop where
  nx : ∀ G' σ' H' ρ', Ex G G' → Sim K pa F G' σ' H' ρ' → DD.nx ρ' → D.nx σ' H'
  bk : ∀ G' σ' H' ρ', Ex G G' → Sim K pa F G' σ' H' ρ' → DD.bk ρ' → D.bk σ' H'
  ct : ∀ G' σ' H' ρ', Ex G G' → Sim K pa F G' σ' H' ρ' → DD.ct ρ' → D.ct σ' H'
  rt : ∀ G' σ' H' ρ' v t, Ex G G' → Sim K pa F G' σ' H' ρ' → TkR K G' σ' v t → DD.rt t ρ' → D.rt v H'
  rf : ∀ G' σ' H' ρ' p d, Ex G G' → Sim K pa F G' σ' H' ρ' → G' p = none ∧ F p = none → OwnAt K G' H' p d → (∀ (i : Nat) (s : Sl) (d : DL.D), ρ'[i]? = some s → s.ownD = some d → σ'[i]? ≠ some (some (.ref p))) → DD.rf d ρ' → D.rt (.ref p) H'
  er : ∀ G' σ' H' ρ' C d vs fs, Ex G G' → Sim K pa F G' σ' H' ρ' → DD.er C fs ρ' → G' d = some (.xd vs) → RepF K G' vs fs → W (.ref C) (some d) σ' H'
def SS (W : WX) (ts : TS) (ds : DS) : Prop := ∀ (F G : Hp) (σ : RSt) (H : Hp) (ρ : Ro) (D : Ends) (DD : Do), Sim K pa F G σ H ρ → ds DD ρ → Lk K pa F W G D DD → ts D σ H
structure ItOk (G : Hp) (J : It) (ds : List DL.D) : Prop where
  go : ∀ i H, Ex G H → i < ds.length → J.go i H
  stop : ∀ i H, Ex G H → ds.length ≤ i → J.stop i H
  yld : ∀ i H x H', J.yld i H x H' → ∀ G1, Ex G G1 → Ex G1 H → ∀ d, ds[i]? = some d → ∃ G2, Al G1 H G2 H' ∧ Rep K G2 x d
def SI (W : WX) (wi : TI) (di : DI) : Prop := ∀ (F G : Hp) (σ : RSt) (H : Hp) (ρ : Ro) (R : It → Hp → Prop) (q : List DL.D → Ro → Prop) (er : ER), Sim K pa F G σ H ρ → di ρ q er →
  (∀ G' H' J ds ρ', Ex G G' → Sim K pa F G' σ H' ρ' → ItOk K G' J ds → q ds ρ' → R J H') → XL K pa F G W σ er → wi σ H R
end
end DL
namespace DL
open PySem L2 Evl
def dC (d : D) : DE := fun ρ q _ => q (.val d) ρ
def dVar (i : Nat) : DE := fun ρ q _ => match ρ[i]? with
  | some (.val d) => q (.val d) ρ
  | some (.own _) => q (.bor i) ρ
  | some (.par _) => q (.bor i) ρ
  | _ => False
def dOp (f : D → D → Option D) (da db : DE) : DE := fun ρ q er => da ρ (fun s ρ1 => db ρ1 (fun t ρ2 => Opt (rd ρ2 s) fun x => Opt (rd ρ2 t) fun y => Opt (f x y) fun z => q (.val z) ρ2) er) er
def dUn (f : D → Option D) (da : DE) : DE := fun ρ q er => da ρ (fun s ρ1 => Opt (rd ρ1 s) fun x => Opt (f x) fun z => q (.val z) ρ1) er
def D.bool : D → Option Bool
  | .bl b => some b
  | _ => none
def dTest (da : DE) : DT := fun ρ q er => da ρ (fun s ρ1 => Opt (rd ρ1 s) fun x => Opt x.bool fun b => q b ρ1) er
def D.truth : D → Option Bool
  | .non => some false
  | .bl b => some b
  | .int i => some (i != 0)
  | .str y => if y.length ≤ sizeLine then some ((y.length : Int) != 0) else none
  | .lst xs => some (!xs.isEmpty)
  | .tup xs => some (!xs.isEmpty)
  | .dct xs => some (!xs.isEmpty)
  | _ => none
def dTruth (da : DE) : DT := fun ρ q er => da ρ (fun s ρ1 => Opt (rd ρ1 s) fun x => Opt x.truth fun b => q b ρ1) er
def dAnd (t u : DT) : DT := fun ρ q er => t ρ (fun c ρ1 => if c = true then u ρ1 q er else q false ρ1) er
def dOr (t u : DT) : DT := fun ρ q er => t ρ (fun c ρ1 => if c = true then q true ρ1 else u ρ1 q er) er
def dNot (t : DT) : DT := fun ρ q er => t ρ (fun c ρ1 => q (!c) ρ1) er
def dAndV (da db : DE) : DE := fun ρ q er => da ρ (fun s ρ1 => Opt (rd ρ1 s) fun x => Opt x.bool fun c => if c = true then db ρ1 q er else q (.val (.bl false)) ρ1) er
def dOrV (da db : DE) : DE := fun ρ q er => da ρ (fun s ρ1 => Opt (rd ρ1 s) fun x => Opt x.bool fun c => if c = true then q (.val (.bl true)) ρ1 else db ρ1 q er) er
def dNotV (da : DE) : DE := fun ρ q er => da ρ (fun s ρ1 => Opt (rd ρ1 s) fun x => Opt x.bool fun c => q (.val (.bl (!c))) ρ1) er
def dIf (t : DT) (da db : DE) : DE := fun ρ q er => t ρ (fun c ρ1 => if c = true then da ρ1 q er else db ρ1 q er) er
def dNil : DA := fun ρ q _ => q [] ρ
def dCons (da : DE) (dr : DA) : DA := fun ρ q er => da ρ (fun s ρ1 => dr ρ1 (fun ts ρ2 => q (s :: ts) ρ2) er) er
def rds (ρ : Ro) : List T → Option (List D)
  | [] => some []
  | t :: ts => (rd ρ t).bind fun d => (rds ρ ts).map fun ds => d :: ds
def vals : List T → Option (List D)
  | [] => some []
  | .val d :: ts => (vals ts).map fun ds => d :: ds
  | .bor _ :: _ => none
def dTup (da : DA) : DE := fun ρ q er => da ρ (fun ts ρ1 => Opt (vals ts) fun ds => ds.length ≤ sizeLine ∧ q (.val (.tup ds)) ρ1) er
def dLst (da : DA) : DF := fun ρ q er => da ρ (fun ts ρ1 => Opt (vals ts) fun ds => ds.length ≤ sizeLine ∧ q (.lst ds) ρ1) er
def dV (da : DF) : DE := fun ρ q er => da ρ (fun d ρ1 => q (.val d) ρ1) er
def dCB (f : List D → Option D) (da : DA) : DE := fun ρ q er => da ρ (fun ts ρ1 => Opt (rds ρ1 ts) fun ds => Opt (f ds) fun z => q (.val z) ρ1) er
def dChain (f g : D → D → Option D) (da db dc : DE) : DE := fun ρ q er => da ρ (fun s ρ1 => db ρ1 (fun t ρ2 => Opt (rd ρ2 s) fun x => Opt (rd ρ2 t) fun y => Opt (f x y) fun z => Opt z.bool fun k =>
  if k = true then dc ρ2 (fun u ρ3 => Opt (rd ρ3 t) fun y' => Opt (rd ρ3 u) fun w => Opt (g y' w) fun z' => q (.val z') ρ3) er else q (.val (.bl false)) ρ2) er) er
section
variable (K : PySem.W.Frag)
def SR (r : R2) (f : D → D → Option D) : Prop := ∀ (G H : Hp) (x y : V) (dx dy z : D) (Q : VK), Ex G H → RepT K G H x dx → RepT K G H y dy → f dx dy = some z → (∀ G' H' v, Al G H G' H' → Rep K G' v z → Q v H') → r x y H Q
def SU (r : V → Hp → VK → Prop) (f : D → Option D) : Prop := ∀ (G H : Hp) (x : V) (dx z : D) (Q : VK), Ex G H → RepT K G H x dx → f dx = some z → (∀ G' H' v, Al G H G' H' → Rep K G' v z → Q v H') → r x H Q
inductive RepTs (G H : Hp) : List V → List D → Prop
  | nil : RepTs G H [] []
  | cons {v : V} {d : D} {vs : List V} {ds : List D} : RepT K G H v d → RepTs G H vs ds → RepTs G H (v :: vs) (d :: ds)
def SC (r : List V → Hp → VK → Prop) (f : List D → Option D) : Prop := ∀ (G H : Hp) (xs : List V) (ds : List D) (z : D) (Q : VK), Ex G H → RepTs K G H xs ds → f ds = some z → (∀ G' H' v, Al G H G' H' → Rep K G' v z → Q v H') → r xs H Q
end
section
variable {K : PySem.W.Frag} {pa : PaG} {W : WX} {ta tb tc te : TE} {da db dc de : DE} {tt uu : TT} {dt du : DT} {r r' : R2} {f f' : D → D → Option D}
theorem XL.grow {F G G' : Hp} {σ : RSt} {er : ER} (e : Ex G G') (x : XL K pa F G W σ er) : XL K pa F G' W σ er := fun G2 H2 ρ2 C d vs fs e2 => x G2 H2 ρ2 C d vs fs (e.trans e2)
theorem se_c {v : V} {d : D} (h : ∀ G, Rep K G v d) : SE K pa W (tC v) (dC d) := fun F G σ H ρ Q q er S h1 k _ => k G H v (.val d) ρ (Ex.refl G) S (h G) h1
theorem se_var {i : Nat} : SE K pa W (tVar i) (dVar i) := fun F G σ H ρ Q q er S h1 k _ => by
  unfold dVar at h1
  cases e : ρ[i]? with
  | none => rw [e] at h1; exact h1.elim
  | some s =>
    rw [e] at h1
    cases s with
    | no => exact h1.elim
    | val d =>
      obtain ⟨v, hv, r⟩ := S.val i d e
      exact ⟨v, hv, k G H v (.val d) ρ (Ex.refl G) S r h1⟩
    | own d =>
      obtain ⟨p, hp, _⟩ := S.own i _ d e rfl
      exact ⟨_, hp, k G H _ (.bor i) ρ (Ex.refl G) S hp h1⟩
    | par d =>
      obtain ⟨p, hp, _⟩ := S.own i _ d e rfl
      exact ⟨_, hp, k G H _ (.bor i) ρ (Ex.refl G) S hp h1⟩
theorem se_op (hr : SR K r f) (ha : SE K pa W ta da) (hb : SE K pa W tb db) : SE K pa W (tOp r ta tb) (dOp f da db) := fun F G σ H ρ Q q er S h k x =>
  ha F G σ H ρ _ _ er S h (fun G1 H1 v s ρ1 e1 S1 r1 h1 => hb F G1 σ H1 ρ1 _ _ er S1 h1 (fun G2 H2 w t ρ2 e2 S2 r2 h2 => by
    obtain ⟨dx, ex, dy, ey, z, ez, h3⟩ := h2
    exact hr G2 H2 v w dx dy z _ S2.ex (S2.rdT (r1.mono e2) ex) (S2.rdT r2 ey) ez fun G3 H3 u a r3 => k G3 H3 u (.val z) ρ2 ((e1.trans e2).trans a.g) (S2.al a) r3 h3) (x.grow e1)) x
theorem se_un {r : V → Hp → VK → Prop} {f : D → Option D} (hr : SU K r f) (ha : SE K pa W ta da) : SE K pa W (tUn r ta) (dUn f da) := fun F G σ H ρ Q q er S h k x =>
  ha F G σ H ρ _ _ er S h (fun G1 H1 v s ρ1 e1 S1 r1 h1 => by
    obtain ⟨dx, ex, z, ez, h3⟩ := h1
    exact hr G1 H1 v dx z _ S1.ex (S1.rdT r1 ex) ez fun G3 H3 u a r3 => k G3 H3 u (.val z) ρ1 (e1.trans a.g) (S1.al a) r3 h3) x
theorem bool_of {d : D} {b : Bool} (h : d.bool = some b) : d = .bl b := by
  cases d <;> first | (cases h; rfl) | cases h
theorem st_test (ha : SE K pa W ta da) : ST K pa W (tTest ta) (dTest da) := fun F G σ H ρ Q q er S h k x =>
  ha F G σ H ρ _ _ er S h (fun G1 H1 v s ρ1 e1 S1 r1 h1 => by
    obtain ⟨dx, ex, b, eb, h3⟩ := h1
    cases bool_of eb
    exact ⟨b, (S1.rdT r1 ex).bl, k G1 H1 b ρ1 e1 S1 h3⟩) x
theorem tru_of {G H : Hp} {v : V} {d : D} {b : Bool} (e : Ex G H) (r : RepT K G H v d) (h : d.truth = some b) : TruV K v H b := by
  cases d with
  | non => cases h; rw [r.non]; rfl
  | bl c => cases h; rw [r.bl]; rfl
  | int i => cases h; rw [r.int]; rfl
  | str y =>
    rw [r.str]
    have h : (if y.length ≤ sizeLine then some ((y.length : Int) != 0) else none) = some b := h
    split at h
    · rename_i hl; cases h; exact ⟨hl, rfl⟩
    · cases h
  | lst xs =>
    cases h
    obtain ⟨p, vs, rfl, hs, hr⟩ := r.lst e
    refine .inl ⟨vs, hs, ?_⟩
    cases hr <;> rfl
  | tup xs =>
    cases h
    obtain ⟨p, vs, rfl, hs, hr⟩ := r.tup e
    refine .inr (.inl ⟨vs, hs, ?_⟩)
    cases hr <;> rfl
  | dct xs =>
    cases h
    obtain ⟨p, vs, rfl, hs, hr⟩ := r.dct e
    refine .inr (.inr ⟨vs, hs, ?_⟩)
    cases hr <;> rfl
  | byt _ => cases h
  | ins _ _ => cases h
  | ptr _ => cases h
  | ty _ => cases h
  | exc _ _ => cases h
theorem st_truth (ha : SE K pa W ta da) : ST K pa W (fun σ H Q => ta σ H fun x H' => ∃ k, TruV K x H' k ∧ Q k H') (dTruth da) := fun F G σ H ρ Q q er S h k x =>
  ha F G σ H ρ _ _ er S h (fun G1 H1 v s ρ1 e1 S1 r1 h1 => by
    obtain ⟨dx, ex, b, eb, h3⟩ := h1
    exact ⟨b, tru_of S1.ex (S1.rdT r1 ex) eb, k G1 H1 b ρ1 e1 S1 h3⟩) x
theorem st_and (ha : ST K pa W tt dt) (hb : ST K pa W uu du) : ST K pa W (tAnd tt uu) (dAnd dt du) := fun F G σ H ρ Q q er S h k x =>
  ha F G σ H ρ _ _ er S h (fun G1 H1 c ρ1 e1 S1 h1 => by
    cases c with
    | true => exact hb F G1 σ H1 ρ1 Q q er S1 h1 (fun G2 H2 b ρ2 e2 => k G2 H2 b ρ2 (e1.trans e2)) (x.grow e1)
    | false => exact k G1 H1 false ρ1 e1 S1 h1) x
theorem st_or (ha : ST K pa W tt dt) (hb : ST K pa W uu du) : ST K pa W (tOr tt uu) (dOr dt du) := fun F G σ H ρ Q q er S h k x =>
  ha F G σ H ρ _ _ er S h (fun G1 H1 c ρ1 e1 S1 h1 => by
    cases c with
    | false => exact hb F G1 σ H1 ρ1 Q q er S1 h1 (fun G2 H2 b ρ2 e2 => k G2 H2 b ρ2 (e1.trans e2)) (x.grow e1)
    | true => exact k G1 H1 true ρ1 e1 S1 h1) x
theorem st_not (ha : ST K pa W tt dt) : ST K pa W (tNot tt) (dNot dt) := fun F G σ H ρ Q q er S h k x =>
  ha F G σ H ρ _ _ er S h (fun G1 H1 c ρ1 e1 S1 h1 => k G1 H1 (!c) ρ1 e1 S1 h1) x
theorem st_yes : ST K pa W tYes (fun ρ q _ => q true ρ) := fun F G σ H ρ Q q er S h k x => k G H true ρ (Ex.refl G) S h
theorem se_andV (ha : SE K pa W ta da) (hb : SE K pa W tb db) : SE K pa W (tAndV ta tb) (dAndV da db) := fun F G σ H ρ Q q er S h k x =>
  ha F G σ H ρ _ _ er S h (fun G1 H1 v s ρ1 e1 S1 r1 h1 => by
    obtain ⟨dx, ex, c, eb, h3⟩ := h1
    cases bool_of eb
    refine ⟨c, (S1.rdT r1 ex).bl, ?_⟩
    cases c with
    | true => exact hb F G1 σ H1 ρ1 Q q er S1 h3 (fun G2 H2 v t ρ2 e2 => k G2 H2 v t ρ2 (e1.trans e2)) (x.grow e1)
    | false => exact k G1 H1 _ (.val (.bl false)) ρ1 e1 S1 (.bl false) h3) x
theorem se_orV (ha : SE K pa W ta da) (hb : SE K pa W tb db) : SE K pa W (tOrV ta tb) (dOrV da db) := fun F G σ H ρ Q q er S h k x =>
  ha F G σ H ρ _ _ er S h (fun G1 H1 v s ρ1 e1 S1 r1 h1 => by
    obtain ⟨dx, ex, c, eb, h3⟩ := h1
    cases bool_of eb
    refine ⟨c, (S1.rdT r1 ex).bl, ?_⟩
    cases c with
    | false => exact hb F G1 σ H1 ρ1 Q q er S1 h3 (fun G2 H2 v t ρ2 e2 => k G2 H2 v t ρ2 (e1.trans e2)) (x.grow e1)
    | true => exact k G1 H1 _ (.val (.bl true)) ρ1 e1 S1 (.bl true) h3) x
theorem se_notV (ha : SE K pa W ta da) : SE K pa W (tNotV ta) (dNotV da) := fun F G σ H ρ Q q er S h k x =>
  ha F G σ H ρ _ _ er S h (fun G1 H1 v s ρ1 e1 S1 r1 h1 => by
    obtain ⟨dx, ex, c, eb, h3⟩ := h1
    cases bool_of eb
    exact ⟨c, (S1.rdT r1 ex).bl, k G1 H1 _ (.val (.bl (!c))) ρ1 e1 S1 (.bl (!c)) h3⟩) x
theorem se_if (ht : ST K pa W tt dt) (ha : SE K pa W ta da) (hb : SE K pa W tb db) : SE K pa W (tIf tt ta tb) (dIf dt da db) := fun F G σ H ρ Q q er S h k x =>
  ht F G σ H ρ _ _ er S h (fun G1 H1 c ρ1 e1 S1 h1 => by
    cases c with
    | true => exact ha F G1 σ H1 ρ1 Q q er S1 h1 (fun G2 H2 v t ρ2 e2 => k G2 H2 v t ρ2 (e1.trans e2)) (x.grow e1)
    | false => exact hb F G1 σ H1 ρ1 Q q er S1 h1 (fun G2 H2 v t ρ2 e2 => k G2 H2 v t ρ2 (e1.trans e2)) (x.grow e1)) x
theorem sa_nil : SA K pa W tNil dNil := fun F G σ H ρ Q q er S h k x => k G H [] [] ρ (Ex.refl G) S .nil h
theorem TkRs.mono {G G' : Hp} {σ : RSt} (e : Ex G G') : ∀ {vs : List V} {ts : List T}, TkRs K G σ vs ts → TkRs K G' σ vs ts
  | _, _, .nil => .nil
  | _, _, .cons h r => .cons (h.mono e) (TkRs.mono e r)
theorem sa_cons {tr : TA} {dr : DA} (ha : SE K pa W ta da) (hr : SA K pa W tr dr) : SA K pa W (tCons ta tr) (dCons da dr) := fun F G σ H ρ Q q er S h k x =>
  ha F G σ H ρ _ _ er S h (fun G1 H1 v s ρ1 e1 S1 r1 h1 => hr F G1 σ H1 ρ1 _ _ er S1 h1 (fun G2 H2 vs ts ρ2 e2 S2 r2 h2 => k G2 H2 _ _ ρ2 (e1.trans e2) S2 (.cons (r1.mono e2) r2) h2) (x.grow e1)) x
theorem vals_reps {G : Hp} {σ : RSt} : ∀ {vs : List V} {ts : List T} {ds : List D}, TkRs K G σ vs ts → vals ts = some ds → Reps K G vs ds
  | _, _, _, .nil, e => by cases e; exact .nil
  | _, .val d :: ts, _, .cons h r, e => by
    have e : (vals ts).map (fun ds => d :: ds) = some _ := e
    cases q : vals ts with
    | none => rw [q] at e; cases e
    | some es => rw [q] at e; cases e; exact .cons h (vals_reps r q)
  | _, .bor _ :: ts, _, .cons h r, e => by cases e
theorem rds_reps {F G H : Hp} {σ : RSt} {ρ : Ro} (S : Sim K pa F G σ H ρ) : ∀ {vs : List V} {ts : List T} {ds : List D}, TkRs K G σ vs ts → rds ρ ts = some ds → RepTs K G H vs ds
  | _, _, _, .nil, e => by cases e; exact .nil
  | _, t :: ts, _, .cons h r, e => by
    have e : (rd ρ t).bind (fun d => (rds ρ ts).map fun ds => d :: ds) = some _ := e
    cases q1 : rd ρ t with
    | none => rw [q1] at e; cases e
    | some d =>
      rw [q1] at e
      have e : (rds ρ ts).map (fun ds => d :: ds) = some _ := e
      cases q : rds ρ ts with
      | none => rw [q] at e; cases e
      | some es => rw [q] at e; cases e; exact .cons (S.rdT h q1) (rds_reps S r q)
theorem Sim.new {F G H : Hp} {σ : RSt} {ρ : Ro} {p : Addr} {o : HO} (S : Sim K pa F G σ H ρ) (hp : H p = none) : Sim K pa F G σ (upd H p o) ρ :=
  S.grow (Ex.refl G) (S.ex.trans (Ex.new hp)) (S.fx.trans (Ex.new hp)) (S.dj.hext (Ex.new hp)) fun i s d b h1 h2 h3 => by
    obtain ⟨b', q1, q2, q3⟩ := S.own i s d h1 h2
    rw [h3] at q1
    cases q1
    obtain ⟨u, hu⟩ := q3.some
    exact ⟨q2, upd_ne fun z => by rw [z, hp] at hu; cases hu⟩
theorem sf_lst {ta : TA} {da : DA} (ha : SA K pa W ta da) : SF K pa W (tLst ta) (dLst da) := fun F G σ H ρ Q q er S h k x =>
  ha F G σ H ρ _ _ er S h (fun G1 H1 vs ts ρ1 e1 S1 r1 h1 => by
    obtain ⟨ds, ed, hl, h2⟩ := h1
    have R := vals_reps r1 ed
    refine ⟨by rw [R.length]; exact hl, fun p hp => ?_⟩
    have gp : G1 p = none := fresh_back S1.ex hp
    refine k G1 _ p (.lst ds) ρ1 e1 (S1.new hp) ⟨gp, fresh_back S1.fx hp⟩ ⟨vs, upd_same, R⟩ (fun i s d hs hd hσ => ?_) h2
    · obtain ⟨b, hb, _, ow⟩ := S1.own i s d hs hd
      rw [hσ] at hb
      cases hb
      obtain ⟨o, ho⟩ := ow.some
      rw [hp] at ho
      cases ho) x
theorem se_new {te : TE} {df : DF} (h : SF K pa W te df) : SE K pa W te (dV df) := fun F G σ H ρ Q q er S h0 k x =>
  h F G σ H ρ Q _ er S h0 (fun G1 H1 p d ρ1 e1 S1 gp ow fr h1 => by
    obtain ⟨o, ho⟩ := ow.some
    have e2 : Ex G1 (upd G1 p o) := Ex.new gp.1
    have S2 : Sim K pa F (upd G1 p o) σ H1 ρ1 := {
      len := S1.len
      ex := fun b u q => by
        by_cases hb : b = p
        · subst hb; rw [upd_same] at q; cases q; exact ho
        · rw [upd_ne hb] at q; exact S1.ex b u q
      fx := S1.fx
      dj := S1.dj.gadd gp.2 (S1.dj.ne ho (ow.code ho))
      val := fun i d h => let ⟨v, h1, h2⟩ := S1.val i d h; ⟨v, h1, h2.mono e2⟩
      own := fun i s d h hd => by
        obtain ⟨b, h1, h2, h3⟩ := S1.own i s d h hd
        exact ⟨b, h1, by rw [upd_ne (fun z => fr i s d h hd (by rw [h1, z]))]; exact h2, h3.mono e2 rfl⟩
      ofr := S1.ofr
      par := S1.par
      gx := S1.gx.trans e2
      dis := S1.dis }
    refine k (upd G1 p o) H1 _ (.val d) ρ1 (e1.trans e2) S2 ?_ h1
    cases d with
    | lst ds => obtain ⟨vs, h1, h2⟩ := ow; rw [ho] at h1; cases h1; exact Rep.lst (SqL.of upd_same) (h2.mono e2)
    | dct ds => obtain ⟨vs, h1, h2⟩ := ow; rw [ho] at h1; cases h1; exact Rep.dct upd_same (h2.mono e2)
    | ins C ds => obtain ⟨dx, vs, h1, h2⟩ := ow; rw [ho] at h1; cases h1; exact Rep.ins upd_same (h2.mono e2)
    | _ => exact ow.elim) x
theorem se_cb {r : List V → Hp → VK → Prop} {f : List D → Option D} {ta : TA} {da : DA} (hr : SC K r f) (ha : SA K pa W ta da) : SE K pa W (tCB r ta) (dCB f da) := fun F G σ H ρ Q q er S h k x =>
  ha F G σ H ρ _ _ er S h (fun G1 H1 vs ts ρ1 e1 S1 r1 h1 => by
    obtain ⟨ds, ed, z, ez, h2⟩ := h1
    exact hr G1 H1 vs ds z _ S1.ex (rds_reps S1 r1 ed) ez fun G2 H2 v a r2 => k G2 H2 v (.val z) ρ1 (e1.trans a.g) (S1.al a) r2 h2) x
theorem se_chain (hr : SR K r f) (hr' : SR K r' f') (ha : SE K pa W ta da) (hb : SE K pa W tb db) (hc : SE K pa W tc dc) : SE K pa W (tChain r r' ta tb tc) (dChain f f' da db dc) := fun F G σ H ρ Q q er S h k x =>
  ha F G σ H ρ _ _ er S h (fun G1 H1 v s ρ1 e1 S1 r1 h1 => hb F G1 σ H1 ρ1 _ _ er S1 h1 (fun G2 H2 w t ρ2 e2 S2 r2 h2 => by
    obtain ⟨dx, ex, dy, ey, z, ez, c, ec, h3⟩ := h2
    refine hr G2 H2 v w dx dy z _ S2.ex (S2.rdT (r1.mono e2) ex) (S2.rdT r2 ey) ez fun G3 H3 u a r3 => ?_
    cases bool_of ec
    cases r3
    refine ⟨c, rfl, ?_⟩
    cases c with
    | false => exact k G3 H3 _ (.val (.bl false)) ρ2 ((e1.trans e2).trans a.g) (S2.al a) (.bl false) h3
    | true =>
      refine hc F G3 σ H3 ρ2 _ _ er (S2.al a) h3 (fun G4 H4 y u ρ4 e4 S4 r4 h4 => ?_) (x.grow ((e1.trans e2).trans a.g))
      obtain ⟨dy', ey', dw, ew, z', ez', h5⟩ := h4
      exact hr' G4 H4 w y dy' dw z' _ S4.ex (S4.rdT ((r2.mono a.g).mono e4) ey') (S4.rdT r4 ew) ez' fun G5 H5 u5 a5 r5 => k G5 H5 u5 (.val z') ρ4 ((((e1.trans e2).trans a.g).trans e4).trans a5.g) (S4.al a5) r5 h5) (x.grow e1)) x
end
def dNext : DS := fun DD ρ => DD.nx ρ
def dNever : DS := fun _ _ => False
def dSeq (a b : DS) : DS := fun DD ρ => a { DD with nx := b DD } ρ
def dDrop (de : DE) : DS := fun DD ρ => de ρ (fun _ ρ1 => DD.nx ρ1) DD.er
def dRet (de : DE) : DS := fun DD ρ => de ρ DD.rt DD.er
def dRetF (de : DF) : DS := fun DD ρ => de ρ DD.rf DD.er
def dRetN : DS := fun DD ρ => DD.rt (.val .non) ρ
def dIfS (t : DT) (a b : DS) : DS := fun DD ρ => t ρ (fun c ρ1 => if c = true then a DD ρ1 else b DD ρ1) DD.er
def dBrk : DS := fun DD ρ => DD.bk ρ
def dCnt : DS := fun DD ρ => DD.ct ρ
def isPar (ρ : Ro) (i : Nat) : Bool := match ρ[i]? with
  | some (.par _) => true
  | _ => false
def dgName (i : Nat) : DG := fun t ρ q => match t with
  | .val d => isPar ρ i = false ∧ q (ρ.set i (.val d))
  | .bor _ => False
def dAsg (de : DE) (g : DG) : DS := fun DD ρ => de ρ (fun t ρ1 => g t ρ1 DD.nx) DD.er
def dOwn (df : DF) (i : Nat) : DS := fun DD ρ => df ρ (fun d ρ1 => (isPar ρ1 i = false ∧ i < ρ1.length) ∧ DD.nx (ρ1.set i (.own d))) DD.er
def dFrz (i : Nat) (s : DS) : DS := fun DD ρ => match ρ[i]? with
  | some (.own d) => s DD (ρ.set i (.val d))
  | _ => False
section
variable {K : PySem.W.Frag} {pa : PaG} {W : WX} {ts us : TS} {ds es : DS} {te : TE} {de : DE} {tt : TT} {dt : DT} {g : TG} {dg : DG}
theorem Lk.grow {F G G' : Hp} {D : Ends} {DD : Do} (e : Ex G G') (l : Lk K pa F W G D DD) : Lk K pa F W G' D DD :=
  ⟨fun a b c d x => l.nx a b c d (e.trans x), fun a b c d x => l.bk a b c d (e.trans x), fun a b c d x => l.ct a b c d (e.trans x), fun a b c d v t x => l.rt a b c d v t (e.trans x), fun a b c d v t x => l.rf a b c d v t (e.trans x), fun a b c d C y vs fs x => l.er a b c d C y vs fs (e.trans x)⟩
theorem Lk.xl {F G : Hp} {D : Ends} {DD : Do} (l : Lk K pa F W G D DD) (σ : RSt) : XL K pa F G W σ DD.er := fun G' H' ρ' C d vs fs e => l.er G' σ H' ρ' C d vs fs e
theorem ss_next : SS K pa W tNext dNext := fun F G σ H ρ D DD S h l => l.nx G σ H ρ (Ex.refl G) S h
theorem ss_never {ts : TS} : SS K pa W ts dNever := fun _ _ _ _ _ _ _ _ h _ => h.elim
theorem ss_seq (h1 : SS K pa W ts ds) (h2 : SS K pa W us es) : SS K pa W (tSeq ts us) (dSeq ds es) := fun F G σ H ρ D DD S h l =>
  h1 F G σ H ρ _ _ S h ⟨fun G' σ' H' ρ' e S' q => h2 F G' σ' H' ρ' D DD S' q (l.grow e), l.bk, l.ct, l.rt, l.rf, l.er⟩
theorem ss_drop (h1 : SE K pa W te de) : SS K pa W (tDrop te) (dDrop de) := fun F G σ H ρ D DD S h l =>
  h1 F G σ H ρ _ _ _ S h (fun G' H' v t ρ' e S' r q => l.nx G' σ H' ρ' e S' q) (l.xl σ)
theorem ss_ret (h1 : SE K pa W te de) : SS K pa W (tRet te) (dRet de) := fun F G σ H ρ D DD S h l =>
  h1 F G σ H ρ _ _ _ S h (fun G' H' v t ρ' e S' r q => l.rt G' σ H' ρ' v t e S' r q) (l.xl σ)
theorem ss_retF {df : DF} (h1 : SF K pa W te df) : SS K pa W (tRet te) (dRetF df) := fun F G σ H ρ D DD S h l =>
  h1 F G σ H ρ _ _ _ S h (fun G' H' p d ρ' e S' gp ow fr q => l.rf G' σ H' ρ' p d e S' gp ow fr q) (l.xl σ)
theorem ss_if (ht : ST K pa W tt dt) (h1 : SS K pa W ts ds) (h2 : SS K pa W us es) : SS K pa W (tIfS tt ts us) (dIfS dt ds es) := fun F G σ H ρ D DD S h l =>
  ht F G σ H ρ _ _ _ S h (fun G' H' b ρ' e S' q => by
    cases b with
    | true => exact h1 F G' σ H' ρ' D DD S' q (l.grow e)
    | false => exact h2 F G' σ H' ρ' D DD S' q (l.grow e)) (l.xl σ)
theorem Sim.store {F G H : Hp} {σ : RSt} {ρ : Ro} {i : Nat} {v : V} {d : D} (S : Sim K pa F G σ H ρ) (hp : isPar ρ i = false) (r : Rep K G v d) : Sim K pa F G (σ.set i (some v)) H (ρ.set i (.val d)) where
  len := by rw [List.length_set, List.length_set]; exact S.len
  ex := S.ex
  fx := S.fx
  dj := S.dj
  ofr := fun j s e p h hd hσ => by
    by_cases hj : i = j
    · subst hj
      rw [List.getElem?_set, if_pos rfl] at h
      split at h
      · cases h; cases hd
      · cases h
    · rw [List.getElem?_set_ne hj] at h hσ
      exact S.ofr j s e p h hd hσ
  val := fun j e h => by
    by_cases hj : i = j
    · subst hj
      rw [List.getElem?_set] at h ⊢
      rw [if_pos rfl] at h ⊢
      split at h
      · rename_i hl
        cases h
        rw [if_pos (by rw [← S.len]; exact hl)]
        exact ⟨v, rfl, r⟩
      · cases h
    · rw [List.getElem?_set_ne hj] at h ⊢
      exact S.val j e h
  own := fun j s e h hd => by
    by_cases hj : i = j
    · subst hj
      rw [List.getElem?_set, if_pos rfl] at h
      split at h
      · cases h; cases hd
      · cases h
    · rw [List.getElem?_set_ne hj] at h ⊢
      exact S.own j s e h hd
  par := fun j e h => by
    by_cases hj : i = j
    · subst hj
      rw [List.getElem?_set, if_pos rfl] at h
      split at h <;> cases h
    · rw [List.getElem?_set_ne hj] at h ⊢
      exact S.par j e h
  gx := S.gx
  dis := fun j k s t e f p hjk h1 h2 h3 h4 h5 h6 => by
    have nj : i ≠ j := fun z => by
      subst z
      rw [List.getElem?_set, if_pos rfl] at h1
      split at h1
      · cases h1; cases h2
      · cases h1
    have nk : i ≠ k := fun z => by
      subst z
      rw [List.getElem?_set, if_pos rfl] at h3
      split at h3
      · cases h3; cases h4
      · cases h3
    rw [List.getElem?_set_ne nj] at h1 h5
    rw [List.getElem?_set_ne nk] at h3 h6
    exact S.dis j k s t e f p hjk h1 h2 h3 h4 h5 h6
theorem Sim.storeOwn {F G H : Hp} {σ : RSt} {ρ : Ro} {i : Nat} {p : Addr} {d : D} (S : Sim K pa F G σ H ρ) (hp : isPar ρ i = false) (gp : G p = none ∧ F p = none) (ow : OwnAt K G H p d)
    (fr : ∀ (i : Nat) (s : Sl) (d : D), ρ[i]? = some s → s.ownD = some d → σ[i]? ≠ some (some (.ref p))) : Sim K pa F G (σ.set i (some (.ref p))) H (ρ.set i (.own d)) where
  len := by rw [List.length_set, List.length_set]; exact S.len
  ex := S.ex
  fx := S.fx
  dj := S.dj
  ofr := fun j s e b h hd hσ => by
    by_cases hj : i = j
    · subst hj
      rw [List.getElem?_set, if_pos rfl] at hσ
      split at hσ
      · cases hσ; exact gp.2
      · cases hσ
    · rw [List.getElem?_set_ne hj] at h hσ
      exact S.ofr j s e b h hd hσ
  val := fun j e h => by
    by_cases hj : i = j
    · subst hj
      rw [List.getElem?_set, if_pos rfl] at h
      split at h <;> cases h
    · rw [List.getElem?_set_ne hj] at h ⊢
      exact S.val j e h
  own := fun j s e h hd => by
    by_cases hj : i = j
    · subst hj
      rw [List.getElem?_set] at h ⊢
      rw [if_pos rfl] at h ⊢
      split at h
      · rename_i hl
        cases h
        cases hd
        rw [if_pos (by rw [← S.len]; exact hl)]
        exact ⟨p, rfl, gp.1, ow⟩
      · cases h
    · rw [List.getElem?_set_ne hj] at h ⊢
      exact S.own j s e h hd
  par := fun j e h => by
    by_cases hj : i = j
    · subst hj
      rw [List.getElem?_set, if_pos rfl] at h
      split at h <;> cases h
    · rw [List.getElem?_set_ne hj] at h ⊢
      exact S.par j e h
  gx := S.gx
  dis := fun j k s t e f b hjk h1 h2 h3 h4 h5 h6 => by
    by_cases nj : i = j
    · subst nj
      rw [List.getElem?_set_ne hjk] at h3 h6
      rw [List.getElem?_set, if_pos rfl] at h5
      split at h5
      · cases h5; exact fr k t f h3 h4 h6
      · cases h5
    · by_cases nk : i = k
      · subst nk
        rw [List.getElem?_set_ne nj] at h1 h5
        rw [List.getElem?_set, if_pos rfl] at h6
        split at h6
        · cases h6; exact fr j s e h1 h2 h5
        · cases h6
      · rw [List.getElem?_set_ne nj] at h1 h5
        rw [List.getElem?_set_ne nk] at h3 h6
        exact S.dis j k s t e f b hjk h1 h2 h3 h4 h5 h6
theorem wipe_get (σ : RSt) (j : Nat) : ∀ vs : List Nat, (wipe σ vs)[j]? = if j ∈ vs then (if j < σ.length then some none else none) else σ[j]?
  | [] => by simp [wipe]
  | v :: vs => by
    have ih := wipe_get σ j vs
    unfold wipe
    by_cases h : v = j
    · subst h
      rw [List.getElem?_set, if_pos rfl, wipe_length, if_pos (List.mem_cons_self)]
    · rw [List.getElem?_set_ne h, ih]
      by_cases h2 : j ∈ vs
      · rw [if_pos h2, if_pos (List.mem_cons_of_mem _ h2)]
      · rw [if_neg h2, if_neg (fun z => by rcases List.mem_cons.mp z with z | z; exact h z.symm; exact h2 z)]
theorem wipe_set {σ : RSt} {i : Nat} {x : Option V} {vs : List Nat} (h : i ∈ vs) : wipe (σ.set i x) vs = wipe σ vs := by
  apply List.ext_getElem?
  intro j
  rw [wipe_get, wipe_get, List.length_set]
  by_cases hj : j ∈ vs
  · rw [if_pos hj, if_pos hj]
  · rw [if_neg hj, if_neg hj, List.getElem?_set_ne (fun z => hj (by rw [← z]; exact h))]
theorem wipe_wipe {σ : RSt} {vs : List Nat} : wipe (wipe σ vs) vs = wipe σ vs := by
  apply List.ext_getElem?
  intro j
  rw [wipe_get, wipe_length, wipe_get]
  by_cases hj : j ∈ vs
  · rw [if_pos hj, if_pos hj]
  · rw [if_neg hj, if_neg hj]
theorem sg_name {i : Nat} : SG K pa [i] (gName i) (dgName i) := fun F G σ H ρ v t Q q S r h k => by
  cases t with
  | bor j => exact h.elim
  | val d => exact k G _ H _ (Ex.refl G) (S.store h.1 r) (fun vs hv => wipe_set (hv i List.mem_cons_self)) h.2
def dgNil : List D → Ro → (Ro → Prop) → Prop := fun ds ρ q => ds = [] ∧ q ρ
def dgCons (g : DG) (r : List D → Ro → (Ro → Prop) → Prop) : List D → Ro → (Ro → Prop) → Prop := fun ds ρ q => match ds with
  | d :: ds => g (.val d) ρ fun ρ1 => r ds ρ1 q
  | [] => False
def dgTup (n : Nat) (r : List D → Ro → (Ro → Prop) → Prop) : DG := fun t ρ q => match t with
  | .val (.tup ds) => ds.length = n ∧ r ds ρ q
  | _ => False
def SGs (K : PySem.W.Frag) (pa : PaG) (ns : List Nat) (g : TGs) (dg : List D → Ro → (Ro → Prop) → Prop) : Prop := ∀ (F G : Hp) (σ : RSt) (H : Hp) (ρ : Ro) (vs : List V) (ds : List D) (Q : RSt → Hp → Prop) (q : Ro → Prop), Sim K pa F G σ H ρ → Reps K G vs ds → dg ds ρ q →
  (∀ G' σ' H' ρ', Ex G G' → Sim K pa F G' σ' H' ρ' → (∀ vs : List Nat, (∀ i ∈ ns, i ∈ vs) → wipe σ' vs = wipe σ vs) → q ρ' → Q σ' H') → g vs σ H Q
theorem sgs_nil : SGs K pa [] gNil dgNil := fun F G σ H ρ vs ds Q q S r h k => by
  obtain ⟨rfl, h⟩ := h
  cases r
  exact ⟨rfl, k G σ H ρ (Ex.refl G) S (fun _ _ => rfl) h⟩
theorem sgs_cons {n1 n2 : List Nat} {g : TG} {dg : DG} {gs : TGs} {dr : List D → Ro → (Ro → Prop) → Prop} (h1 : SG K pa n1 g dg) (h2 : SGs K pa n2 gs dr) : SGs K pa (n1 ++ n2) (gCons g gs) (dgCons dg dr) := fun F G σ H ρ vs ds Q q S r h k => by
  cases r with
  | nil => exact h.elim
  | cons r rr =>
    refine ⟨_, _, rfl, h1 F G σ H ρ _ (.val _) _ _ S r h fun G1 σ1 H1 ρ1 e1 S1 w1 q1 => h2 F G1 σ1 H1 ρ1 _ _ _ _ S1 (rr.mono e1) q1 fun G2 σ2 H2 ρ2 e2 S2 w2 q2 => k G2 σ2 H2 ρ2 (e1.trans e2) S2 (fun vs hv => ?_) q2⟩
    rw [w2 vs fun i hi => hv i (List.mem_append_right _ hi), w1 vs fun i hi => hv i (List.mem_append_left _ hi)]
theorem sg_tup {ns : List Nat} {gs : TGs} {n : Nat} {dr : List D → Ro → (Ro → Prop) → Prop} (h : SGs K pa ns gs dr) : SG K pa ns (gTup K n gs) (dgTup n dr) := fun F G σ H ρ v t Q q S r h0 k => by
  cases t with
  | bor j => exact h0.elim
  | val d =>
    have r : Rep K G v d := r
    cases r with
    | tup hs rr => exact ⟨_, _, rfl, ex_t S.ex hs, by rw [rr.length]; exact h0.1, h F G σ H ρ _ _ _ _ S rr h0.2 k⟩
    | _ => exact h0.elim
theorem ss_asg {ns : List Nat} (he : SE K pa W te de) (hg : SG K pa ns g dg) : SS K pa W (tAsg te g) (dAsg de dg) := fun F G σ H ρ D DD S h l =>
  he F G σ H ρ _ _ _ S h (fun G' H' v t ρ' e S' r q => hg F G' σ H' ρ' v t _ _ S' r q fun G2 σ2 H2 ρ2 e2 S2 _ q2 => l.nx G2 σ2 H2 ρ2 (e.trans e2) S2 q2) (l.xl σ)
theorem ss_own {df : DF} {i : Nat} (he : SF K pa W te df) : SS K pa W (tAsg te (gName i)) (dOwn df i) := fun F G σ H ρ D DD S h l =>
  he F G σ H ρ _ _ _ S h (fun G' H' p d ρ' e S' gp ow fr q => l.nx G' _ H' _ e (S'.storeOwn q.1.1 gp ow fr) q.2) (l.xl σ)
theorem Sim.frz {F G H : Hp} {σ : RSt} {ρ : Ro} {i : Nat} {d : D} (S : Sim K pa F G σ H ρ) (h : ρ[i]? = some (.own d)) : ∃ G', Ex G G' ∧ Sim K pa F G' σ H (ρ.set i (.val d)) := by
  obtain ⟨p, hσ, gp, ow⟩ := S.own i _ d h rfl
  obtain ⟨o, ho⟩ := ow.some
  have e2 : Ex G (upd G p o) := Ex.new gp
  have hi : i < ρ.length := (List.getElem?_eq_some_iff.mp h).1
  refine ⟨upd G p o, e2, ?_⟩
  have S2 : Sim K pa F (upd G p o) σ H (ρ.set i .no) := {
    len := by rw [List.length_set]; exact S.len
    ex := fun b u q => by
      by_cases hb : b = p
      · subst hb; rw [upd_same] at q; cases q; exact ho
      · rw [upd_ne hb] at q; exact S.ex b u q
    fx := S.fx
    dj := S.dj.gadd (S.ofr i _ d p h rfl hσ) (S.dj.ne ho (ow.code ho))
    ofr := fun j s e b hj hd hs => by
      by_cases z : i = j
      · subst z; rw [List.getElem?_set_self hi] at hj; cases hj; cases hd
      · rw [List.getElem?_set_ne z] at hj; exact S.ofr j s e b hj hd hs
    val := fun j e hj => by
      by_cases z : i = j
      · subst z; rw [List.getElem?_set_self hi] at hj; cases hj
      · rw [List.getElem?_set_ne z] at hj
        obtain ⟨v, h1, h2⟩ := S.val j e hj
        exact ⟨v, h1, h2.mono e2⟩
    own := fun j s e hj hd => by
      by_cases z : i = j
      · subst z; rw [List.getElem?_set_self hi] at hj; cases hj; cases hd
      · rw [List.getElem?_set_ne z] at hj
        obtain ⟨b, h1, h2, h3⟩ := S.own j s e hj hd
        exact ⟨b, h1, by rw [upd_ne (fun y => S.dis i j _ s d e p z h rfl hj hd hσ (by rw [h1, y]))]; exact h2, h3.mono e2 rfl⟩
    par := fun j e hj => by
      by_cases z : i = j
      · subst z; rw [List.getElem?_set_self hi] at hj; cases hj
      · rw [List.getElem?_set_ne z] at hj; exact S.par j e hj
    gx := S.gx.trans (Ex.new gp)
    dis := fun j k s t e f b hjk h1 h2 h3 h4 h5 h6 => by
      have nj : i ≠ j := fun z => by subst z; rw [List.getElem?_set_self hi] at h1; cases h1; cases h2
      have nk : i ≠ k := fun z => by subst z; rw [List.getElem?_set_self hi] at h3; cases h3; cases h4
      rw [List.getElem?_set_ne nj] at h1
      rw [List.getElem?_set_ne nk] at h3
      exact S.dis j k s t e f b hjk h1 h2 h3 h4 h5 h6 }
  have r : Rep K (upd G p o) (.ref p) d := by
    cases d with
    | lst ds => obtain ⟨vs, h1, h2⟩ := ow; rw [ho] at h1; cases h1; exact Rep.lst (SqL.of upd_same) (h2.mono e2)
    | dct ds => obtain ⟨vs, h1, h2⟩ := ow; rw [ho] at h1; cases h1; exact Rep.dct upd_same (h2.mono e2)
    | ins C ds => obtain ⟨dx, vs, h1, h2⟩ := ow; rw [ho] at h1; cases h1; exact Rep.ins upd_same (h2.mono e2)
    | _ => exact ow.elim
  have S3 := S2.store (i := i) (v := .ref p) (d := d) (by unfold isPar; rw [List.getElem?_set_self hi]) r
  rw [List.set_set] at S3
  have es : σ.set i (some (.ref p)) = σ := by
    apply List.ext_getElem?
    intro j
    by_cases z : i = j
    · subst z; rw [hσ, List.getElem?_set_self (by rw [← S.len]; exact hi)]
    · rw [List.getElem?_set_ne z]
  rw [es] at S3
  exact S3
theorem ss_frz {i : Nat} (h1 : SS K pa W ts ds) : SS K pa W ts (dFrz i ds) := fun F G σ H ρ D DD S h l => by
  unfold dFrz at h
  cases e : ρ[i]? with
  | none => rw [e] at h; exact h.elim
  | some s =>
    rw [e] at h
    cases s with
    | own d =>
      obtain ⟨G', e', S'⟩ := S.frz e
      exact h1 F G' σ H _ D DD S' h (l.grow e')
    | _ => exact h.elim
end
end DL
namespace DL
open PySem L2 Evl
def D.add : D → D → Option D
  | .int i, .int j => some (.int (i + j))
  | .str x, .str y => if x.length + y.length ≤ sizeLine then some (.str (x ++ y)) else none
  | .lst xs, .lst ys => if xs.length + ys.length ≤ sizeLine then some (.lst (xs ++ ys)) else none
  | .tup xs, .tup ys => if xs.length + ys.length ≤ sizeLine then some (.tup (xs ++ ys)) else none
  | _, _ => none
def D.sub : D → D → Option D
  | .int i, .int j => some (.int (i - j))
  | _, _ => none
instance (i j : Int) : Decidable (CMul i j) := by unfold CMul; infer_instance
instance (i j : Int) : Decidable (CMulW i j) := by unfold CMulW; infer_instance
instance (i j : Int) : Decidable (CDivW i j) := by unfold CDivW; infer_instance
instance (i j : Int) : Decidable (CPow i j) := by unfold CPow; infer_instance
def D.mul : D → D → Option D
  | .int i, .int j => if CMul i j ∨ CMulW i j then some (.int (i * j)) else none
  | .lst xs, .int k => if 0 ≤ k ∧ k < 2 ^ 63 ∧ xs.length * k.toNat ≤ sizeLine then some (.lst (List.replicate k.toNat xs).flatten) else none
  | _, _ => none
def D.mod : D → D → Option D
  | .int i, .int j => if 0 < j then some (.int (i % j)) else none
  | _, _ => none
def D.fdiv : D → D → Option D
  | .int i, .int j => if CDivW i j then some (.int (i / j)) else none
  | _, _ => none
def D.pow : D → D → Option D
  | .int i, .int j => if CPow i j then some (.int (i ^ j.toNat)) else none
  | _, _ => none
def D.neg : D → Option D
  | .int i => some (.int (-i))
  | _ => none
def D.cmp (p : Int → Int → Bool) : D → D → Option D
  | .int i, .int j => some (.bl (p i j))
  | _, _ => none
abbrev D.lt := D.cmp fun i j => decide (i < j)
abbrev D.le := D.cmp fun i j => decide (i ≤ j)
abbrev D.gt := D.cmp fun i j => decide (j < i)
abbrev D.ge := D.cmp fun i j => decide (j ≤ i)
def D.isN : D → D → Option D
  | .non, .non => some (.bl true)
  | _, .non => some (.bl false)
  | _, _ => none
def D.isNotN : D → D → Option D
  | .non, .non => some (.bl false)
  | _, .non => some (.bl true)
  | _, _ => none
def D.ix : D → D → Option D
  | .lst xs, .int i => atI xs i
  | .tup xs, .int i => atI xs i
  | .str z, .int i => if z.length ≤ sizeLine then (atI z.cps.toList i).map fun c => .str ⟨#[c]⟩ else none
  | _, _ => none
def D.len : List D → Option D
  | [.str z] => if z.length ≤ sizeLine then some (.int z.length) else none
  | [.byt z] => if z.size ≤ sizeLine then some (.int z.size) else none
  | [.lst xs] => some (.int xs.length)
  | [.tup xs] => some (.int xs.length)
  | _ => none
def D.toInt : List D → Option D
  | [.int i] => some (.int i)
  | [.bl b] => some (.int (if b then 1 else 0))
  | _ => none
def D.toTuple : List D → Option D
  | [.lst xs] => some (.tup xs)
  | [.tup xs] => some (.tup xs)
  | _ => none
section
variable {K : PySem.W.Frag} {X : Cx}
theorem SR.or {r r' : R2} {f g h : D → D → Option D} (h1 : SR K r f) (h2 : SR K r' g) (e : ∀ a b z, h a b = some z → f a b = some z ∨ g a b = some z) : SR K (fun x y H Q => r x y H Q ∨ r' x y H Q) h := fun G H x y dx dy z Q eg rx ry q k => by
  rcases e dx dy z q with q | q
  · exact .inl (h1 G H x y dx dy z Q eg rx ry q k)
  · exact .inr (h2 G H x y dx dy z Q eg rx ry q k)
def rCatL (K : PySem.W.Frag) : R2 := fun x y H Q => ∃ l b xs zs, x = .ref l ∧ y = .ref b ∧ SqL K H l xs ∧ SqL K H b zs ∧ xs.length + zs.length ≤ sizeLine ∧ ∀ p, H p = none → Q (.ref p) (upd H p (.lst (xs ++ zs)))
theorem op_catL : OpR X (binaryOp .Add) (rCatL X.K) := by
  rintro pins s σ H x y v u Q I rx ry ⟨l, b, xs, zs, rfl, rfl, hx, hz, hl, q⟩
  cases rx; cases ry
  obtain ⟨us, r1, ⟨⟨c1, d1, t1, s1⟩, n1, g1, p1, p2, p3⟩, z1⟩ := I.list hx
  obtain ⟨ws, r2, ⟨⟨c2, d2, t2, s2⟩, n2, g2, q1, q2, q3⟩, z2⟩ := I.list hz
  simp only at p1 p2 p3 q1 q2 q3
  subst p1 p2 p3 q1 q2 q3
  have hs : us.toArray.size + ws.toArray.size ≤ sizeLine := by rw [List.size_toArray, List.size_toArray, ← r1.length, ← r2.length]; exact hl
  refine concat_meets ⟨_, g1, rfl⟩ ⟨_, g2, rfl⟩ noFill_list_add seq_list_add PySem.F.slot_list_add PySem.F.entry_list_add (PySem.F.args_list_add_2 _ _) (PyProof.Rows.list_addW l b us.toArray ws.toArray n1 n2 none none s1 s2 hs) ⟨g1, g2, ?_⟩
  have ea : us.toArray ++ ws.toArray = (us ++ ws).toArray := by simp
  rw [ea]
  exact ⟨.ref _, _, I.lnew (t' := s.toks) (r1.append r2) (by rw [List.length_append]; omega), rfl, q _ I.fresh⟩
def rAddI : R2 := rI0 fun i j => .int (i + j)
def rAddS : R2 := fun x y H Q => ∃ i j, x = .str i ∧ y = .str j ∧ i.length + j.length ≤ sizeLine ∧ Q (.str (i ++ j)) H
def rAdd (K : PySem.W.Frag) : R2 := fun x y H Q => rAddI x y H Q ∨ rAddS x y H Q ∨ rCatL K x y H Q ∨ rCatA K x y H Q
theorem op_addX : OpR X (binaryOp .Add) (rAdd X.K) := OpR.or (r := rAddI) op_add (OpR.or (r := rAddS) op_add_str (OpR.or (r := rCatL X.K) op_catL op_catA))
theorem sr_add : SR K (rAdd K) D.add := fun G H x y dx dy z Q e rx ry q k => by
  unfold D.add at q
  split at q
  · cases q; rw [rx.int, ry.int]; exact .inl ⟨_, _, rfl, rfl, k G H _ (Al.refl e) (.int _)⟩
  · split at q
    · rename_i hl; cases q; rw [rx.str, ry.str]; exact .inr (.inl ⟨_, _, rfl, rfl, hl, k G H _ (Al.refl e) (.str _)⟩)
    · cases q
  · split at q
    · rename_i hl
      cases q
      obtain ⟨p, vs, rfl, h1, r1⟩ := rx.lstR e
      obtain ⟨p2, vs2, rfl, h2, r2⟩ := ry.lstR e
      refine .inr (.inr (.inl ⟨p, p2, vs, vs2, rfl, rfl, h1, h2, by rw [r1.length, r2.length]; exact hl, fun b hb => ?_⟩))
      have a := Al.one (G := G) (p := b) (o := .lst (vs ++ vs2)) e hb
      exact k _ _ _ a (.lst (SqL.of upd_same) ((r1.append r2).mono a.g))
    · cases q
  · split at q
    · rename_i xs ys hl
      cases q
      have gx := rx.tupR
      have gy := ry.tupR
      obtain ⟨p, vs, rfl, h1, r1⟩ := rx.tup e
      obtain ⟨p2, vs2, rfl, h2, r2⟩ := ry.tup e
      refine .inr (.inr (.inr ⟨p, p2, vs, vs2, rfl, rfl, h1, h2, by rw [r1.length, r2.length]; exact hl, fun z => ?_, fun _ z => ?_, fun _ _ b hb => ?_⟩))
      · subst z
        cases r1
        exact k G H _ (Al.refl e) gy
      · subst z
        cases r2
        rw [List.append_nil] at k
        exact k G H _ (Al.refl e) gx
      · have a := Al.one (G := G) (p := b) (o := .tup (vs ++ vs2)) e hb
        exact k _ _ _ a (.tup (SqT.of upd_same) ((r1.append r2).mono a.g))
    · cases q
  · cases q
def rSubI : R2 := rI0 fun i j => .int (i - j)
theorem op_subX : OpR X (binaryOp .Sub) rSubI := op_sub
theorem sr_sub : SR K rSubI D.sub := fun G H x y dx dy z Q e rx ry q k => by
  unfold D.sub at q
  split at q
  · cases q; rw [rx.int, ry.int]; exact ⟨_, _, rfl, rfl, k G H _ (Al.refl e) (.int _)⟩
  · cases q
def rRepL (K : PySem.W.Frag) : R2 := fun x y H Q => ∃ l k xs, x = .ref l ∧ y = .int k ∧ SqL K H l xs ∧ -(2 ^ 63) ≤ k ∧ k < 2 ^ 63 ∧ xs.length * k.toNat ≤ sizeLine ∧
  ∀ p, H p = none → Q (.ref p) (upd H p (.lst (List.replicate k.toNat xs).flatten))
open PySem.Spec PyProof.Rows PySem in
theorem op_repL : OpR X (binaryOp .Mult) (rRepL X.K) := by
  rintro pins s σ H x y v u Q I rx ry ⟨l, k, xs, rfl, rfl, hx, h1, h2, hz, q⟩
  obtain ⟨t, rfl⟩ := ry
  cases rx
  obtain ⟨us, r1, ⟨⟨c1, d1, t1, s1⟩, n1, g1, p1, p2, p3⟩, z1⟩ := I.list hx
  simp only at p1 p2 p3
  subst p1 p2 p3
  have tl : s.TypeIs (.ref l) "list" := ⟨_, g1, rfl⟩
  have hs : us.toArray.size * k.toNat ≤ sizeLine := by rw [List.size_toArray, ← r1.length]; exact hz
  have cap : ¬ us.toArray.size * k.toNat > (2 ^ 63 - 1) / 8 := by have : (sizeLine : Nat) ≤ (2 ^ 63 - 1) / 8 := by decide
                                                                  omega
  have fit : ¬ (!Builtin.List.listFitsIndex k) = true := by rw [fitsIndex_both h1 h2]; exact Bool.false_ne_true
  have lng : ¬ Builtin.List.listTooLong (us.toArray.size * k.toNat) = true := by rw [notLongL hs]; exact Bool.false_ne_true
  refine wpAny_binaryOp_repeat_ref (T := "list") (U := "int") (by decide) tl (fun s1 => typeIs_int s1 k t) noFill_list_mul F.fills_int_mul F.slot_int_rmul repeat_list F.slot_int_index.lookup (call_meets F.slot_int_rmul (typeIs_int s k t) F.entry_int_rmul (F.args_int_rmul_2 _ _) (lm_int_rmul_list_any k t l us.toArray n1 none s1) ⟨g1, rfl, tl, call_meets F.slot_list_mul tl F.entry_list_mul (F.args_list_mul_2 _ _) (lm_list_mul_any l us.toArray n1 none s1 k t fit cap lng) ⟨g1, ?_⟩⟩)
  rw [listMul_foldl_if]
  exact ⟨.ref _, _, I.lnew (t' := s.toks) (r1.rep k.toNat) (by rw [PyProof.Rows.lm_len_rep_flat, Nat.mul_comm]; exact hz), rfl, q _ I.fresh⟩
def rMulI : R2 := rI CMul fun i j => .int (i * j)
def rMulW : R2 := rI CMulW fun i j => .int (i * j)
def rMul (K : PySem.W.Frag) : R2 := fun x y H Q => rMulI x y H Q ∨ rMulW x y H Q ∨ rRepL K x y H Q
theorem op_mulX : OpR X (binaryOp .Mult) (rMul X.K) := OpR.or (r := rMulI) op_mul (OpR.or (r := rMulW) op_mulW op_repL)
theorem sr_mul : SR K (rMul K) D.mul := fun G H x y dx dy z Q e rx ry q k => by
  unfold D.mul at q
  split at q
  · split at q
    · rename_i hc
      cases q
      rw [rx.int, ry.int]
      rcases hc with hc | hc
      · exact .inl ⟨_, _, rfl, rfl, hc, k G H _ (Al.refl e) (.int _)⟩
      · exact .inr (.inl ⟨_, _, rfl, rfl, hc, k G H _ (Al.refl e) (.int _)⟩)
    · cases q
  · split at q
    · rename_i hc
      cases q
      obtain ⟨p, vs, rfl, h1, r1⟩ := rx.lstR e
      rw [ry.int]
      refine .inr (.inr ⟨p, _, vs, rfl, rfl, h1, Int.le_trans (by decide) hc.1, hc.2.1, by rw [r1.length]; exact hc.2.2, fun b hb => ?_⟩)
      exact k _ _ _ (Al.one (G := G) (p := b) e hb) (.lst (SqL.of upd_same) ((r1.rep _).mono (Al.one (G := G) (p := b) e hb).g))
    · cases q
  · cases q
def rModI : R2 := rI (fun _ j => 0 < j) fun i j => .int (i % j)
theorem op_modX : OpR X (binaryOp .Mod) rModI := op_mod
theorem sr_mod : SR K rModI D.mod := fun G H x y dx dy z Q e rx ry q k => by
  unfold D.mod at q
  split at q
  · split at q
    · rename_i hc; cases q; rw [rx.int, ry.int]; exact ⟨_, _, rfl, rfl, hc, k G H _ (Al.refl e) (.int _)⟩
    · cases q
  · cases q
def rDivI : R2 := rI CDivW fun i j => .int (i / j)
theorem op_divX : OpR X (binaryOp .FloorDiv) rDivI := op_fdivW
theorem sr_fdiv : SR K rDivI D.fdiv := fun G H x y dx dy z Q e rx ry q k => by
  unfold D.fdiv at q
  split at q
  · split at q
    · rename_i hc; cases q; rw [rx.int, ry.int]; exact ⟨_, _, rfl, rfl, hc, k G H _ (Al.refl e) (.int _)⟩
    · cases q
  · cases q
def rPowI : R2 := rI CPow fun i j => .int (i ^ j.toNat)
theorem op_powX : OpR X (binaryOp .Pow) rPowI := op_pow
theorem sr_pow : SR K rPowI D.pow := fun G H x y dx dy z Q e rx ry q k => by
  unfold D.pow at q
  split at q
  · split at q
    · rename_i hc; cases q; rw [rx.int, ry.int]; exact ⟨_, _, rfl, rfl, hc, k G H _ (Al.refl e) (.int _)⟩
    · cases q
  · cases q
def rCmpI (p : Int → Int → Bool) : R2 := rI0 fun i j => .bl (p i j)
theorem sr_cmp {p : Int → Int → Bool} : SR K (rCmpI p) (D.cmp p) := fun G H x y dx dy z Q e rx ry q k => by
  unfold D.cmp at q
  split at q
  · cases q; rw [rx.int, ry.int]; exact ⟨_, _, rfl, rfl, k G H _ (Al.refl e) (.bl _)⟩
  · cases q
abbrev rLtI := rCmpI fun i j => decide (i < j)
abbrev rLeI := rCmpI fun i j => decide (i ≤ j)
abbrev rGtI := rCmpI fun i j => decide (j < i)
abbrev rGeI := rCmpI fun i j => decide (j ≤ i)
theorem op_ltX : OpR X (compareOp .Lt) rLtI := op_lt
theorem op_leX : OpR X (compareOp .LtE) rLeI := op_le
theorem op_gtX : OpR X (compareOp .Gt) rGtI := op_gt
theorem op_geX : OpR X (compareOp .GtE) rGeI := op_ge
def rNegI : V → Hp → VK → Prop := rU fun i => .int (-i)
theorem un_negX : UnR X (unaryOp .USub) rNegI := un_neg
theorem su_neg : SU K rNegI D.neg := fun G H x dx z Q e rx q k => by
  unfold D.neg at q
  split at q
  · cases q; rw [rx.int]; exact ⟨_, rfl, k G H _ (Al.refl e) (.int _)⟩
  · cases q
def rIsNX : R2 := fun x y H Q => y = .non ∧ Q (.bl (decide (x = .non))) H
def rNotNX : R2 := fun x y H Q => y = .non ∧ Q (.bl (!decide (x = .non))) H
theorem op_isNX : OpR X (compareOp .Is) rIsNX := op_isN
theorem op_notNX : OpR X (compareOp .IsNot) rNotNX := op_notN
theorem isN_of {G H : Hp} {x : V} {d : D} (r : RepT K G H x d) : decide (x = .non) = (match d with | .non => true | _ => false) := by
  rcases r with r | ⟨p, rfl, _, r⟩
  · cases r <;> rfl
  · cases d <;> first | exact r.elim | rfl
theorem sr_isN : SR K rIsNX D.isN := fun G H x y dx dy z Q e rx ry q k => by
  have h := isN_of rx
  unfold D.isN at q
  split at q
  · cases q; rw [ry.non]; exact ⟨rfl, by rw [h]; exact k G H _ (Al.refl e) (.bl _)⟩
  · cases q
    rw [ry.non]
    refine ⟨rfl, ?_⟩
    have h2 : decide (x = .non) = false := by
      rw [h]
      cases dx <;> first | rfl | (rename_i hn; exact absurd rfl hn) | (rename_i hn; exact (hn rfl).elim)
    rw [h2]
    exact k G H _ (Al.refl e) (.bl _)
  · cases q
theorem sr_notN : SR K rNotNX D.isNotN := fun G H x y dx dy z Q e rx ry q k => by
  have h := isN_of rx
  unfold D.isNotN at q
  split at q
  · cases q; rw [ry.non]; exact ⟨rfl, by rw [h]; exact k G H _ (Al.refl e) (.bl _)⟩
  · cases q
    rw [ry.non]
    refine ⟨rfl, ?_⟩
    have h2 : decide (x = .non) = false := by
      rw [h]
      cases dx <;> first | rfl | (rename_i hn; exact absurd rfl hn) | (rename_i hn; exact (hn rfl).elim)
    rw [h2]
    exact k G H _ (Al.refl e) (.bl _)
  · cases q
theorem atI_rep {G : Hp} {vs : List V} {ds : List D} {i : Int} {d : D} (r : Reps K G vs ds) (h : atI ds i = some d) : ∃ v, atI vs i = some v ∧ Rep K G v d := by
  unfold atI at h ⊢
  rw [r.length]
  cases q : ixN ds.length i with
  | none => rw [q] at h; cases h
  | some j =>
    rw [q] at h
    exact r.get (i := j) h
theorem sr_ix : SR K (rIx K) D.ix := fun G H x y dx dy z Q e rx ry q k => by
  unfold D.ix at q
  split at q
  · obtain ⟨p, vs, rfl, h1, r1⟩ := rx.lst e
    rw [ry.int]
    obtain ⟨v, hv, rv⟩ := atI_rep r1 q
    exact .inl ⟨p, vs, _, v, rfl, rfl, h1, hv, k G H _ (Al.refl e) rv⟩
  · obtain ⟨p, vs, rfl, h1, r1⟩ := rx.tup e
    rw [ry.int]
    obtain ⟨v, hv, rv⟩ := atI_rep r1 q
    exact .inr (.inl ⟨p, vs, _, v, rfl, rfl, h1, hv, k G H _ (Al.refl e) rv⟩)
  · split at q
    · rename_i zz i hl
      rw [rx.str, ry.int]
      cases q2 : atI zz.cps.toList i with
      | none => rw [q2] at q; cases q
      | some c =>
        rw [q2] at q
        cases q
        exact .inr (.inr ⟨_, _, c, rfl, rfl, hl, q2, k G H _ (Al.refl e) (.str _)⟩)
    · cases q
  · cases q
theorem RepTs.one {G H : Hp} {xs : List V} {d : D} (h : RepTs K G H xs [d]) : ∃ x, xs = [x] ∧ RepT K G H x d := by
  cases h with
  | cons r t => cases t; exact ⟨_, rfl, r⟩
def rLenX (K : PySem.W.Frag) : List V → Hp → VK → Prop := fun xs H Q => ∃ x n, xs = [x] ∧ LenV K x H n ∧ Q (.int n) H
theorem call_lenX : CallR X (.builtin "len") (rLenX X.K) := call_len
theorem sc_len : SC K (rLenX K) D.len := fun G H xs ds z Q e rx q k => by
  unfold D.len at q
  split at q
  · split at q
    · rename_i hl
      cases q
      obtain ⟨x, rfl, r⟩ := rx.one
      rw [r.str]
      exact ⟨_, _, rfl, ⟨hl, rfl⟩, k G H _ (Al.refl e) (.int _)⟩
    · cases q
  · split at q
    · rename_i hl
      cases q
      obtain ⟨x, rfl, r⟩ := rx.one
      rw [r.byt]
      exact ⟨_, _, rfl, ⟨hl, rfl⟩, k G H _ (Al.refl e) (.int _)⟩
    · cases q
  · cases q
    obtain ⟨x, rfl, r⟩ := rx.one
    obtain ⟨p, vs, rfl, h1, r1⟩ := r.lst e
    exact ⟨_, _, rfl, .inl ⟨vs, h1, rfl⟩, by rw [r1.length]; exact k G H _ (Al.refl e) (.int _)⟩
  · cases q
    obtain ⟨x, rfl, r⟩ := rx.one
    obtain ⟨p, vs, rfl, h1, r1⟩ := r.tup e
    exact ⟨_, _, rfl, .inr ⟨vs, h1, rfl⟩, by rw [r1.length]; exact k G H _ (Al.refl e) (.int _)⟩
  · cases q
def rIntX : List V → Hp → VK → Prop := fun xs H Q => (∃ i, xs = [.int i] ∧ Q (.int i) H) ∨ ∃ k, xs = [.bl k] ∧ Q (.int (if k then 1 else 0)) H
theorem call_intX : CallR X (.type "int") rIntX := call_int1
theorem sc_int : SC K rIntX D.toInt := fun G H xs ds z Q e rx q k => by
  unfold D.toInt at q
  split at q
  · cases q
    obtain ⟨x, rfl, r⟩ := rx.one
    rw [r.int]
    exact .inl ⟨_, rfl, k G H _ (Al.refl e) (.int _)⟩
  · cases q
    obtain ⟨x, rfl, r⟩ := rx.one
    rw [r.bl]
    exact .inr ⟨_, rfl, k G H _ (Al.refl e) (.int _)⟩
  · cases q
def D.seq : D → Option (List D)
  | .lst xs => some xs
  | .tup xs => some xs
  | _ => none
def rListX (K : PySem.W.Frag) : List V → Hp → VK → Prop := fun xs H Q => ∃ p ys, xs = [.ref p] ∧ (SqL K H p ys ∨ SqT K H p ys) ∧ ∀ l, H l = none → Q (.ref l) (upd H l (.lst ys))
theorem call_listX : CallR X (.type "list") (rListX X.K) := call_list_of
def dList (da : DE) : DF := fun ρ q er => da ρ (fun t ρ1 => Opt (rd ρ1 t) fun d => Opt d.seq fun ds => q (.lst ds) ρ1) er
theorem RepT.seq {G H : Hp} {v : V} {d : D} {ds : List D} (e : Ex G H) (r : RepT K G H v d) (h : d.seq = some ds) : ∃ p vs, v = .ref p ∧ (SqL K H p vs ∨ SqT K H p vs) ∧ Reps K G vs ds := by
  cases d with
  | lst xs => cases h; obtain ⟨p, vs, h1, h2, h3⟩ := r.lst e; exact ⟨p, vs, h1, .inl h2, h3⟩
  | tup xs => cases h; obtain ⟨p, vs, h1, h2, h3⟩ := r.tup e; exact ⟨p, vs, h1, .inr h2, h3⟩
  | _ => cases h
theorem fresh_no {pa : PaG} {F G H : Hp} {σ : RSt} {ρ : Ro} {p : Addr} (S : Sim K pa F G σ H ρ) (hp : H p = none) : ∀ (i : Nat) (s : Sl) (d : D), ρ[i]? = some s → s.ownD = some d → σ[i]? ≠ some (some (.ref p)) := fun i s d hs hd hσ => by
  obtain ⟨b, hb, _, ow⟩ := S.own i s d hs hd
  rw [hσ] at hb
  cases hb
  obtain ⟨o, ho⟩ := ow.some
  rw [hp] at ho
  cases ho
theorem sf_list {pa : PaG} {W : WX} {ta : TE} {da : DE} (ha : SE K pa W ta da) : SF K pa W (tCB (rListX K) (tCons ta tNil)) (dList da) := fun F G σ H ρ Q q er S h k x =>
  ha F G σ H ρ _ _ er S h (fun G1 H1 v t ρ1 e1 S1 r1 h1 => by
    obtain ⟨d, ed, ds, es, h2⟩ := h1
    obtain ⟨p, vs, rfl, hs, hr⟩ := RepT.seq S1.ex (S1.rdT r1 ed) es
    refine ⟨p, vs, rfl, hs, fun l hl => ?_⟩
    exact k G1 _ l (.lst ds) ρ1 e1 (S1.new hl) ⟨fresh_back S1.ex hl, fresh_back S1.fx hl⟩ ⟨vs, upd_same, hr⟩ (fresh_no S1 hl) h2) x
end
end DL
namespace DL
open PySem L2 Evl
def iAny (K : PySem.W.Frag) (te : TE) : TI := fun σ H R => te σ H fun x H1 =>
  (∃ a, x = .ref a ∧ (∃ xs, SqL K H1 a xs) ∧ R (Itl K a) H1) ∨ (∃ a, x = .ref a ∧ (∃ xs, SqT K H1 a xs) ∧ R (Itt K a) H1) ∨ ∃ y, x = .str y ∧ R (Its y) H1
section
variable {X : Cx} {tg : Expr}
open PySem.Spec PyProof.Rows in
theorem pi_any {l : Expr} {tl : TE} (hl : PE X l tl) : PI X tg l (iAny X.K tl) := by
  refine ⟨fun pins s σ H R I h => ?_⟩
  refine thn (hl.run pins s σ H _ I h) fun v s1 ⟨x, H1, I1, r1, q1⟩ => ?_
  rcases q1 with ⟨a, e, ⟨xs, hq⟩, q⟩ | ⟨a, e, ⟨xs, hq⟩, q⟩ | ⟨y, e, q⟩
  · subst e
    cases r1
    obtain ⟨its, rv, p, hz⟩ := I1.list hq
    refine wpAny_pyIter_list p.isList ?_
    refine ⟨s1.heap.objs.size, [s1.heap.objs.size], _, _, H1, rfl, I1.kept (t' := s1.toks) fun b o e => Heap.get?_push_of_some _ e, turn_list a _, ⟨_, Heap.get?_push_size _ rfl, rfl, rfl⟩, fun b hb => ?_, q⟩
    have e : b = s1.heap.objs.size := by simpa using hb
    subst e
    exact I1.fpOk (Nat.le_refl _) (I1.hok.fresh (Nat.le_refl _))
  · subst e
    cases r1
    obtain ⟨its, rv, p, hz⟩ := I1.tuple hq
    refine wpAny_pyIter_tuple (show s1.heap.IsTuple a its.toArray from p) ?_
    refine ⟨s1.heap.objs.size, [s1.heap.objs.size], _, _, H1, rfl, I1.kept (t' := s1.toks) fun b o e => Heap.get?_push_of_some _ e, turn_tuple a _, ⟨_, Heap.get?_push_size _ rfl, rfl, rfl⟩, fun b hb => ?_, q⟩
    have e : b = s1.heap.objs.size := by simpa using hb
    subst e
    exact I1.fpOk (Nat.le_refl _) (I1.hok.fresh (Nat.le_refl _))
  · subst e
    obtain ⟨t, rfl⟩ := r1
    cases ha : y.cps.all (· < 128)
    · exact wpAny_pyIter_wide ha (pi_one (tk := s1.toks) I1 _ (turn_str _ y t "str_iterator" (.inr rfl)) ⟨_, Heap.get?_push_size _ rfl, rfl, rfl⟩ q)
    · exact wpAny_pyIter_ascii ha (pi_one (tk := s1.toks) I1 _ (turn_str _ y t "str_ascii_iterator" (.inl rfl)) ⟨_, Heap.get?_push_size _ rfl, rfl, rfl⟩ q)
end
def D.items : D → Option (List D)
  | .lst xs => some xs
  | .tup xs => some xs
  | .str y => some (y.cps.toList.map fun c => .str ⟨#[c]⟩)
  | _ => none
def diAny (de : DE) : DI := fun ρ q er => de ρ (fun t ρ1 => match t with
  | .val d => Opt d.items fun ds => q ds ρ1
  | .bor _ => False) er
def diRng1 (de : DE) : DI := fun ρ q er => de ρ (fun t ρ1 => Opt (rd ρ1 t) fun d => match d with
  | .int j => (-(2 ^ 62) ≤ j ∧ j < 2 ^ 62) ∧ q ((List.range j.toNat).map fun (k : Nat) => .int (k : Int)) ρ1
  | _ => False) er
def diRng2 (da db : DE) : DI := fun ρ q er => da ρ (fun s ρ1 => db ρ1 (fun t ρ2 => Opt (rd ρ2 s) fun d => Opt (rd ρ2 t) fun e => match d, e with
  | .int i, .int j => (-(2 ^ 62) ≤ i ∧ i < 2 ^ 62 ∧ -(2 ^ 62) ≤ j ∧ j < 2 ^ 62) ∧ q ((List.range (j - i).toNat).map fun (k : Nat) => .int (i + (k : Int))) ρ2
  | _, _ => False) er) er
def enumD (ds : List D) : List D := ds.zipIdx.map fun p => .tup [.int (p.2 : Int), p.1]
section
variable {K : PySem.W.Frag} {pa : PaG} {W : WX} {te ta tb : TE} {de da db : DE}
theorem ItOk.mk0 {G : Hp} {J : It} {ds : List D} (h1 : ∀ i H, Ex G H → i < ds.length → J.go i H) (h2 : ∀ i H, Ex G H → ds.length ≤ i → J.stop i H)
    (h3 : ∀ i H x H', Ex G H → J.yld i H x H' → ∀ d, ds[i]? = some d → H' = H ∧ Rep K G x d) : ItOk K G J ds where
  go := h1
  stop := h2
  yld := fun i H x H' y G1 e1 e2 d hd => by
    obtain ⟨e, r⟩ := h3 i H x H' (e1.trans e2) y d hd
    subst e
    exact ⟨G1, Al.refl e2, r.mono e1⟩
theorem itOk_list {G : Hp} {a : Addr} {vs : List V} {ds : List D} (h : SqL K G a vs) (r : Reps K G vs ds) : ItOk K G (Itl K a) ds :=
  .mk0 (fun i H e hi => ⟨vs, vs[i]'(by rw [r.length]; exact hi), ex_l e h, by simp⟩) (fun i H e hi => ⟨vs, ex_l e h, by rw [r.length]; exact hi⟩)
    fun i H x H' e y d hd => by
      obtain ⟨e1, y⟩ := y
      obtain ⟨v, hv, rv⟩ := r.get hd
      have := y vs (ex_l e h)
      rw [hv] at this
      cases this
      exact ⟨e1, rv⟩
theorem itOk_tup {G : Hp} {a : Addr} {vs : List V} {ds : List D} (h : SqT K G a vs) (r : Reps K G vs ds) : ItOk K G (Itt K a) ds :=
  .mk0 (fun i H e hi => ⟨vs, vs[i]'(by rw [r.length]; exact hi), ex_t e h, by simp⟩) (fun i H e hi => ⟨vs, ex_t e h, by rw [r.length]; exact hi⟩)
    fun i H x H' e y d hd => by
      obtain ⟨e1, y⟩ := y
      obtain ⟨v, hv, rv⟩ := r.get hd
      have := y vs (ex_t e h)
      rw [hv] at this
      cases this
      exact ⟨e1, rv⟩
theorem itOk_str {G : Hp} (y : Str) : ItOk K G (Its y) (y.cps.toList.map fun c => .str ⟨#[c]⟩) :=
  .mk0 (fun i H e hi => by show i < y.cps.size; simpa using hi) (fun i H e hi => by show y.cps.size ≤ i; simpa using hi)
    fun i H x H' e h d hd => by
      obtain ⟨e1, c, hc, rfl⟩ := h
      rw [List.getElem?_map, Array.getElem?_toList, hc] at hd
      cases hd
      exact ⟨e1, .str _⟩
theorem itOk_rng {G : Hp} (lo : Int) (n : Nat) : ItOk K G (Itr lo n) ((List.range n).map fun (k : Nat) => .int (lo + (k : Int))) :=
  .mk0 (fun i H e hi => by show i < n; simpa using hi) (fun i H e hi => by show n ≤ i; simpa using hi)
    fun i H x H' e h d hd => by
      obtain ⟨e1, rfl⟩ := h
      rw [List.getElem?_map] at hd
      by_cases hi : i < n
      · rw [List.getElem?_range hi] at hd
        cases hd
        exact ⟨e1, .int _⟩
      · rw [List.getElem?_eq_none (by simpa using hi)] at hd
        cases hd
theorem enumD_get {ds : List D} {i : Nat} {d : D} (h : (enumD ds)[i]? = some d) : ∃ e, ds[i]? = some e ∧ d = .tup [.int (i : Int), e] := by
  unfold enumD at h
  rw [List.getElem?_map, List.getElem?_zipIdx] at h
  cases q : ds[i]? with
  | none => rw [q] at h; cases h
  | some e =>
    rw [q] at h
    simp at h
    exact ⟨e, rfl, h.symm⟩
theorem enumD_length (ds : List D) : (enumD ds).length = ds.length := by unfold enumD; simp
theorem itOk_enum {G : Hp} {a : Addr} {vs : List V} {ds : List D} (h : SqL K G a vs) (r : Reps K G vs ds) : ItOk K G (Ite K a) (enumD ds) where
  go := fun i H e hi => ⟨vs, vs[i]'(by rw [r.length, ← enumD_length]; exact hi), ex_l e h, by simp⟩
  stop := fun i H e hi => ⟨vs, ex_l e h, by rw [r.length, ← enumD_length]; exact hi⟩
  yld := fun i H x H' y G1 e1 e2 d hd => by
    obtain ⟨T, z, rfl, hT, rfl, hz⟩ := y
    obtain ⟨e, he, rfl⟩ := enumD_get hd
    obtain ⟨v, hv, rv⟩ := r.get he
    have := hz vs (ex_l (e1.trans e2) h)
    rw [hv] at this
    obtain rfl : v = z := Option.some.inj this
    have a := Al.one (G := G1) (p := T) (o := .tup [.int (i : Int), v]) e2 hT
    exact ⟨_, a, .tup (SqT.of upd_same) (.cons (.int _) (.cons ((rv.mono e1).mono a.g) .nil))⟩
theorem si_any (he : SE K pa W te de) : SI K pa W (iAny K te) (diAny de) := fun F G σ H ρ R q er S h k x =>
  he F G σ H ρ _ _ er S h (fun G1 H1 v t ρ1 e1 S1 r1 h1 => by
    cases t with
    | bor i => exact h1.elim
    | val d =>
      obtain ⟨ds, es, h2⟩ := h1
      have r1 : Rep K G1 v d := r1
      cases r1 with
      | lst hr rr => cases es; exact .inl ⟨_, rfl, ⟨_, ex_l S1.ex hr⟩, k G1 H1 _ ds ρ1 e1 S1 (itOk_list hr rr) h2⟩
      | tup hr rr => cases es; exact .inr (.inl ⟨_, rfl, ⟨_, ex_t S1.ex hr⟩, k G1 H1 _ ds ρ1 e1 S1 (itOk_tup hr rr) h2⟩)
      | str y => cases es; exact .inr (.inr ⟨y, rfl, k G1 H1 _ _ ρ1 e1 S1 (itOk_str y) h2⟩)
      | _ => cases es) x
theorem si_rng1 (he : SE K pa W te de) : SI K pa W (iRng1 (tCons te tNil)) (diRng1 de) := fun F G σ H ρ R q er S h k x =>
  he F G σ H ρ _ _ er S h (fun G1 H1 v t ρ1 e1 S1 r1 h1 => by
    obtain ⟨d, ed, h2⟩ := h1
    cases d with
    | int j =>
      rw [(S1.rdT r1 ed).int]
      have := itOk_rng (K := K) (G := G1) 0 j.toNat
      simp only [Int.zero_add] at this
      exact ⟨j, rfl, h2.1.1, h2.1.2, k G1 H1 _ _ ρ1 e1 S1 this h2.2⟩
    | _ => exact h2.elim) x
end
def forL (g : DG) (db : DS) (DD : Do) : List D → Ro → Prop
  | [], ρ => DD.nx ρ
  | d :: ds, ρ => g (.val d) ρ fun ρ1 => db { DD with nx := forL g db DD ds, ct := forL g db DD ds, bk := DD.nx } ρ1
def dFor (di : DI) (g : DG) (db : DS) : DS := fun DD ρ => di ρ (fun ds ρ1 => forL g db DD ds ρ1) DD.er
section
variable {K : PySem.W.Frag} {pa : PaG} {W : WX} {wi : TI} {di : DI} {g : TG} {dg : DG} {tb : TS} {db : DS} {ns : List Nat}
theorem ss_for (hi : SI K pa W wi di) (hg : SG K pa ns g dg) (hb : SS K pa W tb db) : SS K pa W (tFor wi g tb) (dFor di dg db) := fun F G σ H ρ D DD S h l =>
  hi F G σ H ρ _ _ _ S h (fun G1 H1 J ds ρ1 e1 S1 ok h1 => by
    refine ⟨fun i m σ' H' => m = ds.length - i ∧ i ≤ ds.length ∧ ∃ G2 ρ2, Ex G1 G2 ∧ Sim K pa F G2 σ' H' ρ2 ∧ forL dg db DD (ds.drop i) ρ2, ⟨_, rfl, Nat.zero_le _, G1, ρ1, Ex.refl G1, S1, h1⟩, ?_⟩
    rintro i m σ' H' ⟨rfl, hi, G2, ρ2, e2, S2, h2⟩
    by_cases hlt : i < ds.length
    · rw [List.drop_eq_getElem_cons hlt] at h2
      refine .inr ⟨ok.go i H' (e2.trans S2.ex) hlt, fun σ' H' => ∃ G2 ρ2, Ex G1 G2 ∧ Sim K pa F G2 σ' H' ρ2 ∧ forL dg db DD (ds.drop (i + 1)) ρ2,
        fun σ3 H3 hN => ⟨ds.length - (i + 1), by omega, rfl, hlt, hN⟩, fun x H3 hy => ?_⟩
      obtain ⟨G3, a, r⟩ := ok.yld i H' x H3 hy G2 e2 S2.ex ds[i] (by simp [hlt])
      have S3 := S2.al a
      refine hg F G3 σ' H3 ρ2 x (.val ds[i]) _ _ S3 r h2 fun G4 σ4 H4 ρ4 e4 S4 _ h4 => ?_
      have eG : Ex G1 G4 := (e2.trans a.g).trans e4
      refine hb F G4 σ4 H4 ρ4 _ _ S4 h4 ⟨fun G5 σ5 H5 ρ5 e5 S5 h5 => ⟨G5, ρ5, eG.trans e5, S5, h5⟩, fun G5 σ5 H5 ρ5 e5 S5 h5 => l.nx G5 σ5 H5 ρ5 ((e1.trans eG).trans e5) S5 h5,
        fun G5 σ5 H5 ρ5 e5 S5 h5 => ⟨G5, ρ5, eG.trans e5, S5, h5⟩, fun G5 σ5 H5 ρ5 v t e5 => l.rt G5 σ5 H5 ρ5 v t ((e1.trans eG).trans e5), fun G5 σ5 H5 ρ5 v t e5 => l.rf G5 σ5 H5 ρ5 v t ((e1.trans eG).trans e5),
        fun G5 σ5 H5 ρ5 C y vs fs e5 => l.er G5 σ5 H5 ρ5 C y vs fs ((e1.trans eG).trans e5)⟩
    · have e : i = ds.length := by omega
      subst e
      rw [List.drop_length] at h2
      exact .inl ⟨ok.stop _ H' (e2.trans S2.ex) (Nat.le_refl _), l.nx G2 σ' H' ρ2 (e1.trans e2) S2 h2⟩) (l.xl σ)
end
def wipeD (ρ : Ro) : List Nat → Ro
  | [] => ρ
  | v :: vs => (wipeD ρ vs).set v .no
def lcL (g : DG) (t : DT) (de : DE) (vs : List Nat) (q : List D → Ro → Prop) : List D → List D → Ro → Prop
  | [], acc, ρ => q acc ρ
  | d :: ds, acc, ρ => g (.val d) (wipeD ρ vs) fun ρ1 => t ρ1 (fun b ρ2 => if b = true then de ρ2 (fun s ρ3 => match s with
      | .val y => acc.length < sizeLine ∧ lcL g t de vs q ds (acc ++ [y]) (wipeD ρ3 vs)
      | .bor _ => False) (fun _ _ _ => False) else lcL g t de vs q ds acc (wipeD ρ2 vs)) (fun _ _ _ => False)
def dLc (di : DI) (g : DG) (t : DT) (de : DE) (vs : List Nat) : DF := fun ρ q er => di ρ (fun ds ρ1 => lcL g t de vs (fun acc ρ2 => q (.lst acc) ρ2) ds [] ρ1) er
section
variable {K : PySem.W.Frag} {pa : PaG} {W : WX} {F G H : Hp} {σ : RSt} {ρ : Ro}
theorem wipeD_get (ρ : Ro) (j : Nat) : ∀ vs : List Nat, (wipeD ρ vs)[j]? = if j ∈ vs then (if j < ρ.length then some .no else none) else ρ[j]?
  | [] => by simp [wipeD]
  | v :: vs => by
    have ih := wipeD_get ρ j vs
    have hl : ∀ vs : List Nat, (wipeD ρ vs).length = ρ.length := by
      intro vs
      induction vs with
      | nil => rfl
      | cons a vs ih => unfold wipeD; rw [List.length_set, ih]
    unfold wipeD
    by_cases h : v = j
    · subst h
      rw [List.getElem?_set, if_pos rfl, hl, if_pos (List.mem_cons_self)]
    · rw [List.getElem?_set_ne h, ih]
      by_cases h2 : j ∈ vs
      · rw [if_pos h2, if_pos (List.mem_cons_of_mem _ h2)]
      · rw [if_neg h2, if_neg (fun z => by rcases List.mem_cons.mp z with z | z; exact h z.symm; exact h2 z)]
theorem wipeD_length (ρ : Ro) : ∀ vs : List Nat, (wipeD ρ vs).length = ρ.length
  | [] => rfl
  | v :: vs => by unfold wipeD; rw [List.length_set, wipeD_length ρ vs]
theorem wipeD_some {vs : List Nat} {j : Nat} {s : Sl} (h : (wipeD ρ vs)[j]? = some s) (hs : s ≠ .no) : j ∉ vs ∧ ρ[j]? = some s := by
  rw [wipeD_get] at h
  by_cases hj : j ∈ vs
  · rw [if_pos hj] at h
    split at h
    · cases h; exact absurd rfl hs
    · cases h
  · rw [if_neg hj] at h; exact ⟨hj, h⟩
theorem Sim.wipeTo {σ' : RSt} {vs : List Nat} (S : Sim K pa F G σ H ρ) (h : wipe σ vs = wipe σ' vs) : Sim K pa F G σ' H (wipeD ρ vs) := by
  have hl : σ.length = σ'.length := by rw [← wipe_length σ vs, h, wipe_length]
  have get : ∀ j, j ∉ vs → σ[j]? = σ'[j]? := fun j hj => by
    have := congrArg (fun l => l[j]?) h
    simp only [wipe_get, if_neg hj] at this
    exact this
  have ne : ∀ {s : Sl} {d : D}, s.ownD = some d → s ≠ .no := fun {s d} e z => by subst z; cases e
  exact {
    len := by rw [wipeD_length, S.len, hl]
    ex := S.ex
    fx := S.fx
    dj := S.dj
    ofr := fun i s d p e hd hs => by
      obtain ⟨hi, e⟩ := wipeD_some e (ne hd)
      rw [← get i hi] at hs; exact S.ofr i s d p e hd hs
    val := fun i d e => by
      obtain ⟨hi, e⟩ := wipeD_some e (fun z => by cases z)
      rw [← get i hi]; exact S.val i d e
    own := fun i s d e hd => by
      obtain ⟨hi, e⟩ := wipeD_some e (ne hd)
      rw [← get i hi]; exact S.own i s d e hd
    par := fun i d e => by
      obtain ⟨hi, e⟩ := wipeD_some e (fun z => by cases z)
      rw [← get i hi]; exact S.par i d e
    gx := S.gx
    dis := fun i j s t d e p hij h1 h2 h3 h4 h5 h6 => by
      obtain ⟨hi, h1⟩ := wipeD_some h1 (ne h2)
      obtain ⟨hj, h3⟩ := wipeD_some h3 (ne h4)
      rw [← get i hi] at h5
      rw [← get j hj] at h6
      exact S.dis i j s t d e p hij h1 h2 h3 h4 h5 h6 }
theorem Sim.frameIn {D : Addr} {o : HO} (S : Sim K pa F G σ H ρ) (gD : G D = none) (hD : H D = some o) (nc : NoCode o) (fr : ∀ (i : Nat) (s : Sl) (d : DL.D), ρ[i]? = some s → s.ownD = some d → σ[i]? ≠ some (some (.ref D))) : Sim K pa (upd F D o) G σ H ρ where
  len := S.len
  ex := S.ex
  fx := fun b u q => by
    by_cases hb : b = D
    · subst hb; rw [upd_same] at q; cases q; exact hD
    · rw [upd_ne hb] at q; exact S.fx b u q
  dj := S.dj.fadd nc gD (S.dj.ne hD nc)
  val := S.val
  own := S.own
  ofr := fun i s d p h1 h2 h3 => by rw [upd_ne (fun z => fr i s d h1 h2 (by rw [h3, z]))]; exact S.ofr i s d p h1 h2 h3
  par := S.par
  gx := S.gx
  dis := S.dis
theorem xl_none {W : WX} {σ : RSt} : XL K pa F G W σ (fun _ _ _ => False) := fun _ _ _ _ _ _ _ _ _ h => h.elim
theorem sf_lc {wi : TI} {di : DI} {g : TG} {dg : DG} {tt : TT} {dt : DT} {te : TE} {de : DE} {vs ns : List Nat} (hn : ∀ i ∈ ns, i ∈ vs) (hi : SI K pa W wi di) (hg : SG K pa ns g dg) (ht : ST K pa W tt dt) (he : SE K pa W te de) : SF K pa W (tLc wi g tt te vs) (dLc di dg dt de vs) := fun F G σ H ρ Q q er S h k x =>
  hi F G σ H ρ _ _ _ S h (fun G1 H1 J ds ρ1 e1 S1 ok h1 => by
    intro D hD
    have fF : F D = none := fresh_back S1.fx hD
    have S1' : Sim K pa F G1 σ (upd H1 D (.lst [])) ρ1 := S1.new hD
    refine ⟨fun i m H' => m = ds.length - i ∧ i ≤ ds.length ∧ ∃ G2 ρ2 acc av, Ex G1 G2 ∧ Sim K pa F G2 σ H' ρ2 ∧ G2 D = none ∧ H' D = some (.lst av) ∧ Reps K G2 av acc ∧ (∀ (i : Nat) (s : Sl) (d : DL.D), ρ2[i]? = some s → s.ownD = some d → σ[i]? ≠ some (some (.ref D))) ∧ lcL dg dt de vs (fun acc ρ2 => q (.lst acc) ρ2) (ds.drop i) acc ρ2,
      ⟨_, rfl, Nat.zero_le _, G1, ρ1, [], [], Ex.refl G1, S1', fresh_back S1.ex hD, upd_same, .nil, fresh_no S1 hD, h1⟩, ?_⟩
    rintro i m H' ⟨rfl, hi, G2, ρ2, acc, av, e2, S2, gD, hHD, ra, fr, h2⟩
    by_cases hlt : i < ds.length
    · rw [List.drop_eq_getElem_cons hlt] at h2
      refine .inr ⟨ok.go i H' (e2.trans S2.ex) hlt, fun H' => ∃ G2 ρ2 acc av, Ex G1 G2 ∧ Sim K pa F G2 σ H' ρ2 ∧ G2 D = none ∧ H' D = some (.lst av) ∧ Reps K G2 av acc ∧ (∀ (i : Nat) (s : Sl) (d : DL.D), ρ2[i]? = some s → s.ownD = some d → σ[i]? ≠ some (some (.ref D))) ∧ lcL dg dt de vs (fun acc ρ2 => q (.lst acc) ρ2) (ds.drop (i + 1)) acc ρ2,
        fun H3 hN => ⟨ds.length - (i + 1), by omega, rfl, hlt, hN⟩, fun x H3 hy => ?_⟩
      obtain ⟨G3, a, r⟩ := ok.yld i H' x H3 hy G2 e2 S2.ex ds[i] (by simp [hlt])
      have hD3 : H3 D = some (.lst av) := a.h D _ hHD
      have S3 : Sim K pa (upd F D (.lst av)) G3 (wipe σ vs) H3 (wipeD ρ2 vs) := ((S2.al a).frameIn (a.n D gD (by rw [hHD]; simp)) hD3 noCode_lst fr).wipeTo wipe_wipe.symm
      refine hg _ G3 _ H3 _ x (.val ds[i]) _ _ S3 r h2 fun G4 σ4 H4 ρ4 e4 S4 w4 h4 => ?_
      have ws : wipe σ4 vs = wipe σ vs := by rw [w4 vs hn, wipe_wipe]
      refine ⟨ws, ht _ G4 σ4 H4 ρ4 _ _ _ S4 h4 (fun G5 H5 b ρ5 e5 S5 h5 => ?_) xl_none⟩
      have back : ∀ {G6 H6 : Hp} {ρ6 : Ro}, Sim K pa (upd F D (.lst av)) G6 σ4 H6 ρ6 → H6 D = some (.lst av) ∧ G6 D = none ∧ Sim K pa F G6 σ H6 (wipeD ρ6 vs) ∧ (∀ (i : Nat) (s : Sl) (d : DL.D), (wipeD ρ6 vs)[i]? = some s → s.ownD = some d → σ[i]? ≠ some (some (.ref D))) := fun {G6 H6 ρ6} S6 => by
        have S7 := S6.wipeTo (σ' := σ) ws
        refine ⟨S6.fx D _ upd_same, S6.dj D _ upd_same, S7.frame (Ex.new fF), fun i s d h1 h2 h3 => ?_⟩
        have := S7.ofr i s d D h1 h2 h3
        rw [upd_same] at this
        cases this
      cases b with
      | false =>
        obtain ⟨b1, b2, b3, b4⟩ := back S5
        exact ⟨G5, _, acc, av, ((e2.trans a.g).trans e4).trans e5, b3, b2, b1, ra.mono ((a.g.trans e4).trans e5), b4, h5⟩
      | true =>
        refine he _ G5 σ4 H5 ρ5 _ _ _ S5 h5 (fun G6 H6 y s ρ6 e6 S6 r6 h6 => ?_) xl_none
        obtain ⟨b1, b2, b3, b4⟩ := back S6
        cases s with
        | bor _ => exact h6.elim
        | val dy =>
          have ra6 := ra.mono (((a.g.trans e4).trans e5).trans e6)
          refine ⟨av, b1, by rw [ra.length]; exact h6.1, G6, _, acc ++ [dy], av ++ [y], (((e2.trans a.g).trans e4).trans e5).trans e6, ?_, b2, upd_same, ra6.append (.cons r6 .nil), b4, h6.2⟩
          refine b3.grow (Ex.refl G6) (fun b o q => ?_) (fun b o q => ?_) (b3.dj.mut b1 noCode_lst) fun i s d p h1 h2 h3 => ⟨?_, ?_⟩
          · rw [upd_ne (fun z => by rw [z, b2] at q; cases q)]; exact b3.ex b o q
          · rw [upd_ne (fun z => by rw [z, fF] at q; cases q)]; exact b3.fx b o q
          · obtain ⟨b', q1, q2, _⟩ := b3.own i s d h1 h2
            rw [h3] at q1
            cases q1
            exact q2
          · exact upd_ne fun z => b4 i s d h1 h2 (by rw [h3, z])
    · have e : i = ds.length := by omega
      subst e
      rw [List.drop_length] at h2
      exact .inl ⟨ok.stop _ H' (e2.trans S2.ex) (Nat.le_refl _), k G2 H' D (.lst acc) ρ2 (e1.trans e2) S2 ⟨gD, fF⟩ ⟨av, hHD, ra⟩ fr h2⟩) x
end
end DL
namespace DL
open PySem L2 Evl
abbrev DSp := List Sl → (D → List D → Prop) → (Addr → List (Str × D) → List D → Prop) → Prop
def outs (ρ : Ro) : List Nat → Option (List D)
  | [] => some []
  | i :: is => match ρ[i]? with
    | some (.par d) => (outs ρ is).map fun ds => d :: ds
    | _ => none
def parIx : List Sl → Nat → List Nat
  | [], _ => []
  | .par _ :: r, i => i :: parIx r (i + 1)
  | _ :: r, i => parIx r (i + 1)
inductive Outs (K : PySem.W.Frag) (G H : Hp) : List V → List Sl → List D → Prop
  | nil : Outs K G H [] [] []
  | val {v : V} {d : D} {vs : List V} {av : List Sl} {os : List D} : Outs K G H vs av os → Outs K G H (v :: vs) (.val d :: av) os
  | par {p : Addr} {d e : D} {vs : List V} {av : List Sl} {os : List D} : G p = none → OwnAt K G H p e → Outs K G H vs av os → Outs K G H (.ref p :: vs) (.par d :: av) (e :: os)
inductive ArgsR (K : PySem.W.Frag) (F G H : Hp) : List V → List Sl → Prop
  | nil : ArgsR K F G H [] []
  | val {v : V} {d : D} {vs : List V} {av : List Sl} : Rep K G v d → ArgsR K F G H vs av → ArgsR K F G H (v :: vs) (.val d :: av)
  | par {p : Addr} {d : D} {vs : List V} {av : List Sl} : G p = none → F p = none → OwnAt K G H p d → ArgsR K F G H vs av → ArgsR K F G H (.ref p :: vs) (.par d :: av)
def parA : V → Sl → List Addr
  | .ref p, .par _ => [p]
  | _, _ => []
def parsOf : List V → List Sl → List Addr
  | v :: vs, a :: av => parA v a ++ parsOf vs av
  | _, _ => []
def SpV (K : PySem.W.Frag) (n : Nat) (dsp : DSp) : Sp := fun vs H Q E => ∃ T F G av, vs.length = n ∧ Ex G H ∧ Ex F H ∧ DjT T F G H ∧ ArgsR K F G H vs av ∧ (parsOf vs av).Nodup ∧ ∃ q er, dsp av q er ∧
  (∀ G' H' v d os, Ex G G' → Ex G' H' → Ex F H' → DjT T F G' H' → Outs K G' H' vs av os → Rep K G' v d → q d os → Q v H') ∧
  (∀ G' H' C y fv fs os, Ex G G' → Ex G' H' → Ex F H' → DjT T F G' H' → Outs K G' H' vs av os → G' y = some (.xd fv) → RepF K G' fv fs → er C fs os → E (.ref C) (some y) H')
def SpF (K : PySem.W.Frag) (n : Nat) (dsp : DSp) : Sp := fun vs H Q E => ∃ T F G av, vs.length = n ∧ Ex G H ∧ Ex F H ∧ DjT T F G H ∧ ArgsR K F G H vs av ∧ (parsOf vs av).Nodup ∧ ∃ q er, dsp av q er ∧
  (∀ G' H' p d os, Ex G G' → Ex G' H' → Ex F H' → DjT T F G' H' → Outs K G' H' vs av os → G' p = none → F p = none → p ∉ parsOf vs av → OwnAt K G' H' p d → q d os → Q (.ref p) H') ∧
  (∀ G' H' C y fv fs os, Ex G G' → Ex G' H' → Ex F H' → DjT T F G' H' → Outs K G' H' vs av os → G' y = some (.xd fv) → RepF K G' fv fs → er C fs os → E (.ref C) (some y) H')
def doV (av : List Sl) (q : D → List D → Prop) (er : Addr → List (Str × D) → List D → Prop) : Do where
  nx := fun ρ => Opt (outs ρ (parIx av 0)) fun os => q .non os
  rt := fun t ρ => match t with
    | .val d => Opt (outs ρ (parIx av 0)) fun os => q d os
    | .bor _ => False
  er := fun C fs ρ => Opt (outs ρ (parIx av 0)) fun os => er C fs os
def dBody (N : Nat) (body : DS) : DSp := fun av q er => body (doV av q er) (av ++ List.replicate (N - av.length) .no)
def doF (av : List Sl) (q : D → List D → Prop) (er : Addr → List (Str × D) → List D → Prop) : Do where
  nx := fun _ => False
  rt := fun t ρ => match t with
    | .val _ => False
    | .bor i => match ρ[i]? with
      | some (.own d) => Opt (outs ρ (parIx av 0)) fun os => q d os
      | _ => False
  rf := fun d ρ => Opt (outs ρ (parIx av 0)) fun os => q d os
  er := fun C fs ρ => Opt (outs ρ (parIx av 0)) fun os => er C fs os
def dBodyF (N : Nat) (body : DS) : DSp := fun av q er => body (doF av q er) (av ++ List.replicate (N - av.length) .no)
section
variable {K : PySem.W.Frag} {F G H : Hp}
def paF (vs : List V) (i : Nat) : Addr := match vs[i]? with
  | some (.ref p) => p
  | _ => 0
def paOf (vs : List V) (T : List (Addr × Str) := []) : PaG := ⟨paF vs, fun _ => none, T⟩
theorem ArgsR.length : ∀ {vs : List V} {av : List Sl}, ArgsR K F G H vs av → vs.length = av.length
  | _, _, .nil => rfl
  | _, _, .val _ r => by rw [List.length_cons, List.length_cons, r.length]
  | _, _, .par _ _ _ r => by rw [List.length_cons, List.length_cons, r.length]
theorem ArgsR.get : ∀ {vs : List V} {av : List Sl} {i : Nat} {s : Sl}, ArgsR K F G H vs av → av[i]? = some s → ∃ v, vs[i]? = some v ∧ ((∃ d, s = .val d ∧ Rep K G v d) ∨ ∃ d p, s = .par d ∧ v = .ref p ∧ G p = none ∧ F p = none ∧ OwnAt K G H p d)
  | _, _, _, _, .nil, e => by simp at e
  | _, _, 0, _, .val h _, e => by simp at e; subst e; exact ⟨_, rfl, .inl ⟨_, rfl, h⟩⟩
  | _, _, 0, _, .par h1 h2 h3 _, e => by simp at e; subst e; exact ⟨_, rfl, .inr ⟨_, _, rfl, rfl, h1, h2, h3⟩⟩
  | _, _, i + 1, _, .val _ r, e => by
    obtain ⟨v, h1, h2⟩ := ArgsR.get (i := i) r (by simpa using e)
    exact ⟨v, by simpa using h1, h2⟩
  | _, _, i + 1, _, .par _ _ _ r, e => by
    obtain ⟨v, h1, h2⟩ := ArgsR.get (i := i) r (by simpa using e)
    exact ⟨v, by simpa using h1, h2⟩
theorem parsOf_mem : ∀ {vs : List V} {av : List Sl} {i : Nat} {d : D} {p : Addr}, av[i]? = some (.par d) → vs[i]? = some (.ref p) → p ∈ parsOf vs av
  | [], _, _, _, _, _, h => by simp at h
  | _ :: _, [], _, _, _, h, _ => by simp at h
  | v :: vs, a :: av, 0, d, p, h1, h2 => by
    simp at h1 h2
    subst h1 h2
    exact List.mem_append_left _ List.mem_cons_self
  | v :: vs, a :: av, i + 1, d, p, h1, h2 => List.mem_append_right _ (parsOf_mem (vs := vs) (av := av) (i := i) (d := d) (p := p) (by simpa using h1) (by simpa using h2))
theorem parsOf_dis : ∀ {vs : List V} {av : List Sl} {i j : Nat} {d e : D} {p : Addr}, (parsOf vs av).Nodup → i ≠ j → av[i]? = some (.par d) → av[j]? = some (.par e) → vs[i]? = some (.ref p) → vs[j]? = some (.ref p) → False
  | [], _, _, _, _, _, _, _, _, _, _, h, _ => by simp at h
  | _ :: _, [], _, _, _, _, _, _, _, h, _, _, _ => by simp at h
  | v :: vs, a :: av, 0, 0, d, e, p, hn, h, _, _, _, _ => h rfl
  | v :: vs, a :: av, 0, j + 1, d, e, p, hn, _, h1, h2, h3, h4 => by
    simp at h1 h3
    subst h1 h3
    have := parsOf_mem (vs := vs) (av := av) (i := j) (d := e) (p := p) (by simpa using h2) (by simpa using h4)
    have hn : ([p] ++ parsOf vs av).Nodup := hn
    exact (List.nodup_cons.mp hn).1 this
  | v :: vs, a :: av, i + 1, 0, d, e, p, hn, _, h1, h2, h3, h4 => by
    simp at h2 h4
    subst h2 h4
    have := parsOf_mem (vs := vs) (av := av) (i := i) (d := d) (p := p) (by simpa using h1) (by simpa using h3)
    have hn : ([p] ++ parsOf vs av).Nodup := hn
    exact (List.nodup_cons.mp hn).1 this
  | v :: vs, a :: av, i + 1, j + 1, d, e, p, hn, hij, h1, h2, h3, h4 => by
    have hn : (parA v a ++ parsOf vs av).Nodup := hn
    exact parsOf_dis (vs := vs) (av := av) (i := i) (j := j) (List.nodup_append.mp hn).2.1 (fun z => hij (by rw [z])) (by simpa using h1) (by simpa using h2) (by simpa using h3) (by simpa using h4)
theorem start_get {N : List Str} {vs : List V} {i : Nat} {v : V} (h : vs[i]? = some v) : (L2.start N vs)[i]? = some (some v) := by
  unfold L2.start
  have hi : i < vs.length := (List.getElem?_eq_some_iff.mp h).1
  rw [List.getElem?_append_left (by simpa using hi), List.getElem?_map, h]
  rfl
theorem args_get {av : List Sl} {n i : Nat} {s : Sl} (h : (av ++ List.replicate n .no)[i]? = some s) (hs : s ≠ .no) : av[i]? = some s := by
  by_cases hi : i < av.length
  · rw [List.getElem?_append_left hi] at h; exact h
  · rw [List.getElem?_append_right (by omega)] at h
    rw [List.getElem?_replicate] at h
    split at h
    · cases h; exact absurd rfl hs
    · cases h
theorem sim_start {T : List (Addr × Str)} {N : List Str} {vs : List V} {av : List Sl} (eg : Ex G H) (ef : Ex F H) (dj : DjT T F G H) (r : ArgsR K F G H vs av) (nd : (parsOf vs av).Nodup) (hN : vs.length ≤ N.length) :
    Sim K (paOf vs T) F G (L2.start N vs) H (av ++ List.replicate (N.length - av.length) .no) := by
  have own : ∀ (i : Nat) (s : Sl) (d : D), (av ++ List.replicate (N.length - av.length) .no)[i]? = some s → s.ownD = some d → av[i]? = some (.par d) ∧ ∃ p, vs[i]? = some (.ref p) ∧ G p = none ∧ F p = none ∧ OwnAt K G H p d := fun i s d h hd => by
    have h := args_get h (fun z => by subst z; cases hd)
    obtain ⟨v, hv, q⟩ := r.get h
    rcases q with ⟨d', rfl, _⟩ | ⟨d', p, rfl, rfl, h1, h2, h3⟩
    · cases hd
    · cases hd; exact ⟨h, p, hv, h1, h2, h3⟩
  refine ⟨?_, eg, ef, dj, fun i d h => ?_, fun i s d h hd => ?_, fun i s d p h hd hp => ?_, fun i d h => ?_, fun _ _ q => (by cases q), fun i j s t d e p hij h1 h2 h3 h4 h5 h6 => ?_⟩
  · unfold L2.start
    rw [List.length_append, List.length_append, List.length_map, List.length_replicate, List.length_replicate, r.length]
  · have h := args_get h (fun z => by cases z)
    obtain ⟨v, hv, q⟩ := r.get h
    rcases q with ⟨d', e, hr⟩ | ⟨d', p, e, _⟩
    · cases e; exact ⟨v, start_get hv, hr⟩
    · cases e
  · obtain ⟨_, p, h1, h2, h3, h4⟩ := own i s d h hd
    exact ⟨p, start_get h1, h2, h4⟩
  · obtain ⟨_, p', h1, h2, h3, h4⟩ := own i s d h hd
    have := start_get (N := N) h1
    rw [hp] at this
    cases this
    exact h3
  · obtain ⟨_, p', h1, h2, h3, h4⟩ := own i _ d h rfl
    rw [start_get h1, show (paOf vs T).f i = paF vs i from rfl]
    unfold paF
    rw [h1]
  · obtain ⟨a1, p1, b1, _⟩ := own i s d h1 h2
    obtain ⟨a2, p2, b2, _⟩ := own j t e h3 h4
    have c1 := start_get (N := N) b1
    have c2 := start_get (N := N) b2
    rw [h5] at c1
    rw [h6] at c2
    cases c1
    cases c2
    exact parsOf_dis nd hij a1 a2 b1 b2
theorem outs_end {T : List (Addr × Str)} {G' H' : Hp} {σ' : RSt} {ρ' : Ro} {vs0 : List V} (S : Sim K (paOf vs0 T) F G' σ' H' ρ') : ∀ {vs : List V} {av : List Sl} {k : Nat} {os : List D}, ArgsR K F G H vs av → (∀ i v, vs[i]? = some v → vs0[i + k]? = some v) → outs ρ' (parIx av k) = some os → Outs K G' H' vs av os
  | _, _, _, _, .nil, _, e => by cases e; exact .nil
  | _, _, k, _, .val _ r, h0, e => .val (outs_end S (k := k + 1) r (fun i v h => by have := h0 (i + 1) v (by simpa using h); rw [Nat.add_assoc, Nat.add_comm 1 k] at this; exact this) e)
  | .ref p :: vs, .par d0 :: av, k, os, .par h1 h2 h3 r, h0, e => by
    unfold parIx outs at e
    cases q : ρ'[k]? with
    | none => rw [q] at e; cases e
    | some s =>
      rw [q] at e
      cases s with
      | par d =>
        have e : (outs ρ' (parIx av (k + 1))).map (fun ds => d :: ds) = some os := e
        cases q2 : outs ρ' (parIx av (k + 1)) with
        | none => rw [q2] at e; cases e
        | some os' =>
          rw [q2] at e
          cases e
          obtain ⟨b, b1, b2, b3⟩ := S.own k _ d q rfl
          have b4 := S.par k d q
          have h00 := h0 0 _ rfl
          rw [Nat.zero_add] at h00
          rw [b4] at b1
          cases b1
          have ep : (paOf vs0 T).f k = p := by rw [show (paOf vs0 T).f k = paF vs0 k from rfl]; unfold paF; rw [h00]
          rw [ep] at b2 b3
          exact .par b2 b3 (outs_end S (k := k + 1) r (fun i v h => by have := h0 (i + 1) v (by simpa using h); rw [Nat.add_assoc, Nat.add_comm 1 k] at this; exact this) q2)
      | _ => cases e
theorem bodyV {N : List Str} {n : Nat} {ts : TS} {ds : DS} {vs : List V} {Q : VK} {E : XK} (h : ∀ T, SS K (paOf vs T) (fun cls d _ H => E cls d H) ts ds) (hn : n ≤ N.length) (hs : SpV K n (dBody N.length ds) vs H Q E) :
    ts { nx := fun _ H' => Q .non H', rt := Q } (L2.start N vs) H := by
  obtain ⟨T, F, G, av, hl, eg, ef, dj, r, nd, q, er, hd, kq, ke⟩ := hs
  have S := sim_start (N := N) eg ef dj r nd (by omega)
  have fin : ∀ {G' H' : Hp} {σ' : RSt} {ρ' : Ro} {os : List D}, Sim K (paOf vs T) F G' σ' H' ρ' → outs ρ' (parIx av 0) = some os → Outs K G' H' vs av os := fun {G' H' σ' ρ' os} S' e => outs_end S' r (fun i v h => h) e
  refine h T F G _ H _ _ _ S hd ⟨fun G' σ' H' ρ' e S' q' => ?_, fun _ _ _ _ _ _ q' => q'.elim, fun _ _ _ _ _ _ q' => q'.elim, fun G' σ' H' ρ' v t e S' r' q' => ?_, fun _ _ _ _ _ _ _ _ _ _ _ q' => q'.elim, fun G' σ' H' ρ' C d vs' fs e S' q' h1 h2 => ?_⟩
  · obtain ⟨os, eo, q'⟩ := q'
    exact kq G' H' .non .non os e S'.ex S'.fx S'.dj (fin S' eo) .non q'
  · cases t with
    | bor i => exact q'.elim
    | val d =>
      obtain ⟨os, eo, q'⟩ := q'
      exact kq G' H' v d os e S'.ex S'.fx S'.dj (fin S' eo) r' q'
  · obtain ⟨os, eo, q'⟩ := q'
    exact ke G' H' C d vs' fs os e S'.ex S'.fx S'.dj (fin S' eo) h1 h2 q'
theorem par_in : ∀ {vs : List V} {av : List Sl} {p : Addr}, ArgsR K F G H vs av → p ∈ parsOf vs av → ∃ (i : Nat) (d : D), av[i]? = some (Sl.par d) ∧ vs[i]? = some (V.ref p)
  | _, _, p, .nil, h => by cases h
  | v :: vs, .val d :: av, p, .val _ r, h => by
    have e : parA v (.val d) = [] := by cases v <;> rfl
    unfold parsOf at h
    rw [e, List.nil_append] at h
    obtain ⟨i, d', h1, h2⟩ := par_in r h
    exact ⟨i + 1, d', by simpa using h1, by simpa using h2⟩
  | .ref b :: vs, .par d :: av, p, .par _ _ _ r, h => by
    have h : p ∈ [b] ++ parsOf vs av := h
    rcases List.mem_append.mp h with h | h
    · have : p = b := by simpa using h
      subst this
      exact ⟨0, d, rfl, rfl⟩
    · obtain ⟨i, d', h1, h2⟩ := par_in r h
      exact ⟨i + 1, d', by simpa using h1, by simpa using h2⟩
theorem outs_at {ρ : Ro} : ∀ {av : List Sl} {k i : Nat} {d : D} {os : List D}, outs ρ (parIx av k) = some os → av[i]? = some (.par d) → ∃ e, ρ[i + k]? = some (.par e)
  | [], _, _, _, _, _, h => by simp at h
  | a :: av, k, i, d, os, h, ha => by
    cases i with
    | zero =>
      simp at ha
      subst ha
      unfold parIx outs at h
      rw [Nat.zero_add]
      cases q : ρ[k]? with
      | none => rw [q] at h; cases h
      | some s =>
        rw [q] at h
        cases s with
        | par e => exact ⟨e, rfl⟩
        | _ => cases h
    | succ i =>
      have ha : av[i]? = some (.par d) := by simpa using ha
      have hk : ∃ os', outs ρ (parIx av (k + 1)) = some os' := by
        cases a with
        | par e =>
          unfold parIx outs at h
          cases q : ρ[k]? with
          | none => rw [q] at h; cases h
          | some s =>
            rw [q] at h
            cases s with
            | par e =>
              have h : (outs ρ (parIx av (k + 1))).map (fun ds => e :: ds) = some os := h
              cases q2 : outs ρ (parIx av (k + 1)) with
              | none => rw [q2] at h; cases h
              | some os' => exact ⟨os', rfl⟩
            | _ => cases h
        | _ => exact ⟨os, h⟩
      obtain ⟨os', h'⟩ := hk
      obtain ⟨e, he⟩ := outs_at h' ha
      exact ⟨e, by rw [Nat.add_assoc, Nat.add_comm 1 k]; exact he⟩
theorem bodyF {N : List Str} {n : Nat} {ts : TS} {ds : DS} {vs : List V} {Q : VK} {E : XK} (h : ∀ T, SS K (paOf vs T) (fun cls d _ H => E cls d H) ts ds) (hn : n ≤ N.length) (hs : SpF K n (dBodyF N.length ds) vs H Q E) :
    ts { nx := fun _ H' => Q .non H', rt := Q } (L2.start N vs) H := by
  obtain ⟨T, F, G, av, hl, eg, ef, dj, r, nd, q, er, hd, kq, ke⟩ := hs
  have S := sim_start (N := N) eg ef dj r nd (by omega)
  have fin : ∀ {G' H' : Hp} {σ' : RSt} {ρ' : Ro} {os : List D}, Sim K (paOf vs T) F G' σ' H' ρ' → outs ρ' (parIx av 0) = some os → Outs K G' H' vs av os := fun {G' H' σ' ρ' os} S' e => outs_end S' r (fun i v h => h) e
  have notin : ∀ {G' H' : Hp} {σ' : RSt} {ρ' : Ro} {os : List D} {p : Addr}, Sim K (paOf vs T) F G' σ' H' ρ' → outs ρ' (parIx av 0) = some os → (∀ (i : Nat) (e : D), ρ'[i]? = some (.par e) → σ'[i]? ≠ some (some (.ref p))) → p ∉ parsOf vs av := fun {G' H' σ' ρ' os p} S' eo hp hm => by
    obtain ⟨i, d, h1, h2⟩ := par_in r hm
    obtain ⟨e, he⟩ := outs_at eo h1
    rw [Nat.add_zero] at he
    refine hp i e he ?_
    rw [S'.par i e he, show (paOf vs T).f i = paF vs i from rfl]
    unfold paF
    rw [h2]
  refine h T F G _ H _ _ _ S hd ⟨fun _ _ _ _ _ _ q' => q'.elim, fun _ _ _ _ _ _ q' => q'.elim, fun _ _ _ _ _ _ q' => q'.elim, fun G' σ' H' ρ' v t e S' r' q' => ?_, fun G' σ' H' ρ' p d e S' gp ow fr q' => ?_, fun G' σ' H' ρ' C d vs' fs e S' q' h1 h2 => ?_⟩
  · cases t with
    | val d => exact q'.elim
    | bor i =>
      have q' : (match ρ'[i]? with | some (.own d) => Opt (outs ρ' (parIx av 0)) fun os => q d os | _ => False) := q'
      have r' : σ'[i]? = some (some v) := r'
      cases ei : ρ'[i]? with
      | none => rw [ei] at q'; exact q'.elim
      | some s =>
        rw [ei] at q'
        cases s with
        | own d =>
          obtain ⟨os, eo, q'⟩ := q'
          obtain ⟨p, h1, h2, h3⟩ := S'.own i _ d ei rfl
          rw [r'] at h1
          cases h1
          exact kq G' H' p d os e S'.ex S'.fx S'.dj (fin S' eo) h2 (S'.ofr i _ d p ei rfl r') (notin S' eo fun j e' hj hp => S'.dis i j _ _ d e' p (fun z => by subst z; rw [ei] at hj; cases hj) ei rfl hj rfl r' hp) h3 q'
        | _ => exact q'.elim
  · obtain ⟨os, eo, q'⟩ := q'
    exact kq G' H' p d os e S'.ex S'.fx S'.dj (fin S' eo) gp.1 gp.2 (notin S' eo fun j e' hj hp => fr j _ e' hj rfl hp) ow q'
  · obtain ⟨os, eo, q'⟩ := q'
    exact ke G' H' C d vs' fs os e S'.ex S'.fx S'.dj (fin S' eo) h1 h2 q'
end
end DL
namespace DL
open PySem L2 Evl
def argsOf (ρ : Ro) : List T → Option (List Sl)
  | [] => some []
  | .val d :: ts => (argsOf ρ ts).map fun a => .val d :: a
  | .bor i :: ts => (rd ρ (.bor i)).bind fun d => (argsOf ρ ts).map fun a => .par d :: a
def bors : List T → List Nat
  | [] => []
  | .val _ :: ts => bors ts
  | .bor i :: ts => i :: bors ts
def Sl.setD (e : D) : Sl → Sl
  | .own _ => .own e
  | .par _ => .par e
  | s => s
def setD (ρ : Ro) (i : Nat) (e : D) : Ro := match ρ[i]? with
  | some s => ρ.set i (s.setD e)
  | none => ρ
def putOuts : Ro → List Nat → List D → Ro
  | ρ, i :: is, e :: es => putOuts (setD ρ i e) is es
  | ρ, _, _ => ρ
def dCall (dsp : DSp) (da : DA) : DE := fun ρ q er => da ρ (fun ts ρ1 => Opt (argsOf ρ1 ts) fun av => (bors ts).Nodup ∧ dsp av (fun d os => q (.val d) (putOuts ρ1 (bors ts) os)) (fun C fs os => er C fs (putOuts ρ1 (bors ts) os))) er
def dCallF (dsp : DSp) (da : DA) : DF := fun ρ q er => da ρ (fun ts ρ1 => Opt (argsOf ρ1 ts) fun av => (bors ts).Nodup ∧ dsp av (fun d os => q d (putOuts ρ1 (bors ts) os)) (fun C fs os => er C fs (putOuts ρ1 (bors ts) os))) er
section
variable {K : PySem.W.Frag} {pa : PaG} {F G G' H H' : Hp} {σ : RSt} {ρ : Ro}
theorem setD_get (ρ : Ro) (i j : Nat) (e : D) : (setD ρ i e)[j]? = if i = j then (ρ[j]?).map (Sl.setD e) else ρ[j]? := by
  unfold setD
  cases q : ρ[i]? with
  | none =>
    by_cases h : i = j
    · subst h; rw [if_pos rfl, q]; rfl
    · rw [if_neg h]
  | some s =>
    have hi : i < ρ.length := (List.getElem?_eq_some_iff.mp q).1
    by_cases h : i = j
    · subst h; rw [if_pos rfl, q]; simp [List.getElem?_set_self hi]
    · rw [if_neg h]; simp [List.getElem?_set_ne h]
theorem setD_length (ρ : Ro) (i : Nat) (e : D) : (setD ρ i e).length = ρ.length := by
  unfold setD; split <;> simp
theorem putOuts_length : ∀ (is : List Nat) (es : List D) (ρ : Ro), (putOuts ρ is es).length = ρ.length
  | [], es, ρ => by unfold putOuts; rfl
  | i :: is, [], ρ => by unfold putOuts; rfl
  | i :: is, e :: es, ρ => by unfold putOuts; rw [putOuts_length is es, setD_length]
theorem ownD_setD {s : Sl} {d e : D} (h : (s.setD e).ownD = some d) : d = e ∧ ∃ d', s.ownD = some d' := by
  cases s with
  | own x => cases h; exact ⟨rfl, x, rfl⟩
  | par x => cases h; exact ⟨rfl, x, rfl⟩
  | val x => cases h
  | no => cases h
theorem putOuts_get (P : Nat → D → Prop) : ∀ (is : List Nat) (es : List D) (ρ : Ro) (j : Nat) (s : Sl), Paired P is es → (putOuts ρ is es)[j]? = some s → (j ∉ is ∧ ρ[j]? = some s) ∨ ∃ s' e, P j e ∧ s = s'.setD e ∧ ρ[j]? = some s' ∧ j ∈ is
  | [], es, ρ, j, s, _, h => .inl ⟨by simp, by unfold putOuts at h; exact h⟩
  | i :: is, _, ρ, j, s, .cons (b := e) (l₂ := es) p ps, h => by
    have h : (putOuts (setD ρ i e) is es)[j]? = some s := h
    rcases putOuts_get P is es _ j s ps h with ⟨h1, h2⟩ | ⟨s', e', h1, h2, h3, h4⟩
    · rw [setD_get] at h2
      by_cases hij : i = j
      · subst hij
        rw [if_pos rfl] at h2
        cases q : ρ[i]? with
        | none => rw [q] at h2; cases h2
        | some s0 => rw [q] at h2; cases h2; exact .inr ⟨s0, e, p, rfl, rfl, List.mem_cons_self⟩
      · rw [if_neg hij] at h2
        exact .inl ⟨fun z => by rcases List.mem_cons.mp z with z | z; exact hij z.symm; exact h1 z, h2⟩
    · rw [setD_get] at h3
      by_cases hij : i = j
      · subst hij
        rw [if_pos rfl] at h3
        cases q : ρ[i]? with
        | none => rw [q] at h3; cases h3
        | some s0 =>
          rw [q] at h3
          cases h3
          refine .inr ⟨s0, e', h1, ?_, rfl, List.mem_cons_self⟩
          rw [h2]
          cases s0 <;> rfl
      · rw [if_neg hij] at h3
        exact .inr ⟨s', e', h1, h2, h3, List.mem_cons_of_mem _ h4⟩
open Classical in
noncomputable def calF (F H : Hp) (σ : RSt) (ρ : Ro) (is : List Nat) : Hp := fun b => if ∃ (j : Nat) (s : Sl) (d : D), j ∉ is ∧ ρ[j]? = some s ∧ s.ownD = some d ∧ σ[j]? = some (some (.ref b)) then H b else F b
theorem calF_own {is : List Nat} {b : Addr} (h : ∃ (j : Nat) (s : Sl) (d : D), j ∉ is ∧ ρ[j]? = some s ∧ s.ownD = some d ∧ σ[j]? = some (some (.ref b))) : calF F H σ ρ is b = H b := by unfold calF; rw [if_pos h]
theorem calF_ne {is : List Nat} {b : Addr} (h : ¬ ∃ (j : Nat) (s : Sl) (d : D), j ∉ is ∧ ρ[j]? = some s ∧ s.ownD = some d ∧ σ[j]? = some (some (.ref b))) : calF F H σ ρ is b = F b := by unfold calF; rw [if_neg h]
theorem calF_in (S : Sim K pa F G σ H ρ) (is : List Nat) {j : Nat} {s : Sl} {d : D} {p : Addr} (hj : j ∈ is) (h1 : ρ[j]? = some s) (h2 : s.ownD = some d) (h3 : σ[j]? = some (some (.ref p))) : calF F H σ ρ is p = none := by
  rw [calF_ne ?_]
  · exact S.ofr j s d p h1 h2 h3
  · rintro ⟨k, t, e, hk, k1, k2, k3⟩
    exact S.dis j k s t d e p (fun z => hk (z ▸ hj)) h1 h2 k1 k2 h3 k3
theorem calF_ex (S : Sim K pa F G σ H ρ) (is : List Nat) : Ex (calF F H σ ρ is) H := fun b o h => by
  by_cases c : ∃ (j : Nat) (s : Sl) (d : D), j ∉ is ∧ ρ[j]? = some s ∧ s.ownD = some d ∧ σ[j]? = some (some (.ref b))
  · rw [calF_own c] at h; exact h
  · rw [calF_ne c] at h; exact S.fx b o h
theorem calF_dj0 (S : Sim K pa F G σ H ρ) (is : List Nat) : ∀ b o, calF F H σ ρ is b = some o → G b = none := fun b o h => by
  by_cases c : ∃ (j : Nat) (s : Sl) (d : D), j ∉ is ∧ ρ[j]? = some s ∧ s.ownD = some d ∧ σ[j]? = some (some (.ref b))
  · obtain ⟨j, s, d, _, h1, h2, h3⟩ := c
    obtain ⟨p, q1, q2, _⟩ := S.own j s d h1 h2
    rw [h3] at q1
    cases q1
    exact q2
  · rw [calF_ne c] at h; exact S.dj b o h
theorem calF_dj (S : Sim K pa F G σ H ρ) (is : List Nat) : DjT pa.T (calF F H σ ρ is) G H := S.dj.to (calF_dj0 S is) (fun b hb fb => by
  by_cases c : ∃ (j : Nat) (s : Sl) (d : D), j ∉ is ∧ ρ[j]? = some s ∧ s.ownD = some d ∧ σ[j]? = some (some (.ref b))
  · obtain ⟨j, s, d, _, h1, h2, h3⟩ := c
    obtain ⟨p, q1, q2, q3⟩ := S.own j s d h1 h2
    rw [h3] at q1
    cases q1
    obtain ⟨o, ho⟩ := q3.some
    exact absurd (q3.code ho) (hb o ho)
  · rw [calF_ne c]; exact fb) (fun _ _ h => h) (fun b o h => by
  by_cases c : ∃ (j : Nat) (s : Sl) (d : D), j ∉ is ∧ ρ[j]? = some s ∧ s.ownD = some d ∧ σ[j]? = some (some (.ref b))
  · rw [calF_own c] at h
    obtain ⟨j, s, d, _, h1, h2, h3⟩ := c
    obtain ⟨p, q1, q2, q3⟩ := S.own j s d h1 h2
    rw [h3] at q1
    cases q1
    exact .inr (q3.code h)
  · rw [calF_ne c] at h; exact .inl h)
theorem calF_of (S : Sim K pa F G σ H ρ) (is : List Nat) : Ex F (calF F H σ ρ is) := fun b o h => by
  by_cases c : ∃ (j : Nat) (s : Sl) (d : D), j ∉ is ∧ ρ[j]? = some s ∧ s.ownD = some d ∧ σ[j]? = some (some (.ref b))
  · rw [calF_own c]; exact S.fx b o h
  · rw [calF_ne c]; exact h
theorem args_rel (S : Sim K pa F G σ H ρ) (is : List Nat) : ∀ {vs : List V} {ts : List T} {av : List Sl}, TkRs K G σ vs ts → argsOf ρ ts = some av → (∀ i ∈ bors ts, i ∈ is) → (bors ts).Nodup → ArgsR K (calF F H σ ρ is) G H vs av ∧ (parsOf vs av).Nodup ∧ ∀ p ∈ parsOf vs av, ∃ i ∈ bors ts, σ[i]? = some (some (.ref p)) ∧ ∃ s d, ρ[i]? = some s ∧ s.ownD = some d
  | _, _, _, .nil, e, _, _ => by cases e; exact ⟨.nil, List.nodup_nil, fun p h => by cases h⟩
  | v :: vs, .val d :: ts, av, .cons h r, e, hb, nd => by
    have e : (argsOf ρ ts).map (fun a => .val d :: a) = some av := e
    cases q : argsOf ρ ts with
    | none => rw [q] at e; cases e
    | some a =>
      rw [q] at e
      cases e
      obtain ⟨h1, h2, h3⟩ := args_rel S is r q hb nd
      have e0 : parA v (.val d) = [] := by cases v <;> rfl
      refine ⟨.val h h1, ?_, ?_⟩
      · unfold parsOf; rw [e0]; exact h2
      · intro p hp
        unfold parsOf at hp
        rw [e0] at hp
        exact h3 p hp
  | v :: vs, .bor i :: ts, av, .cons h r, e, hb, nd => by
    have e : ((ρ[i]?).bind Sl.ownD).bind (fun d => (argsOf ρ ts).map fun a => .par d :: a) = some av := e
    have h : σ[i]? = some (some v) := h
    cases q1 : ρ[i]? with
    | none => rw [q1] at e; cases e
    | some s =>
      rw [q1] at e
      cases q2 : s.ownD with
      | none => simp [q2] at e
      | some d =>
        have e : (argsOf ρ ts).map (fun a => .par d :: a) = some av := by simpa [q2] using e
        cases q : argsOf ρ ts with
        | none => rw [q] at e; cases e
        | some a =>
          rw [q] at e
          cases e
          have nd : (i :: bors ts).Nodup := nd
          obtain ⟨h1, h2, h3⟩ := args_rel S is r q (fun j hj => hb j (List.mem_cons_of_mem _ hj)) (List.nodup_cons.mp nd).2
          obtain ⟨p, k1, k2, k3⟩ := S.own i s d q1 q2
          rw [h] at k1
          cases k1
          refine ⟨.par k2 (calF_in S is (hb i List.mem_cons_self) q1 q2 h) k3 h1, ?_, ?_⟩
          · show ([p] ++ parsOf vs a).Nodup
            refine List.nodup_cons.mpr ⟨fun hm => ?_, h2⟩
            obtain ⟨j, hj, j1, s', d', j2, j3⟩ := h3 p hm
            have hij : i ≠ j := fun z => (List.nodup_cons.mp nd).1 (z ▸ hj)
            exact S.dis i j s s' d d' p hij q1 q2 j2 j3 h j1
          · intro b hm
            rcases List.mem_cons.mp (show b ∈ p :: parsOf vs a from hm) with z | z
            · subst z; exact ⟨i, List.mem_cons_self, h, s, d, q1, q2⟩
            · obtain ⟨j, hj, k⟩ := h3 b z
              exact ⟨j, List.mem_cons_of_mem _ hj, k⟩
theorem outs_rel : ∀ {vs : List V} {ts : List T} {av : List Sl} {os : List D}, TkRs K G σ vs ts → argsOf ρ ts = some av → Outs K G' H' vs av os → Paired (fun i e => ∃ p, σ[i]? = some (some (.ref p)) ∧ G' p = none ∧ OwnAt K G' H' p e) (bors ts) os
  | _, _, _, _, .nil, e, o => by cases e; cases o; exact .nil
  | v :: vs, .val d :: ts, av, os, .cons h r, e, o => by
    have e : (argsOf ρ ts).map (fun a => .val d :: a) = some av := e
    cases q : argsOf ρ ts with
    | none => rw [q] at e; cases e
    | some a =>
      rw [q] at e
      cases e
      cases o with
      | val o =>
        show Paired _ (bors ts) _
        exact outs_rel r q o
  | v :: vs, .bor i :: ts, av, os, .cons h r, e, o => by
    have e : (rd ρ (.bor i)).bind (fun d => (argsOf ρ ts).map fun a => .par d :: a) = some av := e
    have h : σ[i]? = some (some v) := h
    cases q1 : rd ρ (.bor i) with
    | none => rw [q1] at e; cases e
    | some d =>
      rw [q1] at e
      have e : (argsOf ρ ts).map (fun a => .par d :: a) = some av := e
      cases q : argsOf ρ ts with
      | none => rw [q] at e; cases e
      | some a =>
        rw [q] at e
        cases e
        cases o with
        | par h1 h2 o => exact .cons ⟨_, h, h1, h2⟩ (outs_rel r q o)
theorem Sim.behind (S : Sim K pa F G σ H ρ) {is : List Nat} {os : List D} (e : Ex G G') (gh : Ex G' H') (fx : Ex (calF F H σ ρ is) H') (dj : DjT pa.T (calF F H σ ρ is) G' H')
    (po : Paired (fun i e => ∃ p, σ[i]? = some (some (.ref p)) ∧ G' p = none ∧ OwnAt K G' H' p e) is os) : Sim K pa F G' σ H' (putOuts ρ is os) := by
  have get := fun j s h => putOuts_get _ is os ρ j s po h
  have old : ∀ (j : Nat) (s : Sl) (d : D), (putOuts ρ is os)[j]? = some s → s.ownD = some d → ∃ s' d', ρ[j]? = some s' ∧ s'.ownD = some d' := fun j s d h hd => by
    rcases get j s h with ⟨_, h2⟩ | ⟨s', e', h1, h2, h3, _⟩
    · exact ⟨s, d, h2, hd⟩
    · subst h2
      obtain ⟨_, d', hd'⟩ := ownD_setD hd
      exact ⟨s', d', h3, hd'⟩
  refine ⟨by rw [putOuts_length, S.len], gh, (calF_of S is).trans fx, dj.sub (calF_of S is), fun i d h => ?_, fun i s d h hd => ?_, fun i s d p h hd hp => ?_, fun i d h => ?_, S.gx.trans e, fun i j s t d e p hij h1 h2 h3 h4 h5 h6 => ?_⟩
  · rcases get i _ h with ⟨_, h2⟩ | ⟨s', e', h1, h2, h3, _⟩
    · obtain ⟨v, k1, k2⟩ := S.val i d h2
      exact ⟨v, k1, k2.mono e⟩
    · cases s' with
      | val x => cases h2; obtain ⟨v, k1, k2⟩ := S.val i d h3; exact ⟨v, k1, k2.mono e⟩
      | _ => cases h2
  · rcases get i _ h with ⟨hn, h2⟩ | ⟨s', e', h1, h2, h3, _⟩
    · obtain ⟨p, k1, k2, k3⟩ := S.own i s d h2 hd
      obtain ⟨o, ho⟩ := k3.some
      have c : calF F H σ ρ is p = some o := by rw [calF_own ⟨i, s, d, hn, h2, hd, k1⟩]; exact ho
      exact ⟨p, k1, dj p o c, k3.mono e (by rw [ho, fx p o c])⟩
    · subst h2
      obtain ⟨rfl, d', hd'⟩ := ownD_setD hd
      obtain ⟨p, k1, k2, k3⟩ := h1
      exact ⟨p, k1, k2, k3⟩
  · obtain ⟨s', d', k1, k2⟩ := old i s d h hd
    exact S.ofr i s' d' p k1 k2 hp
  · rcases get i _ h with ⟨_, h2⟩ | ⟨s', e', h1, h2, h3, _⟩
    · exact S.par i d h2
    · cases s' with
      | par x => exact S.par i x h3
      | _ => cases h2
  · obtain ⟨s', d', k1, k2⟩ := old i s d h1 h2
    obtain ⟨t', e', k3, k4⟩ := old j t e h3 h4
    exact S.dis i j s' t' d' e' p hij k1 k2 k3 k4 h5 h6
end
section
variable {K : PySem.W.Frag} {pa : PaG} {W : WX} {ta : TA} {da : DA} {n : Nat} {dsp : DSp}
theorem call_core {F G : Hp} {σ : RSt} {H : Hp} {ρ : Ro} {vs : List V} {ts : List T} {av : List Sl} {Q : VK} {E : XK} {q : D → List D → Prop} {er : Addr → List (Str × D) → List D → Prop} (S : Sim K pa F G σ H ρ) (r : TkRs K G σ vs ts) (ea : argsOf ρ ts = some av) (nd : (bors ts).Nodup) (hn : vs.length = n)
    (hd : dsp av q er) (k : ∀ G' H' v d os, Ex G G' → Sim K pa F G' σ H' (putOuts ρ (bors ts) os) → Rep K G' v d → q d os → Q v H')
    (ke : ∀ G' H' C y fv fs os, Ex G G' → Sim K pa F G' σ H' (putOuts ρ (bors ts) os) → G' y = some (.xd fv) → RepF K G' fv fs → er C fs os → E (.ref C) (some y) H') : SpV K n dsp vs H Q E := by
  obtain ⟨a1, a2, a3⟩ := args_rel S (bors ts) r ea (fun i hi => hi) nd
  refine ⟨pa.T, calF F H σ ρ (bors ts), G, av, hn, S.ex, calF_ex S _, calF_dj S _, a1, a2, q, er, hd, fun G' H' v d os e gh fx dj o rv hq => ?_, fun G' H' C y fv fs os e gh fx dj o h1 h2 hq => ?_⟩
  · exact k G' H' v d os e (S.behind e gh fx dj (outs_rel r ea o)) rv hq
  · exact ke G' H' C y fv fs os e (S.behind e gh fx dj (outs_rel r ea o)) h1 h2 hq
theorem call_coreF {F G : Hp} {σ : RSt} {H : Hp} {ρ : Ro} {vs : List V} {ts : List T} {av : List Sl} {Q : VK} {E : XK} {q : D → List D → Prop} {er : Addr → List (Str × D) → List D → Prop} (S : Sim K pa F G σ H ρ) (r : TkRs K G σ vs ts) (ea : argsOf ρ ts = some av) (nd : (bors ts).Nodup) (hn : vs.length = n)
    (hd : dsp av q er) (k : ∀ G' H' p d os, Ex G G' → Sim K pa F G' σ H' (putOuts ρ (bors ts) os) → G' p = none ∧ F p = none → OwnAt K G' H' p d → (∀ (i : Nat) (s : Sl) (d : D), (putOuts ρ (bors ts) os)[i]? = some s → s.ownD = some d → σ[i]? ≠ some (some (.ref p))) → q d os → Q (.ref p) H')
    (ke : ∀ G' H' C y fv fs os, Ex G G' → Sim K pa F G' σ H' (putOuts ρ (bors ts) os) → G' y = some (.xd fv) → RepF K G' fv fs → er C fs os → E (.ref C) (some y) H') : SpF K n dsp vs H Q E := by
  obtain ⟨a1, a2, a3⟩ := args_rel S (bors ts) r ea (fun i hi => hi) nd
  refine ⟨pa.T, calF F H σ ρ (bors ts), G, av, hn, S.ex, calF_ex S _, calF_dj S _, a1, a2, q, er, hd, fun G' H' p d os e gh fx dj o gp fp np ow hq => ?_, fun G' H' C y fv fs os e gh fx dj o h1 h2 hq => ?_⟩
  · have po := outs_rel (σ := σ) r ea o
    have S' := S.behind e gh fx dj po
    refine k G' H' p d os e S' ⟨gp, fresh_back (calF_of S _) fp⟩ ow (fun i s d' hs hd' hp => ?_) hq
    rcases putOuts_get _ _ os ρ i s po hs with ⟨hi, h2⟩ | ⟨s', e', h1, h2, h3, h4⟩
    · obtain ⟨b, k1, _, k3⟩ := S.own i s d' h2 hd'
      rw [hp] at k1
      cases k1
      obtain ⟨o', ho⟩ := k3.some
      rw [calF_own ⟨i, s, d', hi, h2, hd', hp⟩, ho] at fp
      cases fp
    · refine np ?_
      have hlen : ∀ {vs : List V} {ts : List T} {av : List Sl}, TkRs K G σ vs ts → argsOf ρ ts = some av → i ∈ bors ts → p ∈ parsOf vs av := by
        intro vs ts
        induction ts generalizing vs with
        | nil => intro av _ _ h; cases h
        | cons t ts ih =>
          intro av r e hi
          cases r with
          | cons h r =>
            cases t with
            | val d =>
              have e : (argsOf ρ ts).map (fun a => .val d :: a) = some av := e
              cases q : argsOf ρ ts with
              | none => rw [q] at e; cases e
              | some a => rw [q] at e; cases e; exact List.mem_append_right _ (ih r q hi)
            | bor j =>
              have e : (rd ρ (.bor j)).bind (fun d => (argsOf ρ ts).map fun a => .par d :: a) = some av := e
              cases q1 : rd ρ (.bor j) with
              | none => rw [q1] at e; cases e
              | some d =>
                rw [q1] at e
                have e : (argsOf ρ ts).map (fun a => .par d :: a) = some av := e
                cases q : argsOf ρ ts with
                | none => rw [q] at e; cases e
                | some a =>
                  rw [q] at e
                  cases e
                  rcases List.mem_cons.mp (show i ∈ j :: bors ts from hi) with z | z
                  · subst z
                    have h : σ[i]? = some (some _) := h
                    rw [hp] at h
                    cases h
                    exact List.mem_append_left _ List.mem_cons_self
                  · exact List.mem_append_right _ (ih r q z)
      exact hlen r ea h4
  · exact ke G' H' C y fv fs os e (S.behind e gh fx dj (outs_rel r ea o)) h1 h2 hq
theorem TkRs.length {G : Hp} {σ : RSt} : ∀ {vs : List V} {ts : List T}, TkRs K G σ vs ts → vs.length = ts.length
  | _, _, .nil => rfl
  | _, _, .cons _ r => by rw [List.length_cons, List.length_cons, r.length]
def dN (n : Nat) (da : DA) : DA := fun ρ q er => da ρ (fun ts ρ1 => ts.length = n ∧ q ts ρ1) er
def noEr (dsp : DSp) : DSp := fun av q _ => dsp av q fun _ _ _ => False
theorem se_call (ha : SA K pa W ta da) : SE K pa W (tCall (SpV K n dsp) [] L2.E0 ta) (dCall (noEr dsp) (dN n da)) := fun F G σ H ρ Q q er S h k x =>
  ha F G σ H ρ _ _ er S h (fun G1 H1 vs ts ρ1 e1 S1 r1 h1 => by
    obtain ⟨hl, av, ea, nd, hd⟩ := h1
    show SpV K n dsp (vs ++ []) H1 _ _
    rw [List.append_nil]
    exact call_core S1 r1 ea nd (by rw [r1.length]; exact hl) hd (fun G' H' v d os e S' rv hq => k G' H' v (.val d) _ (e1.trans e) S' rv hq) (fun G' H' C y fv fs os e S' h1 h2 hq => hq.elim)) x
theorem sf_call (ha : SA K pa W ta da) : SF K pa W (tCall (SpF K n dsp) [] L2.E0 ta) (dCallF (noEr dsp) (dN n da)) := fun F G σ H ρ Q q er S h k x =>
  ha F G σ H ρ _ _ er S h (fun G1 H1 vs ts ρ1 e1 S1 r1 h1 => by
    obtain ⟨hl, av, ea, nd, hd⟩ := h1
    show SpF K n dsp (vs ++ []) H1 _ _
    rw [List.append_nil]
    exact call_coreF S1 r1 ea nd (by rw [r1.length]; exact hl) hd (fun G' H' p d os e S' gp ow fr hq => k G' H' p d _ (e1.trans e) S' gp ow fr hq) (fun G' H' C y fv fs os e S' h1 h2 hq => hq.elim)) x
end
end DL
namespace DL
open PySem L2 Evl
section
variable {K : PySem.W.Frag} {pa : PaG} {F G G' H H' : Hp} {σ : RSt} {ρ : Ro}
theorem Sim.mut (S : Sim K pa F G σ H ρ) {i : Nat} {s : Sl} {d e : D} {p : Addr} {o : HO} (h1 : ρ[i]? = some s) (h2 : s.ownD = some d) (h3 : σ[i]? = some (some (.ref p))) (ow : OwnAt K G (upd H p o) p e) : Sim K pa F G σ (upd H p o) (setD ρ i e) := by
  obtain ⟨b, q1, gp, ow0⟩ := S.own i s d h1 h2
  rw [h3] at q1
  cases q1
  obtain ⟨o0, ho0⟩ := ow0.some
  have fp := S.ofr i s d p h1 h2 h3
  refine ⟨by rw [setD_length, S.len], fun b o' q => ?_, fun b o' q => ?_, S.dj.mut ho0 (ow0.code ho0), fun j d' h => ?_, fun j t d' h hd => ?_, fun j t d' b h hd hb => ?_, fun j d' h => ?_, S.gx, fun j k t t' d' e' b hjk k1 k2 k3 k4 k5 k6 => ?_⟩
  · rw [upd_ne (fun z => by rw [z, gp] at q; cases q)]; exact S.ex b o' q
  · rw [upd_ne (fun z => by rw [z, fp] at q; cases q)]; exact S.fx b o' q
  · rw [setD_get] at h
    by_cases hij : i = j
    · subst hij
      rw [if_pos rfl, h1] at h
      have h : some (s.setD e) = some (Sl.val d') := h
      cases s <;> first | (cases h2; done) | cases h
    · rw [if_neg hij] at h; exact S.val j d' h
  · rw [setD_get] at h
    by_cases hij : i = j
    · subst hij
      rw [if_pos rfl, h1] at h
      cases h
      obtain ⟨rfl, _⟩ := ownD_setD hd
      exact ⟨p, h3, gp, ow⟩
    · rw [if_neg hij] at h
      obtain ⟨b, k1, k2, k3⟩ := S.own j t d' h hd
      exact ⟨b, k1, k2, k3.mono (Ex.refl G) (upd_ne fun z => S.dis i j s t d d' p hij h1 h2 h hd h3 (by rw [k1, z])).symm⟩
  · rw [setD_get] at h
    by_cases hij : i = j
    · subst hij
      rw [h3] at hb
      cases hb
      exact fp
    · rw [if_neg hij] at h; exact S.ofr j t d' b h hd hb
  · rw [setD_get] at h
    by_cases hij : i = j
    · subst hij
      rw [if_pos rfl, h1] at h
      cases s with
      | par x => exact S.par i x h1
      | _ => cases h
    · rw [if_neg hij] at h; exact S.par j d' h
  · have old : ∀ {j : Nat} {t : Sl} {d' : D}, (setD ρ i e)[j]? = some t → t.ownD = some d' → ∃ t' e', ρ[j]? = some t' ∧ t'.ownD = some e' := fun {j t d'} h hd => by
      rw [setD_get] at h
      by_cases hij : i = j
      · subst hij; exact ⟨s, d, h1, h2⟩
      · rw [if_neg hij] at h; exact ⟨t, d', h, hd⟩
    obtain ⟨t1, e1, m1, m2⟩ := old k1 k2
    obtain ⟨t2, e2, m3, m4⟩ := old k3 k4
    exact S.dis j k t1 t2 e1 e2 b hjk m1 m2 m3 m4 k5 k6
end
def ownAt (ρ : Ro) (i : Nat) : Option D := (ρ[i]?).bind Sl.ownD
theorem ownAt_some {ρ : Ro} {i : Nat} {d : D} (h : ownAt ρ i = some d) : ∃ s, ρ[i]? = some s ∧ s.ownD = some d := by
  unfold ownAt at h
  cases q : ρ[i]? with
  | none => rw [q] at h; cases h
  | some s => rw [q] at h; exact ⟨s, rfl, h⟩
def D.isLst : D → Bool
  | .lst _ => true
  | _ => false
def dAppend (i : Nat) (de : DE) : DE := fun ρ q er => Opt (ownAt ρ i) fun d0 => d0.isLst = true ∧ de ρ (fun t ρ1 => match t with
  | .val e => Opt (ownAt ρ1 i) fun d => (match d with
    | .lst ds => ds.length < sizeLine ∧ q (.val .non) (setD ρ1 i (.lst (ds ++ [e])))
    | _ => False)
  | .bor _ => False) er
def dSetIx (i : Nat) (dk de : DE) : DS := fun DD ρ => de ρ (fun t ρ1 => match t with
  | .val e => (ownAt ρ1 i).isSome = true ∧ dk ρ1 (fun u ρ2 => Opt (rd ρ2 u) fun k => Opt (ownAt ρ2 i) fun d => match d, k with
    | .lst ds, .int z => Opt (ixN ds.length z) fun j => DD.nx (setD ρ2 i (.lst (ds.set j e)))
    | _, _ => False) DD.er
  | .bor _ => False) DD.er
def dFld (Cs : List Addr) (f : Str) (de : DE) : DE := fun ρ q er => de ρ (fun t ρ1 => Opt (rd ρ1 t) fun d => match d with
  | .ins C es => C ∈ Cs ∧ Opt (es.lookup f) fun e => q (.val e) ρ1
  | _ => False) er
def putFD (f : Str) (e : D) : List (Str × D) → List (Str × D)
  | [] => [(f, e)]
  | (g, x) :: r => if g = f then (g, e) :: r else (g, x) :: putFD f e r
def dSetF (Cs : List Addr) (i : Nat) (f : Str) (de : DE) : DS := fun DD ρ => de ρ (fun t ρ1 => match t with
  | .val e => Opt (ownAt ρ1 i) fun d => (match d with
    | .ins C es => C ∈ Cs ∧ es.length < 1000 ∧ DD.nx (setD ρ1 i (.ins C (putFD f e es)))
    | _ => False)
  | .bor _ => False) DD.er
section
variable {K : PySem.W.Frag} {pa : PaG} {W : WX} {te ta : TE} {de da dk : DE}
theorem own_lst {G H : Hp} {p : Addr} {d : D} (h : OwnAt K G H p d) (e : d.isLst = true) : ∃ vs, H p = some (HO.lst vs) := by
  cases d with
  | lst ds => obtain ⟨vs, h1, _⟩ := h; exact ⟨vs, h1⟩
  | _ => cases e
theorem se_append {i : Nat} (he : SE K pa W te de) : SE K pa W (tBM K "list" rAppend (tVar i) (tCons te tNil)) (dAppend i de) := fun F G σ H ρ Q q er S h k x => by
  obtain ⟨d0, e0, hl, h⟩ := h
  obtain ⟨s, es, ed⟩ := ownAt_some e0
  obtain ⟨p, hp, gp, ow⟩ := S.own i s d0 es ed
  obtain ⟨vs0, hv0⟩ := own_lst ow hl
  refine ⟨.ref p, hp, .inl ⟨rfl, vs0, SqL.of hv0⟩, ?_⟩
  refine he F G σ H ρ _ _ er S h (fun G1 H1 v t ρ1 e1 S1 r1 h1 => ?_) x
  cases t with
  | bor j => exact h1.elim
  | val e =>
    obtain ⟨d, ed1, h2⟩ := h1
    obtain ⟨s1, es1, ed1⟩ := ownAt_some ed1
    obtain ⟨b, hb, gb, ow1⟩ := S1.own i s1 d es1 ed1
    rw [hp] at hb
    cases hb
    cases d with
    | lst ds =>
      obtain ⟨vs, hv, rr⟩ := ow1
      refine ⟨p, vs, v, rfl, rfl, hv, by rw [rr.length]; exact h2.1, ?_⟩
      exact k G1 _ .non (.val .non) _ e1 (S1.mut (e := .lst (ds ++ [e])) es1 ed1 hp ⟨_, upd_same, rr.append (.cons r1 .nil)⟩) .non h2.2
    | _ => exact h2.elim
theorem ss_setIx {i : Nat} {tk : TE} (hk : SE K pa W tk dk) (he : SE K pa W te de) : SS K pa W (tAsg te (gSub (tVar i) tk rSetL)) (dSetIx i dk de) := fun F G σ H ρ D DD S h l =>
  he F G σ H ρ _ _ _ S h (fun G1 H1 v t ρ1 e1 S1 r1 h1 => by
    cases t with
    | bor j => exact h1.elim
    | val e =>
      obtain ⟨hs, h1⟩ := h1
      cases q : ownAt ρ1 i with
      | none => rw [q] at hs; cases hs
      | some d0 =>
        obtain ⟨s, es, ed⟩ := ownAt_some q
        obtain ⟨p, hp, gp, ow⟩ := S1.own i s d0 es ed
        refine ⟨.ref p, hp, ?_⟩
        refine hk F G1 σ H1 ρ1 _ _ _ S1 h1 (fun G2 H2 w u ρ2 e2 S2 r2 h2 => ?_) ((l.xl σ).grow e1)
        obtain ⟨dk', ek, d, ed2, h3⟩ := h2
        obtain ⟨s2, es2, ed2⟩ := ownAt_some ed2
        obtain ⟨b, hb, gb, ow2⟩ := S2.own i s2 d es2 ed2
        rw [hp] at hb
        cases hb
        cases d with
        | lst ds =>
          cases dk' with
          | int z =>
            obtain ⟨j, ej, h4⟩ := h3
            obtain ⟨vs, hv, rr⟩ := ow2
            rw [(S2.rdT r2 ek).int]
            refine ⟨p, vs, z, j, rfl, rfl, hv, by rw [rr.length]; exact ej, ?_⟩
            have r1 : Rep K G1 v e := r1
            exact l.nx G2 σ _ _ (e1.trans e2) (S2.mut (e := .lst (ds.set j e)) es2 ed2 hp ⟨_, upd_same, rr.set (r1.mono e2) j⟩) h4
          | _ => exact h3.elim
        | _ => exact h3.elim) (l.xl σ)
theorem RepF.lookup {G : Hp} {f : Str} {e : D} : ∀ {vs : List (Str × V)} {ds : List (Str × D)}, RepF K G vs ds → ds.lookup f = some e → ∃ v, vs.lookup f = some v ∧ Rep K G v e
  | _, _, .nil, h => by cases h
  | _, _, .cons (k := k) (v := v) (d := d) (vs := vs) (ds := ds) r rr, h => by
    rw [List.lookup_cons] at h ⊢
    cases hk : (f == k) with
    | true => rw [hk] at h; cases h; exact ⟨v, rfl, r⟩
    | false => rw [hk] at h; exact RepF.lookup rr h
theorem RepF.length {G : Hp} : ∀ {vs : List (Str × V)} {ds : List (Str × D)}, RepF K G vs ds → vs.length = ds.length
  | _, _, .nil => rfl
  | _, _, .cons _ r => by rw [List.length_cons, List.length_cons, r.length]
end
section
variable {K : PySem.W.Frag} {pa : PaG} {F G G' H H' : Hp} {σ : RSt} {ρ : Ro}
theorem Sim.push (S : Sim K pa F G σ H ρ) {p : Addr} {d : D} (gp : G p = none ∧ F p = none) (ow : OwnAt K G H p d) (fr : ∀ (i : Nat) (s : Sl) (d : D), ρ[i]? = some s → s.ownD = some d → σ[i]? ≠ some (some (.ref p))) :
    Sim K pa F G (σ ++ [some (.ref p)]) H (ρ ++ [.own d]) := by
  have ind : ∀ {i : Nat} {s : Sl}, (ρ ++ [.own d])[i]? = some s → (ρ[i]? = some s ∧ (σ ++ [some (.ref p)])[i]? = σ[i]?) ∨ (i = ρ.length ∧ s = .own d ∧ (σ ++ [some (V.ref p)])[i]? = some (some (.ref p))) := fun {i s} h => by
    by_cases hi : i < ρ.length
    · rw [List.getElem?_append_left hi] at h
      exact .inl ⟨h, List.getElem?_append_left (by rw [← S.len]; exact hi)⟩
    · rw [List.getElem?_append_right (by omega)] at h
      by_cases hi2 : i - ρ.length = 0
      · have e : i = ρ.length := by omega
        subst e
        rw [Nat.sub_self] at h
        cases h
        exact .inr ⟨rfl, rfl, by rw [S.len, List.getElem?_append_right (Nat.le_refl _), Nat.sub_self]; rfl⟩
      · rw [List.getElem?_cons] at h
        rw [if_neg hi2] at h
        cases h
  refine ⟨by rw [List.length_append, List.length_append, S.len]; rfl, S.ex, S.fx, S.dj, fun i e h => ?_, fun i s e h hd => ?_, fun i s e b h hd hb => ?_, fun i e h => ?_, S.gx, fun i j s t e f b hij h1 h2 h3 h4 h5 h6 => ?_⟩
  · rcases ind h with ⟨h, eq⟩ | ⟨_, z, _⟩
    · rw [eq]; exact S.val i e h
    · cases z
  · rcases ind h with ⟨h, eq⟩ | ⟨_, z, eq⟩
    · rw [eq]; exact S.own i s e h hd
    · subst z; cases hd; exact ⟨p, eq, gp.1, ow⟩
  · rcases ind h with ⟨h, eq⟩ | ⟨_, z, eq⟩
    · rw [eq] at hb; exact S.ofr i s e b h hd hb
    · rw [eq] at hb; cases hb; exact gp.2
  · rcases ind h with ⟨h, eq⟩ | ⟨_, z, _⟩
    · rw [eq]; exact S.par i e h
    · cases z
  · rcases ind h1 with ⟨k1, eq1⟩ | ⟨k1, z1, eq1⟩
    · rcases ind h3 with ⟨k3, eq3⟩ | ⟨k3, z3, eq3⟩
      · rw [eq1] at h5; rw [eq3] at h6; exact S.dis i j s t e f b hij k1 h2 k3 h4 h5 h6
      · rw [eq1] at h5; rw [eq3] at h6; cases h6; exact fr i s e k1 h2 h5
    · rcases ind h3 with ⟨k3, eq3⟩ | ⟨k3, z3, eq3⟩
      · rw [eq1] at h5; cases h5; rw [eq3] at h6; exact fr j t f k3 h4 h6
      · exact hij (k1.trans k3.symm)
end
def dMake (C : Addr) (dsp : DSp) (da : DA) : DF := fun ρ q er => da ρ (fun ts ρ1 => Opt (argsOf ρ1 ts) fun av => (bors ts).Nodup ∧ dsp (.par (.ins C []) :: av) (fun d os => match d, os with
    | .non, o :: os => q o (putOuts ρ1 (bors ts) os)
    | _, _ => False) (fun C' fs os => match os with
    | _ :: os => er C' fs (putOuts ρ1 (bors ts) os)
    | _ => False)) er
def D.noF (m : Str) (C : Addr) : D → Bool
  | .ins C' es => C' == C && (es.lookup m).isNone
  | _ => false
def dMeth (C : Addr) (m : Str) (dsp : DSp) (de : DE) (da : DA) : DE := fun ρ q er => de ρ (fun t ρ1 => Opt (rd ρ1 t) fun d => d.noF m C = true ∧ da ρ1 (fun ts ρ2 => Opt (argsOf ρ2 (t :: ts)) fun av => (bors (t :: ts)).Nodup ∧ dsp av (fun d os => q (.val d) (putOuts ρ2 (bors (t :: ts)) os)) (fun C' fs os => er C' fs (putOuts ρ2 (bors (t :: ts)) os))) er) er
end DL
namespace DL
open PySem L2 Evl
mutual
def D.toP : D → Option PyData
  | .non => some .none
  | .bl b => some (.bool b)
  | .int i => some (.int i)
  | .str x => some (.str x)
  | .lst xs => (D.toPs xs).map .list
  | .tup xs => (D.toPs xs).map .tuple
  | .byt _ => none
  | .dct _ => none
  | .ins _ _ => none
  | .ptr _ => none
  | .ty _ => none
  | .exc _ _ => none
def D.toPs : List D → Option (List PyData)
  | [] => some []
  | d :: ds => (D.toP d).bind fun p => (D.toPs ds).map fun ps => p :: ps
end
def D.eqB (a b : D) : Option Bool := a.toP.bind fun p => b.toP.bind fun q => if SeqAt.shaped p = true ∧ SeqAt.shaped q = true then some (PyData.eqv p q) else none
def D.eq (a b : D) : Option D := (D.eqB a b).map .bl
def D.ne (a b : D) : Option D := (D.eqB a b).map fun c => .bl (!c)
section
variable {K : PySem.W.Frag} {X : Cx}
mutual
theorem rep_dp {G H : Hp} (e : Ex G H) : ∀ {d : D} {v : V} {p : PyData}, Rep K G v d → d.toP = some p → Dp K H v p
  | .non, _, _, .non, h => by cases h; exact .non
  | .bl _, _, _, .bl _, h => by cases h; exact .bl _
  | .int _, _, _, .int _, h => by cases h; exact .int _
  | .str _, _, _, .str _, h => by cases h; exact .str _
  | .lst xs, _, p, .lst hr rr, h => by
    have h : (D.toPs xs).map PyData.list = some p := by rw [← h, D.toP]
    cases q : D.toPs xs with
    | none => rw [q] at h; cases h
    | some ps => rw [q] at h; cases h; exact .lst (ex_l e hr) (reps_dp e rr q)
  | .tup xs, _, p, .tup hr rr, h => by
    have h : (D.toPs xs).map PyData.tuple = some p := by rw [← h, D.toP]
    cases q : D.toPs xs with
    | none => rw [q] at h; cases h
    | some ps => rw [q] at h; cases h; exact .tup (ex_t e hr) (reps_dp e rr q)
  | .byt _, _, _, _, h => by rw [D.toP] at h; cases h
  | .dct _, _, _, _, h => by rw [D.toP] at h; cases h
  | .ins _ _, _, _, _, h => by rw [D.toP] at h; cases h
  | .ptr _, _, _, _, h => by rw [D.toP] at h; cases h
  | .ty _, _, _, _, h => by rw [D.toP] at h; cases h
  | .exc _ _, _, _, _, h => by rw [D.toP] at h; cases h
theorem reps_dp {G H : Hp} (e : Ex G H) : ∀ {ds : List D} {vs : List V} {ps : List PyData}, Reps K G vs ds → D.toPs ds = some ps → DpAll K H vs ps
  | [], _, _, .nil, h => by rw [D.toPs] at h; cases h; exact .nil
  | d :: ds, _, ps, .cons r rr, h => by
    rw [D.toPs] at h
    cases q : D.toP d with
    | none => rw [q] at h; cases h
    | some p =>
      rw [q] at h
      cases q2 : D.toPs ds with
      | none => rw [q2] at h; cases h
      | some ps => rw [q2] at h; cases h; exact .cons (rep_dp e r q) (reps_dp e rr q2)
end
theorem repT_dp {G H : Hp} {d : D} {v : V} {p : PyData} (e : Ex G H) (r : RepT K G H v d) (h : d.toP = some p) : Dp K H v p := by
  rcases r with r | ⟨b, rfl, _, r⟩
  · exact rep_dp e r h
  · cases d with
    | lst xs =>
      obtain ⟨vs, h1, rr⟩ := r
      rw [D.toP] at h
      cases q : D.toPs xs with
      | none => rw [q] at h; cases h
      | some ps => rw [q] at h; cases h; exact .lst (SqL.of h1) (reps_dp e rr q)
    | dct _ => rw [D.toP] at h; cases h
    | ins _ _ => rw [D.toP] at h; cases h
    | _ => exact r.elim
theorem eqB_some {a b : D} {c : Bool} (h : D.eqB a b = some c) : ∃ p q, a.toP = some p ∧ b.toP = some q ∧ SeqAt.shaped p = true ∧ SeqAt.shaped q = true ∧ c = PyData.eqv p q := by
  unfold D.eqB at h
  cases q1 : a.toP with
  | none => rw [q1] at h; cases h
  | some p =>
    cases q2 : b.toP with
    | none => rw [q1, q2] at h; cases h
    | some q =>
      rw [q1, q2] at h
      have h : (if SeqAt.shaped p = true ∧ SeqAt.shaped q = true then some (PyData.eqv p q) else none) = some c := h
      split at h
      · rename_i hs; cases h; exact ⟨p, q, rfl, rfl, hs.1, hs.2, rfl⟩
      · cases h
theorem sr_eq : SR K (rEqD K) D.eq := fun G H x y dx dy z Q e rx ry q k => by
  unfold D.eq at q
  cases qc : D.eqB dx dy with
  | none => rw [qc] at q; cases q
  | some c =>
    rw [qc] at q
    cases q
    obtain ⟨p1, p2, h1, h2, s1, s2, rfl⟩ := eqB_some qc
    exact ⟨p1, p2, repT_dp e rx h1, repT_dp e ry h2, s1, s2, k G H _ (Al.refl e) (.bl _)⟩
end
def dCut (xs : List D) (lo hi : Option Int) : List D := (xs.drop (HT.sIx xs.length 0 lo)).take (HT.sIx xs.length xs.length hi - HT.sIx xs.length 0 lo)
def D.cut : D → Option Int → Option Int → Option D
  | .lst xs, lo, hi => some (.lst (dCut xs lo hi))
  | .tup xs, lo, hi => some (.tup (dCut xs lo hi))
  | .str z, lo, hi => if z.length ≤ sizeLine then some (.str (cutS z lo hi)) else none
  | _, _, _ => none
abbrev DO := Ro → (Option Int → Ro → Prop) → ER → Prop
def dNoP : DO := fun ρ q _ => q none ρ
def dPart (de : DE) : DO := fun ρ q er => de ρ (fun t ρ1 => Opt (rd ρ1 t) fun d => match d with
  | .int i => q (some i) ρ1
  | _ => False) er
def dSl (de : DE) (dl dh : DO) : DE := fun ρ q er => de ρ (fun t ρ1 => dl ρ1 (fun l ρ2 => dh ρ2 (fun u ρ3 => Opt (rd ρ3 t) fun d => Opt (d.cut l u) fun z => q (.val z) ρ3) er) er) er
def SO (K : PySem.W.Frag) (pa : PaG) (W : WX) (to : TO) (d : DO) : Prop := ∀ (F G : Hp) (σ : RSt) (H : Hp) (ρ : Ro) (Q : Option Int → Hp → Prop) (q : Option Int → Ro → Prop) (er : ER), Sim K pa F G σ H ρ → d ρ q er →
  (∀ G' H' o ρ', Ex G G' → Sim K pa F G' σ H' ρ' → q o ρ' → Q o H') → XL K pa F G W σ er → to σ H Q
def rSlX (K : PySem.W.Frag) : V → Option Int → Option Int → Hp → VK → Prop := fun x lo hi H Q => rSlL K x lo hi H Q ∨ rSlA K x lo hi H Q ∨ rSlS x lo hi H Q
section
variable {K : PySem.W.Frag} {pa : PaG} {W : WX} {te : TE} {de : DE} {tl th : TO} {dl dh : DO} {X : Cx}
theorem sl_any : SlR X (rSlX X.K) := SlR.or sl_list (SlR.or sl_tupA sl_str)
theorem so_none : SO K pa W tNoPart dNoP := fun F G σ H ρ Q q er S h k x => k G H none ρ (Ex.refl G) S h
theorem so_some (he : SE K pa W te de) : SO K pa W (tPart te) (dPart de) := fun F G σ H ρ Q q er S h k x =>
  he F G σ H ρ _ _ er S h (fun G1 H1 v t ρ1 e1 S1 r1 h1 => by
    obtain ⟨d, ed, h2⟩ := h1
    cases d with
    | int i => rw [(S1.rdT r1 ed).int]; exact ⟨i, rfl, k G1 H1 (some i) ρ1 e1 S1 h2⟩
    | _ => exact h2.elim) x
theorem reps_cut {G : Hp} {vs : List V} {ds : List D} (r : Reps K G vs ds) (lo hi : Option Int) : Reps K G (cutV vs lo hi) (dCut ds lo hi) := by
  unfold cutV dCut
  rw [r.length]
  exact (r.drop _).take _
theorem se_sl (he : SE K pa W te de) (hl : SO K pa W tl dl) (hh : SO K pa W th dh) : SE K pa W (tSl (rSlX K) te tl th) (dSl de dl dh) := fun F G σ H ρ Q q er S h k x =>
  he F G σ H ρ _ _ er S h (fun G1 H1 v t ρ1 e1 S1 r1 h1 => hl F G1 σ H1 ρ1 _ _ er S1 h1 (fun G2 H2 lo ρ2 e2 S2 h2 => hh F G2 σ H2 ρ2 _ _ er S2 h2 (fun G3 H3 hi ρ3 e3 S3 h3 => by
    obtain ⟨d, ed, z, ez, h4⟩ := h3
    have r := S3.rdT ((r1.mono e2).mono e3) ed
    have eG := (e1.trans e2).trans e3
    cases d with
    | lst ds =>
      cases ez
      obtain ⟨p, vs, rfl, hs, rr⟩ := r.lst S3.ex
      refine .inl ⟨p, vs, rfl, hs, fun b hb => ?_⟩
      have a := Al.one (G := G3) (p := b) (o := .lst (cutV vs lo hi)) S3.ex hb
      exact k _ _ _ (.val _) ρ3 (eG.trans a.g) (S3.al a) (.lst (SqL.of upd_same) ((reps_cut rr lo hi).mono a.g)) h4
    | tup ds =>
      cases ez
      have g := r.tupR
      obtain ⟨p, vs, rfl, hs, rr⟩ := r.tup S3.ex
      refine .inr (.inl ⟨p, vs, rfl, hs, fun hw => ?_, fun _ b hb => ?_⟩)
      · have ec : dCut ds lo hi = ds := by
          unfold dCut
          rw [← rr.length, hw.1, hw.2, List.drop_zero, Nat.sub_zero, rr.length, List.take_length]
        rw [ec] at h4
        exact k G3 H3 _ (.val _) ρ3 eG S3 g h4
      · have a := Al.one (G := G3) (p := b) (o := .tup (cutV vs lo hi)) S3.ex hb
        exact k _ _ _ (.val _) ρ3 (eG.trans a.g) (S3.al a) (.tup (SqT.of upd_same) ((reps_cut rr lo hi).mono a.g)) h4
    | str y =>
      have ez : (if y.length ≤ sizeLine then some (D.str (cutS y lo hi)) else none) = some z := ez
      split at ez
      · rename_i hy
        cases ez
        rw [r.str]
        exact .inr (.inr ⟨y, rfl, hy, k G3 H3 _ (.val _) ρ3 eG S3 (.str _) h4⟩)
      · cases ez
    | _ => cases ez) (x.grow (e1.trans e2))) (x.grow e1)) x
end
def D.key : D → Option Key
  | .int i => some (.inl i)
  | .str x => some (.inr x)
  | _ => none
def valD (kvs : List (Key × D)) (k : Key) : Option D := (kvs.find? fun kv => decide (kv.1 = k)).map (·.2)
def putKD (kvs : List (Key × D)) (k : Key) (v : D) : List (Key × D) :=
  if (kvs.find? fun kv => decide (kv.1 = k)).isSome then kvs.map fun kv => if kv.1 = k then (kv.1, v) else kv else kvs ++ [(k, v)]
def dDNew : DF := fun ρ q _ => q (.dct []) ρ
def dDGet (dd dk : DE) : DE := fun ρ q er => dd ρ (fun s ρ1 => dk ρ1 (fun t ρ2 => Opt (rd ρ2 s) fun d => Opt (rd ρ2 t) fun e => Opt e.key fun k => match d with
  | .dct kvs => Opt (valD kvs k) fun z => q (.val z) ρ2
  | _ => False) er) er
def dDIn (neg : Bool) (dk dd : DE) : DE := fun ρ q er => dk ρ (fun t ρ1 => dd ρ1 (fun s ρ2 => Opt (rd ρ2 s) fun d => Opt (rd ρ2 t) fun e => Opt e.key fun k => match d with
  | .dct kvs => q (.val (.bl (if neg then !(valD kvs k).isSome else (valD kvs k).isSome))) ρ2
  | _ => False) er) er
def dDPut (i : Nat) (dk de : DE) : DS := fun DD ρ => de ρ (fun t ρ1 => match t with
  | .val e => (ownAt ρ1 i).isSome = true ∧ dk ρ1 (fun u ρ2 => Opt (rd ρ2 u) fun kd => Opt kd.key fun k => Opt (ownAt ρ2 i) fun d => (match d with
    | .dct kvs => kvs.length < sizeLine ∧ DD.nx (setD ρ2 i (.dct (putKD kvs k e)))
    | _ => False)) DD.er
  | .bor _ => False) DD.er
section
variable {K : PySem.W.Frag} {pa : PaG} {W : WX} {te td tk : TE} {de dd dk : DE}
theorem RepK.length {G : Hp} : ∀ {vs : List (Key × V)} {ds : List (Key × D)}, RepK K G vs ds → vs.length = ds.length
  | _, _, .nil => rfl
  | _, _, .cons _ r => by rw [List.length_cons, List.length_cons, r.length]
end
end DL
namespace DL
open PySem L2 Evl
theorem SpV.len {K : PySem.W.Frag} {n : Nat} {dsp : DSp} {vs : List V} {H : Hp} {Q : VK} {E : XK} (h : SpV K n dsp vs H Q E) : vs.length = n := by
  obtain ⟨_, _, _, _, h, _⟩ := h
  exact h
theorem SpF.len {K : PySem.W.Frag} {n : Nat} {dsp : DSp} {vs : List V} {H : Hp} {Q : VK} {E : XK} (h : SpF K n dsp vs H Q E) : vs.length = n := by
  obtain ⟨_, _, _, _, h, _⟩ := h
  exact h
theorem hu65 {A : Around} {k : Nat} (hr : Room k A) : A.units + 65 < cLine := by have := hr.un; omega
def dPar (i j : Nat) (da : DA) : DS := fun DD ρ => da ρ (fun ts ρ1 => match ts with
  | [.val a, .val b] => (isPar ρ1 i = false ∧ isPar ρ1 j = false) ∧ DD.nx ((ρ1.set i (.val a)).set j (.val b))
  | _ => False) DD.er
def dPar3 (i j l : Nat) (da : DA) : DS := fun DD ρ => da ρ (fun ts ρ1 => match ts with
  | [.val a, .val b, .val c] => (isPar ρ1 i = false ∧ isPar ρ1 j = false ∧ isPar ρ1 l = false) ∧ DD.nx (((ρ1.set i (.val a)).set j (.val b)).set l (.val c))
  | _ => False) DD.er
def dParVO (i j : Nat) (da : DE) (db : DF) : DS := fun DD ρ => da ρ (fun t ρ1 => match t with
  | .val a => db ρ1 (fun b ρ2 => (isPar ρ2 i = false ∧ isPar ρ2 j = false) ∧ DD.nx ((ρ2.set i (.val a)).set j (.own b))) DD.er
  | .bor _ => False) DD.er
def dParOV (i j : Nat) (da : DF) (db : DE) : DS := fun DD ρ => da ρ (fun a ρ1 => db ρ1 (fun t ρ2 => match t with
  | .val b => (isPar ρ2 i = false ∧ isPar ρ2 j = false) ∧ DD.nx ((ρ2.set i (.own a)).set j (.val b))
  | .bor _ => False) DD.er) DD.er
def dParOO (i j : Nat) (da db : DF) : DS := fun DD ρ => da ρ (fun a ρ1 => db ρ1 (fun b ρ2 => (isPar ρ2 i = false ∧ isPar ρ2 j = false) ∧ DD.nx ((ρ2.set i (.own a)).set j (.own b))) DD.er) DD.er
section
variable {K : PySem.W.Frag} {pa : PaG} {W : WX} {ta : TA} {da : DA} {te tf : TE} {de : DE} {df dg : DF} {i j : Nat}
theorem isPar_setO {ρ : Ro} {i j : Nat} {d : D} (h : isPar ρ j = false) : isPar (ρ.set i (.own d)) j = false := by
  unfold isPar at *
  by_cases hij : i = j
  · subst hij
    rw [List.getElem?_set, if_pos rfl]
    split <;> simp_all
  · rw [List.getElem?_set_ne hij]; exact h
theorem aside {F G H : Hp} {σ : RSt} {ρ : Ro} {p : Addr} {a : D} (S : Sim K pa F G σ H ρ) (gp : G p = none ∧ F p = none) (ow : OwnAt K G H p a) (fr : ∀ (i : Nat) (s : Sl) (d : D), ρ[i]? = some s → s.ownD = some d → σ[i]? ≠ some (some (.ref p))) :
    ∃ F', (Ex F F' ∧ F' p ≠ none) ∧ Sim K pa F' G σ H ρ ∧ ∀ G' H' ρ', Ex G G' → Sim K pa F' G' σ H' ρ' → Sim K pa F G' σ H' ρ' ∧ (G' p = none ∧ F p = none) ∧ OwnAt K G' H' p a ∧ (∀ (i : Nat) (s : Sl) (d : D), ρ'[i]? = some s → s.ownD = some d → σ[i]? ≠ some (some (.ref p))) := by
  obtain ⟨o, ho⟩ := ow.some
  refine ⟨upd F p o, ⟨Ex.new gp.2, by rw [upd_same]; simp⟩, S.frameIn gp.1 ho (ow.code ho) fr, fun G' H' ρ' e S' => ?_⟩
  refine ⟨S'.frame (Ex.new gp.2), ⟨S'.dj p o upd_same, gp.2⟩, ow.mono e (by rw [ho, S'.fx p o upd_same]), fun i s d h1 h2 h3 => ?_⟩
  have := S'.ofr i s d p h1 h2 h3
  rw [upd_same] at this
  cases this
theorem XL.frame {F F' G : Hp} {σ : RSt} {er : ER} (e : Ex F F') (x : XL K pa F G W σ er) : XL K pa F' G W σ er := fun G' H' ρ' C d vs fs e1 S' => x G' H' ρ' C d vs fs e1 (S'.frame e)
theorem ss_parOV (ha : SF K pa W tf df) (hb : SE K pa W te de) : SS K pa W (tPar i j (tCons tf (tCons te tNil))) (dParOV i j df de) := fun F G σ H ρ D DD S h l =>
  ha F G σ H ρ _ _ _ S h (fun G1 H1 p a ρ1 e1 S1 gp ow fr h1 => by
    obtain ⟨F', ⟨ef, np⟩, S1', back⟩ := aside S1 gp ow fr
    refine hb F' G1 σ H1 ρ1 _ _ _ S1' h1 (fun G2 H2 v t ρ2 e2 S2 r2 h2 => ?_) (((l.xl σ).grow e1).frame ef)
    cases t with
    | bor k => exact h2.elim
    | val b =>
      obtain ⟨S3, gp3, ow3, fr3⟩ := back G2 H2 ρ2 e2 S2
      exact ⟨_, _, rfl, l.nx G2 _ H2 _ (e1.trans e2) ((S3.storeOwn h2.1.1 gp3 ow3 fr3).store (isPar_setO h2.1.2) r2) h2.2⟩) (l.xl σ)
end
def D.tyV : D → Option Value
  | .non => some (.type "NoneType")
  | .bl _ => some (.type "bool")
  | .int _ => some (.type "int")
  | .str _ => some (.type "str")
  | .byt _ => some (.type "bytes")
  | .lst _ => some (.type "list")
  | .tup _ => some (.type "tuple")
  | .dct _ => some (.type "dict")
  | .ins C _ => some (.ref C)
  | _ => none
def D.clV : D → Option Value
  | .ptr C => some (.ref C)
  | .ty n => some (.type n)
  | _ => none
def D.clVs : List D → Option (List Value)
  | [] => some []
  | d :: ds => d.clV.bind fun v => (D.clVs ds).map fun vs => v :: vs
def D.isi (K : PySem.W.Frag) : List D → Option D
  | [x, .tup cs] => x.tyV.bind fun t => (D.clVs cs).bind fun us => (PySem.W.kitAny K t us).map .bl
  | [x, c] => x.tyV.bind fun t => c.clV.bind fun u => (PySem.W.kitOne K t u).map .bl
  | _ => none
structure IsiC (K : PySem.W.Frag) (C : Addr) : Prop where
  cl : Cls K C
  ha : PySem.W.findIn K (.ref C) "__class__" = some (some (.builtin "object.__class__"))
  hm : PySem.W.mroIn K C (.type "object") = some true
structure IsiK (K : PySem.W.Frag) : Prop where
  hn : PySem.W.specialIn K (.builtin "object.__class__") "__get__" = some (some (.builtin "getset_descriptor.__get__"))
  htk : PySem.W.takesIn K (.builtin "object.__class__") = some true
def rIsiX (K : PySem.W.Frag) : List V → Hp → VK → Prop := fun xs H Q => rIsi K xs H Q ∨ rIsiT K xs H Q
section
variable {K : PySem.W.Frag} {X : Cx}
theorem call_isiX : CallR X (.builtin "isinstance") (rIsiX X.K) := CallR.or call_isi call_isiT
theorem tyX_of {G H : Hp} {v : V} {d : D} {t : Value} (hK : IsiK K) (hC : ∀ C es, d = .ins C es → IsiC K C) (e : Ex G H) (r : RepT K G H v d) (h : d.tyV = some t) : TyX K H v t := by
  cases d with
  | non => cases h; rw [r.non]; exact .base .non
  | bl b => cases h; rw [r.bl]; exact .base (.bl _)
  | int b => cases h; rw [r.int]; exact .base (.int _)
  | str b => cases h; rw [r.str]; exact .base (.str _)
  | byt b => cases h; rw [r.byt]; exact .byt _
  | lst ds =>
    cases h
    obtain ⟨p, vs, rfl, hs, _⟩ := r.lstR e
    rcases hs with (hs | ⟨o, hs⟩) | ⟨o, its, n, h1, h2, _⟩
    · exact .base (.lst hs)
    · exact .base (.frz hs)
    · exact .kList h1 h2
  | tup ds =>
    cases h
    obtain ⟨p, vs, rfl, hs, _⟩ := r.tup e
    rcases hs with (hs | ⟨o, hs⟩) | ⟨o, its, n, h1, h2, _⟩
    · exact .base (.tup hs)
    · exact .fTuple hs
    · exact .kTuple h1 h2
  | dct ds =>
    cases h
    obtain ⟨p, vs, rfl, hs, _⟩ := r.dct e
    exact .base (.dK hs)
  | ins C ds =>
    cases h
    obtain ⟨p, dx, vs, rfl, hs, _⟩ := r.ins e
    have q := hC C ds rfl
    exact .base (.ins hs q.cl q.ha hK.hn hK.htk q.hm)
  | _ => cases h
theorem clV_of {G H : Hp} {v : V} {d : D} {u : Value} (r : RepT K G H v d) (h : d.clV = some u) : ClsV v u := by
  cases d with
  | ptr C => cases h; rw [r.ptr]; exact .own C
  | ty n => cases h; rw [r.ty]; exact .ty n
  | _ => cases h
end
end DL
namespace PySem.W
open PySem PySem.Calls PyProof.Rows
end PySem.W
namespace DL
open PySem L2 Evl
end DL
namespace DL
open PySem L2 Evl
def clVT : List T → Option (List Value)
  | [] => some []
  | .val d :: ts => d.clV.bind fun u => (clVT ts).map fun us => u :: us
  | .bor _ :: _ => none
def D.kno (Cs : List Addr) : D → Bool
  | .ins C _ => Cs.contains C
  | _ => true
def dIsi (K : PySem.W.Frag) (Cs : List Addr) (de dc : DE) : DE := fun ρ q er => de ρ (fun t ρ1 => dc ρ1 (fun u ρ2 => Opt (rd ρ2 t) fun x => Opt (rd ρ2 u) fun c => x.kno Cs = true ∧ Opt x.tyV fun ty => Opt c.clV fun cv => Opt (PySem.W.kitOne K ty cv) fun b => q (.val (.bl b)) ρ2) er) er
def dIsiT (K : PySem.W.Frag) (Cs : List Addr) (de : DE) (dc : DA) : DE := fun ρ q er => de ρ (fun t ρ1 => dc ρ1 (fun us ρ2 => Opt (rd ρ2 t) fun x => us.length ≤ sizeLine ∧ x.kno Cs = true ∧ Opt x.tyV fun ty => Opt (clVT us) fun cs => Opt (PySem.W.kitAny K ty cs) fun b => q (.val (.bl b)) ρ2) er) er
section
variable {K : PySem.W.Frag} {pa : PaG} {W : WX} {te tc : TE} {ta : TA} {de dc : DE} {da : DA} {Cs : List Addr}
theorem clVT_of {G : Hp} {σ : RSt} : ∀ {ts : List T} {vs : List V} {us : List Value}, TkRs K G σ vs ts → clVT ts = some us → Paired ClsV vs us
  | _, _, _, .nil, h => by cases h; exact .nil
  | .val d :: ts, _, us, .cons r rr, h => by
    have h : d.clV.bind (fun v => (clVT ts).map fun vs => v :: vs) = some us := h
    cases q : d.clV with
    | none => rw [q] at h; cases h
    | some v =>
      cases q2 : clVT ts with
      | none => rw [q, q2] at h; cases h
      | some ws => rw [q, q2] at h; cases h; exact .cons (clV_of (H := G) (.inl r) q) (clVT_of rr q2)
  | .bor _ :: _, _, _, .cons _ _, h => by cases h
theorem kno_of (hC : ∀ C ∈ Cs, IsiC K C) {x : D} (h : x.kno Cs = true) : ∀ C es, x = .ins C es → IsiC K C := fun C es e => by
  subst e
  exact hC C (by simpa [D.kno] using h)
theorem se_isi (hK : IsiK K) (hC : ∀ C ∈ Cs, IsiC K C) (he : SE K pa W te de) (hc : SE K pa W tc dc) : SE K pa W (tCB (rIsiX K) (tCons te (tCons tc tNil))) (dIsi K Cs de dc) := fun F G σ H ρ Q q er S h k x =>
  he F G σ H ρ _ _ er S h (fun G1 H1 v t ρ1 e1 S1 r1 h1 => hc F G1 σ H1 ρ1 _ _ er S1 h1 (fun G2 H2 w u ρ2 e2 S2 r2 h2 => by
    obtain ⟨dx, ex, c, ec, hk, ty, ety, cv, ecv, b, eb, h3⟩ := h2
    exact .inl ⟨v, w, ty, cv, b, rfl, clV_of (S2.rdT r2 ec) ecv, tyX_of hK (kno_of hC hk) S2.ex (S2.rdT (r1.mono e2) ex) ety, eb, k G2 H2 _ (.val _) ρ2 (e1.trans e2) S2 (.bl b) h3⟩) (x.grow e1)) x
theorem se_isiT (hK : IsiK K) (hC : ∀ C ∈ Cs, IsiC K C) (he : SE K pa W te de) (hc : SA K pa W ta da) : SE K pa W (tCB (rIsiX K) (tCons te (tCons (tTup ta) tNil))) (dIsiT K Cs de da) := fun F G σ H ρ Q q er S h k x =>
  he F G σ H ρ _ _ er S h (fun G1 H1 v t ρ1 e1 S1 r1 h1 => hc F G1 σ H1 ρ1 _ _ er S1 h1 (fun G2 H2 ws us ρ2 e2 S2 r2 h2 => by
    obtain ⟨dx, ex, hl, hk, ty, ety, cs, ecs, b, eb, h3⟩ := h2
    have hlen : ws.length = us.length := r2.length
    refine ⟨by rw [hlen]; exact hl, fun p hp => ?_⟩
    have a := Al.one (G := G2) (p := p) (o := .tup ws) S2.ex hp
    have S3 := S2.al a
    exact .inr ⟨v, p, ws, ty, cs, b, rfl, upd_same, clVT_of r2 ecs, tyX_of hK (kno_of hC hk) S3.ex (S3.rdT ((r1.mono e2).mono a.g) ex) ety, eb, k _ _ _ (.val _) ρ2 ((e1.trans e2).trans a.g) S3 (.bl b) h3⟩) (x.grow e1)) x
end
def D.insOf (C : Addr) : D → Bool
  | .ins C2 _ => C2 == C
  | _ => false
def dInO (g : Bool → Bool) (C : Addr) (dsp : DSp) (dx dc : DE) : DE := fun ρ q er => dx ρ (fun t ρ1 => dc ρ1 (fun u ρ2 => Opt (rd ρ2 u) fun d => d.insOf C = true ∧ Opt (argsOf ρ2 [u, t]) fun av => (bors [u, t]).Nodup ∧
  dsp av (fun r os => match r with
    | .bl b => q (.val (.bl (g b))) (putOuts ρ2 (bors [u, t]) os)
      | _ => False) (fun _ _ _ => False)) er) er
def dLenO (C : Addr) (dsp : DSp) (dc : DE) : DE := fun ρ q er => dc ρ (fun u ρ2 => Opt (rd ρ2 u) fun d => d.insOf C = true ∧ Opt (argsOf ρ2 [u]) fun av => (bors [u]).Nodup ∧
  dsp av (fun r os => match r with
    | .int n => (0 ≤ n ∧ n < 2 ^ 63) ∧ q (.val (.int n)) (putOuts ρ2 (bors [u]) os)
    | _ => False) (fun _ _ _ => False)) er
section
variable {K : PySem.W.Frag} {pa : PaG} {W : WX} {te ta tb : TE} {de da db : DE}
def revR (i j : Int) : List D := (List.range (j - i).toNat).map fun (k : Nat) => .int (j - 1 - (k : Int))
def diRevR1 (da : DE) : DI := fun ρ q er => da ρ (fun t ρ1 => Opt (rd ρ1 t) fun d => match d with
  | .int j => (-(2 ^ 62) ≤ j ∧ j < 2 ^ 62) ∧ q (revR 0 j) ρ1
  | _ => False) er
end
def dcL (g : DG) (t : DT) (dk de : DE) (vs : List Nat) (q : List (Key × D) → Ro → Prop) : List D → List (Key × D) → Ro → Prop
  | [], acc, ρ => q acc ρ
  | d :: ds, acc, ρ => g (.val d) (wipeD ρ vs) fun ρ1 => t ρ1 (fun b ρ2 => if b = true then dk ρ2 (fun u ρ3 => match u with
      | .val y => Opt y.key fun kk => de ρ3 (fun s ρ4 => match s with
        | .val z => acc.length < sizeLine ∧ dcL g t dk de vs q ds (putKD acc kk z) (wipeD ρ4 vs)
        | .bor _ => False) (fun _ _ _ => False)
      | .bor _ => False) (fun _ _ _ => False) else dcL g t dk de vs q ds acc (wipeD ρ2 vs)) (fun _ _ _ => False)
def dDc (di : DI) (g : DG) (t : DT) (dk de : DE) (vs : List Nat) : DF := fun ρ q er => di ρ (fun ds ρ1 => dcL g t dk de vs (fun acc ρ2 => q (.dct acc) ρ2) ds [] ρ1) er
end DL
namespace PySem
open Sem (wp)
open AutoSeq1 (wpAny_loadPart')
theorem dl_enumNewT (l : Addr) (us : Array Value) (k : Nat) (dc : Option Addr) (sls : Array (Option Value)) :
    Meets (Builtin.«enumerate.__new__» ⟨[.type "enumerate", .ref l], []⟩) (fun _ R s => s.heap.get? l = some { cls := .type "tuple", dict := dc, data := .seq us k, slots := sls } ∧
      R (.ok (.ret (.ref (s.heap.push { cls := .type "tuple_iterator", data := .fields #[.ref l, .int 0 0] }).objs.size)))
        { s with heap := (s.heap.push { cls := .type "tuple_iterator", data := .fields #[.ref l, .int 0 0] }).push { cls := .type "enumerate", data := .fields #[.none, .bool false, .ref s.heap.objs.size, rawInt 0, .none, .none] } }) :=
  .of_wp fun prog w A R s h => by
    obtain ⟨hp, g, d, tk, os⟩ := s; obtain ⟨hl, h⟩ := h
    have hsub := sub_enumerate
    have hT : Heap.IsTuple (Shared.heap ⟨hp, g, d, tk, os⟩) l us := ⟨_, hl, rfl, k, rfl⟩
    wp_walk using wpAny_loadPart' hl
    refine wpAny_stack_any fun st => wpAny_pure ?_
    split
    · rename_i c _ _ _ _ _
      cases (c == Value.type "enumerate") <;>
        (wp_walk using wpAny_loadPart' hl, wpAny_pyIter_tuple hT; exact ⟨_, rfl, h⟩)
    · wp_walk using wpAny_loadPart' hl, wpAny_pyIter_tuple hT
      exact ⟨_, rfl, h⟩
section
variable {prog : Program} {w : World} {A : Around} {E : Value → Shared → Prop} {s : Shared}
theorem dl_call_enumT {l : Addr} {us : Array Value} {Q : Value → Shared → Prop} (hL : s.heap.IsTuple l us)
    (h : ∀ h', IsEnum h' (s.heap.objs.size + 1) s.heap.objs.size 0 .none → h'.IsTupleIter s.heap.objs.size l 0 → (∀ b o, s.heap.get? b = some o → h'.get? b = some o) → Q (.ref (s.heap.objs.size + 1)) { s with heap := h' }) :
    wpAny (model prog w) A (call (.type "enumerate") [.ref l]) Q E s := by
  obtain ⟨⟨c, dc, dt, sls⟩, hl, hc, k, hd⟩ := hL
  replace hc : c = .type "tuple" := hc
  replace hd : dt = .seq us k := hd
  subst hc hd
  refine callType_new F.called_enumerate (by decide) (F.typeCall_enumerate_1 _) (F.newCall_enumerate_1 _) (fun obj => F.args_object_init_2 obj _) F.entry_enumerate_new (dl_enumNewT l us k dc sls) ⟨hl, ?_⟩
  generalize ho1 : ({ cls := .type "tuple_iterator", data := .fields #[.ref l, .int 0 0] } : Obj) = o1
  have hz : (s.heap.push o1).objs.size = s.heap.objs.size + 1 := Heap.size_push ..
  show _ ∧ _
  rw [hz]
  have he : IsEnum ((s.heap.push o1).push { cls := .type "enumerate", data := .fields #[.none, .bool false, .ref s.heap.objs.size, rawInt 0, .none, .none] }) (s.heap.objs.size + 1) s.heap.objs.size 0 .none := by
    have q := Heap.get?_push_size (s.heap.push o1) (o := { cls := .type "enumerate", data := .fields #[.none, .bool false, .ref s.heap.objs.size, rawInt 0, .none, .none] }) rfl
    rw [hz] at q; exact q
  refine ⟨⟨_, he, rfl⟩, h _ he ⟨o1, Heap.get?_push_of_some _ (Heap.get?_push_size _ (by subst ho1; rfl)), by subst ho1; rfl, by subst ho1; rfl⟩ fun b o x => Heap.get?_push_of_some _ (Heap.get?_push_of_some _ x)⟩
theorem dl_nextT {it t : Addr} {i : Nat} {us : Array Value} {x : Value} {Q : Value → Shared → Prop} (hit : s.heap.IsTupleIter it t i) (ht : s.heap.IsTuple t us) (hx : us[i]? = some x)
    (hQ : ∀ h', h'.IsTupleIter it t (i + 1) → Heap.SameBut it s.heap h' → Q x { s with heap := h' }) : wpAny (model prog w) A (Builtin.SmallTypes.nextOf (.ref it)) Q E s := by
  obtain ⟨o, ho, hc, hd⟩ := id hit; obtain ⟨ol, hol, _, nl, hdl⟩ := ht
  unfold Builtin.SmallTypes.nextOf; refine wpAny_bind (wpAny_callSpecial?_slot (name := Str.ofString "__next__") hit.typeIs F.slot_tuple_iterator_next (wpAny_call_entry F.slot_tuple_iterator_next hit.typeIs F.entry_tuple_iterator_next ?_ (F.args_tuple_iterator_next_1 _)))
  show wpAny _ _ (field (.ref it) 0 >>= _) _ _ s; refine wpAny_bind (wpAny_field ho hd (x := .ref t) rfl ?_)
  show wpAny _ _ (if (Value.ref t == Value.none) = true then _ else _) _ _ s; rw [if_neg (by exact fun z => Bool.false_ne_true z)]
  show wpAny _ _ (field (.ref it) 1 >>= _) _ _ s; refine wpAny_bind (wpAny_field ho hd (x := .int i 0) rfl ?_)
  show wpAny _ _ (seqItems? (.ref t) >>= _) _ _ s; refine wpAny_bind (wpAny_seqItems hol hdl ?_)
  simp only [Int.toNat_natCast, hx]; refine wpAny_bind (wpAny_setField ho hd (by simp) (wpAny_pure ⟨x, rfl, wpAny_pure (hQ _ ?_ (Heap.SameBut.update ..))⟩))
  exact ⟨_, Heap.get?_update_self _ ho (Obj.isFreed_of_fields (Obj.data_mapFields hd _)), (Obj.cls_mapFields ..).trans hc, by rw [Obj.data_mapFields hd]; simp [rawInt]⟩
theorem dl_nextTend {it t : Addr} {i : Nat} {us : Array Value} {Q : Value → Shared → Prop} (hh : A.handled = none) (hit : s.heap.IsTupleIter it t i) (ht : s.heap.IsTuple t us) (hx : us[i]? = none)
    (hE : ∀ h' e, Heap.ExtBut it s.heap h' → (∃ o, h'.get? e = some o ∧ o.cls = .type "StopIteration") → E (.ref e) { s with heap := h' }) : wpAny (model prog w) A (Builtin.SmallTypes.nextOf (.ref it)) Q E s := by
  obtain ⟨o, ho, hc, hd⟩ := id hit; obtain ⟨ol, hol, _, nl, hdl⟩ := ht
  unfold Builtin.SmallTypes.nextOf; refine wpAny_bind (wpAny_callSpecial?_slot (name := Str.ofString "__next__") hit.typeIs F.slot_tuple_iterator_next (wpAny_call_entry F.slot_tuple_iterator_next hit.typeIs F.entry_tuple_iterator_next ?_ (F.args_tuple_iterator_next_1 _)))
  show wpAny _ _ (field (.ref it) 0 >>= _) _ _ s; refine wpAny_bind (wpAny_field ho hd (x := .ref t) rfl ?_)
  show wpAny _ _ (if (Value.ref t == Value.none) = true then _ else _) _ _ s; rw [if_neg (by exact fun z => Bool.false_ne_true z)]
  show wpAny _ _ (field (.ref it) 1 >>= _) _ _ s; refine wpAny_bind (wpAny_field ho hd (x := .int i 0) rfl ?_)
  show wpAny _ _ (seqItems? (.ref t) >>= _) _ _ s; refine wpAny_bind (wpAny_seqItems hol hdl ?_)
  simp only [Int.toNat_natCast, hx]; refine wpAny_bind (wpAny_rule (wpAny_bind (wpAny_setField ho hd (by simp) ?_)))
  show wpAny _ _ (newExc (.type "StopIteration") [] >>= _) _ _ _; refine wpAny_bind ?_
  simp only [newExc, newTuple]; refine wpAny_bind (wpAny_newObj_type ?_ (by size_fits))
  refine wpAny_bind (m := firstArgMember _ _) (wpAny_of_eq (a := Value.none) (by first | rfl | (simp only [firstArgMember]; rfl)) (wpAny_newObj_type ?_ (by size_fits)))
  simp only [raiseNew]; refine wpAny_bind (wpAny_handled ?_)
  first | rw [show A.in1.handled = none from hh] | rw [hh]
  exact wpAny_bind (wpAny_pure (wpAny_throw (hE _ _ (((Heap.SameBut.update ..).extBut.push _).push _) ⟨_, Heap.get?_push_size _ rfl, rfl⟩)))
theorem dl_draws (hh : A.handled = none) (it l : Addr) (hne : l ≠ it) (us : Array Value) : Draws prog w A it [it, l] us.size (fun i v => us[i]? = some v) (fun i h => h.IsTupleIter it l i ∧ h.IsTuple l us) where
  live := fun _ _ ⟨⟨o, ho, _⟩, _⟩ => ⟨o, ho⟩
  frame := fun _ _ _ ⟨⟨o, ho, r⟩, ⟨o2, ho2, r2⟩⟩ hk => ⟨⟨o, hk it (by simp) o ho, r⟩, ⟨o2, hk l (by simp) o2 ho2, r2⟩⟩
  item := fun i s Q E hi st hQ => dl_nextT st.1 st.2 (x := us[i]) (by simp [hi]) fun h' hit' hs' => hQ _ h' s.toks (by simp [hi]) ⟨hit', st.2.extBut hs'.extBut hne⟩ hs'
  done := fun s Q E st hE => dl_nextTend hh st.1 st.2 (by simp) hE
theorem dl_enumTend {e it t : Addr} {i : Nat} {j : Int} {us : Array Value} {old : Value} {Q : Option Value → Shared → Prop} (hh : A.handled = none) (he : IsEnum s.heap e it j old) (hit : s.heap.IsTupleIter it t i) (ht : s.heap.IsTuple t us) (hx : us[i]? = none)
    (hQ : ∀ h', Heap.ExtBut it s.heap h' → Q none { s with heap := h' }) : wpAny (model prog w) A (pyNext (.ref e)) Q E s := by
  have tE : s.TypeIs (.ref e) "enumerate" := ⟨_, he, rfl⟩
  unfold pyNext; refine wpAny_bind (wpAny_attempt (wpAny_callSpecial?_slot (name := Str.ofString "__next__") tE F.slot_enumerate_next (wpAny_call_entry F.slot_enumerate_next tE F.entry_enumerate_next ?_ (F.args_enumerate_next_1 _))))
  show wpAny _ _ (field (.ref e) 2 >>= _) _ _ _; refine wpAny_bind (wpAny_field he rfl (x := .ref it) rfl ?_)
  refine wpAny_bind (dl_nextTend hh hit ht hx fun h' x he' ⟨o, ho, hc⟩ => ?_)
  exact wpAny_bind (wpAny_isInstance (T := "StopIteration") (b := true) ⟨o, ho, hc⟩ isSubtype_stop (wpAny_pure (hQ _ he')))
end
end PySem
namespace DL
open PySem L2 Evl
def Itt (K : PySem.W.Frag) (a : Addr) : It :=
  ⟨fun i H => ∃ (xs : List V) (x : V), SqT K H a xs ∧ xs[i]? = some x, fun i H v H' => ∃ T x, v = .ref T ∧ H T = none ∧ H' = upd H T (.tup [.int (i : Nat), x]) ∧ ∀ xs, SqT K H a xs → xs[i]? = some x, fun i H => ∃ xs : List V, SqT K H a xs ∧ xs.length ≤ i⟩
theorem tupIter_ne {h : Heap} {a b : Addr} {us : Array Value} {i : Nat} (x : h.IsTuple a us) (y : h.IsTupleIter b a i) : a ≠ b := fun z => by
  subst z
  obtain ⟨o, h1, h2, _⟩ := x
  obtain ⟨u, k1, k2, _⟩ := y
  rw [h1] at k1
  cases k1
  rw [h2] at k2
  exact absurd k2 (by simp)
theorem turn_enumT {P : Program} {w : World} {K : PySem.W.Frag} {elts : List Expr} {kk : Nat} {tpos : Pos} (a e it : Addr) :
    Turn P w K (.Tuple elts kk tpos) (Itt K a) [e, it] e (fun i h => (∃ old, IsEnum h e it ((i : Nat) : Int) old) ∧ h.IsTupleIter it a i ∧ e ≠ it) where
  mem := by simp
  obj := fun i h st b hb => by
    obtain ⟨⟨old, he⟩, ⟨o, ho, hc, hd⟩, _⟩ := st
    rcases (show b = e ∨ b = it by simpa using hb) with z | z
    · rw [z]; exact ⟨_, he, fun v q => nomatch q⟩
    · rw [z]; exact ⟨o, ho, fun v q => by rw [hd] at q; cases q⟩
  keep := fun i h h' ⟨⟨old, he⟩, ⟨o, ho, r⟩, hne⟩ k => ⟨⟨old, k e (by simp) _ he⟩, ⟨o, k it (by simp) o ho, r⟩, hne⟩
  item := by
    intro X hP hw hK hc i pins s σ H E I hf st hg
    subst hP hw hK
    obtain ⟨⟨old, he⟩, hit, hne⟩ := st
    obtain ⟨xs, x, hq, hx⟩ := hg
    obtain ⟨its, rv, p, hz⟩ := I.tuple hq
    obtain ⟨u, hu, ru⟩ := rv.get hx
    have p : s.heap.IsTuple a its.toArray := p
    have hel : e < s.heap.objs.size := Heap.lt_size he
    have hil : it < s.heap.objs.size := by obtain ⟨_, q, _⟩ := hit; exact Heap.lt_size q
    have hai : a ≠ it := tupIter_ne p hit
    have hae : e ≠ a := fun z => by
      obtain ⟨o, h1, h2, _⟩ := p
      have he2 : s.heap.get? e = _ := he
      rw [z, h1] at he2
      cases he2
      exact absurd h2 (by simp)
    have hlt : i < its.toArray.size := by
      have := (List.getElem?_eq_some_iff.mp hu).1
      simpa using this
    refine wpAny_pyNext_enum_itemD (fp := [it, a]) (dl_draws (A := X.A.in1) (show X.A.in1.handled = none from I.ok.hd hc) it a hai its.toArray) he ⟨hit, p⟩ hlt hne (by simp; exact ⟨hne, hae⟩) fun x' h' tk px ho hit' hT hsz hk => ?_
    have ex : x' = u := by
      have q : its[i]? = some x' := by simpa using px
      rw [hu] at q
      exact (Option.some.inj q).symm
    subst ex
    refine ⟨_, rfl, wpAny_letOwnedTupleGo_enum (s := { s with heap := h', toks := tk + 1 }) ho fun h'' he' sb => ?_⟩
    have hT2 : h''.get? s.heap.objs.size = some { cls := .type "tuple", data := .seq #[.int i tk, x'] } := (sb.2 _ (Nat.ne_of_gt hel)).trans hT
    have new : ObjOk X.prog X.w (upd H s.heap.objs.size (.tup [.int (i : Nat), x])) h'' s.heap.objs.size (.tup [.int (i : Nat), x]) :=
      ⟨by show 2 ≤ sizeLine; decide, [.int i tk, x'], .cons ⟨_, rfl⟩ (.cons ru .nil), ⟨_, hT2, rfl, _, rfl⟩⟩
    have I1 : Inv X pins σ (upd H s.heap.objs.size (.tup [.int (i : Nat), x])) { s with heap := h'', toks := tk + 1 } :=
      I.turnedNew (ch := [e, it]) (fun b ob hb q => (sb.2 b (fun z => hb (by simp [z]))).trans (hk b ob (fun z => hb (by simp [z])) (fun z => hb (by simp [z])) q)) hf (Nat.le_refl _) new
    refine ⟨.ref s.heap.objs.size, _, I1, rfl, ⟨_, x, rfl, I.hok.fresh (Nat.le_refl _), rfl, fun ys hy => by rw [I.tuple_inj hy hq]; exact hx⟩, ⟨⟨x', ?_⟩, ?_, hne⟩, fun b hb => ?_⟩
    · rw [show ((i + 1 : Nat) : Int) = (i : Int) + 1 by omega]; exact he'
    · obtain ⟨o, q1, r⟩ := hit'.1
      exact ⟨o, (sb.2 it (Ne.symm hne)).trans q1, r⟩
    · have hb' : b < s.heap.objs.size := by
        rcases (show b = e ∨ b = it by simpa using hb) with z | z
        · rw [z]; exact hel
        · rw [z]; exact hil
      rw [upd_ne (Nat.ne_of_lt hb')]
      exact (hf b hb).1
  done := by
    intro X hP hw hK hc i pins s σ H E I hf st hg
    subst hP hw hK
    obtain ⟨⟨old, he⟩, hit, hne⟩ := st
    obtain ⟨xs, hq, hx⟩ := hg
    obtain ⟨its, rv, p, hz⟩ := I.tuple hq
    have p : s.heap.IsTuple a its.toArray := p
    obtain ⟨f0, f1, f2, f3, f4, f5⟩ := hf it (by simp)
    have hl := rv.length
    exact dl_enumTend (I.ok.hd hc) he hit p (by simp; omega) fun h' eb => ⟨rfl, I.turned (t' := s.toks) (fun b o hb q => eb b o hb q) f0 f1 f3 f4 f5⟩
  self := fun A i s Q E ⟨⟨_, he⟩, _⟩ h => wpAny_pyIter_enum he h
section
open PySem.Spec PyProof.Rows
def iEnumX (K : PySem.W.Frag) (ta : TA) : TI := fun σ H R => ta σ H fun vs H1 => ∃ a xs, vs = [.ref a] ∧ ((SqL K H1 a xs ∧ R (Ite K a) H1) ∨ (SqT K H1 a xs ∧ R (Itt K a) H1))
theorem pi_enumX {X : Cx} {e : Expr} {ta : TA} {p pos tpos : Pos} {elts : List Expr} {kk : Nat} (hg : Gl X "enumerate") (hm : X.mg "enumerate" = none) (ha : PA X [e] ta) (hs : starEach [e] X.env = [(false, eval e X.env)] := by rfl) :
    PI X (.Tuple elts kk tpos) (.Call (.Name "enumerate" p) [e] [] pos) (iEnumX X.K ta) := by
  refine ⟨fun pins s σ H R I h => ?_⟩
  refine Call_ (ld_blt I hg hm boot_enumerate (PyProof.Rows.callWith_type1 (thn (ha.run pos pins s σ H _ I h) fun us s1 ⟨vs, H1, I1, r1, q1⟩ => ?_) hs rfl))
  obtain ⟨a, xs, ex, q1⟩ := q1; subst ex
  cases r1 with
  | cons r rr =>
    cases rr; cases r
    have fin : ∀ {h' : Heap}, (∀ b o, s1.heap.get? b = some o → h'.get? b = some o) → Inv X pins σ H1 { s1 with heap := h' } ∧ ∀ b ∈ [s1.heap.objs.size + 1, s1.heap.objs.size], FpOk X pins H1 b := fun {h'} hk => by
      refine ⟨I1.kept (t' := s1.toks) hk, fun b hb => ?_⟩
      have hle : s1.heap.objs.size ≤ b := by
        rcases (show b = s1.heap.objs.size + 1 ∨ b = s1.heap.objs.size by simpa using hb) with z | z <;> omega
      exact I1.fpOk hle (I1.hok.fresh hle)
    rcases q1 with ⟨hq, q⟩ | ⟨hq, q⟩
    · obtain ⟨its, rv, p', hz⟩ := I1.list hq
      refine call_enumerate_list p'.isList fun h' he hit hsz hk => wpAny_pyIter_enum he ?_
      obtain ⟨I2, hf⟩ := fin hk
      exact ⟨s1.heap.objs.size + 1, [s1.heap.objs.size + 1, s1.heap.objs.size], _, _, H1, rfl, I2, turn_enum a (s1.heap.objs.size + 1) s1.heap.objs.size, ⟨⟨.none, he⟩, hit, Nat.succ_ne_self _⟩, hf, q⟩
    · obtain ⟨its, rv, p', hz⟩ := I1.tuple hq
      refine dl_call_enumT p' fun h' he hit hk => wpAny_pyIter_enum he ?_
      obtain ⟨I2, hf⟩ := fin hk
      exact ⟨s1.heap.objs.size + 1, [s1.heap.objs.size + 1, s1.heap.objs.size], _, _, H1, rfl, I2, turn_enumT a (s1.heap.objs.size + 1) s1.heap.objs.size, ⟨⟨.none, he⟩, hit, Nat.succ_ne_self _⟩, hf, q⟩
end
def diEnumX (de : DE) : DI := fun ρ q er => de ρ (fun t ρ1 => match t with
  | .val (.lst ds) => q (enumD ds) ρ1
  | .val (.tup ds) => q (enumD ds) ρ1
  | _ => False) er
section
variable {K : PySem.W.Frag} {pa : PaG} {W : WX} {te : TE} {de : DE}
theorem itOk_enumT {G : Hp} {a : Addr} {vs : List V} {ds : List D} (h : SqT K G a vs) (r : Reps K G vs ds) : ItOk K G (Itt K a) (enumD ds) where
  go := fun i H e hi => ⟨vs, vs[i]'(by rw [r.length, ← enumD_length]; exact hi), ex_t e h, by simp⟩
  stop := fun i H e hi => ⟨vs, ex_t e h, by rw [r.length, ← enumD_length]; exact hi⟩
  yld := fun i H x H' y G1 e1 e2 d hd => by
    obtain ⟨T, z, rfl, hT, rfl, hz⟩ := y
    obtain ⟨e, he, rfl⟩ := enumD_get hd
    obtain ⟨v, hv, rv⟩ := r.get he
    have q := hz vs (ex_t (e1.trans e2) h)
    rw [hv] at q
    obtain rfl : v = z := Option.some.inj q
    have a := Al.one (G := G1) (p := T) (o := .tup [.int (i : Int), v]) e2 hT
    exact ⟨_, a, .tup (SqT.of upd_same) (.cons (.int _) (.cons ((rv.mono e1).mono a.g) .nil))⟩
theorem si_enumX (he : SE K pa W te de) : SI K pa W (iEnumX K (tCons te tNil)) (diEnumX de) := fun F G σ H ρ R q er S h k x =>
  he F G σ H ρ _ _ er S h (fun G1 H1 v t ρ1 e1 S1 r1 h1 => by
    cases t with
    | bor i => exact h1.elim
    | val d =>
      have r1 : Rep K G1 v d := r1
      cases r1 with
      | lst hr rr => exact ⟨_, _, rfl, .inl ⟨ex_l S1.ex hr, k G1 H1 _ _ ρ1 e1 S1 (itOk_enum hr rr) h1⟩⟩
      | tup hr rr => exact ⟨_, _, rfl, .inr ⟨ex_t S1.ex hr, k G1 H1 _ _ ρ1 e1 S1 (itOk_enumT hr rr) h1⟩⟩
      | _ => exact h1.elim) x
end
end DL
namespace DL
open PySem L2 Evl ClX
def D.bls : List D → Option (List Bool)
  | [] => some []
  | .bl b :: ds => (D.bls ds).map fun bs => b :: bs
  | _ :: _ => none
def D.ints : List D → Option (List Int)
  | [] => some []
  | .int b :: ds => (D.ints ds).map fun bs => b :: bs
  | _ :: _ => none
def D.all : List D → Option D
  | [.lst ds] => (D.bls ds).map fun bs => .bl (bs.all id)
  | _ => none
def D.any : List D → Option D
  | [.lst ds] => (D.bls ds).map fun bs => .bl (bs.any id)
  | _ => none
def D.abs : List D → Option D
  | [.int i] => some (.int (if i < 0 then -i else i))
  | _ => none
section
variable {K : PySem.W.Frag} {G : Hp}
theorem reps_ints : ∀ {ds : List D} {vs : List V} {bs : List Int}, Reps K G vs ds → D.ints ds = some bs → vs = bs.map V.int
  | _, _, _, .nil, h => by cases h; rfl
  | .int b :: ds, _, bs, .cons r rr, h => by
    have h : (D.ints ds).map (fun bs => b :: bs) = some bs := h
    cases q : D.ints ds with
    | none => rw [q] at h; cases h
    | some cs => rw [q] at h; cases h; cases r; rw [reps_ints rr q]; rfl
theorem lst_one {H : Hp} {xs : List V} {ds : List D} (e : Ex G H) (rx : RepTs K G H xs [.lst ds]) : ∃ p vs, xs = [.ref p] ∧ SqL K H p vs ∧ Reps K G vs ds := by
  obtain ⟨x, rfl, r⟩ := rx.one
  obtain ⟨p, vs, rfl, hs, rr⟩ := r.lst e
  exact ⟨p, vs, rfl, hs, rr⟩
def rAbsX : List V → Hp → VK → Prop := fun xs H Q => ∃ i, xs = [.int i] ∧ Q (.int (if i < 0 then -i else i)) H
theorem call_absX {X : Cx} : CallR X (.builtin "abs") rAbsX := call_abs
theorem sc_abs : SC K rAbsX D.abs := fun G H xs ds z Q e rx q k => by
  match ds, q, rx with
  | [.int i], q, rx =>
    cases q
    obtain ⟨x, rfl, r⟩ := rx.one
    rw [r.int]
    exact ⟨i, rfl, k G H _ (Al.refl e) (.int _)⟩
end
def kwPerm {α : Type} (is : List Nat) (us ws : List α) : List α := us ++ is.filterMap fun i => ws[i]?
section
variable {K : PySem.W.Frag} {G : Hp} {σ : RSt}
theorem TkRs.get : ∀ {vs : List V} {ts : List T} (i : Nat), TkRs K G σ vs ts → (vs[i]? = none ∧ ts[i]? = none) ∨ ∃ v t, vs[i]? = some v ∧ ts[i]? = some t ∧ TkR K G σ v t
  | _, _, _, .nil => .inl ⟨by simp, by simp⟩
  | _, _, 0, .cons h _ => .inr ⟨_, _, rfl, rfl, h⟩
  | _, _, i + 1, .cons _ r => by
    rcases TkRs.get i r with ⟨h1, h2⟩ | ⟨v, t, h1, h2, h3⟩
    · exact .inl ⟨by simpa using h1, by simpa using h2⟩
    · exact .inr ⟨v, t, by simpa using h1, by simpa using h2, h3⟩
theorem TkRs.append : ∀ {vs ws : List V} {ts us : List T}, TkRs K G σ vs ts → TkRs K G σ ws us → TkRs K G σ (vs ++ ws) (ts ++ us)
  | _, _, _, _, .nil, r => r
  | _, _, _, _, .cons h t, r => .cons h (TkRs.append t r)
end
def dKw (n m : Nat) (is : List Nat) (da dk : DA) : DA := fun ρ q er => da ρ (fun ts ρ1 => dk ρ1 (fun us ρ2 => (ts.length = n ∧ us.length = m) ∧ q (kwPerm is ts us) ρ2) er) er
end DL
namespace DL
open PySem L2 Evl
def dMethF (C : Addr) (m : Str) (dsp : DSp) (de : DE) (da : DA) : DF := fun ρ q er => de ρ (fun t ρ1 => Opt (rd ρ1 t) fun d => d.noF m C = true ∧ da ρ1 (fun ts ρ2 => Opt (argsOf ρ2 (t :: ts)) fun av => (bors (t :: ts)).Nodup ∧ dsp av (fun d os => q d (putOuts ρ2 (bors (t :: ts)) os)) (fun C' fs os => er C' fs (putOuts ρ2 (bors (t :: ts)) os))) er) er
end DL
namespace DL
open PySem L2 Evl
def spTrue (K : PySem.W.Frag) : Sp := fun vs H Q _ => ∃ (a : Addr) (ns : List Int), vs = [.ref a] ∧ SqL K H a (ns.map V.int) ∧ ns.length ≤ 63 ∧ ∀ H', Q (.bl true) H'
theorem spTrue_of {K : PySem.W.Frag} {dsp : DSp} (h : ∀ ns : List Int, ns.length ≤ 63 → dsp [.val (.lst (ns.map D.int))] (fun d _ => d = .bl true) (fun _ _ _ => False)) : ∀ (vs : List V) (H : Hp) (Q : VK) (E : XK), spTrue K vs H Q E → SpV K 1 dsp vs H Q E := by
  rintro vs H Q E ⟨a, ns, rfl, hs, hl, k⟩
  refine ⟨[], fun _ => none, H, [.val (.lst (ns.map D.int))], rfl, Ex.refl H, (fun b o q => by cases q), ⟨fun b o q => (by cases q), fun p hp => (by cases hp), fun p hp => (by cases hp), fun z => absurd rfl z⟩, .val (.lst hs (Reps.ints ns)) .nil, List.nodup_nil, _, _, h ns hl, fun G' H' v d os _ _ _ _ _ r e => ?_, fun _ _ _ _ _ _ _ _ _ _ _ _ _ _ q => q.elim⟩
  subst e
  cases r
  exact k H'
end DL
namespace DL
open PySem L2 Evl PyProof.Rows
section
variable {X : Cx} {K : PySem.W.Frag}
def dCKw (f : List D → List D → Option D) (da dk : DA) : DE := fun ρ q er => da ρ (fun ts ρ1 => dk ρ1 (fun us ρ2 => Opt (rds ρ2 ts) fun ds => Opt (rds ρ2 us) fun es => Opt (f ds es) fun z => q (.val z) ρ2) er) er
theorem TkRs.grow {K : PySem.W.Frag} {G G' : Hp} {σ : RSt} (e : Ex G G') {vs : List V} {ts : List T} (h : TkRs K G σ vs ts) : TkRs K G' σ vs ts := h.mono e
end
end DL
namespace DL
open PySem L2 Evl PyProof.Rows
section
variable {K : PySem.W.Frag} {pa : PaG} {W : WX} {te tf : TE} {de df : DE} {tk : TA} {dk : DA}
def dListRg1 (da : DE) : DF := fun ρ q er => da ρ (fun t ρ1 => Opt (rd ρ1 t) fun d => match d with
  | .int j => RgOk 0 j ∧ q (.lst ((List.range j.toNat).map fun (k : Nat) => .int (k : Int))) ρ1
  | _ => False) er
def D.index (a b : D) : Option D := match a.toP, b.toP with
  | some (.list ps), some p => if SeqAt.shaped (.list ps) = true ∧ SeqAt.shaped p = true then (ps.findIdx? fun z => PyData.eqv z p).map fun j => .int (j : Int) else none
  | _, _ => none
def dIndex (de df : DE) : DE := fun ρ q er => de ρ (fun s ρ1 => Opt (rd ρ1 s) fun a0 => a0.isLst = true ∧ df ρ1 (fun t ρ2 => Opt (rd ρ2 s) fun a => Opt (rd ρ2 t) fun b => Opt (D.index a b) fun z => q (.val z) ρ2) er) er
end
end DL
namespace DL
open PySem L2 Evl
theorem D_add (i j : Int) : D.add (.int i) (.int j) = some (.int (i + j)) := rfl
theorem D_sub (i j : Int) : D.sub (.int i) (.int j) = some (.int (i - j)) := rfl
theorem D_mod {i j : Int} (h : 0 < j) : D.mod (.int i) (.int j) = some (.int (i % j)) := by unfold D.mod; simp [h]
theorem D_div {i j : Int} (h : CDivW i j) : D.fdiv (.int i) (.int j) = some (.int (i / j)) := by unfold D.fdiv; simp [h]
theorem D_pow {i j : Int} (h : CPow i j) : D.pow (.int i) (.int j) = some (.int (i ^ j.toNat)) := by unfold D.pow; simp [h]
theorem D_mul {i j : Int} (h : CMul i j) : D.mul (.int i) (.int j) = some (.int (i * j)) := by unfold D.mul; simp [h]
theorem D_addL {x y : List D} (h : x.length + y.length ≤ sizeLine) : D.add (.lst x) (.lst y) = some (.lst (x ++ y)) := by unfold D.add; simp [h]
theorem ixn {xs : List D} {n : Nat} {i : Int} (e : i = (n : Int)) (h : n < xs.length) : D.ix (.lst xs) (.int i) = xs[n]? := by
  subst e
  show (ixN xs.length (n : Int)).bind (fun j => xs[j]?) = _
  unfold ixN
  rw [if_pos (by omega), if_pos (by omega)]
  rfl
theorem ix0 (x : D) (xs : List D) : D.ix (.lst (x :: xs)) (.int 0) = some x := ixn (n := 0) rfl (by simp)
theorem ix1 (x y : D) (xs : List D) : D.ix (.lst (x :: y :: xs)) (.int 1) = some y := ixn (n := 1) rfl (by simp)
theorem ix2 (x y z : D) (xs : List D) : D.ix (.lst (x :: y :: z :: xs)) (.int 2) = some z := ixn (n := 2) rfl (by simp)
theorem ix3 (x y z u : D) (xs : List D) : D.ix (.lst (x :: y :: z :: u :: xs)) (.int 3) = some u := ixn (n := 3) rfl (by simp)
theorem ix4 (x y z u v : D) (xs : List D) : D.ix (.lst (x :: y :: z :: u :: v :: xs)) (.int 4) = some v := ixn (n := 4) rfl (by simp)
theorem tx0 (x : D) (xs : List D) : D.ix (.tup (x :: xs)) (.int 0) = some x := ixn (n := 0) rfl (by simp)
theorem tx1 (x y : D) (xs : List D) : D.ix (.tup (x :: y :: xs)) (.int 1) = some y := ixn (n := 1) rfl (by simp)
theorem tx2 (x y z : D) (xs : List D) : D.ix (.tup (x :: y :: z :: xs)) (.int 2) = some z := ixn (n := 2) rfl (by simp)
theorem sx0 : ixN 3 0 = some 0 := rfl
theorem sx1 : ixN 3 1 = some 1 := rfl
theorem sx2 : ixN 3 2 = some 2 := rfl
mutual
def D.nice : Nat → D → Bool
  | _, .non => true
  | _, .bl _ => true
  | _, .int _ => true
  | _, .str x => PyData.strOk x
  | 0, .lst _ => false
  | 0, .tup _ => false
  | n + 1, .lst xs => D.nices n xs
  | n + 1, .tup xs => D.nices n xs
  | _, _ => false
def D.nices : Nat → List D → Bool
  | _, [] => true
  | n, x :: xs => D.nice n x && D.nices n xs
end
mutual
theorem nice_p : ∀ {d : D} {n : Nat}, d.nice n = true → ∃ p, d.toP = some p ∧ p.canLay0 = true ∧ p.depth ≤ n
  | .non, n, _ => ⟨.none, rfl, rfl, Nat.zero_le _⟩
  | .bl b, n, _ => ⟨.bool b, rfl, rfl, Nat.zero_le _⟩
  | .int b, n, _ => ⟨.int b, rfl, rfl, Nat.zero_le _⟩
  | .str x, n, h => ⟨.str x, rfl, by cases n <;> exact h, Nat.zero_le _⟩
  | .lst xs, 0, h => by cases h
  | .lst xs, n + 1, h => by
    obtain ⟨ps, h1, h2, h3⟩ := nices_p (d := xs) (n := n) h
    exact ⟨.list ps, by rw [D.toP, h1]; rfl, h2, by rw [PyData.depth]; omega⟩
  | .tup xs, 0, h => by cases h
  | .tup xs, n + 1, h => by
    obtain ⟨ps, h1, h2, h3⟩ := nices_p (d := xs) (n := n) h
    exact ⟨.tuple ps, by rw [D.toP, h1]; rfl, h2, by rw [PyData.depth]; omega⟩
  | .byt _, n, h => by cases n <;> cases h
  | .dct _, n, h => by cases n <;> cases h
  | .ins _ _, n, h => by cases n <;> cases h
  | .ptr _, n, h => by cases n <;> cases h
  | .ty _, n, h => by cases n <;> cases h
theorem nices_p : ∀ {d : List D} {n : Nat}, D.nices n d = true → ∃ ps, D.toPs d = some ps ∧ PyData.canLayAll0 ps = true ∧ PyData.depthAll ps ≤ n
  | [], n, _ => ⟨[], rfl, rfl, Nat.zero_le _⟩
  | x :: xs, n, h => by
    have h : (D.nice n x && D.nices n xs) = true := by cases n <;> exact h
    rw [Bool.and_eq_true] at h
    obtain ⟨p, a1, a2, a3⟩ := nice_p h.1
    obtain ⟨ps, b1, b2, b3⟩ := nices_p h.2
    exact ⟨p :: ps, by rw [D.toPs, a1, b1]; rfl, by rw [PyData.canLayAll0, a2, b2]; rfl, by rw [PyData.depthAll]; omega⟩
end
theorem nice_sh {d : D} {n : Nat} (h : d.nice n = true) (hn : n ≤ 64) : ∃ p, d.toP = some p ∧ SeqAt.shaped p = true := by
  obtain ⟨p, h1, h2, h3⟩ := nice_p h
  exact ⟨p, h1, by unfold SeqAt.shaped; rw [h2]; simpa using Nat.le_trans h3 hn⟩
theorem eqB_nice {a b : D} {n m : Nat} (ha : a.nice n = true) (hb : b.nice m = true) (hn : n ≤ 64) (hm : m ≤ 64) : ∃ p q, a.toP = some p ∧ b.toP = some q ∧ D.eqB a b = some (PyData.eqv p q) := by
  obtain ⟨p, h1, h2⟩ := nice_sh ha hn
  obtain ⟨q, k1, k2⟩ := nice_sh hb hm
  exact ⟨p, q, h1, k1, by unfold D.eqB; rw [h1, k1]; simp [h2, k2]⟩
theorem eq_int (i j : Int) : D.eq (.int i) (.int j) = some (.bl (i == j)) := rfl
theorem ne_int (i j : Int) : D.ne (.int i) (.int j) = some (.bl (!(i == j))) := rfl
theorem nices_all {n : Nat} : ∀ {xs : List D}, (∀ x ∈ xs, x.nice n = true) → D.nices n xs = true
  | [], _ => by cases n <;> rfl
  | x :: xs, h => by
    have e : D.nices n (x :: xs) = (D.nice n x && D.nices n xs) := by cases n <;> rfl
    rw [e, h x (List.mem_cons_self ..), nices_all fun y hy => h y (List.mem_cons_of_mem _ hy)]; rfl
end DL
namespace DL
open PySem L2 Evl
/-! ### where simp goes: into what is asked, not into what comes behind.
The last argument's type names what comes behind: so simp takes that for fixed. -/
def idd {α : Sort _} (a : α) : α := a
theorem idd_eq {α : Sort _} (a : α) : idd a = a := rfl
def Ph {α : Sort _} (_ : α) : Type := Unit
def OptF {α : Type} (o : Option α) (k : α → Prop) (_ : Ph k := ()) : Prop := Opt o k
theorem opt_f {α : Type} (o : Option α) (k : α → Prop) : Opt o k = OptF o k := rfl
theorem optF_some {α : Type} (a : α) (k : α → Prop) : OptF (some a) k = k a := propext Opt_some
def CdF (c : Bool) (a b : Prop) (_ : Ph a := ()) (_ : Ph b := ()) : Prop := if c = true then a else b
theorem ite_cd (c : Bool) (a b : Prop) : (if c = true then a else b) = CdF c a b := rfl
theorem cd_true (a b : Prop) : CdF true a b = a := rfl
theorem cd_false (a b : Prop) : CdF false a b = b := rfl
def forLF (g : DG) (db : DS) (DD : Do) (ds : List D) (ρ : Ro) (_ : Ph g := ()) (_ : Ph db := ()) (_ : Ph DD := ()) : Prop := forL g db DD ds ρ
theorem forL_f (g : DG) (db : DS) (DD : Do) (ds : List D) (ρ : Ro) : forL g db DD ds ρ = forLF g db DD ds ρ := rfl
def lcLF (g : DG) (t : DT) (de : DE) (vs : List Nat) (q : List D → Ro → Prop) (ds acc : List D) (ρ : Ro) (_ : Ph g := ()) (_ : Ph t := ()) (_ : Ph de := ()) (_ : Ph q := ()) : Prop := lcL g t de vs q ds acc ρ
theorem lcL_f (g : DG) (t : DT) (de : DE) (vs : List Nat) (q : List D → Ro → Prop) (ds acc : List D) (ρ : Ro) : lcL g t de vs q ds acc ρ = lcLF g t de vs q ds acc ρ := rfl
def dcLF (g : DG) (t : DT) (dk de : DE) (vs : List Nat) (q : List (Key × D) → Ro → Prop) (ds : List D) (acc : List (Key × D)) (ρ : Ro) (_ : Ph g := ()) (_ : Ph t := ()) (_ : Ph dk := ()) (_ : Ph de := ()) (_ : Ph q := ()) : Prop := dcL g t dk de vs q ds acc ρ
theorem dcL_f (g : DG) (t : DT) (dk de : DE) (vs : List Nat) (q : List (Key × D) → Ro → Prop) (ds : List D) (acc : List (Key × D)) (ρ : Ro) : dcL g t dk de vs q ds acc ρ = dcLF g t dk de vs q ds acc ρ := rfl
def Run (dsp : DSp) (av : List Sl) (q : D → List D → Prop) (er : Addr → List (Str × D) → List D → Prop) (_ : Ph dsp := ()) (_ : Ph q := ()) (_ : Ph er := ()) : Prop := dsp av q er
theorem noEr_run (dsp : DSp) (av : List Sl) (q : D → List D → Prop) (er : Addr → List (Str × D) → List D → Prop) : noEr dsp av q er = Run dsp av q (fun _ _ _ => False) := rfl
def getS (o : Option Sl) (f : D → Prop) (b : Prop) (_ : Ph f := ()) (_ : Ph b := ()) : Prop := match o with
  | some (.val d) => f d
  | some (.own _) => b
  | some (.par _) => b
  | _ => False
theorem getS_val (d : D) (f : D → Prop) (b : Prop) : getS (some (.val d)) f b = f d := rfl
theorem getS_own (d : D) (f : D → Prop) (b : Prop) : getS (some (.own d)) f b = b := rfl
theorem getS_par (d : D) (f : D → Prop) (b : Prop) : getS (some (.par d)) f b = b := rfl
theorem w_var {i : Nat} {ρ : Ro} {q : T → Ro → Prop} {er : ER} : dVar i ρ q er = getS ρ[i]? (fun d => q (.val d) ρ) (q (.bor i) ρ) := by
  unfold dVar getS
  cases ρ[i]? with
  | none => rfl
  | some s => cases s <;> rfl
section
variable {ρ : Ro} {d : D} {i : Nat} {is : List Nat} {t : T} {ts : List T} {n m : Int} {b : Bool} {xs : List D}
theorem rd_val : rd ρ (.val d) = some d := rfl
theorem rd_bor : rd ρ (.bor i) = (ρ[i]?).bind Sl.ownD := rfl
theorem ownD_own : (Sl.own d).ownD = some d := rfl
theorem ownD_par : (Sl.par d).ownD = some d := rfl
theorem rds_nil : rds ρ [] = some [] := rfl
theorem rds_cons : rds ρ (t :: ts) = (rd ρ t).bind fun d => (rds ρ ts).map fun ds => d :: ds := rfl
theorem vals_nil : vals [] = some [] := rfl
theorem vals_val : vals (.val d :: ts) = (vals ts).map fun ds => d :: ds := rfl
theorem argsOf_nil : argsOf ρ [] = some [] := rfl
theorem argsOf_val : argsOf ρ (.val d :: ts) = (argsOf ρ ts).map fun a => .val d :: a := rfl
theorem argsOf_bor : argsOf ρ (.bor i :: ts) = (rd ρ (.bor i)).bind fun d => (argsOf ρ ts).map fun a => .par d :: a := rfl
theorem ownAt_def : ownAt ρ i = (ρ[i]?).bind Sl.ownD := rfl
def Sl.parD : Sl → Option D
  | .par d => some d
  | _ => none
theorem parD_par : (Sl.par d).parD = some d := rfl
theorem outs_nil : outs ρ [] = some [] := rfl
theorem outs_cons : outs ρ (i :: is) = ((ρ[i]?).bind Sl.parD).bind fun d => (outs ρ is).map fun ds => d :: ds := by
  rw [outs]
  cases ρ[i]? with
  | none => rfl
  | some s => cases s <;> rfl
theorem bool_bl : (D.bl b).bool = some b := rfl
theorem toInt_int : D.toInt [.int n] = some (.int n) := rfl
theorem toInt_bl : D.toInt [.bl b] = some (.int (if b = true then 1 else 0)) := rfl
theorem truth_bl : (D.bl b).truth = some b := rfl
theorem truth_int : (D.int n).truth = some (n != 0) := rfl
theorem truth_non : D.non.truth = some false := rfl
theorem cmp_int {p : Int → Int → Bool} : D.cmp p (.int n) (.int m) = some (.bl (p n m)) := rfl
theorem neg_int : D.neg (.int n) = some (.int (-n)) := rfl
theorem len_lst : D.len [.lst xs] = some (.int xs.length) := rfl
theorem len_tup : D.len [.tup xs] = some (.int xs.length) := rfl
theorem items_lst : (D.lst xs).items = some xs := rfl
theorem items_tup : (D.tup xs).items = some xs := rfl
end
theorem forL_inv {g : DG} {db : DS} {nx0 : Ro → Prop} {rt : T → Ro → Prop} {rf : D → Ro → Prop} {bk ct : Ro → Prop} {er : ER} {ds : List D} {ρ : Ro} (I : Nat → Ro → Prop) (h0 : I 0 ρ)
    (step : ∀ (i : Nat) (d : D) (ρ : Ro) (nx : Ro → Prop), ds[i]? = some d → I i ρ → (∀ ρ', I (i + 1) ρ' → nx ρ') → g (.val d) ρ fun ρ1 => db ⟨nx, rt, rf, nx0, nx, er⟩ ρ1)
    (fin : ∀ ρ, I ds.length ρ → nx0 ρ) : forL g db ⟨nx0, rt, rf, bk, ct, er⟩ ds ρ := by
  have go : ∀ (n i : Nat) (ρ : Ro), ds.length - i = n → i ≤ ds.length → I i ρ → forL g db ⟨nx0, rt, rf, bk, ct, er⟩ (ds.drop i) ρ := by
    intro n
    induction n with
    | zero =>
      intro i ρ e hi h
      have ei : i = ds.length := by omega
      subst ei
      rw [List.drop_length]
      exact fin ρ h
    | succ n ih =>
      intro i ρ e hi h
      have hlt : i < ds.length := by omega
      rw [List.drop_eq_getElem_cons hlt]
      exact step i ds[i] ρ _ (by simp [hlt]) h fun ρ' h' => ih (i + 1) ρ' (by omega) hlt h'
  exact go _ 0 ρ rfl (Nat.zero_le _) h0
theorem lcL_inv {g : DG} {t : DT} {de : DE} {vs : List Nat} {q : List D → Ro → Prop} {ds : List D} {ρ : Ro} (I : Nat → List D → Ro → Prop) (h0 : I 0 [] ρ)
    (step : ∀ (i : Nat) (d : D) (acc : List D) (ρ : Ro) (nx : List D → Ro → Prop), ds[i]? = some d → I i acc ρ → (∀ acc' ρ', I (i + 1) acc' ρ' → nx acc' ρ') →
      g (.val d) (wipeD ρ vs) fun ρ1 => t ρ1 (fun b ρ2 => if b = true then de ρ2 (fun s ρ3 => match s with
        | .val y => acc.length < sizeLine ∧ nx (acc ++ [y]) (wipeD ρ3 vs)
        | .bor _ => False) (fun _ _ _ => False) else nx acc (wipeD ρ2 vs)) (fun _ _ _ => False))
    (fin : ∀ acc ρ, I ds.length acc ρ → q acc ρ) : lcL g t de vs q ds [] ρ := by
  have go : ∀ (n i : Nat) (acc : List D) (ρ : Ro), ds.length - i = n → i ≤ ds.length → I i acc ρ → lcL g t de vs q (ds.drop i) acc ρ := by
    intro n
    induction n with
    | zero =>
      intro i acc ρ e hi h
      have ei : i = ds.length := by omega
      subst ei
      rw [List.drop_length]
      exact fin acc ρ h
    | succ n ih =>
      intro i acc ρ e hi h
      have hlt : i < ds.length := by omega
      rw [List.drop_eq_getElem_cons hlt]
      exact step i ds[i] acc ρ (fun acc' ρ' => lcL g t de vs q (ds.drop (i + 1)) acc' ρ') (by simp [hlt]) h fun acc' ρ' h' => ih (i + 1) acc' ρ' (by omega) hlt h'
  exact go _ 0 [] ρ rfl (Nat.zero_le _) h0
def Sl.isP : Sl → Bool
  | .par _ => true
  | _ => false
theorem isPar0 (a : Sl) (l : Ro) : isPar (a :: l) 0 = a.isP := by cases a <;> rfl
theorem isParS (a : Sl) (l : Ro) (n : Nat) : isPar (a :: l) (n + 1) = isPar l n := rfl
theorem isPN (l : Ro) : isPar [] 0 = false := rfl
section
variable {nx : Ro → Prop} {rt : T → Ro → Prop} {rf : D → Ro → Prop} {bk ct : Ro → Prop} {er : ER} {a b : DS} {ρ : Ro} {t : DT} {de dk : DE} {df dh : DF} {da : DA} {di : DI} {g : DG} {i j l : Nat} {f : Str} {Cs : List Addr} {N : Nat} {av : List Sl} {q : D → List D → Prop} {er0 : Addr → List (Str × D) → List D → Prop}
theorem w_seq : dSeq a b ⟨nx, rt, rf, bk, ct, er⟩ ρ = a ⟨b ⟨nx, rt, rf, bk, ct, er⟩, rt, rf, bk, ct, er⟩ ρ := rfl
theorem w_next : dNext ⟨nx, rt, rf, bk, ct, er⟩ ρ = nx ρ := rfl
theorem w_brk : dBrk ⟨nx, rt, rf, bk, ct, er⟩ ρ = bk ρ := rfl
theorem w_cnt : dCnt ⟨nx, rt, rf, bk, ct, er⟩ ρ = ct ρ := rfl
theorem w_drop : dDrop de ⟨nx, rt, rf, bk, ct, er⟩ ρ = de ρ (fun _ ρ1 => nx ρ1) er := rfl
theorem w_ret : dRet de ⟨nx, rt, rf, bk, ct, er⟩ ρ = de ρ rt er := rfl
theorem w_retF : dRetF df ⟨nx, rt, rf, bk, ct, er⟩ ρ = df ρ rf er := rfl
theorem w_retN : dRetN ⟨nx, rt, rf, bk, ct, er⟩ ρ = rt (.val .non) ρ := rfl
theorem w_if : dIfS t a b ⟨nx, rt, rf, bk, ct, er⟩ ρ = t ρ (fun c ρ1 => if c = true then a ⟨nx, rt, rf, bk, ct, er⟩ ρ1 else b ⟨nx, rt, rf, bk, ct, er⟩ ρ1) er := rfl
theorem w_asg : dAsg de g ⟨nx, rt, rf, bk, ct, er⟩ ρ = de ρ (fun t ρ1 => g t ρ1 nx) er := rfl
theorem w_own : dOwn df i ⟨nx, rt, rf, bk, ct, er⟩ ρ = df ρ (fun d ρ1 => (isPar ρ1 i = false ∧ i < ρ1.length) ∧ nx (ρ1.set i (.own d))) er := rfl
theorem w_for : dFor di g b ⟨nx, rt, rf, bk, ct, er⟩ ρ = di ρ (fun ds ρ1 => forL g b ⟨nx, rt, rf, bk, ct, er⟩ ds ρ1) er := rfl
theorem w_setIx : dSetIx i dk de ⟨nx, rt, rf, bk, ct, er⟩ ρ = de ρ (fun t ρ1 => match t with
  | .val e => (ownAt ρ1 i).isSome = true ∧ dk ρ1 (fun u ρ2 => Opt (rd ρ2 u) fun k => Opt (ownAt ρ2 i) fun d => match d, k with
    | .lst ds, .int z => Opt (ixN ds.length z) fun j => nx (setD ρ2 i (.lst (ds.set j e)))
    | _, _ => False) er
  | .bor _ => False) er := rfl
theorem w_setF : dSetF Cs i f de ⟨nx, rt, rf, bk, ct, er⟩ ρ = de ρ (fun t ρ1 => match t with
  | .val e => Opt (ownAt ρ1 i) fun d => (match d with
    | .ins C es => C ∈ Cs ∧ es.length < 1000 ∧ nx (setD ρ1 i (.ins C (putFD f e es)))
    | _ => False)
  | .bor _ => False) er := rfl
theorem w_dput : dDPut i dk de ⟨nx, rt, rf, bk, ct, er⟩ ρ = de ρ (fun t ρ1 => match t with
  | .val e => (ownAt ρ1 i).isSome = true ∧ dk ρ1 (fun u ρ2 => Opt (rd ρ2 u) fun kd => Opt kd.key fun k => Opt (ownAt ρ2 i) fun d => (match d with
    | .dct kvs => kvs.length < sizeLine ∧ nx (setD ρ2 i (.dct (putKD kvs k e)))
    | _ => False)) er
  | .bor _ => False) er := rfl
theorem w_par : dPar i j da ⟨nx, rt, rf, bk, ct, er⟩ ρ = da ρ (fun ts ρ1 => match ts with
  | [.val a, .val b] => (isPar ρ1 i = false ∧ isPar ρ1 j = false) ∧ nx ((ρ1.set i (.val a)).set j (.val b))
  | _ => False) er := rfl
theorem w_par3 : dPar3 i j l da ⟨nx, rt, rf, bk, ct, er⟩ ρ = da ρ (fun ts ρ1 => match ts with
  | [.val a, .val b, .val c] => (isPar ρ1 i = false ∧ isPar ρ1 j = false ∧ isPar ρ1 l = false) ∧ nx (((ρ1.set i (.val a)).set j (.val b)).set l (.val c))
  | _ => False) er := rfl
theorem w_parVO : dParVO i j de df ⟨nx, rt, rf, bk, ct, er⟩ ρ = de ρ (fun t ρ1 => match t with
  | .val a => df ρ1 (fun b ρ2 => (isPar ρ2 i = false ∧ isPar ρ2 j = false) ∧ nx ((ρ2.set i (.val a)).set j (.own b))) er
  | .bor _ => False) er := rfl
theorem w_parOV : dParOV i j df de ⟨nx, rt, rf, bk, ct, er⟩ ρ = df ρ (fun a ρ1 => de ρ1 (fun t ρ2 => match t with
  | .val b => (isPar ρ2 i = false ∧ isPar ρ2 j = false) ∧ nx ((ρ2.set i (.own a)).set j (.val b))
  | .bor _ => False) er) er := rfl
theorem w_parOO : dParOO i j df dh ⟨nx, rt, rf, bk, ct, er⟩ ρ = df ρ (fun a ρ1 => dh ρ1 (fun b ρ2 => (isPar ρ2 i = false ∧ isPar ρ2 j = false) ∧ nx ((ρ2.set i (.own a)).set j (.own b))) er) er := rfl
theorem w_body : dBody N a av q er0 = a ⟨fun ρ => Opt (outs ρ (parIx av 0)) fun os => q .non os, fun t ρ => match t with
    | .val d => Opt (outs ρ (parIx av 0)) fun os => q d os
    | .bor _ => False, fun _ _ => False, fun _ => False, fun _ => False, fun C fs ρ => Opt (outs ρ (parIx av 0)) fun os => er0 C fs os⟩ (av ++ List.replicate (N - av.length) .no) := rfl
end
theorem isP_val (d : D) : (Sl.val d).isP = false := rfl
theorem isP_own (d : D) : (Sl.own d).isP = false := rfl
theorem isP_no : Sl.no.isP = false := rfl
theorem isP_par (d : D) : (Sl.par d).isP = true := rfl
def mk (l : List Nat) : Str := ⟨l.toArray⟩
theorem strOk_mk {l : List Nat} (h : ∀ c ∈ l, c < 0x110000) : PyData.strOk (mk l) = true := by
  unfold PyData.strOk mk
  simp
  exact h
theorem cutL {l : List D} (lo hi : Option Int) : D.cut (.lst l) lo hi = some (.lst ((l.drop (HT.sIx l.length 0 lo)).take (HT.sIx l.length l.length hi - HT.sIx l.length 0 lo))) := rfl
theorem cutL_lo {l : List D} {n : Nat} : D.cut (.lst l) none (some (n : Int)) = some (.lst (l.take n)) := by
  rw [cutL, HT.sIx_nat, HT.sIx_none, List.drop_zero, Nat.sub_zero]
  congr 2
  rcases Nat.le_total n l.length with h | h
  · rw [Nat.min_eq_left h]
  · rw [Nat.min_eq_right h, List.take_of_length_le (Nat.le_refl _), List.take_of_length_le h]
end DL
namespace DL
open PySem L2 Evl
def isAz (c : Nat) : Prop := 97 ≤ c ∧ c ≤ 122
def isDg (c : Nat) : Prop := 48 ≤ c ∧ c ≤ 57
def isAn (c : Nat) : Prop := isAz c ∨ isDg c
instance (c : Nat) : Decidable (isAz c) := by unfold isAz; infer_instance
instance (c : Nat) : Decidable (isDg c) := by unfold isDg; infer_instance
instance (c : Nat) : Decidable (isAn c) := by unfold isAn; infer_instance
def IsNm (l : List Nat) : Prop := ∃ c cs, l = c :: cs ∧ isAz c ∧ (∀ d ∈ cs, isAn d) ∧ cs.length ≤ 7
theorem IsNm.ok {l : List Nat} (h : IsNm l) : PyData.strOk (mk l) = true ∧ 0 < l.length ∧ l.length ≤ 8 := by
  obtain ⟨c, cs, rfl, h1, h2, h3⟩ := h
  refine ⟨strOk_mk fun d hd => ?_, by simp, by simp; omega⟩
  rcases List.mem_cons.mp hd with e | hd
  · subst e; obtain ⟨a, b⟩ := h1; omega
  · rcases h2 d hd with ⟨a, b⟩ | ⟨a, b⟩ <;> omega
def qn (j : Nat) : List Nat := if j < 10 then [113, 48 + j] else [113, 48 + j / 10, 48 + j % 10]
theorem qn_ok : ∀ j : Fin 60, (qn j.val).head? = some 113 ∧ (∀ d ∈ (qn j.val).tail, isDg d) ∧ (qn j.val).length ≤ 3 ∧ 113 :: (qn j.val).tail = qn j.val := by decide +kernel
theorem qn_inj : ∀ i j : Fin 60, qn i.val = qn j.val → i = j := by decide +kernel
def NotQ (l : List Nat) : Prop := l.head? ≠ some 113 ∨ ∃ d ∈ l.tail, ¬ isDg d
theorem notq_ne {l : List Nat} (h : NotQ l) (j : Fin 60) : l ≠ qn j.val := fun e => by
  obtain ⟨a, b, _⟩ := qn_ok j
  rcases h with h | ⟨d, hd, h⟩
  · exact h (by rw [e]; exact a)
  · rw [e] at hd; exact h (b d hd)
structure Nms (k : Nat) (fs : List (List Nat)) : Prop where
  nd : fs.Nodup
  nm : ∀ l ∈ fs, IsNm l
  kd : ∀ l ∈ fs, NotQ l ∨ ∃ j : Fin 60, j.val < k ∧ l = qn j.val
theorem Nms.nil : Nms 0 [] := ⟨List.nodup_nil, (fun l h => by cases h), (fun l h => by cases h)⟩
theorem Nms.q {k : Fin 60} {fs : List (List Nat)} (N : Nms k.val fs) : IsNm (qn k.val) ∧ qn k.val ∉ fs := by
  obtain ⟨a, b, c, d⟩ := qn_ok k
  refine ⟨⟨113, (qn k.val).tail, d.symm, by decide, fun x hx => .inr (b x hx), by rw [List.length_tail]; omega⟩, fun h => ?_⟩
  rcases N.kd _ h with h | ⟨j, h, e⟩
  · exact notq_ne h k rfl
  · have := qn_inj _ _ e
    rw [← this] at h
    omega
end DL
namespace DL
open PySem L2 Evl
section
variable {K : PySem.W.Frag} {Cs : List Addr} {n : Int} {x : Str} {xs : List D} {b : Bool} {s : String} {d : D} {ts : List T}
theorem kno_int : (D.int n).kno Cs = true := rfl
theorem kno_str : (D.str x).kno Cs = true := rfl
theorem kno_lst : (D.lst xs).kno Cs = true := rfl
theorem kno_tup : (D.tup xs).kno Cs = true := rfl
theorem kno_bl : (D.bl b).kno Cs = true := rfl
theorem kno_non : D.non.kno Cs = true := rfl
theorem tyV_int : (D.int n).tyV = some (.type "int") := rfl
theorem tyV_bl : (D.bl b).tyV = some (.type "bool") := rfl
theorem tyV_str : (D.str x).tyV = some (.type "str") := rfl
theorem tyV_lst : (D.lst xs).tyV = some (.type "list") := rfl
theorem tyV_tup : (D.tup xs).tyV = some (.type "tuple") := rfl
theorem tyV_non : D.non.tyV = some (.type "NoneType") := rfl
theorem clV_ty : (D.ty s).clV = some (.type s) := rfl
theorem clVT_nil : clVT [] = some [] := rfl
theorem clVT_val : clVT (.val d :: ts) = d.clV.bind fun u => (clVT ts).map fun us => u :: us := rfl
theorem kit_same (s : String) : PySem.W.kitOne K (.type s) (.type s) = some true := by unfold PySem.W.kitOne; rw [if_pos (by simp)]
theorem kit_int_bool : PySem.W.kitOne K (.type "int") (.type "bool") = some false := by rfl
theorem kit_bool_int : PySem.W.kitOne K (.type "bool") (.type "int") = some true := by rfl
theorem kit_tuple_list : PySem.W.kitOne K (.type "tuple") (.type "list") = some false := by rfl
theorem kits_list : PySem.W.kitAny K (.type "list") [.type "list", .type "tuple"] = some true := by unfold PySem.W.kitAny; rw [kit_same]
theorem kits_tuple : PySem.W.kitAny K (.type "tuple") [.type "list", .type "tuple"] = some true := by
  unfold PySem.W.kitAny
  rw [kit_tuple_list]
  show PySem.W.kitAny K (.type "tuple") [.type "tuple"] = some true
  unfold PySem.W.kitAny
  rw [kit_same]
end
end DL
namespace DL
open PySem L2 Evl
def kvs {α : Type} (f : α → List Nat) (g : α → D) (xs : List α) : List (Key × D) := xs.map fun a => (.inr (mk (f a)), g a)
theorem isN_non : D.isN .non .non = some (.bl true) := rfl
theorem isNN_non : D.isNotN .non .non = some (.bl false) := rfl
theorem key_str (x : Str) : (D.str x).key = some (.inr x) := rfl
theorem key_int (x : Int) : (D.int x).key = some (.inl x) := rfl
end DL
namespace DL
open PySem L2 Evl
theorem lk_self (k : Str) (a : D) (r : List (Str × D)) : List.lookup k ((k, a) :: r) = some a := by simp
theorem pf_nil (f : Str) (e : D) : putFD f e [] = [(f, e)] := rfl
theorem toTup_lst (xs : List D) : D.toTuple [.lst xs] = some (.tup xs) := rfl
theorem toTup_tup (xs : List D) : D.toTuple [.tup xs] = some (.tup xs) := rfl
theorem insOf_ins (C : Addr) (fs : List (Str × D)) : (D.ins C fs).insOf C = true := by unfold D.insOf; simp
end DL
namespace DL
def lv (ls : List Int) (i : Nat) : Int := ls.getD i 0
def lastB (ls : List Int) (v : Int) : Nat → Option Nat
  | 0 => none
  | k + 1 => if lv ls k < v then some k else lastB ls v k
theorem lastB_some {ls : List Int} {v : Int} : ∀ {k p : Nat}, lastB ls v k = some p → p < k ∧ lv ls p < v ∧ ∀ j, p < j → j < k → v ≤ lv ls j
  | 0, p, h => by cases h
  | k + 1, p, h => by
    unfold lastB at h
    split at h
    · rename_i hk
      cases h
      exact ⟨Nat.lt_succ_self _, hk, fun j h1 h2 => by omega⟩
    · rename_i hk
      obtain ⟨a, b, c⟩ := lastB_some h
      refine ⟨Nat.lt_succ_of_lt a, b, fun j h1 h2 => ?_⟩
      by_cases e : j = k
      · subst e; omega
      · exact c j h1 (by omega)
structure PreO (ls : List Int) : Prop where
  nn : ∀ i, i < ls.length → 0 ≤ lv ls i
  zero : 0 < ls.length → lv ls 0 = 0
  step : ∀ i, i + 1 < ls.length → lv ls (i + 1) ≤ lv ls i + 1
theorem PreO.par {ls : List Int} (P : PreO ls) {i p : Nat} (hi : i < ls.length) (e : lastB ls (lv ls i) i = some p) : lv ls p = lv ls i - 1 := by
  obtain ⟨a, b, c⟩ := lastB_some e
  have h1 := P.step p (by omega)
  by_cases ep : p + 1 = i
  · subst ep; omega
  · have := c (p + 1) (by omega) (by omega); omega
end DL
namespace DL
open PySem L2 Evl
theorem lcL_fm {g : DG} {t : DT} {de : DE} {vs : List Nat} {q : List D → Ro → Prop} {ds : List D} {ρ : Ro} (f : D → Option D) (P : Ro → Prop) (h0 : P ρ) (hz : ds.length ≤ sizeLine)
    (step : ∀ (i : Nat) (d : D) (ρ : Ro) (nx : D → Ro → Prop) (el : Ro → Prop) (small : Nat → Prop), ds[i]? = some d → P ρ → (∀ y, f d = some y → ∀ ρ', P ρ' → nx y ρ') → (f d = none → ∀ ρ', P ρ' → el ρ') →
      g (.val d) (wipeD ρ vs) fun ρ1 => t ρ1 (fun b ρ2 => if b = true then de ρ2 (fun s ρ3 => match s with
        | .val y => nx y (wipeD ρ3 vs)
        | .bor _ => False) (fun _ _ _ => False) else el (wipeD ρ2 vs)) (fun _ _ _ => False))
    (fin : ∀ ρ, P ρ → q (ds.filterMap f) ρ) : lcL g t de vs q ds [] ρ := by
  refine lcL_inv (fun i acc ρ => acc = (ds.take i).filterMap f ∧ P ρ) ⟨rfl, h0⟩ ?_ ?_
  · rintro i d acc ρ nx hd ⟨rfl, hP⟩ hnx
    obtain ⟨hi, hr⟩ := List.getElem?_eq_some_iff.mp hd
    have hlen : ((ds.take i).filterMap f).length < sizeLine := by
      refine Nat.lt_of_le_of_lt (List.length_filterMap_le _ _) ?_
      rw [List.length_take]; omega
    have e : (ds.take (i + 1)).filterMap f = (ds.take i).filterMap f ++ (f d).toList := by
      rw [List.take_succ_eq_append_getElem hi, hr, List.filterMap_append]
      cases h : f d with
      | none => simp [h]
      | some y => simp [h]
    refine step i d ρ (fun y ρ' => ((ds.take i).filterMap f).length < sizeLine ∧ nx ((ds.take i).filterMap f ++ [y]) ρ') (fun ρ' => nx ((ds.take i).filterMap f) ρ') (fun _ => True) hd hP (fun y hy ρ' hP' => ⟨hlen, ?_⟩) (fun hn ρ' hP' => ?_)
    · exact hnx _ _ ⟨by rw [e, hy]; rfl, hP'⟩
    · exact hnx _ _ ⟨by rw [e, hn]; simp, hP'⟩
  · rintro acc ρ ⟨rfl, hP⟩
    rw [List.take_length]
    exact fin ρ hP
theorem filterMap_all {α β : Type} {f : α → Option β} {g : α → β} : ∀ {l : List α}, (∀ x ∈ l, f x = some (g x)) → l.filterMap f = l.map g
  | [], _ => rfl
  | x :: xs, h => by
    rw [List.filterMap_cons, h x List.mem_cons_self, List.map_cons, filterMap_all fun y hy => h y (List.mem_cons_of_mem _ hy)]
theorem fm_map {α : Type} {r : α → D} {f : D → Option D} {g : α → D} {xs : List α} (h : ∀ x ∈ xs, f (r x) = some (g x)) : (xs.map r).filterMap f = xs.map g := by
  rw [List.filterMap_map]
  exact filterMap_all h
theorem ints_map {α : Type} {f : α → Int} : ∀ xs : List α, D.ints (xs.map fun x => D.int (f x)) = some (xs.map f)
  | [] => rfl
  | x :: xs => by
    have e : D.ints (D.int (f x) :: xs.map fun x => D.int (f x)) = (D.ints (xs.map fun x => D.int (f x))).map fun bs => f x :: bs := rfl
    rw [List.map_cons, e, ints_map xs]; rfl
structure IsEnd (ls : List Int) (n i e : Nat) : Prop where
  lt : i < e
  le : e ≤ n
  ab : ∀ j, i < j → j < e → lv ls i < lv ls j
  at' : e = n ∨ lv ls e ≤ lv ls i
theorem IsEnd.uniq {ls : List Int} {n i e e' : Nat} (h : IsEnd ls n i e) (h' : IsEnd ls n i e') : e = e' := by
  rcases Nat.lt_trichotomy e e' with hl | hl | hl
  · rcases h.at' with z | z
    · have := h'.le; omega
    · have := h'.ab e h.lt hl; omega
  · exact hl
  · rcases h'.at' with z | z
    · have := h.le; omega
    · have := h.ab e' h'.lt hl; omega
def getW (o : Option Sl) (f : D → Prop) (_ : Ph f := ()) : Prop := match o with
  | some (.own d) => f d
  | _ => False
theorem getW_own (d : D) (f : D → Prop) : getW (some (.own d)) f = f d := rfl
theorem w_frz {i : Nat} {s : DS} {DD : Do} {ρ : Ro} : dFrz i s DD ρ = getW ρ[i]? fun d => s DD (ρ.set i (.val d)) := by
  unfold dFrz getW
  cases ρ[i]? with
  | none => rfl
  | some z => cases z <;> rfl
theorem kwP1 (x : T) : kwPerm [0] [] [x] = [x] := rfl
theorem kwP10 (x y : T) : kwPerm [1, 0] [] [x, y] = [y, x] := rfl
theorem seq_lst {xs : List D} : (D.lst xs).seq = some xs := rfl
theorem seq_tup {xs : List D} : (D.tup xs).seq = some xs := rfl
end DL
namespace DLN
open PySem PySem.Calls PyProof.Rows Builtin PySem.W
end DLN
namespace DL
open PySem L2 Evl
def dEqO (K : PySem.W.Frag) (g : Bool → Bool) (Cs : List Addr) (C : Addr) (dsp : DSp) (da db : DE) : DE := fun ρ q er => da ρ (fun t ρ1 => db ρ1 (fun u ρ2 => Opt (rd ρ2 t) fun d => d.insOf C = true ∧ Opt (rd ρ2 u) fun y => y.kno Cs = true ∧ Opt y.tyV fun ty => PySem.W.notFirst K C ty = true ∧ Opt (argsOf ρ2 [t, u]) fun av => (bors [t, u]).Nodup ∧
  noEr dsp av (fun r os => Opt r.bool fun b => q (.val (.bl (g b))) (putOuts ρ2 (bors [t, u]) os)) (fun _ _ _ => False)) er) er
def dBinO (C : Addr) (dsp : DSp) (da db : DE) : DE := fun ρ q er => da ρ (fun t ρ1 => db ρ1 (fun u ρ2 => Opt (rd ρ2 t) fun d => d.insOf C = true ∧ Opt (rd ρ2 u) fun y => y.insOf C = true ∧ Opt (argsOf ρ2 [t, u]) fun av => (bors [t, u]).Nodup ∧
  noEr dsp av (fun r os => q (.val r) (putOuts ρ2 (bors [t, u]) os)) (fun _ _ _ => False)) er) er
end DL
namespace DL
open PySem L2 Evl
def dNev : DE := fun _ _ _ => False
theorem nf_same (K : PySem.W.Frag) (C : Addr) : PySem.W.notFirst K C (.ref C) = true := by unfold PySem.W.notFirst; simp
theorem nf_ty {K : PySem.W.Frag} {C : Addr} {n : String} {l : List String} (h : fastBuiltinMro n = some (l.map Value.type)) : PySem.W.notFirst K C (.type n) = true := by
  have e : PySem.W.subIn K (.type n) (.ref C) = some false := by
    show (fastBuiltinMro n).map (·.contains (.ref C)) = some false
    rw [h]
    have : (l.map Value.type).contains (Value.ref C) = false := by
      rw [Bool.eq_false_iff]
      intro z
      rw [List.contains_iff_mem] at z
      obtain ⟨x, -, hx⟩ := List.mem_map.mp z
      cases hx
    simp [this]
  unfold PySem.W.notFirst
  rw [e]
  simp
theorem nf_none (K : PySem.W.Frag) (C : Addr) : PySem.W.notFirst K C (.type "NoneType") = true := nf_ty (l := ["NoneType", "object"]) (by decide +kernel)
theorem nf_int (K : PySem.W.Frag) (C : Addr) : PySem.W.notFirst K C (.type "int") = true := nf_ty (l := ["int", "object"]) (by decide +kernel)
theorem nf_bool (K : PySem.W.Frag) (C : Addr) : PySem.W.notFirst K C (.type "bool") = true := nf_ty (l := ["bool", "int", "object"]) (by decide +kernel)
theorem nf_str (K : PySem.W.Frag) (C : Addr) : PySem.W.notFirst K C (.type "str") = true := nf_ty (l := ["str", "object"]) (by decide +kernel)
theorem nf_lst (K : PySem.W.Frag) (C : Addr) : PySem.W.notFirst K C (.type "list") = true := nf_ty (l := ["list", "object"]) (by decide +kernel)
theorem nf_tup (K : PySem.W.Frag) (C : Addr) : PySem.W.notFirst K C (.type "tuple") = true := nf_ty (l := ["tuple", "object"]) (by decide +kernel)
theorem nf_dct (K : PySem.W.Frag) (C : Addr) : PySem.W.notFirst K C (.type "dict") = true := nf_ty (l := ["dict", "object"]) (by decide +kernel)
theorem ne_bl (a b : Bool) : D.ne (.bl a) (.bl b) = some (.bl (!(a == b))) := by cases a <;> cases b <;> rfl
theorem eq_bl (a b : Bool) : D.eq (.bl a) (.bl b) = some (.bl (a == b)) := by cases a <;> cases b <;> rfl
theorem tyV_dct {x : List (Key × D)} : (D.dct x).tyV = some (.type "dict") := rfl
theorem tyV_ins {C : Addr} {x : List (Str × D)} : (D.ins C x).tyV = some (.ref C) := rfl
theorem kno_dct {Cs : List Addr} {x : List (Key × D)} : (D.dct x).kno Cs = true := rfl
theorem kit_sameR (K : PySem.W.Frag) (C : Addr) : PySem.W.kitOne K (.ref C) (.ref C) = some true := by unfold PySem.W.kitOne; rw [if_pos (by simp)]
theorem clV_ptr {C : Addr} : (D.ptr C).clV = some (.ref C) := rfl
end DL
namespace DL
open PySem L2 Evl
def x1 (f : Str) : List D → Option (List (Str × D))
  | [y] => some [(f, y)]
  | _ => none
def x2 (f g : Str) : List D → Option (List (Str × D))
  | [y, z] => some [(g, z), (f, y)]
  | _ => none
def dRz (C : Addr) (mk : List D → Option (List (Str × D))) (da : DA) : DS := fun DD ρ => da ρ (fun ts ρ1 => Opt (vals ts) fun ds => Opt (mk ds) fun fs => DD.er C fs ρ1) DD.er
end DL
namespace DL
open PySem L2 Evl PySem.Spec PyProof.Rows
end DL
namespace DL
open PySem L2 Evl
abbrev DSui := Addr → Addr → List (Str × D) → DS
def shutD (i : Nat) (DD : Do) : Do := ⟨fun ρ => DD.nx (ρ.set i .no), DD.rt, DD.rf, fun ρ => DD.bk (ρ.set i .no), fun ρ => DD.ct (ρ.set i .no), fun _ _ _ => False⟩
def erH (K : PySem.W.Frag) (DD : Do) : List (Value × Nat × DSui) → ER
  | [] => DD.er
  | h :: r => fun C fs ρ => Opt (PySem.W.exmOne K (.ref C) h.1) fun b => if b = true then isPar ρ h.2.1 = false ∧ ∀ a, h.2.2 a C fs (shutD h.2.1 DD) (ρ.set h.2.1 (.val (.ptr a))) else erH K DD r C fs ρ
def dTry (K : PySem.W.Frag) (b : DS) (hs : List (Value × Nat × DSui)) : DS := fun DD ρ => b { DD with er := erH K DD hs } ρ
def dTry0 (K : PySem.W.Frag) (b : DS) (hs : List (Value × Nat × DSui)) : DS := fun DD ρ => b { DD with er := erH K { DD with er := fun _ _ _ => False } hs } ρ
section
variable {K : PySem.W.Frag} {pa : PaG} {W : WX} {F G G' H H' : Hp} {σ : RSt} {ρ : Ro} {D : Ends} {DD : Do}
theorem Sim.clear (S : Sim K pa F G σ H ρ) (i : Nat) : Sim K pa F G (σ.set i none) H (ρ.set i .no) := S.wipeTo (vs := [i]) (wipe_set List.mem_cons_self).symm
end
def dXf (C0 a C : Addr) (fs : List (Str × D)) (f : Str) (de : DE) : DE := fun ρ q er => de ρ (fun t ρ1 => Opt (rd ρ1 t) fun x => x = .ptr a ∧ C = C0 ∧ Opt (fs.lookup f) fun z => q (.val z) ρ1) er
def dIsX (K : PySem.W.Frag) (Cs : List Addr) (a C : Addr) (de dc : DE) : DE := fun ρ q er => de ρ (fun t ρ1 => dc ρ1 (fun u ρ2 => Opt (rd ρ2 t) fun x => Opt (rd ρ2 u) fun c => x = .ptr a ∧ C ∈ Cs ∧ Opt c.clV fun cv => Opt (PySem.W.kitOne K (.ref C) cv) fun b => q (.val (.bl b)) ρ2) er) er
def hot (dsp : DSp) : DSp := dsp
def dBinS (C : Addr) (dsp : DSp) (da db : DE) : DE := fun ρ q er => da ρ (fun t ρ1 => db ρ1 (fun u ρ2 => Opt (rd ρ2 t) fun d => d.insOf C = true ∧ Opt (rd ρ2 u) fun y => y.insOf C = true ∧ Opt (argsOf ρ2 [t, u]) fun av => (bors [t, u]).Nodup ∧
  hot dsp av (fun r os => q (.val r) (putOuts ρ2 (bors [t, u]) os)) (fun C' fs os => er C' fs (putOuts ρ2 (bors [t, u]) os))) er) er
section
variable {K : PySem.W.Frag} {b : DS} {hs : List (Value × Nat × DSui)} {nx bk ct : Ro → Prop} {rt : T → Ro → Prop} {rf : D → Ro → Prop} {er : ER} {ρ : Ro} {c : Value} {i : Nat} {s : DSui} {C : Addr} {fs : List (Str × D)}
theorem w_try : dTry K b hs ⟨nx, rt, rf, bk, ct, er⟩ ρ = b ⟨nx, rt, rf, bk, ct, erH K ⟨nx, rt, rf, bk, ct, er⟩ hs⟩ ρ := rfl
theorem w_try0 : dTry0 K b hs ⟨nx, rt, rf, bk, ct, er⟩ ρ = b ⟨nx, rt, rf, bk, ct, erH K ⟨nx, rt, rf, bk, ct, fun _ _ _ => False⟩ hs⟩ ρ := rfl
theorem erH_nil : erH K ⟨nx, rt, rf, bk, ct, er⟩ [] C fs ρ = er C fs ρ := rfl
theorem erH_cons : erH K ⟨nx, rt, rf, bk, ct, er⟩ ((c, i, s) :: hs) C fs ρ = Opt (PySem.W.exmOne K (.ref C) c) fun b => if b = true then isPar ρ i = false ∧ ∀ a, s a C fs (shutD i ⟨nx, rt, rf, bk, ct, er⟩) (ρ.set i (.val (.ptr a))) else erH K ⟨nx, rt, rf, bk, ct, er⟩ hs C fs ρ := rfl
theorem shutD_mk : shutD i ⟨nx, rt, rf, bk, ct, er⟩ = ⟨fun ρ => nx (ρ.set i .no), rt, rf, fun ρ => bk (ρ.set i .no), fun ρ => ct (ρ.set i .no), fun _ _ _ => False⟩ := rfl
theorem hot_run (dsp : DSp) (av : List Sl) (q : D → List D → Prop) (er : Addr → List (Str × D) → List D → Prop) : hot dsp av q er = Run dsp av q er := rfl
theorem x1_mk {f : Str} {y : D} : x1 f [y] = some [(f, y)] := rfl
theorem x2_mk {f g : Str} {y z : D} : x2 f g [y, z] = some [(g, z), (f, y)] := rfl
theorem w_rz {mk : List D → Option (List (Str × D))} {da : DA} : dRz C mk da ⟨nx, rt, rf, bk, ct, er⟩ ρ = da ρ (fun ts ρ1 => Opt (vals ts) fun ds => Opt (mk ds) fun fs => er C fs ρ1) er := rfl
end
end DL
set_option maxHeartbeats 2000000
namespace DL
open PySem L2 Evl PySem.Spec PyProof.Rows
end DL
namespace DL
open PySem L2 Evl
section
variable {K : PySem.W.Frag} {pa : PaG} {F G G' H H' : Hp} {σ σ' : RSt} {ρ ρ' : Ro}
theorem Sim.out (S : Sim K pa F G σ H ρ) {p : Addr} {o : HO} (nc : ∀ u, H p = some u → NoCode u) (gp : G p = none) (fp : F p = none) (fr : ∀ (i : Nat) (s : Sl) (d : D), ρ[i]? = some s → s.ownD = some d → σ[i]? ≠ some (some (.ref p))) : Sim K pa F G σ (upd H p o) ρ where
  len := S.len
  ex := fun b u q => by
    rw [upd_ne (fun z => by rw [z, gp] at q; cases q)]; exact S.ex b u q
  fx := fun b u q => by
    rw [upd_ne (fun z => by rw [z, fp] at q; cases q)]; exact S.fx b u q
  dj := S.dj.out nc
  val := S.val
  own := fun i s d h hd => by
    obtain ⟨b, h1, h2, h3⟩ := S.own i s d h hd
    exact ⟨b, h1, h2, h3.mono (Ex.refl G) (upd_ne (fun z => fr i s d h hd (by rw [h1, z]))).symm⟩
  ofr := S.ofr
  par := S.par
  gx := S.gx
  dis := S.dis
theorem Sim.sub (S : Sim K pa F G σ H ρ) (hl : ρ'.length = ρ.length) (h : ∀ (j : Nat) (s : Sl), ρ'[j]? = some s → s = .no ∨ ρ[j]? = some s ∨ ∃ d v, s = .val d ∧ σ[j]? = some (some v) ∧ Rep K G v d) : Sim K pa F G σ H ρ' := by
  have old : ∀ (j : Nat) (s : Sl) (d : D), ρ'[j]? = some s → s.ownD = some d → ρ[j]? = some s := fun j s d q hd => by
    rcases h j s q with e | e | ⟨d', v, e, _⟩
    · subst e; cases hd
    · exact e
    · subst e; cases hd
  refine ⟨hl.trans S.len, S.ex, S.fx, S.dj, fun i d q => ?_, fun i s d q hd => S.own i s d (old i s d q hd) hd, fun i s d p q hd hp => S.ofr i s d p (old i s d q hd) hd hp, fun i d q => S.par i d (old i _ d q rfl), S.gx, fun i j s t d e p hij h1 h2 h3 h4 h5 h6 => S.dis i j s t d e p hij (old i s d h1 h2) h2 (old j t e h3 h4) h4 h5 h6⟩
  rcases h i _ q with e | e | ⟨d', v, e, hv, r⟩
  · cases e
  · exact S.val i d e
  · cases e; exact ⟨v, hv, r⟩
end
def oL : Option Nat → List Nat
  | none => []
  | some j => [j]
theorem oL_none : oL none = [] := rfl
theorem oL_some {j : Nat} : oL (some j) = [j] := rfl
def ltO : Option Nat → Ro → Prop
  | none, _ => True
  | some j, ρ => j < ρ.length
theorem ltO_none {ρ : Ro} : ltO none ρ = True := rfl
theorem ltO_some {j : Nat} {ρ : Ro} : ltO (some j) ρ = (j < ρ.length) := rfl
def FN (F : Hp) : List (Addr × HO) → Hp
  | [] => F
  | x :: L => FN (upd F x.1 x.2) L
inductive NOk (K : PySem.W.Frag) : Hp → Hp → List (Addr × HO) → List D → Prop
  | nil {F G : Hp} : NOk K F G [] []
  | cons {F G : Hp} {p : Addr} {vs : List V} {es : List D} {L : List (Addr × HO)} {ds : List D} : F p = none → Reps K G vs es → es.length < sizeLine → NOk K (upd F p (.lst vs)) G L ds → NOk K F G ((p, .lst vs) :: L) (.lst es :: ds)
section
variable {K : PySem.W.Frag} {pa : PaG} {F G G' H H' : Hp} {σ σ' : RSt} {ρ ρ' : Ro} {L : List (Addr × HO)} {ds : List D}
theorem NOk.mono (e : Ex G G') (h : NOk K F G L ds) : NOk K F G' L ds := by
  induction h with
  | nil => exact .nil
  | cons h1 h2 h3 _ ih => exact .cons h1 (h2.mono e) h3 (ih e)
theorem NOk.ex (h : NOk K F G L ds) : Ex F (FN F L) := by
  induction h with
  | nil => exact Ex.refl _
  | cons h1 _ _ _ ih => exact (Ex.new h1).trans ih
theorem NOk.at_ (h : NOk K F G L ds) : ∀ x ∈ L, FN F L x.1 = some x.2 ∧ F x.1 = none := by
  induction h with
  | nil => intro x hx; cases hx
  | @cons F G p vs es L ds h1 _ _ hN ih =>
    intro x hx
    rcases List.mem_cons.mp hx with e | hx
    · subst e
      exact ⟨hN.ex _ _ upd_same, h1⟩
    · obtain ⟨k1, k2⟩ := ih x hx
      have hne : x.1 ≠ p := fun z => by rw [z, upd_same] at k2; cases k2
      exact ⟨k1, by rw [upd_ne hne] at k2; exact k2⟩
theorem NOk.length (h : NOk K F G L ds) : L.length = ds.length := by
  induction h with
  | nil => rfl
  | cons _ _ _ _ ih => rw [List.length_cons, List.length_cons, ih]
end
abbrev DN := Ro → (List D → Ro → Prop) → Prop
def dnNil : DN := fun ρ q => q [] ρ
def dnCons (df : DF) (dn : DN) : DN := fun ρ q => df ρ (fun d ρ1 => match d with
  | .lst es => es.length < sizeLine ∧ dn ρ1 (fun ds ρ2 => q (.lst es :: ds) ρ2)
  | _ => False) (fun _ _ _ => False)
def Sl.hid : Sl → Sl
  | .val d => .val d
  | _ => .no
theorem hid_val {d : D} : (Sl.val d).hid = .val d := rfl
theorem hid_own {d : D} : (Sl.own d).hid = .no := rfl
theorem hid_par {d : D} : (Sl.par d).hid = .no := rfl
theorem hid_no : Sl.no.hid = .no := rfl
def hidL (ρ : Ro) : Ro := ρ.map Sl.hid
theorem hidL_nil : hidL [] = [] := rfl
theorem hidL_cons {a : Sl} {l : Ro} : hidL (a :: l) = a.hid :: hidL l := rfl
def hideR (ρ : Ro) (i : Nat) (d : D) : Ro := (hidL ρ).set i (.val d)
abbrev DNS := List D → Addr → DS
def dnSeq (i : Nat) (ds : DS) (dn : DNS) : DNS := fun es p DD ρ => ds { nx := fun ρ1 => ρ1[i]? = some (.val (.ptr p)) ∧ dn es p DD ρ1, rt := fun _ _ => False } ρ
def dnT (i n : Nat) (jo : Option Nat) (dt : DT) : DNS := fun es _ DD ρ => es.length = n ∧ dt (hideR ρ i (.lst es)) (fun b _ => if b = true then DD.rt (.val (.bl false)) ρ else ltO jo ρ ∧ DD.nx (wipeD ρ (i :: oL jo))) (fun _ _ _ => False)
def dNest (i : Nat) (dn : DN) (s : DNS) : DS := fun DD ρ => dn ρ (fun es ρ1 => (isPar ρ1 i = false ∧ i < ρ1.length ∧ es.length ≤ sizeLine) ∧ ∀ p, s es p DD (ρ1.set i (.val (.ptr p))))
def AllP (f : Addr → Prop) (_ : Ph f := ()) : Prop := ∀ p, f p
theorem w_nest {i : Nat} {dn : DN} {s : DNS} {DD : Do} {ρ : Ro} : dNest i dn s DD ρ = dn ρ (fun es ρ1 => (isPar ρ1 i = false ∧ i < ρ1.length ∧ es.length ≤ sizeLine) ∧ AllP fun p => s es p DD (ρ1.set i (.val (.ptr p)))) := rfl
theorem w_dnSeq {i : Nat} {ds : DS} {dn : DNS} {es : List D} {p : Addr} {DD : Do} {ρ : Ro} : dnSeq i ds dn es p DD ρ = ds ⟨fun ρ1 => ρ1[i]? = some (.val (.ptr p)) ∧ dn es p DD ρ1, fun _ _ => False, fun _ _ => False, fun _ => False, fun _ => False, fun _ _ _ => False⟩ ρ := rfl
theorem w_dnT {i n : Nat} {jo : Option Nat} {dt : DT} {es : List D} {p : Addr} {nx : Ro → Prop} {rt : T → Ro → Prop} {rf : D → Ro → Prop} {bk ct : Ro → Prop} {er : ER} {ρ : Ro} : dnT i n jo dt es p ⟨nx, rt, rf, bk, ct, er⟩ ρ = (es.length = n ∧ dt (hideR ρ i (.lst es)) (fun b _ => if b = true then rt (.val (.bl false)) ρ else ltO jo ρ ∧ nx (wipeD ρ (i :: oL jo))) (fun _ _ _ => False)) := rfl
def dnFrz (k : Nat) (dn : DNS) : DNS := fun es p => dFrz k (dn es p)
theorem w_dnFrz {k : Nat} {dn : DNS} {es : List D} {p : Addr} {DD : Do} {ρ : Ro} : dnFrz k dn es p DD ρ = dFrz k (dn es p) DD ρ := rfl
end DL
namespace DL
open PySem L2 Evl
mutual
def D.noL : D → Bool
  | .lst _ => false
  | .tup xs => D.noLs xs
  | .dct es => D.noLk es
  | .ins _ fs => D.noLf fs
  | .exc _ fs => D.noLf fs
  | _ => true
def D.noLs : List D → Bool
  | [] => true
  | x :: xs => D.noL x && D.noLs xs
def D.noLk : List (Key × D) → Bool
  | [] => true
  | (_, x) :: xs => D.noL x && D.noLk xs
def D.noLf : List (Str × D) → Bool
  | [] => true
  | (_, x) :: xs => D.noL x && D.noLf xs
end
section
variable {K : PySem.W.Frag} {G G1 : Hp}
mutual
theorem Rep.noL (h : ∀ b, (∀ xs, G b ≠ some (.lst xs)) → G1 b = G b) : ∀ {v : V} {d : D}, Rep K G v d → d.noL = true → Rep K G1 v d
  | _, _, .non, _ => .non
  | _, _, .bl b, _ => .bl b
  | _, _, .int i, _ => .int i
  | _, _, .str i, _ => .str i
  | _, _, .byt i, _ => .byt i
  | _, _, .ty i, _ => .ty i
  | _, _, .ptr i, _ => .ptr i
  | _, _, .lst _ _, e => by cases e
  | _, _, .tup (a := a) (vs := vs) q r, e => .tup (q.elim (fun z => .inl (z.elim (fun z => .inl (by
      rw [h a (fun xs w => by rw [z] at w; cases w)]; exact z)) (fun ⟨o, z⟩ => .inr ⟨o, by
      rw [h a (fun xs w => by rw [z] at w; cases w)]; exact z⟩))) .inr) (Reps.noL h r e)
  | _, _, .dct q r, e => .dct (by rw [h _ (fun xs w => by rw [q] at w; cases w)]; exact q) (RepK.noL h r e)
  | _, _, .ins q r, e => .ins (by rw [h _ (fun xs w => by rw [q] at w; cases w)]; exact q) (RepF.noL h r e)
  | _, _, .exc q k r, e => .exc (by rw [h _ (fun xs w => by rw [q] at w; cases w)]; exact q) (by rw [h _ (fun xs w => by rw [k] at w; cases w)]; exact k) (RepF.noL h r e)
  | _, _, .exc0 q, _ => .exc0 (by rw [h _ (fun xs w => by rw [q] at w; cases w)]; exact q)
theorem Reps.noL (h : ∀ b, (∀ xs, G b ≠ some (.lst xs)) → G1 b = G b) : ∀ {v : List V} {d : List D}, Reps K G v d → D.noLs d = true → Reps K G1 v d
  | _, _, .nil, _ => .nil
  | _, _, .cons r t, e => by
    have e := (Bool.and_eq_true ..).mp (show (D.noL _ && D.noLs _) = true from e)
    exact .cons (Rep.noL h r e.1) (Reps.noL h t e.2)
theorem RepK.noL (h : ∀ b, (∀ xs, G b ≠ some (.lst xs)) → G1 b = G b) : ∀ {v : List (Key × V)} {d : List (Key × D)}, RepK K G v d → D.noLk d = true → RepK K G1 v d
  | _, _, .nil, _ => .nil
  | _, _, .cons r t, e => by
    have e := (Bool.and_eq_true ..).mp (show (D.noL _ && D.noLk _) = true from e)
    exact .cons (Rep.noL h r e.1) (RepK.noL h t e.2)
theorem RepF.noL (h : ∀ b, (∀ xs, G b ≠ some (.lst xs)) → G1 b = G b) : ∀ {v : List (Str × V)} {d : List (Str × D)}, RepF K G v d → D.noLf d = true → RepF K G1 v d
  | _, _, .nil, _ => .nil
  | _, _, .cons r t, e => by
    have e := (Bool.and_eq_true ..).mp (show (D.noL _ && D.noLf _) = true from e)
    exact .cons (Rep.noL h r e.1) (RepF.noL h t e.2)
end
end
def lcN (g : DG) (df : DF) (vs : List Nat) (q : List D → Ro → Prop) : List D → List D → Ro → Prop
  | [], acc, ρ => q acc ρ
  | d :: ds, acc, ρ => g (.val d) (wipeD ρ vs) fun ρ1 => df ρ1 (fun e ρ2 => match e with
    | .lst es => (es.length < sizeLine ∧ acc.length < sizeLine) ∧ lcN g df vs q ds (acc ++ [.lst es]) (wipeD ρ2 vs)
    | _ => False) (fun _ _ _ => False)
def dnLc (di : DI) (g : DG) (df : DF) (vs : List Nat) : DN := fun ρ q => di ρ (fun ds ρ1 => lcN g df vs q ds [] ρ1) (fun _ _ _ => False)
section
variable {K : PySem.W.Frag} {pa : PaG} {W : WX}
def dNestL (i : Nat) (dn : DN) (s : DNS) : DS := fun DD ρ => dn ρ (fun es ρ1 => (isPar ρ1 i = false ∧ i < ρ1.length) ∧ ∀ p, s es p DD (ρ1.set i (.val (.ptr p))))
theorem Lk.frame {F F2 G : Hp} {D : Ends} {DD : Do} (l : Lk K pa F W G D DD) (e : Ex F F2) : Lk K pa F2 W G D DD :=
  ⟨fun G' σ' H' ρ' eg S h => l.nx G' σ' H' ρ' eg (S.frame e) h, fun G' σ' H' ρ' eg S h => l.bk G' σ' H' ρ' eg (S.frame e) h, fun G' σ' H' ρ' eg S h => l.ct G' σ' H' ρ' eg (S.frame e) h,
   fun G' σ' H' ρ' v t eg S r h => l.rt G' σ' H' ρ' v t eg (S.frame e) r h, fun G' σ' H' ρ' p d eg S gf ow fr h => l.rf G' σ' H' ρ' p d eg (S.frame e) ⟨gf.1, fresh_back e gf.2⟩ ow fr h,
   fun G' σ' H' ρ' C d vs fs eg S h => l.er G' σ' H' ρ' C d vs fs eg (S.frame e) h⟩
def dnSeq2 (i : Nat) (ds : DS) (dn : DNS) : DNS := fun es p DD ρ => ds { DD with nx := fun ρ1 => ρ1[i]? = some (.val (.ptr p)) ∧ dn es p DD ρ1 } ρ
def dnFC (i j : Nat) (ds : DS) : DNS := fun _ _ DD ρ => (j < ρ.length ∧ i ≠ j) ∧ ds DD (wipeD ρ [i, j])
end
end DL
set_option maxHeartbeats 2000000
namespace PySem.SeqAt
open PySem PySem.Calls PyProof.Rows
end PySem.SeqAt
set_option maxHeartbeats 2000000
namespace DL
open PySem L2 Evl PySem.Spec PyProof.Rows
end DL
namespace DL
open PySem L2 Evl PySem.Spec PyProof.Rows
end DL
namespace PySem.SeqAt
open MeetsSeq MeetsSeq2 MeetsSeq3 SeqRoads2
section
variable {prog : Program} {w : World}
abbrev LObj (vs : Array Value) (m : Nat) (q : Option Addr) (z : Array (Option Value)) : Obj := { cls := .type "list", dict := q, data := .seq vs m, slots := z }
theorem neIn_from (a b : Addr) (u v : Array Value) (m1 m2 : Nat) (q1 q2 : Option Addr) (z1 z2 : Array (Option Value)) (same : u.size = v.size) (f : Nat → Bool) : ∀ (k i : Nat), u.size - i = k →
    MeetsIn prog w (Builtin.«list.__eq__.loop» ⟨[.ref a, .ref b, rawInt i, rawInt 3], []⟩) (fun A R s => s.heap.get? a = some (LObj u m1 q1 z1) ∧ s.heap.get? b = some (LObj v m2 q2 z2) ∧
      (∀ j (g1 : j < u.size) (g2 : j < v.size), EqIn prog w A.in1 s u[j] v[j] (f j)) ∧ R (.ok (.ret (.bool (!((List.range u.size).drop i).all f)))) s) := by
  intro k
  induction k with
  | zero =>
    rintro i hk A R ⟨hp, g, d, tk, os⟩ ⟨ga, gb, gi, r⟩
    have o1 : u[(((i : Nat) : Int)).toNat]? = none := by simp; omega
    have o2 : v[(((i : Nat) : Int)).toNat]? = none := by simp; omega
    rw [show (List.range u.size).drop i = [] from by simp; omega] at r
    wp_walk using AutoSeq1.wpAny_loadPart' ga, AutoSeq1.wpAny_loadPart' gb
    rw [o1, o2]
    wp_walk using AutoSeq1.wpAny_loadPart' ga, AutoSeq1.wpAny_loadPart' gb
    show R (.ok (.ret (.bool (u.size != v.size)))) _
    rw [same]
    simpa using r
  | succ k ih =>
    rintro i hk A R ⟨hp, g, d, tk, os⟩ ⟨ga, gb, gi, r⟩
    have l1 : i < u.size := by omega
    have l2 : i < v.size := by omega
    have o1 : u[(((i : Nat) : Int)).toNat]? = some u[i] := by simp [l1]
    have o2 : v[(((i : Nat) : Int)).toNat]? = some v[i] := by simp [l2]
    have nx : ((i : Int) + 1) = ((i + 1 : Nat) : Int) := by omega
    rw [show (List.range u.size).drop i = i :: (List.range u.size).drop (i + 1) from by simp [List.drop_eq_getElem_cons, l1], List.all_cons] at r
    wp_walk using AutoSeq1.wpAny_loadPart' ga, AutoSeq1.wpAny_loadPart' gb
    rw [o1, o2]
    refine wpAny_bind (gi i l1 l2 _ _ ?_)
    cases hf : f i with
    | true =>
      rw [hf] at r
      wp_walk
      rw [nx]
      refine ⟨plainId_quiet plain_eq_loop _, codeAny_builtin entry_eq_loop (Around.under_plainId plain_eq_loop _ ▸ ?_)⟩
      exact ih (i + 1) (by omega) A R _ ⟨ga, gb, gi, by simpa using r⟩
    | false =>
      rw [hf] at r
      wp_walk using AutoSeq1.wpAny_loadPart' ga, AutoSeq1.wpAny_loadPart' gb
      rw [o1, o2]
      wp_walk
      simpa using r
theorem neIn_list (a b : Addr) (u v : Array Value) (m1 m2 : Nat) (q1 q2 : Option Addr) (z1 z2 : Array (Option Value)) (same : u.size = v.size) (f : Nat → Bool) :
    MeetsIn prog w (Builtin.«list.__ne__» ⟨[.ref a, .ref b], []⟩) (fun A R s => s.heap.get? a = some (LObj u m1 q1 z1) ∧ s.heap.get? b = some (LObj v m2 q2 z2) ∧
      (∀ j (g1 : j < u.size) (g2 : j < v.size), EqIn prog w A.in1 s u[j] v[j] (f j)) ∧ R (.ok (.ret (.bool (!(List.range u.size).all f)))) s) := by
  rintro A R ⟨hp, g, d, tk, os⟩ ⟨ga, gb, gi, r⟩
  have sb := AutoSeq1.sub_list_list
  have hq : ¬ (u.size != v.size) = true := by simp [same]
  wp_walk using AutoSeq1.wpAny_loadPart' ga, AutoSeq1.wpAny_loadPart' gb
  refine ⟨plainId_quiet plain_eq_loop _, codeAny_builtin entry_eq_loop (Around.under_plainId plain_eq_loop _ ▸ ?_)⟩
  exact neIn_from a b u v m1 m2 q1 q2 z1 z2 same f _ 0 rfl A R _ ⟨ga, gb, gi, by simpa using r⟩
theorem rcNeIn {A : Around} {s : Shared} {E Q : Value → Shared → Prop} {a b : Addr} {u v : Array Value} {f : Nat → Bool} (ha : s.heap.IsList a u) (hb : s.heap.IsList b v) (same : u.size = v.size) (hu : A.units < cLine)
    (gi : ∀ j (g1 : j < u.size) (g2 : j < v.size), EqIn prog w A.in1 s u[j] v[j] (f j)) (r : Q (.bool (!(List.range u.size).all f)) s) : wpAny (model prog w) A (richCompare .NotEq (.ref a) (.ref b)) Q E s := by
  obtain ⟨⟨c1, q1, t1, z1⟩, o1, k1, m1, d1⟩ := id ha
  obtain ⟨⟨c2, q2, t2, z2⟩, o2, k2, m2, d2⟩ := id hb
  dsimp only at k1 d1 k2 d2
  subst k1 d1 k2 d2
  exact wpAny_richCompare_same_room (T := "list") (op := .NotEq) ⟨_, o1, rfl⟩ ⟨_, o2, rfl⟩ PySem.F.slot_list_ne (call_meetsIn PySem.F.slot_list_ne ⟨_, o1, rfl⟩ PySem.F.entry_list_ne (PySem.F.args_list_ne_2 _ _) (neIn_list a b u v m1 m2 q1 q2 z1 z2 same f)
    ⟨o1, o2, gi, (fun x => nomatch x), r⟩) hu
end
end PySem.SeqAt
namespace DL
open PySem L2 Evl PySem.Spec PyProof.Rows
end DL
namespace DL
open PySem L2 Evl
end DL
namespace DL
open PySem L2 Evl
end DL
namespace DL
open PySem L2 Evl PySem.Spec PyProof.Rows
def dnPar2 (i : Nat) (de1 de2 : DE) (dg : DG) (dn : DNS) : DNS := fun es p DD ρ => de1 (hideR ρ i (.lst es)) (fun t _ => match t with
  | .val d => d.noL = true ∧ de2 ρ (fun u ρ2 => match u with
    | .val d2 => dg (.val (.tup [d, d2])) ρ2 (fun ρ3 => ρ3[i]? = some (.val (.ptr p)) ∧ dn es p DD ρ3)
    | .bor _ => False) (fun _ _ _ => False)
  | .bor _ => False) (fun _ _ _ => False)
def gSq (K : PySem.W.Frag) (n : Nat) (t : TGs) : TG := fun v σ H Q => gTup K n t v σ H Q ∨ gLst K n t v σ H Q
theorem pg_sq {X : Cx} {e : Expr} {n : Nat} {t : TGs} (h1 : PG X e (gTup X.K n t)) (h2 : PG X e (gLst X.K n t)) : PG X e (gSq X.K n t) := ⟨fun pins s σ H v u Q I r h => h.elim (h1.run pins s σ H v u Q I r) (h2.run pins s σ H v u Q I r)⟩
def dgSq (n : Nat) (r : List D → Ro → (Ro → Prop) → Prop) : DG := fun t ρ q => match t with
  | .val (.tup ds) => ds.length = n ∧ r ds ρ q
  | .val (.lst ds) => ds.length = n ∧ r ds ρ q
  | _ => False
theorem sg_sq {K : PySem.W.Frag} {pa : PaG} {ns : List Nat} {gs : TGs} {n : Nat} {dr : List D → Ro → (Ro → Prop) → Prop} (h : SGs K pa ns gs dr) : SG K pa ns (gSq K n gs) (dgSq n dr) := fun F G σ H ρ v t Q q S r h0 k => by
  cases t with
  | bor j => exact h0.elim
  | val d =>
    have r : Rep K G v d := r
    cases r with
    | tup hs rr => exact .inl ⟨_, _, rfl, ex_t S.ex hs, by rw [rr.length]; exact h0.1, h F G σ H ρ _ _ _ _ S rr h0.2 k⟩
    | lst hs rr => exact .inr ⟨_, _, rfl, ex_l S.ex hs, by rw [rr.length]; exact h0.1, h F G σ H ρ _ _ _ _ S rr h0.2 k⟩
    | _ => exact h0.elim
section
variable {i j : Nat} {dn : DN} {s : DNS} {DD : Do} {ρ : Ro} {ds : DS} {es : List D} {p : Addr} {nx : Ro → Prop} {rt : T → Ro → Prop} {rf : D → Ro → Prop} {bk ct : Ro → Prop} {er : ER}
theorem w_nestL : dNestL i dn s DD ρ = dn ρ (fun es ρ1 => (isPar ρ1 i = false ∧ i < ρ1.length) ∧ AllP fun p => s es p DD (ρ1.set i (.val (.ptr p)))) := rfl
theorem w_dnSeq2 : dnSeq2 i ds s es p ⟨nx, rt, rf, bk, ct, er⟩ ρ = ds ⟨fun ρ1 => ρ1[i]? = some (.val (.ptr p)) ∧ s es p ⟨nx, rt, rf, bk, ct, er⟩ ρ1, rt, rf, bk, ct, er⟩ ρ := rfl
theorem w_dnFC : dnFC i j ds es p ⟨nx, rt, rf, bk, ct, er⟩ ρ = ((j < ρ.length ∧ i ≠ j) ∧ ds ⟨nx, rt, rf, bk, ct, er⟩ (wipeD ρ [i, j])) := rfl
theorem w_dnPar2 {de1 de2 : DE} {dg : DG} : dnPar2 i de1 de2 dg s es p DD ρ = de1 (hideR ρ i (.lst es)) (fun t _ => match t with
  | .val d => d.noL = true ∧ de2 ρ (fun u ρ2 => match u with
    | .val d2 => dg (.val (.tup [d, d2])) ρ2 (fun ρ3 => ρ3[i]? = some (.val (.ptr p)) ∧ s es p DD ρ3)
    | .bor _ => False) (fun _ _ _ => False)
  | .bor _ => False) (fun _ _ _ => False) := rfl
end
def lcNF (g : DG) (df : DF) (vs : List Nat) (q : List D → Ro → Prop) (ds acc : List D) (ρ : Ro) (_ : Ph g := ()) (_ : Ph df := ()) (_ : Ph q := ()) : Prop := lcN g df vs q ds acc ρ
theorem lcN_f (g : DG) (df : DF) (vs : List Nat) (q : List D → Ro → Prop) (ds acc : List D) (ρ : Ro) : lcN g df vs q ds acc ρ = lcNF g df vs q ds acc ρ := rfl
end DL
namespace DL
open PySem L2 Evl PySem.Spec PyProof.Rows
def dChain3 (f g e : D → D → Option D) (da db dc dd : DE) : DE := fun ρ q er => da ρ (fun s ρ1 => db ρ1 (fun t ρ2 => Opt (rd ρ2 s) fun x => Opt (rd ρ2 t) fun y => Opt (f x y) fun z => Opt z.bool fun k =>
  if k = true then dc ρ2 (fun u ρ3 => Opt (rd ρ3 t) fun y' => Opt (rd ρ3 u) fun w => Opt (g y' w) fun z' => Opt z'.bool fun k2 =>
    if k2 = true then dd ρ3 (fun u4 ρ4 => Opt (rd ρ4 u) fun y2 => Opt (rd ρ4 u4) fun w2 => Opt (e y2 w2) fun z2 => q (.val z2) ρ4) er else q (.val (.bl false)) ρ3) er else q (.val (.bl false)) ρ2) er) er
def lcL2 (g : DG) (t : DT) (di1 : DI) (g1 : DG) (t1 : DT) (de : DE) (vs vs1 : List Nat) (q : List D → Ro → Prop) : List D → List D → Ro → Prop
  | [], acc, ρ => q acc ρ
  | d :: ds, acc, ρ => g (.val d) (wipeD ρ vs) fun ρ1 => t ρ1 (fun b ρ2 => if b = true then di1 ρ2 (fun es ρ3 => lcL g1 t1 de vs1 (fun acc' ρ4 => lcL2 g t di1 g1 t1 de vs vs1 q ds acc' (wipeD ρ4 vs)) es acc ρ3) (fun _ _ _ => False)
    else lcL2 g t di1 g1 t1 de vs vs1 q ds acc (wipeD ρ2 vs)) (fun _ _ _ => False)
def dLc2 (di : DI) (g : DG) (t : DT) (di1 : DI) (g1 : DG) (t1 : DT) (de : DE) (vs vs1 : List Nat) : DF := fun ρ q er => di ρ (fun ds ρ1 => lcL2 g t di1 g1 t1 de vs vs1 (fun acc ρ2 => q (.lst acc) ρ2) ds [] ρ1) er
section
variable {K : PySem.W.Frag} {pa : PaG} {W : WX} {F G H : Hp} {σ : RSt} {ρ : Ro}
abbrev FrO (σ : RSt) (ρ : Ro) (D : Addr) : Prop := ∀ (i : Nat) (s : Sl) (d : DL.D), ρ[i]? = some s → s.ownD = some d → σ[i]? ≠ some (some (.ref D))
theorem Sim.back {σ4 : RSt} {vs : List Nat} {D : Addr} {av : List V} (fF : F D = none) (ws : wipe σ4 vs = wipe σ vs) (S6 : Sim K pa (upd F D (.lst av)) G σ4 H ρ) : H D = some (.lst av) ∧ G D = none ∧ Sim K pa F G σ H (wipeD ρ vs) ∧ FrO σ (wipeD ρ vs) D := by
  have S7 := S6.wipeTo (σ' := σ) ws
  refine ⟨S6.fx D _ upd_same, S6.dj D _ upd_same, S7.frame (Ex.new fF), fun i s d h1 h2 h3 => ?_⟩
  have := S7.ofr i s d D h1 h2 h3
  rw [upd_same] at this
  cases this
end
def lcL2F (g : DG) (t : DT) (di1 : DI) (g1 : DG) (t1 : DT) (de : DE) (vs vs1 : List Nat) (q : List D → Ro → Prop) (ds acc : List D) (ρ : Ro) (_ : Ph g := ()) (_ : Ph t := ()) (_ : Ph di1 := ()) (_ : Ph g1 := ()) (_ : Ph t1 := ()) (_ : Ph de := ()) (_ : Ph q := ()) : Prop := lcL2 g t di1 g1 t1 de vs vs1 q ds acc ρ
theorem lcL2_f (g : DG) (t : DT) (di1 : DI) (g1 : DG) (t1 : DT) (de : DE) (vs vs1 : List Nat) (q : List D → Ro → Prop) (ds acc : List D) (ρ : Ro) : lcL2 g t di1 g1 t1 de vs vs1 q ds acc ρ = lcL2F g t di1 g1 t1 de vs vs1 q ds acc ρ := rfl
end DL
namespace DL
open PySem L2 Evl PySem.Spec PyProof.Rows
section
variable (K : PySem.W.Frag) (pa : PaG)
structure LkT (F : Hp) (W : WX) (G : Hp) (D : Ends) (DD : Do) : Prop where
  nx : ∀ G' σ' H' ρ', Ex G G' → Sim K pa F G' σ' H' ρ' → DD.nx ρ' → D.nx σ' H'
  rf : ∀ G' σ' H' ρ' t v p d1 d2, Ex G G' → Sim K pa F G' σ' H' ρ' → SqT K G' t [v, .ref p] → Rep K G' v d1 → G' p = none ∧ F p = none → OwnAt K G' H' p d2 → (∀ (i : Nat) (s : Sl) (d : DL.D), ρ'[i]? = some s → s.ownD = some d → σ'[i]? ≠ some (some (.ref p))) → DD.rf (.tup [d1, d2]) ρ' → D.rt (.ref t) H'
  er : ∀ G' σ' H' ρ' C d vs fs, Ex G G' → Sim K pa F G' σ' H' ρ' → DD.er C fs ρ' → G' d = some (.xd vs) → RepF K G' vs fs → W (.ref C) (some d) σ' H'
end
def dSeqP (a b : DS) : DS := fun DD ρ => a { nx := b DD, rt := fun _ _ => False, er := DD.er } ρ
def dRetT (de : DE) (df : DF) : DS := fun DD ρ => de ρ (fun t ρ1 => match t with
  | .val d1 => df ρ1 (fun d2 ρ2 => DD.rf (.tup [d1, d2]) ρ2) DD.er
  | .bor _ => False) DD.er
def dIfF (t : DT) (a b : DF) : DF := fun ρ q er => t ρ (fun c ρ1 => if c = true then a ρ1 q er else b ρ1 q er) er
section
variable {K : PySem.W.Frag} {pa : PaG} {W : WX}
theorem LkT.grow {F G G' : Hp} {D : Ends} {DD : Do} (e : Ex G G') (l : LkT K pa F W G D DD) : LkT K pa F W G' D DD :=
  ⟨fun a b c d x => l.nx a b c d (e.trans x), fun a b c d t v p d1 d2 x => l.rf a b c d t v p d1 d2 (e.trans x), fun a b c d C y vs fs x => l.er a b c d C y vs fs (e.trans x)⟩
theorem LkT.xl {F G : Hp} {D : Ends} {DD : Do} (l : LkT K pa F W G D DD) (σ : RSt) : XL K pa F G W σ DD.er := fun G' H' ρ' C d vs fs e => l.er G' σ H' ρ' C d vs fs e
def SpT (K : PySem.W.Frag) (n : Nat) (dsp : DSp) : Sp := fun vs H Q E => ∃ T F G av, vs.length = n ∧ Ex G H ∧ Ex F H ∧ DjT T F G H ∧ ArgsR K F G H vs av ∧ (parsOf vs av).Nodup ∧ ∃ q er, dsp av q er ∧
  (∀ G' H' t v p d1 d2 os, Ex G G' → Ex G' H' → Ex F H' → DjT T F G' H' → Outs K G' H' vs av os → SqT K G' t [v, .ref p] → Rep K G' v d1 → G' p = none → F p = none → p ∉ parsOf vs av → OwnAt K G' H' p d2 → q (.tup [d1, d2]) os → Q (.ref t) H') ∧
  (∀ G' H' C y fv fs os, Ex G G' → Ex G' H' → Ex F H' → DjT T F G' H' → Outs K G' H' vs av os → G' y = some (.xd fv) → RepF K G' fv fs → er C fs os → E (.ref C) (some y) H')
theorem SpT.len {n : Nat} {dsp : DSp} {vs : List V} {H : Hp} {Q : VK} {E : XK} (h : SpT K n dsp vs H Q E) : vs.length = n := by obtain ⟨_, _, _, _, h, _⟩ := h; exact h
variable {ta : TA} {da : DA} {n : Nat} {dsp : DSp}
def dCallT (i j : Nat) (dsp : DSp) (da : DA) : DS := fun DD ρ => da ρ (fun ts ρ1 => Opt (argsOf ρ1 ts) fun av => (bors ts).Nodup ∧ dsp av (fun d os => match d with
  | .tup [d1, d2] => (isPar (putOuts ρ1 (bors ts) os) i = false ∧ isPar (putOuts ρ1 (bors ts) os) j = false) ∧ DD.nx (((putOuts ρ1 (bors ts) os).set i (.val d1)).set j (.own d2))
  | _ => False) (fun _ _ _ => False)) DD.er
end
section
variable {a b : DS} {nx : Ro → Prop} {rt : T → Ro → Prop} {rf : D → Ro → Prop} {bk ct : Ro → Prop} {er : ER} {ρ : Ro} {de : DE} {df : DF} {i j : Nat} {dsp : DSp} {da : DA}
theorem w_seqP : dSeqP a b ⟨nx, rt, rf, bk, ct, er⟩ ρ = a ⟨b ⟨nx, rt, rf, bk, ct, er⟩, fun _ _ => False, fun _ _ => False, fun _ => False, fun _ => False, er⟩ ρ := rfl
theorem w_retT : dRetT de df ⟨nx, rt, rf, bk, ct, er⟩ ρ = de ρ (fun t ρ1 => match t with
  | .val d1 => df ρ1 (fun d2 ρ2 => rf (.tup [d1, d2]) ρ2) er
  | .bor _ => False) er := rfl
theorem w_callT : dCallT i j dsp da ⟨nx, rt, rf, bk, ct, er⟩ ρ = da ρ (fun ts ρ1 => Opt (argsOf ρ1 ts) fun av => (bors ts).Nodup ∧ Run dsp av (fun d os => match d with
  | .tup [d1, d2] => (isPar (putOuts ρ1 (bors ts) os) i = false ∧ isPar (putOuts ρ1 (bors ts) os) j = false) ∧ nx (((putOuts ρ1 (bors ts) os).set i (.val d1)).set j (.own d2))
  | _ => False) (fun _ _ _ => False)) er := rfl
end
end DL
namespace DL
open PySem L2 Evl PySem.Spec PyProof.Rows
end DL
namespace PySem.SeqAt
open MeetsSeq MeetsSeq2 MeetsSeq3 SeqRoads2
end PySem.SeqAt
namespace DL
open PySem L2 Evl PySem.Spec PyProof.Rows
end DL
namespace DL
open PySem L2 Evl
end DL
namespace DL
open PySem L2 Evl PySem.Spec PyProof.Rows
def dWhile (t : DT) (b : DS) : DS := fun DD ρ => ∃ W : Nat → Ro → Prop, (∃ m, W m ρ) ∧ ∀ m ρ, W m ρ → t ρ (fun c ρ1 => if c = true then b { DD with nx := fun ρ' => ∃ m', m' < m ∧ W m' ρ', ct := fun ρ' => ∃ m', m' < m ∧ W m' ρ', bk := DD.nx } ρ1 else DD.nx ρ1) DD.er
section
variable {K : PySem.W.Frag} {pa : PaG} {W : WX} {tc : TT} {dt : DT} {tb : TS} {db : DS}
theorem ss_while (ht : ST K pa W tc dt) (hb : SS K pa W tb db) : SS K pa W (tWhile tc tb) (dWhile dt db) := fun F G σ H ρ D DD S h l => by
  obtain ⟨Wd, ⟨m0, w0⟩, turn⟩ := h
  refine ⟨fun m σ' H' => ∃ G2 ρ2, Ex G G2 ∧ Sim K pa F G2 σ' H' ρ2 ∧ Wd m ρ2, ⟨m0, G, ρ, Ex.refl G, S, w0⟩, ?_⟩
  rintro m σ' H' ⟨G2, ρ2, e2, S2, w2⟩
  refine ht F G2 σ' H' ρ2 _ _ DD.er S2 (turn m ρ2 w2) (fun G3 H3 b ρ3 e3 S3 q => ?_) ((l.xl σ').grow e2)
  have e23 := e2.trans e3
  cases b with
  | true =>
    rw [if_pos rfl] at q ⊢
    refine ⟨fun σ4 H4 => ∃ G4 ρ4, Ex G G4 ∧ Sim K pa F G4 σ4 H4 ρ4 ∧ ∃ m', m' < m ∧ Wd m' ρ4, fun σ4 H4 ⟨G4, ρ4, a, b, m', c, d⟩ => ⟨m', c, G4, ρ4, a, b, d⟩, ?_⟩
    exact hb F G3 σ' H3 ρ3 _ _ S3 q ⟨fun G5 σ5 H5 ρ5 e5 S5 h5 => ⟨G5, ρ5, e23.trans e5, S5, h5⟩, fun G5 σ5 H5 ρ5 e5 S5 h5 => l.nx G5 σ5 H5 ρ5 (e23.trans e5) S5 h5,
      fun G5 σ5 H5 ρ5 e5 S5 h5 => ⟨G5, ρ5, e23.trans e5, S5, h5⟩, fun G5 σ5 H5 ρ5 v t e5 => l.rt G5 σ5 H5 ρ5 v t (e23.trans e5), fun G5 σ5 H5 ρ5 v t e5 => l.rf G5 σ5 H5 ρ5 v t (e23.trans e5),
      fun G5 σ5 H5 ρ5 C y vs fs e5 => l.er G5 σ5 H5 ρ5 C y vs fs (e23.trans e5)⟩
  | false =>
    rw [if_neg (by decide)] at q ⊢
    exact l.nx G3 σ' H3 ρ3 e23 S3 q
end
theorem while_inv {t : DT} {b : DS} {nx0 : Ro → Prop} {rt : T → Ro → Prop} {rf : D → Ro → Prop} {bk ct : Ro → Prop} {er : ER} {ρ : Ro} (W : Nat → Ro → Prop) {m0 : Nat} (h0 : W m0 ρ)
    (step : ∀ (m : Nat) (ρ : Ro) (nx : Ro → Prop), W m ρ → (∀ m' ρ', m' < m → W m' ρ' → nx ρ') → t ρ (fun c ρ1 => if c = true then b ⟨nx, rt, rf, nx0, nx, er⟩ ρ1 else nx0 ρ1) er) : dWhile t b ⟨nx0, rt, rf, bk, ct, er⟩ ρ :=
  ⟨W, ⟨m0, h0⟩, fun m ρ hW => step m ρ _ hW fun m' ρ' hl hw => ⟨m', hl, hw⟩⟩
def D.iadd : D → D → Option D
  | .int a, .int b => some (.int (a + b))
  | _, _ => none
theorem iadd_int (a b : Int) : D.iadd (.int a) (.int b) = some (.int (a + b)) := rfl
section
variable {K : PySem.W.Frag} {pa : PaG} {W : WX} {te : TE} {de : DE} {i : Nat}
theorem sr_iadd : SR K (ipI fun i j => i + j) D.iadd := fun G H x y dx dy z Q e rx ry q k => by
  cases dx with
  | int a =>
    cases dy with
    | int b =>
      cases q
      rw [rx.int, ry.int]
      exact ⟨a, b, rfl, rfl, k G H _ (Al.refl e) (.int _)⟩
    | _ => cases q
  | _ => cases dy <;> cases q
theorem ss_aug {ti : TIp} {f : D → D → Option D} (hr : SR K ti f) (he : SE K pa W te de) : SS K pa W (tAug i te ti) (dAsg (dOp f (dVar i) de) (dgName i)) :=
  ss_asg (te := tOp ti (tVar i) te) (g := gName i) (se_op hr se_var he) sg_name
end
end DL
namespace DL
open PySem L2 Evl PySem.Spec PyProof.Rows
structure FnG (P : Program) (w : World) (K : PySem.W.Frag) (mg : Str → Option Value) (base : Heap) (CX : CXT) (k : Nat) (f : Addr) (fd : FuncData) (ps : List Str) (sp : Sp) : Prop where
  len : ∀ vs H Q E, sp vs H Q E → vs.length = ps.length
  run : ∀ (A : Around), A.guards = some [] → ∀ (outer : List Env) (s : Shared) (H : Hp) (args : Args) (us : List Value) (vs : List V) (Q : VK) (E : XK), Room k A → Env0 P w K mg base A outer s H → BindsTo s fd args (ps.zip us) → Vals vs us → sp vs H Q E →
    codeAny (model P w) A (.call (.ref f) args) (CR CX outer P w H s Q E) s
theorem FnG.imp {P : Program} {w : World} {K : PySem.W.Frag} {mg : Str → Option Value} {base : Heap} {CX : CXT} {k : Nat} {f : Addr} {fd : FuncData} {ps : List Str} {sp sp' : Sp} (F : FnG P w K mg base CX k f fd ps sp)
    (h : ∀ vs H Q E, sp' vs H Q E → sp vs H Q E) : FnG P w K mg base CX k f fd ps sp' :=
  ⟨fun vs H Q E q => F.len vs H Q E (h _ _ _ _ q), fun A hg outer s H args us vs Q E hr he hb hv hs => F.run A hg outer s H args us vs Q E hr he hb hv (h _ _ _ _ hs)⟩
end DL
namespace DL
open PySem L2 Evl PySem.Spec PyProof.Rows
end DL
namespace DL
open PySem L2 Evl
end DL
namespace DL
open PySem L2 Evl
end DL
namespace DL
open PySem L2 Evl
inductive Src where
  | lst (a : Addr)
  | tup (a : Addr)
  | txt (y : Str)
def Src.own : Src → List Addr
  | .lst a => [a]
  | .tup a => [a]
  | .txt _ => []
def Src.v : Src → V
  | .lst a => .ref a
  | .tup a => .ref a
  | .txt y => .str y
def Src.st (k : Src) (t : Tok) (it : Addr) (i : Nat) (h : Heap) : Prop := match k with
  | .lst a => h.IsListIter it a i
  | .tup a => h.IsTupleIter it a i
  | .txt y => h.IsStrIter it (strIterType y) y t i
def Src.at (K : PySem.W.Frag) (H : Hp) (k : Src) (xs : List V) : Prop := match k with
  | .lst a => SqL K H a xs
  | .tup a => SqT K H a xs
  | .txt y => xs = y.cps.toList.map fun c => .str ⟨#[c]⟩
theorem Src.ext {K : PySem.W.Frag} {G H : Hp} {k : Src} {xs : List V} (e : Ex G H) (h : k.at K G xs) : k.at K H xs := by
  cases k with
  | lst a => exact ex_l e h
  | tup a => exact ex_t e h
  | txt y => exact h
theorem Src.obj {k : Src} {t : Tok} {it : Addr} {i : Nat} {h : Heap} (st : k.st t it i h) : ∃ o, h.get? it = some o ∧ ∀ v, o.data ≠ .cell v := by
  cases k with
  | lst a => obtain ⟨o, e, c, d⟩ := st; exact ⟨o, e, fun v z => by rw [d] at z; cases z⟩
  | tup a => obtain ⟨o, e, c, d⟩ := st; exact ⟨o, e, fun v z => by rw [d] at z; cases z⟩
  | txt y => obtain ⟨o, e, c, d⟩ := st; exact ⟨o, e, fun v z => by rw [d] at z; cases z⟩
theorem Src.keep {k : Src} {t : Tok} {it : Addr} {i : Nat} {h h' : Heap} (st : k.st t it i h) (hk : ∀ o, h.get? it = some o → h'.get? it = some o) : k.st t it i h' := by
  cases k with
  | lst a => obtain ⟨o, e, r⟩ := st; exact ⟨o, hk o e, r⟩
  | tup a => obtain ⟨o, e, r⟩ := st; exact ⟨o, hk o e, r⟩
  | txt y => obtain ⟨o, e, r⟩ := st; exact ⟨o, hk o e, r⟩
end DL
namespace DL
open PySem L2 Evl
section
open PySem.Spec PyProof.Rows
variable {M : Model} {A : Around} {E : Value → Shared → Prop} {s : Shared} {env : Env}
end
end DL
namespace DL
open PySem L2 Evl StX
def D.split : D → D → Option D
  | .str a, .str b => if (b.length == 0) = false ∧ a.length + 2 ≤ sizeLine then some (.lst ((Txt.split a b).map .str)) else none
  | _, _ => none
section
variable {K : PySem.W.Frag} {pa : PaG} {W : WX} {te tf : TE} {de df : DE} {ta : TA} {da : DA}
section
open PySem.Spec PyProof.Rows
variable {X : Cx}
end
end
section
open PySem.Spec PyProof.Rows
variable {X : Cx} {CX : CXT} {k : Nat} {f C : Addr} {fd : FuncData} {ps : List Str} {sp : Sp} {E : XK} {x : Str} {e : Expr} {te : TE} {p sp_ pos : Pos} {ds : List Value} {dvs : List V}
end
end DL
namespace DL
open PySem L2 Evl
section
open PySem.Spec PyProof.Rows
end
end DL
namespace DL
open PySem L2 Evl
end DL
namespace DL
open PySem L2 Evl
end DL
namespace DL
open PySem L2 Evl PySem.Spec PyProof.Rows LamX
end DL
namespace DL
open PySem L2 Evl PySem.Spec PyProof.Rows LamX
end DL
namespace DL
open PySem L2 Evl PySem.Spec PyProof.Rows LamX
abbrev LW := (D → Prop) → (Addr → List (Str × D) → Prop) → Prop
section
variable {K : PySem.W.Frag} {T : List (Addr × Str)} {G0 : Hp}
def LamOk (K : PySem.W.Frag) (T : List (Addr × Str)) (tl : XK → Hp → VK → Prop) (lw : LW) (G0 : Hp) : Prop := ∀ (E : XK) (F G H : Hp) (Q : VK) (q : D → Prop) (er : Addr → List (Str × D) → Prop), Ex G0 G → Ex G H → Ex F H → DjT T F G H → lw q er →
  (∀ G' H' v d, Ex G G' → Ex G' H' → Ex F H' → DjT T F G' H' → Rep K G' v d → q d → Q v H') →
  (∀ G' H' C y fv fs, Ex G G' → Ex G' H' → Ex F H' → DjT T F G' H' → G' y = some (.xd fv) → RepF K G' fv fs → er C fs → E (.ref C) (some y) H') → tl E H Q
theorem LamOk.mono {tl : XK → Hp → VK → Prop} {lw : LW} {G1 : Hp} (h : LamOk K T tl lw G0) (e : Ex G0 G1) : LamOk K T tl lw G1 := fun E F G H Q q er h1 => h E F G H Q q er (e.trans h1)
end
end DL
namespace DL
open PySem L2 Evl PySem.Spec PyProof.Rows
end DL
namespace DL
open PySem L2 Evl PySem.Spec PyProof.Rows LamX
def SpVT (K : PySem.W.Frag) (T : List (Addr × Str)) (n : Nat) (dsp : DSp) : Sp := fun vs H Q E => ∃ F G av, vs.length = n ∧ Ex G H ∧ Ex F H ∧ DjT T F G H ∧ ArgsR K F G H vs av ∧ (parsOf vs av).Nodup ∧ ∃ q er, dsp av q er ∧
  (∀ G' H' v d os, Ex G G' → Ex G' H' → Ex F H' → DjT T F G' H' → Outs K G' H' vs av os → Rep K G' v d → q d os → Q v H') ∧
  (∀ G' H' C y fv fs os, Ex G G' → Ex G' H' → Ex F H' → DjT T F G' H' → Outs K G' H' vs av os → G' y = some (.xd fv) → RepF K G' fv fs → er C fs os → E (.ref C) (some y) H')
theorem SpVT.len {K : PySem.W.Frag} {T : List (Addr × Str)} {n : Nat} {dsp : DSp} {vs : List V} {H : Hp} {Q : VK} {E : XK} (h : SpVT K T n dsp vs H Q E) : vs.length = n := by
  obtain ⟨_, _, _, h, _⟩ := h
  exact h
end DL
namespace DL
open PySem L2 Evl PySem.Spec PyProof.Rows
end DL
namespace DL
open PySem L2 Evl PySem.Spec PyProof.Rows
end DL
namespace DL
open PySem L2 Evl
end DL
namespace DL
open PySem L2 Evl PySem.Spec PyProof.Rows
end DL
namespace DL
open PySem L2 Evl PySem.Spec PyProof.Rows
end DL
namespace DL
open PySem L2 Evl
abbrev Ar := Addr → Option (List D)
def upA (μ : Ar) (a : Addr) (ds : List D) : Ar := fun b => if b = a then some ds else μ b
theorem upA_same {μ : Ar} {a : Addr} {ds : List D} : upA μ a ds a = some ds := if_pos rfl
theorem upA_ne {μ : Ar} {a b : Addr} {ds : List D} (h : b ≠ a) : upA μ a ds b = μ b := if_neg h
def addF (F H : Hp) (μ : Ar) : Hp := fun b => if (μ b).isSome = true then H b else F b
section
variable {K : PySem.W.Frag} {pa : PaG} {F G G' H H' : Hp} {σ σ' : RSt} {ρ ρ' : Ro} {μ : Ar}
theorem addF_in {a : Addr} {ds : List D} (h : μ a = some ds) : addF F H μ a = H a := if_pos (by rw [h]; rfl)
theorem addF_out {a : Addr} (h : μ a = none) : addF F H μ a = F a := if_neg (by rw [h]; exact Bool.false_ne_true)
structure ASim (K : PySem.W.Frag) (pa : PaG) (F G : Hp) (σ : RSt) (H : Hp) (ρ : Ro) (μ : Ar) : Prop where
  at' : ∀ a ds, μ a = some ds → F a = none ∧ ∃ vs, H a = some (.lst vs) ∧ Reps K G vs ds
  sim : Sim K pa (addF F H μ) G σ H ρ
theorem ASim.F_ex (S : ASim K pa F G σ H ρ μ) : Ex F (addF F H μ) := fun b o h => by
  cases q : μ b with
  | none => rw [addF_out q]; exact h
  | some ds => rw [(S.at' b ds q).1] at h; cases h
theorem ASim.out (S : ASim K pa F G σ H ρ μ) : Sim K pa F G σ H ρ := S.sim.frame S.F_ex
theorem ASim.g0 (S : ASim K pa F G σ H ρ μ) {a : Addr} {ds : List D} (h : μ a = some ds) : G a = none := by
  obtain ⟨_, vs, hv, _⟩ := S.at' a ds h
  exact S.sim.dj.of a _ (by rw [addF_in h]; exact hv)
theorem ASim.own_ne (S : ASim K pa F G σ H ρ μ) {i : Nat} {s : Sl} {d : D} {p : Addr} (h1 : ρ[i]? = some s) (h2 : s.ownD = some d) (h3 : σ[i]? = some (some (.ref p))) : μ p = none := by
  cases q : μ p with
  | none => rfl
  | some ds =>
    obtain ⟨_, vs, hv, _⟩ := S.at' p ds q
    have := S.sim.ofr i s d p h1 h2 h3
    rw [addF_in q, hv] at this
    cases this
theorem Sim.refr {F2 : Hp} (S : Sim K pa F G σ H ρ) (fx : Ex F2 H) (dj : DjT pa.T F2 G H) (ofr : ∀ (i : Nat) (s : Sl) (d : D) (p : Addr), ρ[i]? = some s → s.ownD = some d → σ[i]? = some (some (.ref p)) → F2 p = none) : Sim K pa F2 G σ H ρ :=
  ⟨S.len, S.ex, fx, dj, S.val, S.own, ofr, S.par, S.gx, S.dis⟩
theorem ASim.new (S : ASim K pa F G σ H ρ μ) {p : Addr} (hp : H p = none) {vs : List V} {ds : List D} (r : Reps K G vs ds) : ASim K pa F G σ (upd H p (.lst vs)) ρ (upA μ p ds) := by
  have mp : μ p = none := by
    cases q : μ p with
    | none => rfl
    | some ds => obtain ⟨_, vs, hv, _⟩ := S.at' p ds q; rw [hp] at hv; cases hv
  have Fp : F p = none := fresh_back S.out.fx hp
  have Gp : G p = none := fresh_back S.sim.ex hp
  have S1 := S.sim.new (o := .lst vs) hp
  have e2 : addF F (upd H p (.lst vs)) (upA μ p ds) = upd (addF F H μ) p (.lst vs) := funext fun b => by
    by_cases z : b = p
    · subst z; rw [addF_in upA_same, upd_same, upd_same]
    · rw [upd_ne z]
      cases q : μ b with
      | none => rw [addF_out (by rw [upA_ne z]; exact q), addF_out q]
      | some ds' => rw [addF_in (by rw [upA_ne z]; exact q), addF_in q, upd_ne z]
  refine ⟨fun a ds' q => ?_, ?_⟩
  · by_cases z : a = p
    · subst z; rw [upA_same] at q; cases q; exact ⟨Fp, vs, upd_same, r⟩
    · rw [upA_ne z] at q
      obtain ⟨h1, vs', h2, h3⟩ := S.at' a ds' q
      exact ⟨h1, vs', by rw [upd_ne z]; exact h2, h3⟩
  · rw [e2]
    refine S1.refr (fun b o q => ?_) (S1.dj.fadd noCode_lst Gp (S.sim.dj.new hp)) fun i s d b h1 h2 h3 => ?_
    · by_cases z : b = p
      · subst z; rw [upd_same] at q ⊢; exact q
      · rw [upd_ne z] at q; exact S1.fx b o q
    · have := S1.ofr i s d b h1 h2 h3
      obtain ⟨b', q1, _, q3⟩ := S.sim.own i s d h1 h2
      rw [h3] at q1
      cases q1
      obtain ⟨o, ho⟩ := q3.some
      rw [upd_ne (fun z => by rw [z, hp] at ho; cases ho)]
      exact this
theorem ASim.mut (S : ASim K pa F G σ H ρ μ) {a : Addr} {ds ds' : List D} {vs' : List V} (h : μ a = some ds) (r : Reps K G vs' ds') : ASim K pa F G σ (upd H a (.lst vs')) ρ (upA μ a ds') := by
  obtain ⟨Fa, vs, hv, _⟩ := S.at' a ds h
  have Ga := S.g0 h
  have hne := S.sim.dj.ne hv noCode_lst
  have e2 : addF F (upd H a (.lst vs')) (upA μ a ds') = upd (addF F H μ) a (.lst vs') := funext fun b => by
    by_cases z : b = a
    · subst z; rw [addF_in upA_same, upd_same, upd_same]
    · rw [upd_ne z]
      cases q : μ b with
      | none => rw [addF_out (by rw [upA_ne z]; exact q), addF_out q]
      | some ds' => rw [addF_in (by rw [upA_ne z]; exact q), addF_in q, upd_ne z]
  refine ⟨fun b ds2 q => ?_, ?_⟩
  · by_cases z : b = a
    · subst z; rw [upA_same] at q; cases q; exact ⟨Fa, vs', upd_same, r⟩
    · rw [upA_ne z] at q
      obtain ⟨h1, vs2, h2, h3⟩ := S.at' b ds2 q
      exact ⟨h1, vs2, by rw [upd_ne z]; exact h2, h3⟩
  · rw [e2]
    have own_ne : ∀ (i : Nat) (s : Sl) (d : D) (p : Addr), ρ[i]? = some s → s.ownD = some d → σ[i]? = some (some (.ref p)) → p ≠ a := fun i s d p h1 h2 h3 z => by
      have := S.own_ne h1 h2 h3
      rw [z, h] at this
      cases this
    exact {
      len := S.sim.len
      ex := fun b o q => by rw [upd_ne (fun z => by rw [z, Ga] at q; cases q)]; exact S.sim.ex b o q
      fx := fun b o q => by
        by_cases z : b = a
        · subst z; rw [upd_same] at q ⊢; exact q
        · rw [upd_ne z] at q ⊢; exact S.sim.fx b o q
      dj := (S.sim.dj.mut hv noCode_lst).fadd noCode_lst Ga hne
      val := S.sim.val
      own := fun i s d h1 h2 => by
        obtain ⟨p, q1, q2, q3⟩ := S.sim.own i s d h1 h2
        exact ⟨p, q1, q2, q3.mono (Ex.refl G) (upd_ne (own_ne i s d p h1 h2 q1)).symm⟩
      ofr := fun i s d p h1 h2 h3 => by rw [upd_ne (own_ne i s d p h1 h2 h3)]; exact S.sim.ofr i s d p h1 h2 h3
      par := S.sim.par
      gx := S.sim.gx
      dis := S.sim.dis }
end
end DL
namespace DL
open PySem L2 Evl
structure ADo where
  nx : Ar → Ro → Prop
  rt : T → Ar → Ro → Prop
  rf : D → Ar → Ro → Prop
  bk : Ar → Ro → Prop
  ct : Ar → Ro → Prop
  er : ER
abbrev ADS := ADo → Ar → Ro → Prop
abbrev ADE := Ar → Ro → (D → Ar → Ro → Prop) → Prop
abbrev ADA := Ar → Ro → (List D → Ar → Ro → Prop) → Prop
section
variable (K : PySem.W.Frag) (pa : PaG)
structure LkA (F : Hp) (W : WX) (G : Hp) (D : Ends) (DA : ADo) : Prop where
  nx : ∀ G' σ' H' ρ' μ', Ex G G' → ASim K pa F G' σ' H' ρ' μ' → DA.nx μ' ρ' → D.nx σ' H'
  bk : ∀ G' σ' H' ρ' μ', Ex G G' → ASim K pa F G' σ' H' ρ' μ' → DA.bk μ' ρ' → D.bk σ' H'
  ct : ∀ G' σ' H' ρ' μ', Ex G G' → ASim K pa F G' σ' H' ρ' μ' → DA.ct μ' ρ' → D.ct σ' H'
  rt : ∀ G' σ' H' ρ' μ' v t, Ex G G' → ASim K pa F G' σ' H' ρ' μ' → TkR K G' σ' v t → DA.rt t μ' ρ' → D.rt v H'
  rf : ∀ G' σ' H' ρ' μ' p d, Ex G G' → ASim K pa F G' σ' H' ρ' μ' → G' p = none ∧ F p = none → OwnAt K G' H' p d → (∀ (i : Nat) (s : Sl) (d : DL.D), ρ'[i]? = some s → s.ownD = some d → σ'[i]? ≠ some (some (.ref p))) → DA.rf d μ' ρ' → D.rt (.ref p) H'
  er : ∀ G' σ' H' ρ' C d vs fs, Ex G G' → Sim K pa F G' σ' H' ρ' → DA.er C fs ρ' → G' d = some (.xd vs) → RepF K G' vs fs → W (.ref C) (some d) σ' H'
end
section
variable {K : PySem.W.Frag} {pa : PaG} {W : WX} {te ta tb : TE} {de : DE} {a b : ADE} {ts us : TS} {s u : ADS} {as : ADA} {tas : TA}
theorem LkA.grow {F G G' : Hp} {D : Ends} {DA : ADo} (e : Ex G G') (l : LkA K pa F W G D DA) : LkA K pa F W G' D DA :=
  ⟨fun a b c d m x => l.nx a b c d m (e.trans x), fun a b c d m x => l.bk a b c d m (e.trans x), fun a b c d m x => l.ct a b c d m (e.trans x), fun a b c d m v t x => l.rt a b c d m v t (e.trans x), fun a b c d m v t x => l.rf a b c d m v t (e.trans x), fun a b c d C y vs fs x => l.er a b c d C y vs fs (e.trans x)⟩
theorem ASim.zero {F G H : Hp} {σ : RSt} {ρ : Ro} (S : Sim K pa F G σ H ρ) : ASim K pa F G σ H ρ (fun _ => none) := ⟨fun a ds h => (by cases h), by
  have e : addF F H (fun _ => none) = F := funext fun b => addF_out rfl
  rw [e]; exact S⟩
end
end DL
namespace DL
open PySem L2 Evl
end DL
namespace DL
open PySem L2 Evl
abbrev DSpA := Ar → List D → (D → Ar → Prop) → Prop
def AtOk (K : PySem.W.Frag) (F G H : Hp) (μ : Ar) : Prop := ∀ a ds, μ a = some ds → F a = none ∧ ∃ vs, H a = some (.lst vs) ∧ Reps K G vs ds
def SpA (K : PySem.W.Frag) (n : Nat) (dsp : DSpA) : Sp := fun vs H Q E => vs.length = n ∧ ∃ (T : List (Addr × Str)) (F G : Hp) (μ : Ar) (ds : List D), Ex G H ∧ Ex (addF F H μ) H ∧ DjT T (addF F H μ) G H ∧ Reps K G vs ds ∧ AtOk K F G H μ ∧ ∃ q, dsp μ ds q ∧
  ∀ G' H' v d μ', Ex G G' → Ex G' H' → Ex (addF F H' μ') H' → DjT T (addF F H' μ') G' H' → Rep K G' v d → AtOk K F G' H' μ' → q d μ' → Q v H'
theorem SpA.len {K : PySem.W.Frag} {n : Nat} {dsp : DSpA} {vs : List V} {H : Hp} {Q : VK} {E : XK} (h : SpA K n dsp vs H Q E) : vs.length = n := h.1
end DL
namespace DL
open PySem L2 Evl
end DL
namespace DL
open PySem L2 Evl
end DL
namespace DL
open PySem L2 Evl
section
variable {K : PySem.W.Frag} {pa : PaG} {F G H : Hp} {σ σ' : RSt} {ρ : Ro} {μ : Ar}
theorem ASim.wipeTo {vs : List Nat} (S : ASim K pa F G σ H ρ μ) (h : wipe σ vs = wipe σ' vs) : ASim K pa F G σ' H (wipeD ρ vs) μ := ⟨S.at', S.sim.wipeTo h⟩
end
end DL
namespace DL
open PySem L2 Evl
end DL
namespace DL
open PySem L2 Evl
end DL
namespace DL
open PySem L2 Evl PySem.Spec PyProof.Rows
mutual
inductive DpE (K : PySem.W.Frag) (H : Hp) : V → PyData → Prop
  | non : DpE K H .non .none
  | bl (b : Bool) : DpE K H (.bl b) (.bool b)
  | int (i : Int) : DpE K H (.int i) (.int i)
  | str (x : Str) : DpE K H (.str x) (.str x)
  | lst {a : Addr} {xs : List V} {ds : List PyData} : SqL K H a xs → DpEs K H xs ds → DpE K H (.ref a) (.list ds)
  | tup {a : Addr} {xs : List V} {ds : List PyData} : SqT K H a xs → DpEs K H xs ds → DpE K H (.ref a) (.tuple ds)
  | dct {a : Addr} : H a = some (.dK []) → DpE K H (.ref a) (.dict [])
inductive DpEs (K : PySem.W.Frag) (H : Hp) : List V → List PyData → Prop
  | nil : DpEs K H [] []
  | cons {v : V} {vs : List V} {d : PyData} {ds : List PyData} : DpE K H v d → DpEs K H vs ds → DpEs K H (v :: vs) (d :: ds)
end
def smB (K : PySem.W.Frag) : Bool := (K.lookup sysModules).any fun o => decide (o.cls ≠ (.type "list" : Value))
section
variable {X : Cx} {pins : List (Addr × Obj)} {σ : L2.St} {H : Hp} {s : Shared}
theorem sm_list (hK : smB X.K = true) (I : Inv X pins σ H s) {a : Addr} {xs : List V} (h : SqL X.K H a xs) : a ≠ sysModules := by
  rintro rfl
  unfold smB at hK
  cases e : X.K.lookup sysModules with
  | none => rw [e] at hK; cases hK
  | some o =>
    rw [e] at hK
    have hK : decide (o.cls ≠ (.type "list" : Value)) = true := hK
    rcases h with h | ⟨o', its, n, hk, hc, _⟩
    · have hb : X.base.get? sysModules = some o := I.mod.kin _ _ e
      have hn := (I.bs _ _ hb).2
      rcases h with h | ⟨_, h⟩ <;> (rw [hn] at h; cases h)
    · rw [e] at hk
      cases hk
      exact absurd hc (of_decide_eq_true hK)
mutual
theorem DpE.reads (hK : smB X.K = true) (I : Inv X pins σ H s) : ∀ (d : PyData) (v : V) (u : Value), DpE X.K H v d → RelV v u → ∃ as, Reads s.heap u d as ∧ sysModules ∉ as
  | .none, _, _, h, r => by
    cases h
    cases r
    exact ⟨_, Reads.none, by simp⟩
  | .bool b, _, _, h, r => by
    cases h
    cases r
    exact ⟨_, Reads.bool b, by simp⟩
  | .int i, _, _, h, r => by
    cases h
    obtain ⟨t, rfl⟩ := r
    exact ⟨_, Reads.int i t, by simp⟩
  | .str x, _, _, h, r => by
    cases h
    obtain ⟨t, rfl⟩ := r
    exact ⟨_, Reads.str x t, by simp⟩
  | .list ds, _, _, h, r => by
    cases h with
    | lst hs ha =>
      cases r
      obtain ⟨its, rv, ⟨o, n, ho, hc, _, hd⟩, _⟩ := I.list hs
      obtain ⟨as, hr, hn⟩ := DpE.readsAll hK I ds _ its ha rv
      refine ⟨_, Reads.list ho hc hd hr, fun z => ?_⟩
      rcases List.mem_cons.mp z with z | z
      · exact sm_list hK I hs z.symm
      · exact hn z
  | .tuple ds, _, _, h, r => by
    cases h with
    | tup hs ha =>
      cases r
      obtain ⟨its, rv, ⟨o, ho, hc, n, hd⟩, _⟩ := I.tuple hs
      obtain ⟨as, hr, hn⟩ := DpE.readsAll hK I ds _ its ha rv
      exact ⟨_, Reads.tuple ho hc hd hr, hn⟩
  | .dict [], _, _, h, r => by
    cases h with
    | @dct a ha =>
      cases r
      obtain ⟨_, hs, vs, kv, o, es, ep, ho, hx, hd, rr⟩ := I.hok a _ ha
      have hv : vs = [] := by cases kv; rfl
      subst hv
      have he : es = #[] := by
        have := rr.2.1.length
        rw [Array.length_toList] at this
        exact Array.size_eq_zero_iff.mp this
      subst he
      refine ⟨_, .dict ho hx.1 hd .nil .nil, fun z => ?_⟩
      have z : a = sysModules := (List.mem_singleton.mp (show sysModules ∈ [a] from z)).symm
      rw [z] at hs
      simp at hs
  | .dict (_ :: _), _, _, h, r => by cases h
theorem DpE.readsAll (hK : smB X.K = true) (I : Inv X pins σ H s) : ∀ (ds : List PyData) (vs : List V) (us : List Value), DpEs X.K H vs ds → Vals vs us → ∃ as, ReadsAll s.heap us ds as ∧ sysModules ∉ as
  | [], _, _, h, r => by
    cases h
    cases r
    exact ⟨_, ReadsAll.nil, by simp⟩
  | d :: ds, _, _, h, r => by
    cases h with
    | cons h1 h2 =>
      cases r with
      | cons r1 r2 =>
        obtain ⟨as, q1, n1⟩ := DpE.reads hK I d _ _ h1 r1
        obtain ⟨bs, q2, n2⟩ := DpE.readsAll hK I ds _ _ h2 r2
        exact ⟨_, ReadsAll.cons q1 q2, fun z => (List.mem_append.mp z).elim n1 n2⟩
end
end
mutual
def D.toE : D → Option PyData
  | .non => some .none
  | .bl b => some (.bool b)
  | .int i => some (.int i)
  | .str x => some (.str x)
  | .lst xs => (D.toEs xs).map .list
  | .tup xs => (D.toEs xs).map .tuple
  | .dct [] => some (.dict [])
  | _ => none
def D.toEs : List D → Option (List PyData)
  | [] => some []
  | d :: ds => (D.toE d).bind fun p => (D.toEs ds).map fun ps => p :: ps
end
def Tol (d : D) (k w : Nat) : Prop := ∃ p, d.toE = some p ∧ p.showable = true ∧ p.depth ≤ k ∧ p.leavesShort 40 = true ∧ p.weight ≤ w
theorem Tol.mono {d : D} {k w k' w' : Nat} (h : Tol d k w) (hk : k ≤ k') (hw : w ≤ w') : Tol d k' w' := by
  obtain ⟨p, h1, h2, h3, h4, h5⟩ := h
  exact ⟨p, h1, h2, by omega, h4, by omega⟩
theorem Tol.non (k w : Nat) : Tol .non k w := ⟨_, rfl, rfl, Nat.zero_le _, rfl, Nat.zero_le _⟩
theorem Tol.bl (b : Bool) (k w : Nat) : Tol (.bl b) k w := ⟨_, rfl, rfl, Nat.zero_le _, rfl, Nat.zero_le _⟩
theorem Tol.dct (k w : Nat) : Tol (.dct []) (k + 1) w := ⟨_, rfl, rfl, Nat.succ_le_succ (Nat.zero_le _), rfl, Nat.zero_le _⟩
theorem Tol.int {i : Int} (h : i.natAbs < 10 ^ 32) (k : Nat) : Tol (.int i) k 110 := by
  have hl : i.natAbs.log2 < 110 - 1 := by
    rcases Nat.eq_zero_or_pos i.natAbs with e | e
    · rw [e]; decide
    · exact (Nat.log2_lt (by omega)).mpr (Nat.lt_of_lt_of_le h (by decide))
  refine ⟨_, rfl, ?_, Nat.zero_le _, ?_, ?_⟩
  · show decide (i.natAbs.log2 < 1920) = true
    exact decide_eq_true (by omega)
  · have e := int_text_length_le10 (k := 32) (by decide) h
    show decide ((PyData.shown (.int i)).length ≤ 40) = true
    refine decide_eq_true ?_
    show (Str.ofString (toString i)).length ≤ 40
    rw [PySem.ofString_length]; omega
  · show (if i == 0 then 0 else i.natAbs.log2 + 1) ≤ 110
    split <;> omega
theorem Tol.str {x : Str} (h : x.length ≤ 100) (hc : ∀ c ∈ x.cps.toList, c < 128) (k : Nat) : Tol (.str x) k 100 := by
  refine ⟨_, rfl, rfl, Nat.zero_le _, ?_, h⟩
  show (x.cps.toList.all fun c => decide (c < 16 ^ 8)) = true
  exact List.all_eq_true.mpr fun c m => decide_eq_true (Nat.lt_trans (hc c m) (by decide))
theorem tols {k w : Nat} : ∀ {xs : List D}, (∀ x ∈ xs, Tol x k w) → ∃ ps, D.toEs xs = some ps ∧ PyData.showableAll ps = true ∧ PyData.depthAll ps ≤ k ∧ PyData.leavesShortAll 40 ps = true ∧ PyData.weightAll ps ≤ xs.length * (w + 1)
  | [], _ => ⟨[], by rw [D.toEs], rfl, Nat.zero_le _, rfl, by simp [PyData.weightAll]⟩
  | d :: xs, h => by
    obtain ⟨p, h1, h2, h3, h4, h5⟩ := h d List.mem_cons_self
    obtain ⟨ps, g1, g2, g3, g4, g5⟩ := tols (xs := xs) fun x m => h x (List.mem_cons_of_mem _ m)
    refine ⟨p :: ps, by rw [D.toEs, h1, g1]; rfl, ?_, ?_, ?_, ?_⟩
    · rw [PyData.showableAll, h2, g2]; rfl
    · rw [PyData.depthAll]; omega
    · rw [PyData.leavesShortAll, h4, g4]; rfl
    · rw [PyData.weightAll, List.length_cons, Nat.succ_mul]; omega
theorem Tol.lst {k w : Nat} {xs : List D} (h : ∀ x ∈ xs, Tol x k w) : Tol (.lst xs) (k + 1) (xs.length * (w + 1)) := by
  obtain ⟨ps, g1, g2, g3, g4, g5⟩ := tols h
  exact ⟨.list ps, by rw [D.toE, g1]; rfl, by rw [PyData.showable]; exact g2, by rw [PyData.depth]; omega, by rw [PyData.leavesShort]; exact g4, by rw [PyData.weight]; exact g5⟩
theorem Tol.tup {k w : Nat} {xs : List D} (h : ∀ x ∈ xs, Tol x k w) : Tol (.tup xs) (k + 1) (xs.length * (w + 1)) := by
  obtain ⟨ps, g1, g2, g3, g4, g5⟩ := tols h
  exact ⟨.tuple ps, by rw [D.toE, g1]; rfl, by rw [PyData.showable]; exact g2, by rw [PyData.depth]; omega, by rw [PyData.leavesShort]; exact g4, by rw [PyData.weight]; exact g5⟩
end DL
namespace L2
open PySem PySem.Spec PyProof.Rows
end L2
namespace DL
open PySem L2 Evl
end DL
namespace DL.Byt
open PySem PySem.W Builtin PyProof.Rows PySem.QB
section
variable {prog : Program} {w : World} {A : Around} {E : Value → Shared → Prop} {s : Shared} {b : Array UInt8} {t u : Tok} {i : Int}
theorem contains_int {id : String} (h0 : 0 ≤ i) (h1 : i < 256) {Q : Bool → Shared → Prop} (h : Q (b.contains i.toNat.toUInt8) s) :
    wpAny (model prog w) A (Bytes.containsIn id (.bytes b t) (.int i u)) Q E s := by
  unfold Bytes.containsIn
  refine wpAny_bind (wpAny_attempt ?_)
  refine wpAny_pure ?_
  refine wpAny_bind (wpAny_of_eq KBy.buffer_eq ?_)
  have e : (decide (i < 0) || decide (i ≥ 256)) = false := by rw [decide_eq_false (by omega), decide_eq_false (by omega)]; rfl
  show wpAny _ _ (if (decide (i < 0) || decide (i ≥ 256)) = true then _ else _) _ _ _
  rw [e]
  exact wpAny_pure h
theorem notIn_int (h0 : 0 ≤ i) (h1 : i < 256) {Q : Value → Shared → Prop} (h : Q (.bool (!(b.contains i.toNat.toUInt8))) s) :
    wpAny (model prog w) A (compareOp .NotIn (.int i u) (.bytes b t)) Q E s := by
  refine NotIn_slot (typeIs_bytes s b t) FB.slot_bytes_contains (wpAny_call_entry FB.slot_bytes_contains (typeIs_bytes s b t) FB.entry_bytes_contains ?_ (FB.args_bytes_contains_2 _ _))
  show wpAny _ _ (Bytes.containsIn "bytes.__contains__" (.bytes b t) (.int i u) >>= fun r => ret (.bool r)) _ _ s
  exact wpAny_bind (contains_int h0 h1 (wpAny_pure ⟨_, rfl, wpAny_truthy_bool h⟩))
end
theorem slot_mul : Slot "bytes" "__mul__" "bytes.__mul__" := .of (owner := "bytes") (n := "__mul__") (by rw [typeLookup_type, builtinLookup_eq_fast]; kernel_rfl) (by decide +kernel) (by decide +kernel) (by decide +kernel) (by first | exact .inl (by decide +kernel) | exact .inr (by decide +kernel)) (by rw [isSubtype_type]; kernel_rfl)
theorem look_rmul : typeLookup (.type "bytes") (dunderR "mul") = pure (some (.builtin "bytes.__rmul__")) := by rw [typeLookup_type, builtinLookup_eq_fast]; kernel_rfl
theorem entry_mul : entryFor table "bytes.__mul__" = some Builtin.«bytes.__mul__» := entryFor_of_tree (by kernel_rfl)
theorem args_mul (a b : Value) : argsOk "bytes.__mul__" ⟨[a, b], []⟩ := by unfold argsOk; rw [signature?_of (id := "bytes.__mul__") (n := ['_', '_', 'l', 'u', 'm', '_', '_']) (o := ['s', 'e', 't', 'y', 'b']) (by kernel_rfl) FB.owner_bytes]; kernel_rfl
theorem noFill_mul : fillsNumberSlot (.type "bytes") "mul" = pure false := PySem.fillsNumberSlot_seq (id := "bytes.__mul__") (r := some (.builtin "bytes.__rmul__")) slot_mul.lookup (by decide +kernel) look_rmul (by decide +kernel)
theorem repeat_bytes : seqRepeat? (.type "bytes") = pure (some (.builtin "bytes.__mul__")) := by
  unfold seqRepeat?
  rw [PySem.seqSlot_of (T := "bytes") (name := "__mul__") (id := "bytes.__mul__") slot_mul.lookup (by decide +kernel), PySem.seqSlot_of (T := "bytes") (name := "__rmul__") (id := "bytes.__rmul__") look_rmul (by decide +kernel)]
  rfl
open Builtin.Int in
theorem rmul_no (a : Int) (t : Tok) (b : Array UInt8) (u : Tok) : Gives (Builtin.«int.__rmul__» ⟨[.int a t, .bytes b u], []⟩) (.val (Value.notImplemented)) :=
  .of_wp fun M A E s Q h => by obtain ⟨hp, g, d, tk, os⟩ := s; wp_walk; exact ⟨_, rfl, h⟩
theorem gives_mul {b : Array UInt8} {n : Int} {t u : Tok} (h0 : 0 ≤ n) (h2 : n < 2 ^ 63) (h1 : b.size * n.toNat ≤ 16777216) :
    Gives («bytes.__mul__» ⟨[.bytes b t, .int n u], []⟩) (if (b.size * n.toNat == b.size) = true then .val (.bytes b t) else .bytes (Bytes.repeated b n.toNat)) := by
  refine .of_wp fun M A E s Q hq => ?_
  show wpAny M A (Bytes.repeatArgs .bytes "__mul__" ⟨[.bytes b t, .int n u], []⟩ >>= fun r => _) _ E s
  refine wpAny_bind ?_
  unfold Bytes.repeatArgs
  refine wpAny_ite (KBy.ite_no (show ¬ ((!([] : List (PySem.Str × Value)).isEmpty) = true) from Bool.false_ne_true) ?_)
  refine wpAny_bind (wpAny_pure ?_)
  have hf : ¬ ((!Bytes.fitsIndex n) = true) := by
    have : Bytes.fitsIndex n = true := by simp only [Bytes.fitsIndex, Bool.and_eq_true, decide_eq_true_eq]; omega
    rw [this]; decide
  show wpAny M A (if (!Bytes.fitsIndex n) = true then _ else _) _ E s
  rw [if_neg hf]
  refine wpAny_pure ?_
  show wpAny M A (Bytes.payload (.bytes b t) >>= fun r => _) _ E s
  refine wpAny_bind (wpAny_of_eq (a := b) rfl ?_)
  show wpAny M A (if b.size * n.toNat ≥ 2 ^ 63 then _ else _) _ E s
  rw [if_neg (by omega)]
  show wpAny M A (if (b.size * n.toNat == b.size) = true then _ else _) _ E s
  by_cases hz : (b.size * n.toNat == b.size) = true
  · rw [if_pos hz] at hq ⊢
    refine wpAny_bind (wpAny_typeOf (typeIs_bytes s b t) ?_)
    exact wpAny_bind (wpAny_rule (wpAny_pure ⟨_, rfl, hq⟩))
  · rw [if_neg hz] at hq ⊢
    show wpAny M A (if Bytes.tooLong (b.size * n.toNat) = true then _ else _) _ E s
    rw [if_neg (by rw [KBy.tooLong_not h1]; exact Bool.false_ne_true)]
    exact wpAny_bind (wpAny_mkBytes (wpAny_pure ⟨_, rfl, hq.2⟩) hq.1)
section
variable {prog : Program} {w : World} {A : Around} {E : Value → Shared → Prop} {s : Shared} {b c : Array UInt8} {t u : Tok} {n : Int}
theorem repeated_one (b : Array UInt8) : Bytes.repeated b 1 = b := by
  unfold Bytes.repeated
  by_cases hb : b.isEmpty = true
  · rw [if_pos hb]; exact (Array.isEmpty_iff.1 hb).symm
  · rw [if_neg hb]; show #[] ++ b = b; exact Array.empty_append
theorem repeated_same {k : Nat} (h : b.size * k = b.size) : Bytes.repeated b k = b := by
  by_cases hb : b.size = 0
  · have e : b = #[] := Array.eq_empty_of_size_eq_zero hb
    subst e; rfl
  · have : k = 1 := Nat.eq_of_mul_eq_mul_left (Nat.pos_of_ne_zero hb) (by rw [h, Nat.mul_one])
    subst this; exact repeated_one b
theorem flat_size (b : Array UInt8) : ∀ (k : Nat) (a : Array UInt8), ((List.replicate k b).foldl (· ++ ·) a).size = a.size + k * b.size
  | 0, a => by simp
  | k + 1, a => by rw [List.replicate_succ, List.foldl_cons, flat_size b k, Array.size_append, Nat.add_mul, Nat.one_mul]; omega
theorem repeated_size (b : Array UInt8) (k : Nat) : (Bytes.repeated b k).size = b.size * k := by
  unfold Bytes.repeated
  by_cases hb : b.isEmpty = true
  · rw [if_pos hb, Array.isEmpty_iff.1 hb]; simp
  · rw [if_neg hb, flat_size]; simp [Nat.mul_comm]
theorem mul_bytes (h0 : 0 ≤ n) (h2 : n < 2 ^ 63) (h1 : b.size * n.toNat ≤ 16777216) {Q : Value → Shared → Prop} (h : ∀ t' k, Q (.bytes (Bytes.repeated b n.toNat) t') { s with toks := k }) :
    wpAny (model prog w) A (binaryOp .Mult (.bytes b t) (.int n u)) Q E s := by
  refine wpAny_binaryOp_repeat (T := "bytes") (U := "int") (by decide) (fun s' => typeIs_bytes s' b t) (fun s' => typeIs_int s' n u) noFill_mul F.fills_int_mul F.slot_int_rmul repeat_bytes F.slot_int_index.lookup
    (call_gives F.slot_int_rmul (typeIs_int s n u) F.entry_int_rmul (F.args_int_rmul_2 _ _) (rmul_no n u b t) ⟨rfl, call_gives slot_mul (typeIs_bytes s b t) entry_mul (args_mul _ _) (gives_mul h0 h2 h1) ?_⟩)
  by_cases hz : (b.size * n.toNat == b.size) = true
  · rw [if_pos hz]
    have h' := h t s.toks
    rw [repeated_same (beq_iff_eq.mp hz)] at h'
    exact h'
  · rw [if_neg hz]
    exact ⟨by rw [repeated_size, sizeLine_eq]; exact h1, h s.toks (s.toks + 1)⟩
end
def rstrip (b c : Array UInt8) : Array UInt8 := (b.toList.reverse.dropWhile c.contains).reverse.toArray
theorem slot_rstrip : Slot "bytes" "rstrip" "bytes.rstrip" := .of (owner := "bytes") (n := "rstrip") (by rw [typeLookup_type, builtinLookup_eq_fast]; kernel_rfl) (by decide +kernel) (by decide +kernel) (by decide +kernel) (by first | exact .inl (by decide +kernel) | exact .inr (by decide +kernel)) (by rw [isSubtype_type]; kernel_rfl)
theorem type_rstrip : typeOf (.builtin "bytes.rstrip") = pure (.type "method_descriptor") := by show builtinType _ = _; rw [builtinType_eq_fast]; kernel_rfl
theorem entry_rstrip : entryFor table "bytes.rstrip" = some Builtin.«bytes.rstrip» := entryFor_of_tree (by kernel_rfl)
theorem args_rstrip (a b : Value) : argsOk "bytes.rstrip" ⟨[a, b], []⟩ := by unfold argsOk; rw [signature?_of (id := "bytes.rstrip") (n := ['p', 'i', 'r', 't', 's', 'r']) (o := ['s', 'e', 't', 'y', 'b']) (by kernel_rfl) FB.owner_bytes]; kernel_rfl
theorem gives_rstrip {b c : Array UInt8} {t u : Tok} : Gives («bytes.rstrip» ⟨[.bytes b t, .bytes c u], []⟩) (if ((b.toList.reverse.dropWhile c.contains).reverse.length == b.size) = true then .val (.bytes b t) else .bytes (rstrip b c)) := by
  refine .of_wp fun M A E s Q hq => ?_
  unfold «bytes.rstrip» Bytes.stripM
  refine wpAny_bind (wpAny_of_eq (a := (Value.bytes b t, [Value.bytes c u])) rfl ?_)
  show wpAny M A (Bytes.bytesLike _ (.bytes c u) >>= fun r => _) _ E s
  refine wpAny_bind ?_
  unfold Bytes.bytesLike
  refine wpAny_bind (wpAny_of_eq KBy.buffer_eq ?_)
  refine wpAny_pure ?_
  refine wpAny_bind (wpAny_pure ?_)
  refine wpAny_bind (wpAny_of_eq (a := b) rfl ?_)
  show wpAny M A (if ((b.toList.reverse.dropWhile c.contains).reverse.length == b.size) = true then _ else _) _ E s
  by_cases hz : ((b.toList.reverse.dropWhile c.contains).reverse.length == b.size) = true
  · rw [if_pos hz] at hq ⊢
    refine wpAny_bind (wpAny_rule ?_)
    refine wpAny_bind ?_
    unfold Bytes.Kind.same
    show wpAny M A (typeOf (.bytes b t) >>= fun r => _) _ E s
    refine wpAny_bind (wpAny_typeOf (typeIs_bytes s b t) ?_)
    exact wpAny_pure (wpAny_pure ⟨_, rfl, hq⟩)
  · rw [if_neg hz] at hq ⊢
    refine wpAny_bind ?_
    exact wpAny_mkBytes (wpAny_pure ⟨_, rfl, hq.2⟩) hq.1
theorem drop_le {α : Type} (p : α → Bool) : ∀ l : List α, (l.dropWhile p).length ≤ l.length
  | [] => Nat.le_refl _
  | x :: l => by
    rw [List.dropWhile_cons]
    split
    · exact Nat.le_trans (drop_le p l) (Nat.le_succ _)
    · exact Nat.le_refl _
theorem drop_same {α : Type} (p : α → Bool) : ∀ l : List α, (l.dropWhile p).length = l.length → l.dropWhile p = l
  | [], _ => rfl
  | x :: l, h => by
    rw [List.dropWhile_cons] at h ⊢
    split at h
    · have := drop_le p l
      rw [List.length_cons] at h
      omega
    · rename_i h2
      rw [if_neg h2]
theorem rstrip_size (b c : Array UInt8) : (rstrip b c).size ≤ b.size := by
  unfold rstrip
  rw [List.size_toArray, List.length_reverse]
  have := drop_le c.contains b.toList.reverse
  rw [List.length_reverse, Array.length_toList] at this
  exact this
section
variable {prog : Program} {w : World} {A : Around} {E : Value → Shared → Prop} {s : Shared} {b c : Array UInt8} {t u : Tok}
theorem rstrip_bytes (hs : b.size ≤ sizeLine) {Q : Value → Shared → Prop} (h : ∀ t' k, Q (.bytes (rstrip b c) t') { s with toks := k }) :
    wpAny (model prog w) A (call (.builtin "bytes.rstrip") [.bytes b t, .bytes c u]) Q E s := by
  refine call_gives slot_rstrip (typeIs_bytes s b t) entry_rstrip (args_rstrip _ _) gives_rstrip ?_
  by_cases hz : ((b.toList.reverse.dropWhile c.contains).reverse.length == b.size) = true
  · rw [if_pos hz]
    have h' := h t s.toks
    have e : rstrip b c = b := by
      unfold rstrip
      rw [beq_iff_eq, List.length_reverse] at hz
      rw [drop_same _ _ (by rw [hz, List.length_reverse, Array.length_toList]), List.reverse_reverse, Array.toArray_toList]
    rw [e] at h'
    exact h'
  · rw [if_neg hz]
    exact ⟨Nat.le_trans (rstrip_size b c) hs, h s.toks (s.toks + 1)⟩
end
end DL.Byt
namespace DL
open PySem L2 Evl PySem.Spec PyProof.Rows
def rAddB : R2 := fun x y H Q => ∃ i j, x = .byt i ∧ y = .byt j ∧ i.size + j.size ≤ 16777216 ∧ Q (.byt (i ++ j)) H
theorem op_addB {X : Cx} : OpR X (binaryOp .Add) rAddB := op_add_byt
def D.addB : D → D → Option D
  | .byt x, .byt y => if x.size + y.size ≤ 16777216 then some (.byt (x ++ y)) else none
  | _, _ => none
theorem sr_addB {K : PySem.W.Frag} : SR K rAddB D.addB := fun G H x y dx dy z Q e rx ry q k => by
  cases dx with
  | byt a =>
    cases dy with
    | byt b =>
      have q : (if a.size + b.size ≤ 16777216 then some (D.byt (a ++ b)) else none) = some z := q
      split at q
      · rename_i h
        cases q
        rw [rx.byt, ry.byt]
        exact ⟨a, b, rfl, rfl, h, k G H _ (Al.refl e) (.byt _)⟩
      · cases q
    | _ => cases q
  | _ => cases dy <;> cases q
def rMulB : R2 := fun x y H Q => ∃ b n, x = .byt b ∧ y = .int n ∧ 0 ≤ n ∧ n < 2 ^ 63 ∧ b.size * n.toNat ≤ 16777216 ∧ Q (.byt (Builtin.Bytes.repeated b n.toNat)) H
theorem op_mulB {X : Cx} : OpR X (binaryOp .Mult) rMulB := by
  intro pins s σ H x y v u Q I rx ry h
  obtain ⟨b, n, rfl, rfl, n1, n2, n3, q⟩ := h
  obtain ⟨t, rfl⟩ := rx
  obtain ⟨t', rfl⟩ := ry
  exact Byt.mul_bytes n1 n2 n3 fun t' k => ⟨.byt _, H, I.tok k, ⟨_, rfl⟩, q⟩
def D.mulB : D → D → Option D
  | .byt b, .int n => if 0 ≤ n ∧ n < 2 ^ 63 ∧ b.size * n.toNat ≤ 16777216 then some (.byt (Builtin.Bytes.repeated b n.toNat)) else none
  | _, _ => none
theorem sr_mulB {K : PySem.W.Frag} : SR K rMulB D.mulB := fun G H x y dx dy z Q e rx ry q k => by
  cases dx with
  | byt b =>
    cases dy with
    | int n =>
      have q : (if 0 ≤ n ∧ n < 2 ^ 63 ∧ b.size * n.toNat ≤ 16777216 then some (D.byt (Builtin.Bytes.repeated b n.toNat)) else none) = some z := q
      split at q
      · rename_i h
        cases q
        rw [rx.byt, ry.int]
        exact ⟨b, n, rfl, rfl, h.1, h.2.1, h.2.2, k G H _ (Al.refl e) (.byt _)⟩
      · cases q
    | _ => cases q
  | _ => cases dy <;> cases q
def ltB (b c : Array UInt8) : Bool := Builtin.Bytes.order b.toList c.toList == .lt
def D.ltB : D → D → Option D
  | .byt b, .byt c => some (.bl (DL.ltB b c))
  | _, _ => none
theorem sr_ltB {K : PySem.W.Frag} : SR K (rBytB (· == .lt)) D.ltB := fun G H x y dx dy z Q e rx ry q k => by
  cases dx with
  | byt a =>
    cases dy with
    | byt b => cases q; rw [rx.byt, ry.byt]; exact ⟨a, b, rfl, rfl, k G H _ (Al.refl e) (.bl _)⟩
    | _ => cases q
  | _ => cases dy <;> cases q
def rNotInI : R2 := fun x y H Q => ∃ i b, x = .int i ∧ y = .byt b ∧ 0 ≤ i ∧ i < 256 ∧ Q (.bl (!(b.contains i.toNat.toUInt8))) H
theorem op_notInB {X : Cx} : OpR X (compareOp .NotIn) rNotInI := by
  intro pins s σ H x y v u Q I rx ry h
  obtain ⟨i, b, rfl, rfl, n1, n2, q⟩ := h
  obtain ⟨t, rfl⟩ := rx
  obtain ⟨t', rfl⟩ := ry
  exact Byt.notIn_int n1 n2 ⟨.bl _, H, I, rfl, q⟩
def D.notInB : D → D → Option D
  | .int i, .byt b => if 0 ≤ i ∧ i < 256 then some (.bl (!(b.contains i.toNat.toUInt8))) else none
  | _, _ => none
theorem sr_notInB {K : PySem.W.Frag} : SR K rNotInI D.notInB := fun G H x y dx dy z Q e rx ry q k => by
  cases dx with
  | int i =>
    cases dy with
    | byt b =>
      have q : (if 0 ≤ i ∧ i < 256 then some (D.bl (!(b.contains i.toNat.toUInt8))) else none) = some z := q
      split at q
      · rename_i h
        cases q
        rw [rx.int, ry.byt]
        exact ⟨i, b, rfl, rfl, h.1, h.2, k G H _ (Al.refl e) (.bl _)⟩
      · cases q
    | _ => cases q
  | _ => cases dy <;> cases q
def rIxB : R2 := fun x y H Q => ∃ b i c, x = .byt b ∧ y = .int i ∧ b.size ≤ sizeLine ∧ atI b.toList i = some c ∧ Q (.int ((c.toNat : Nat) : Int)) H
theorem ix_byt {X : Cx} : IxR X rIxB := by
  intro value slice pins s σ H x y v u Q I rx ry h hs
  obtain ⟨b, i, c, rfl, rfl, hz, he, q⟩ := h
  obtain ⟨t, rfl⟩ := rx
  obtain ⟨t', rfl⟩ := ry
  obtain ⟨j, h1, h2, h3, h4, h5⟩ := atI_get he
  have hl : b.toList.length = b.size := Array.length_toList
  rw [hl] at h1 h4 h5
  have hn := sizeLine_eq
  refine tail_any (PySem.W.typeIs_bytes s b t) PySem.W.FB.slot_bytes_getitem.lookup ?_ hs
  refine getItem_gives (PySem.W.typeIs_bytes s _ t) (by decide) PySem.W.FB.slot_bytes_getitem PySem.W.FB.entry_bytes_getitem (PySem.W.FB.args_bytes_getitem_2 _ _) (PySem.W.gives_bytes_getitem _ i t t' c ?_ ?_) ⟨.int _, H, I.tok _, ⟨_, rfl⟩, q⟩
  · simp only [Builtin.Bytes.fitsIndex, Bool.and_eq_true, decide_eq_true_eq]; omega
  · rw [h1, Option.bind_some, ← Array.getElem?_toList]; exact h2
def D.ixB : D → D → Option D
  | .byt b, .int i => if b.size ≤ sizeLine then (atI b.toList i).map fun c => .int ((c.toNat : Nat) : Int) else none
  | _, _ => none
theorem sr_ixB {K : PySem.W.Frag} : SR K rIxB D.ixB := fun G H x y dx dy z Q e rx ry q k => by
  cases dx with
  | byt b =>
    cases dy with
    | int i =>
      have q : (if b.size ≤ sizeLine then (atI b.toList i).map fun c => D.int ((c.toNat : Nat) : Int) else none) = some z := q
      split at q
      · rename_i h
        rw [rx.byt, ry.int]
        cases q2 : atI b.toList i with
        | none => rw [q2] at q; cases q
        | some c =>
          rw [q2] at q
          cases q
          exact ⟨_, _, c, rfl, rfl, h, q2, k G H _ (Al.refl e) (.int _)⟩
      · cases q
    | _ => cases q
  | _ => cases dy <;> cases q
def rAnd : R2 := rI0 fun i j => .int (Builtin.bitAnd i j)
theorem op_andB {X : Cx} : OpR X (binaryOp .BitAnd) rAnd := op_and
def D.band : D → D → Option D
  | .int i, .int j => some (.int (Builtin.bitAnd i j))
  | _, _ => none
theorem sr_band {K : PySem.W.Frag} : SR K rAnd D.band := fun G H x y dx dy z Q e rx ry q k => by
  cases dx with
  | int i =>
    cases dy with
    | int j => cases q; rw [rx.int, ry.int]; exact ⟨i, j, rfl, rfl, k G H _ (Al.refl e) (.int _)⟩
    | _ => cases q
  | _ => cases dy <;> cases q
def rSlBy : V → Option Int → Option Int → Hp → VK → Prop := fun x lo hi H Q => ∃ b, x = .byt b ∧ b.size ≤ 16777216 ∧ Q (.byt (PySem.W.KBy.picked b lo hi)) H
theorem sl_bytB {X : Cx} : SlR X rSlBy := sl_byt
def D.cutB : D → Option Int → Option Int → Option D
  | .byt b, lo, hi => if b.size ≤ 16777216 then some (.byt (PySem.W.KBy.picked b lo hi)) else none
  | _, _, _ => none
def dSlB (de : DE) (dl dh : DO) : DE := fun ρ q er => de ρ (fun t ρ1 => dl ρ1 (fun l ρ2 => dh ρ2 (fun u ρ3 => Opt (rd ρ3 t) fun d => Opt (d.cutB l u) fun z => q (.val z) ρ3) er) er) er
section
variable {K : PySem.W.Frag} {pa : PaG} {W : WX} {te : TE} {de : DE} {tl th : TO} {dl dh : DO}
theorem se_slB (he : SE K pa W te de) (hl : SO K pa W tl dl) (hh : SO K pa W th dh) : SE K pa W (tSl rSlBy te tl th) (dSlB de dl dh) := fun F G σ H ρ Q q er S h k x =>
  he F G σ H ρ _ _ er S h (fun G1 H1 v t ρ1 e1 S1 r1 h1 => hl F G1 σ H1 ρ1 _ _ er S1 h1 (fun G2 H2 lo ρ2 e2 S2 h2 => hh F G2 σ H2 ρ2 _ _ er S2 h2 (fun G3 H3 hi ρ3 e3 S3 h3 => by
    obtain ⟨d, ed, z, ez, h4⟩ := h3
    have r := S3.rdT ((r1.mono e2).mono e3) ed
    have eG := (e1.trans e2).trans e3
    cases d with
    | byt b =>
      have ez : (if b.size ≤ 16777216 then some (D.byt (PySem.W.KBy.picked b lo hi)) else none) = some z := ez
      split at ez
      · rename_i hb
        cases ez
        rw [r.byt]
        exact ⟨b, rfl, hb, k G3 H3 _ (.val _) ρ3 eG S3 (.byt _) h4⟩
      · cases ez
    | _ => cases ez) (x.grow (e1.trans e2))) (x.grow e1)) x
end
theorem itOk_byt {K : PySem.W.Frag} {G : Hp} (b : Array UInt8) : ItOk K G (Itb b) (b.toList.map fun c => .int ((c.toNat : Nat) : Int)) :=
  .mk0 (fun i H e hi => by show i < b.size; simpa using hi) (fun i H e hi => by show b.size ≤ i; simpa using hi)
    fun i H x H' e h d hd => by
      obtain ⟨e1, c, hc, rfl⟩ := h
      rw [List.getElem?_map, Array.getElem?_toList, hc] at hd
      cases hd
      exact ⟨e1, .int _⟩
def diByt (de : DE) : DI := fun ρ q er => de ρ (fun t ρ1 => match t with
  | .val (.byt b) => q (b.toList.map fun c => .int ((c.toNat : Nat) : Int)) ρ1
  | _ => False) er
theorem si_byt {K : PySem.W.Frag} {pa : PaG} {W : WX} {te : TE} {de : DE} (he : SE K pa W te de) : SI K pa W (iByt te) (diByt de) := fun F G σ H ρ R q er S h k x =>
  he F G σ H ρ _ _ er S h (fun G1 H1 v t ρ1 e1 S1 r1 h1 => by
    cases t with
    | bor i => exact h1.elim
    | val d =>
      have r1 : Rep K G1 v d := r1
      cases d with
      | byt b => cases r1; exact ⟨b, rfl, k G1 H1 _ _ ρ1 e1 S1 (itOk_byt b) h1⟩
      | _ => exact h1.elim) x
end DL
namespace DL.Byt
open PySem PyProof.Rows Srt SrtO
section
variable {prog : Program} {w : World} {A : Around} {E : Value → Shared → Prop} {s : Shared}
def bv : Value → List UInt8
  | .bytes b _ => b.toList
  | _ => []
def ltv (v u : Value) : Bool := Builtin.Bytes.order (bv v) (bv u) == .lt
inductive BytAre : List Value → List (Array UInt8) → Prop
  | nil : BytAre [] []
  | cons (b : Array UInt8) (t : Tok) {vs : List Value} {bs : List (Array UInt8)} : BytAre vs bs → BytAre (.bytes b t :: vs) (b :: bs)
theorem ord_lt : ∀ {a b : List UInt8}, (Builtin.Bytes.order a b == .lt) = true ↔ a < b := by
  intro a
  induction a with
  | nil =>
    intro b
    cases b with
    | nil => simp [Builtin.Bytes.order]
    | cons y b => simp [Builtin.Bytes.order]
  | cons x a ih =>
    intro b
    cases b with
    | nil => simp [Builtin.Bytes.order]
    | cons y b =>
      rw [List.cons_lt_cons_iff]
      simp only [Builtin.Bytes.order]
      by_cases h1 : x < y
      · simp [h1]
      · by_cases h2 : x > y
        · have h3 : x ≠ y := fun e => by subst e; exact h1 h2
          simp [h1, h2, h3]
        · have h3 : x = y := UInt8.le_antisymm (UInt8.not_lt.mp h2) (UInt8.not_lt.mp h1)
          rw [if_neg h1, if_neg h2, ih]
          simp [h3]
theorem swo_byt : Swo ltv := by
  have irr : ∀ a : List UInt8, ¬ a < a := fun a => List.lt_irrefl a
  refine ⟨fun x y h => ?_, fun x y z h1 h2 => ?_⟩
  · have a := ord_lt.mp h
    refine Bool.eq_false_iff.mpr fun h2 => ?_
    exact List.lt_asymm a (ord_lt.mp h2)
  · refine Bool.eq_false_iff.mpr fun h3 => ?_
    have a : ¬ bv y < bv x := fun k => by rw [show ltv y x = true from ord_lt.mpr k] at h1; cases h1
    have b : ¬ bv z < bv y := fun k => by rw [show ltv z y = true from ord_lt.mpr k] at h2; cases h2
    have c := ord_lt.mp h3
    exact absurd c (List.not_lt.mpr (List.le_trans (List.not_lt.mp a) (List.not_lt.mp b)))
theorem all_byt : ∀ {vs : List Value} {bs : List (Array UInt8)}, BytAre vs bs → ∀ v ∈ vs, ∃ b t, v = Value.bytes b t
  | _, _, .nil, v, h => by cases h
  | _, _, .cons b t r, v, h => (List.mem_cons.mp h).elim (fun e => ⟨b, t, e⟩) fun h => all_byt r v h
theorem of_all : ∀ {vs : List Value}, (∀ v ∈ vs, ∃ b t, v = Value.bytes b t) → BytAre vs (vs.map fun v => (bv v).toArray)
  | [], _ => .nil
  | v :: vs, h => by
    obtain ⟨b, t, e⟩ := h v List.mem_cons_self
    subst e
    exact .cons b t (of_all fun u hu => h u (List.mem_cons_of_mem _ hu))
theorem bv_byt : ∀ {vs : List Value} {bs : List (Array UInt8)}, BytAre vs bs → (vs.map fun v => (bv v).toArray) = bs
  | _, _, .nil => rfl
  | _, _, .cons b t r => congrArg (b :: ·) (bv_byt r)
theorem no_firsts : ∀ {vs : List Value} {bs : List (Array UInt8)}, BytAre vs bs → vs.mapM firstOfTuple' = pure (vs.map fun _ => none)
  | _, _, .nil => by simp
  | _, _, .cons b t h => by rw [List.mapM_cons, show firstOfTuple' (.bytes b t) = pure none from rfl, no_firsts h]; simp
theorem types_byt : ∀ {vs : List Value} {bs : List (Array UInt8)}, BytAre vs bs → vs.mapM typeOf = pure (vs.map fun _ => Value.type "bytes")
  | _, _, .nil => by simp
  | _, _, .cons b t h => by
    rw [List.mapM_cons, types_byt h, show typeOf (.bytes b t) = pure (Value.type "bytes") from rfl]
    simp
theorem kind_byt {v1 v2 : Value} {vs : List Value} {bs : List (Array UInt8)} (h : BytAre (v1 :: v2 :: vs) bs) : keyKind' (v1 :: v2 :: vs).toArray = pure oneType' := by
  rw [keyKind'_eq, List.mapM_toArray, no_firsts h]
  simp only [map_pure, pure_bind]
  rw [if_neg (by simp), if_neg (by simp), oneTypeOnly'_eq, List.mapM_toArray, types_byt h]
  simp only [map_pure, pure_bind]
  have ha : ((List.map (fun _ => Value.type "bytes") (v1 :: v2 :: vs)).toArray.all fun x => x == Value.type "bytes") = true := by
    rw [List.all_toArray, List.all_map, List.all_eq_true]; intro _ _; rfl
  have h0 : (List.map (fun _ => Value.type "bytes") (v1 :: v2 :: vs)).toArray[0]? = some (Value.type "bytes") := by simp
  rw [h0]
  simp only [ha, if_true, pure_bind, Option.isSome_some]
theorem one_byt {b c : Array UInt8} {t u : Tok} {Q : Bool → Shared → Prop} (h : Q (Builtin.Bytes.order b.toList c.toList == .lt) s) : wpAny (model prog w) A (oneLt' true (.bytes b t) (.bytes c u)) Q E s := by
  rw [oneLt'_eq]
  simp only [if_true]
  refine wpAny_bind (wpAny_cRoomFor_byValue rfl (wpAny_bind (wpAny_callSpecialIfBound?_slot (PySem.W.typeIs_bytes s b t) PySem.QB.slot_lt (call_gives PySem.QB.slot_lt (PySem.W.typeIs_bytes s b t) PySem.QB.entry_lt (PySem.QB.args_lt _ _) (PySem.QB.gives_lt b c t u) ?_))))
  exact wpAny_truthy_bool h
theorem cmp_byt {vs : List Value} {bs : List (Array UInt8)} (h : BytAre vs bs) : Cmp prog w A s oneType' (fun p => p.1 ∈ vs) (lt2 ltv) := by
  intro p q hm hm'
  obtain ⟨a, t, e⟩ := all_byt h _ hm
  obtain ⟨b, u, e'⟩ := all_byt h _ hm'
  show wpAny (model prog w) A (keyLt' oneType' p.1 q.1) (fun r s' => s' = s ∧ r = ltv p.1 q.1) (fun _ _ => False) s
  rw [e, e', keyLt'_oneType]
  exact one_byt ⟨rfl, rfl⟩
theorem able_byt {a : Addr} {vs : List Value} {bs : List (Array UInt8)} (h : BytAre vs bs) (h2 : 2 ≤ vs.length) : SortableO prog w A s a vs ltv := by
  intro h' _
  refine ⟨oneType', fun Q E hq => ?_, cmp_byt h⟩
  match vs, h, h2 with
  | v1 :: v2 :: rest, h, _ => rw [kind_byt h]; exact wpAny_pure hq
  | [], _, h => exact absurd h (by decide)
  | [v], _, h => exact absurd h (by simp)
end
end DL.Byt
namespace DL
open PySem L2 Evl PySem.Spec PyProof.Rows
def rSortB (K : PySem.W.Frag) : List V → Hp → VK → Prop := fun vs H Q => ∃ (a : Addr) (bs : List (Array UInt8)), vs = [V.ref a] ∧ SqL K H a (bs.map V.byt) ∧
  ∀ (cs : List (Array UInt8)) (p : Addr), cs.Perm bs → cs.Pairwise (fun x y => DL.ltB y x = false) → H p = none → Q (.ref p) (upd H p (.lst (cs.map V.byt)))
theorem byts_of : ∀ {bs : List (Array UInt8)} {us : List Value}, Vals (bs.map V.byt) us → Byt.BytAre us bs
  | [], us, h => by cases h; exact .nil
  | b :: bs, us, h => by
    rw [List.map_cons] at h
    cases h with
    | cons r t => obtain ⟨u, rfl⟩ := r; exact .cons b u (byts_of t)
theorem vals_byt : ∀ {us : List Value} {bs : List (Array UInt8)}, Byt.BytAre us bs → Vals (bs.map V.byt) us
  | _, _, .nil => .nil
  | _, _, .cons b t h => by rw [List.map_cons]; exact .cons (show RelV (V.byt b) (Value.bytes b t) from ⟨t, rfl⟩) (vals_byt h)
theorem call_sortB {X : Cx} : CallR X (.builtin "sorted") (rSortB X.K) := by
  intro pins s σ H vs us Q I r h
  obtain ⟨a, bs, rfl, hs, q⟩ := h
  obtain ⟨its, rv, hl, hz⟩ := I.list hs
  rw [Vals.ref1 r]
  have hi := byts_of rv
  refine SrtO.sorted_ord Byt.swo_byt hl.isList (by rw [← rv.length]; exact hz) (fun h2 h₁ a' _ _ => Byt.able_byt hi h2) fun out h1 h2 => ?_
  have ho : Byt.BytAre out (out.map fun v => (Byt.bv v).toArray) := Byt.of_all fun v hv => Byt.all_byt hi v (h2.perm.mem_iff.mp hv)
  have k2 : (out.map fun v => (Byt.bv v).toArray).Perm bs := by
    have q := h2.perm.map fun v => (Byt.bv v).toArray
    rw [Byt.bv_byt hi] at q
    exact q
  have k3 : (out.map fun v => (Byt.bv v).toArray).Pairwise (fun x y => DL.ltB y x = false) := List.pairwise_map.mpr (h1.imp fun {x y} h => h)
  obtain ⟨ep, he'⟩ := PyProof.Rows.sortedAll_at s.heap its out.toArray
  have hlen : ((out.map fun v => (Byt.bv v).toArray).map V.byt).length ≤ sizeLine := by
    rw [List.length_map, k2.length_eq]
    rw [List.length_map] at hz
    exact hz
  exact ⟨.ref _, upd H (s.heap.objs.size + 1) (.lst ((out.map fun v => (Byt.bv v).toArray).map V.byt)), I.laid (t' := s.toks) (fun _ _ => PyProof.Rows.sortedAll_old) (Nat.le_succ _) ⟨hlen, out, ep, vals_byt ho, he'⟩, rfl, q _ _ k2 k3 (I.hok.fresh (Nat.le_succ _))⟩
def D.byts : List D → Option (List (Array UInt8))
  | [] => some []
  | .byt b :: ds => (D.byts ds).map fun bs => b :: bs
  | _ :: _ => none
theorem reps_byts {K : PySem.W.Frag} {G : Hp} : ∀ {ds : List D} {vs : List V} {bs : List (Array UInt8)}, Reps K G vs ds → D.byts ds = some bs → vs = bs.map V.byt
  | _, _, _, .nil, h => by cases h; rfl
  | .byt b :: ds, _, bs, .cons r rr, h => by
    have h : (D.byts ds).map (fun bs => b :: bs) = some bs := h
    cases q : D.byts ds with
    | none => rw [q] at h; cases h
    | some cs => rw [q] at h; cases h; cases r; rw [reps_byts rr q]; rfl
theorem byts_map (bs : List (Array UInt8)) : D.byts (bs.map D.byt) = some bs := by
  induction bs with
  | nil => rfl
  | cons b bs ih => rw [List.map_cons]; show (D.byts (bs.map D.byt)).map _ = _; rw [ih]; rfl
theorem reps_byt {K : PySem.W.Frag} {G : Hp} : ∀ bs : List (Array UInt8), Reps K G (bs.map V.byt) (bs.map D.byt)
  | [] => .nil
  | b :: bs => .cons (.byt b) (reps_byt bs)
def dSortB (da : DE) : DF := fun ρ q er => da ρ (fun t ρ1 => Opt (rd ρ1 t) fun d => match d with
  | .lst ds => Opt (D.byts ds) fun bs => ∀ cs : List (Array UInt8), cs.Perm bs → cs.Pairwise (fun x y => DL.ltB y x = false) → q (.lst (cs.map D.byt)) ρ1
  | _ => False) er
theorem sf_sortB {K : PySem.W.Frag} {pa : PaG} {W : WX} {ta : TE} {da : DE} (ha : SE K pa W ta da) : SF K pa W (tCB (rSortB K) (tCons ta tNil)) (dSortB da) := fun F G σ H ρ Q q er S h k x =>
  ha F G σ H ρ _ _ er S h (fun G1 H1 v t ρ1 e1 S1 r1 h1 => by
    obtain ⟨d, ed, h2⟩ := h1
    cases d with
    | lst ds =>
      obtain ⟨bs, eb, h2⟩ := h2
      obtain ⟨p, vs, rfl, hs, hr⟩ := (S1.rdT r1 ed).lst S1.ex
      have ev := reps_byts hr eb
      subst ev
      refine ⟨p, bs, rfl, hs, fun cs l hp hw hl => ?_⟩
      exact k G1 _ l (.lst (cs.map D.byt)) ρ1 e1 (S1.new hl) ⟨fresh_back S1.ex hl, fresh_back S1.fx hl⟩ ⟨_, upd_same, reps_byt cs⟩ (fresh_no S1 hl) (h2 cs hp hw)
    | _ => exact h2.elim) x
def rToB (K : PySem.W.Frag) : List V → Hp → VK → Prop := fun xs H Q => (∃ p ns, xs = [.ref p] ∧ SqL K H p (ns.map V.int) ∧ B8 ns ∧ Q (.byt (byteArr ns)) H) ∨ ∃ p ns, xs = [.ref p] ∧ SqT K H p (ns.map V.int) ∧ B8 ns ∧ Q (.byt (byteArr ns)) H
theorem call_toB {X : Cx} (hc : X.calm = true) : CallR X (.type "bytes") (rToB X.K) := CallR.or (call_bytes_list hc) (call_bytes_tup hc)
def allB (ns : List Int) : Bool := ns.all fun n => decide (0 ≤ n ∧ n < 256)
theorem b8_of {ns : List Int} (h : allB ns = true) : B8 ns := fun n hn => of_decide_eq_true (List.all_eq_true.mp h n hn)
theorem of_b8 {ns : List Int} (h : B8 ns) : allB ns = true := List.all_eq_true.mpr fun n hn => decide_eq_true (h n hn)
def D.toByt : List D → Option D
  | [.lst ds] => (D.ints ds).bind fun ns => if allB ns = true then some (.byt (byteArr ns)) else none
  | [.tup ds] => (D.ints ds).bind fun ns => if allB ns = true then some (.byt (byteArr ns)) else none
  | _ => none
theorem sc_toByt {K : PySem.W.Frag} : SC K (rToB K) D.toByt := fun G H xs ds z Q e rx q k => by
  unfold D.toByt at q
  split at q
  · rename_i ds
    cases q2 : D.ints ds with
    | none => rw [q2] at q; cases q
    | some ns =>
      rw [q2, Option.bind_some] at q
      split at q
      · rename_i h
        cases q
        obtain ⟨x, rfl, r⟩ := rx.one
        obtain ⟨p, vs, rfl, h1, r1⟩ := r.lst e
        have ev := reps_ints r1 q2
        subst ev
        exact .inl ⟨p, ns, rfl, h1, b8_of h, k G H _ (Al.refl e) (.byt _)⟩
      · cases q
  · rename_i ds
    cases q2 : D.ints ds with
    | none => rw [q2] at q; cases q
    | some ns =>
      rw [q2, Option.bind_some] at q
      split at q
      · rename_i h
        cases q
        obtain ⟨x, rfl, r⟩ := rx.one
        obtain ⟨p, vs, rfl, h1, r1⟩ := r.tup e
        have ev := reps_ints r1 q2
        subst ev
        exact .inr ⟨p, ns, rfl, h1, b8_of h, k G H _ (Al.refl e) (.byt _)⟩
      · cases q
  · cases q
def tRsB (to te : TE) : TE := fun σ H Q => to σ H fun x H1 => (∃ a, x = .byt a ∧ a.size ≤ sizeLine) ∧ te σ H1 fun y H2 => ∃ a c, x = .byt a ∧ y = .byt c ∧ Q (.byt (Byt.rstrip a c)) H2
section
variable {X : Cx} {o e : Expr} {to te : TE}
theorem pe_rsB {apos pos : Pos} (ho : PE X o to) (he : PE X e te) (hs : starEach [e] X.env = [(false, eval e X.env)] := by rfl) (hbase : attributeBase o "rstrip" X.env (eval o X.env) = eval o X.env := by rfl) (hline : (apos.endLine == pos.line) = true := by rfl) :
    PE X (.Call (.Attribute o "rstrip" apos) [e] [] pos) (tRsB to te) := by
  refine ⟨fun pins s σ H Q I h => PySem.Call_method1 hbase hs hline (thn (ho.run pins s σ H _ I h) fun v s1 ⟨x, H1, I1, r1, q1⟩ => ?_)⟩
  obtain ⟨⟨a, rfl, hz⟩, q1⟩ := q1
  obtain ⟨t, rfl⟩ := _root_.id r1
  refine ⟨"bytes", _, PySem.W.FB.plainAttrs_bytes, Byt.slot_rstrip, Byt.type_rstrip, PySem.W.typeIs_bytes _ _ _, (fun _ e => nomatch e), Calls.callWith_builtin rfl (Calls.evalArgs_plain (Calls.spliced_cons ?_))⟩
  refine thn (he.run pins s1 σ H1 _ I1 q1) fun u s2 ⟨y, H2, I2, r2, a', c, e1, e2, q2⟩ => Calls.spliced_nil ?_
  cases e1
  subst e2
  obtain ⟨t', rfl⟩ := _root_.id r2
  exact Byt.rstrip_bytes hz fun t'' k => ⟨.byt _, H2, I2.tok k, ⟨_, rfl⟩, q2⟩
end
def dRsB (de df : DE) : DE := fun ρ q er => de ρ (fun t ρ1 => Opt (rd ρ1 t) fun a0 => match a0 with
  | .byt a => a.size ≤ sizeLine ∧ df ρ1 (fun u ρ2 => Opt (rd ρ2 u) fun b => match b with
    | .byt c => q (.val (.byt (Byt.rstrip a c))) ρ2
    | _ => False) er
  | _ => False) er
theorem se_rsB {K : PySem.W.Frag} {pa : PaG} {W : WX} {te tf : TE} {de df : DE} (he : SE K pa W te de) (hf : SE K pa W tf df) : SE K pa W (tRsB te tf) (dRsB de df) := fun F G σ H ρ Q q er S h k x =>
  he F G σ H ρ _ _ er S h (fun G1 H1 v s ρ1 e1 S1 r1 h1 => by
    obtain ⟨a0, ea0, h1⟩ := h1
    cases a0 with
    | byt y =>
      have ev := (S1.rdT r1 ea0).byt
      refine ⟨⟨y, ev, h1.1⟩, hf F G1 σ H1 ρ1 _ _ er S1 h1.2 (fun G2 H2 w t ρ2 e2 S2 r2 h2 => ?_) (x.grow e1)⟩
      obtain ⟨b, eb, h3⟩ := h2
      cases b with
      | byt c => exact ⟨y, c, ev, (S2.rdT r2 eb).byt, k G2 H2 _ (.val _) ρ2 (e1.trans e2) S2 (.byt _) h3⟩
      | _ => exact h3.elim
    | _ => exact h1.elim) x
end DL
namespace DL
open PySem L2 Evl PySem.Spec PyProof.Rows PySem.W
def leP (a b : PyData) : Bool := !dataLt b a
def rSortD (K : PySem.W.Frag) : List V → Hp → VK → Prop := fun vs H Q => ∃ (a : Addr) (bs : List (V × PyData)), vs = [V.ref a] ∧ SqL K H a (bs.map (·.1)) ∧ (∀ b ∈ bs, Dp K H b.1 b.2) ∧ AllAlike (bs.map (·.2)) ∧ Sortable (bs.map (·.2)) ∧ (∀ b ∈ bs, b.2.depth ≤ 60) ∧
  ∀ p : Addr, H p = none → Q (.ref p) (upd H p (.lst ((bs.mergeSort fun x y => leP x.2 y.2).map (·.1))))
theorem each_rel : ∀ {bs : List (V × PyData)} {us : List Value}, Vals (bs.map (·.1)) us → EachIs (fun (v : Value) (b : V × PyData) => RelV b.1 v) us bs
  | [], us, h => by cases h; exact .nil
  | b :: bs, us, h => by
    rw [List.map_cons] at h
    cases h with
    | cons r t => exact .cons r (each_rel t)
theorem vals_each : ∀ {bs : List (V × PyData)} {us : List Value}, EachIs (fun (v : Value) (b : V × PyData) => RelV b.1 v) us bs → Vals (bs.map (·.1)) us
  | [], us, h => by cases h; exact .nil
  | b :: bs, us, h => by
    cases h with
    | cons r t => rw [List.map_cons]; exact .cons r (vals_each t)
theorem each_and {α β : Type} {R : α → β → Prop} {S : α → β → Prop} : ∀ {as : List α} {bs : List β}, EachIs R as bs → (∀ a b, b ∈ bs → R a b → S a b) → EachIs S as bs
  | _, _, .nil, _ => .nil
  | _, _, .cons h t, f => .cons (f _ _ List.mem_cons_self h) (each_and t fun a b hb => f a b (List.mem_cons_of_mem _ hb))
theorem call_sortD {X : Cx} (hu : X.A.units + 65 < cLine) : CallR X (.builtin "sorted") (rSortD X.K) := by
  intro pins s σ H vs us Q I r h
  obtain ⟨a, bs, rfl, hs, hd, ha, hk, hp, q⟩ := h
  obtain ⟨its, rv, hl, hz⟩ := I.list hs
  rw [Vals.ref1 r]
  rw [List.length_map] at hz
  have e := each_rel rv
  refine sorted_data (enc := fun b : V × PyData => b.2) hl.isList e (each_and e fun v b hb rb => ?_) ha hk hz (fun b hb => by have := hp b hb; omega) fun out h1 h2 => ?_
  · obtain ⟨as, q⟩ := Dp.reads I b.2 b.1 v (hd b hb) rb
    exact ⟨as, q⟩
  · obtain ⟨ep, he'⟩ := PyProof.Rows.sortedAll_at s.heap its out.toArray
    have ro := vals_each h2
    have hlen : ((bs.mergeSort fun x y => leP x.2 y.2).map (·.1)).length ≤ sizeLine := by rw [List.length_map, List.length_mergeSort]; exact hz
    exact ⟨.ref _, upd H (s.heap.objs.size + 1) (.lst ((bs.mergeSort fun x y => leP x.2 y.2).map (·.1))), I.laid (t' := s.toks) (fun _ _ => PyProof.Rows.sortedAll_old) (Nat.le_succ _) ⟨hlen, out, ep, ro, he'⟩, rfl, q _ (I.hok.fresh (Nat.le_succ _))⟩
def sortD (ds : List D) (ps : List PyData) : List D := ((ds.zip ps).mergeSort fun x y => leP x.2 y.2).map (·.1)
theorem dp_zip {K : PySem.W.Frag} {H : Hp} : ∀ {vs : List V} {ps : List PyData}, DpAll K H vs ps → (vs.zip ps).map (·.1) = vs ∧ (vs.zip ps).map (·.2) = ps ∧ ∀ b ∈ vs.zip ps, Dp K H b.1 b.2
  | _, _, .nil => ⟨rfl, rfl, fun b hb => by cases hb⟩
  | _, _, .cons h t => by
    obtain ⟨h1, h2, h3⟩ := dp_zip t
    refine ⟨by rw [List.zip_cons_cons, List.map_cons, h1], by rw [List.zip_cons_cons, List.map_cons, h2], fun b hb => ?_⟩
    rw [List.zip_cons_cons] at hb
    rcases List.mem_cons.mp hb with rfl | hb
    · exact h
    · exact h3 b hb
theorem reps_zip {K : PySem.W.Frag} {G : Hp} : ∀ {vs : List V} {ds : List D} {ps : List PyData}, Reps K G vs ds → ds.length = ps.length → ∃ T : List (V × D × PyData), T.map (fun t => (t.1, t.2.2)) = vs.zip ps ∧ T.map (·.2) = ds.zip ps ∧ ∀ t ∈ T, Rep K G t.1 t.2.1
  | _, _, [], .nil, _ => ⟨[], rfl, rfl, fun t ht => by cases ht⟩
  | _, _, p :: ps, .cons r rr, h => by
    obtain ⟨T, h1, h2, h3⟩ := reps_zip (ps := ps) rr (by simpa using h)
    refine ⟨(_, _, p) :: T, by rw [List.map_cons, h1]; rfl, by rw [List.map_cons, h2]; rfl, fun t ht => ?_⟩
    rcases List.mem_cons.mp ht with rfl | ht
    · exact r
    · exact h3 t ht
theorem reps_pairs {K : PySem.W.Frag} {G : Hp} : ∀ {T : List (V × D × PyData)}, (∀ t ∈ T, Rep K G t.1 t.2.1) → Reps K G (T.map (·.1)) (T.map (·.2.1))
  | [], _ => .nil
  | t :: T, h => .cons (h t List.mem_cons_self) (reps_pairs fun u hu => h u (List.mem_cons_of_mem _ hu))
theorem reps_sort {K : PySem.W.Frag} {G : Hp} {vs : List V} {ds : List D} {ps : List PyData} (r : Reps K G vs ds) (h : ds.length = ps.length) : Reps K G (((vs.zip ps).mergeSort fun x y => leP x.2 y.2).map (·.1)) (sortD ds ps) := by
  obtain ⟨T, h1, h2, h3⟩ := reps_zip r h
  unfold sortD
  rw [← h1, ← h2, ← List.map_mergeSort (r := fun x y : V × D × PyData => leP x.2.2 y.2.2) (f := fun t : V × D × PyData => (t.1, t.2.2)) (fun _ _ _ _ => rfl),
    ← List.map_mergeSort (r := fun x y : V × D × PyData => leP x.2.2 y.2.2) (f := fun t : V × D × PyData => t.2) (fun _ _ _ _ => rfl), List.map_map, List.map_map]
  exact reps_pairs fun t ht => h3 t (List.mem_mergeSort.mp ht)
def dSortD (da : DE) : DF := fun ρ q er => da ρ (fun t ρ1 => Opt (rd ρ1 t) fun d => match d with
  | .lst ds => Opt (D.toPs ds) fun ps => (AllAlike ps ∧ Sortable ps ∧ ∀ p ∈ ps, p.depth ≤ 60) ∧ q (.lst (sortD ds ps)) ρ1
  | _ => False) er
theorem sf_sortD {K : PySem.W.Frag} {pa : PaG} {W : WX} {ta : TE} {da : DE} (ha : SE K pa W ta da) : SF K pa W (tCB (rSortD K) (tCons ta tNil)) (dSortD da) := fun F G σ H ρ Q q er S h k x =>
  ha F G σ H ρ _ _ er S h (fun G1 H1 v t ρ1 e1 S1 r1 h1 => by
    obtain ⟨d, ed, h2⟩ := h1
    cases d with
    | lst ds =>
      obtain ⟨ps, eb, ⟨c1, c2, c3⟩, h2⟩ := h2
      obtain ⟨p, vs, rfl, hs, hr⟩ := (S1.rdT r1 ed).lst S1.ex
      have hD := reps_dp S1.ex hr eb
      obtain ⟨z1, z2, z3⟩ := dp_zip hD
      have hl : ds.length = ps.length := by
        have a := congrArg List.length z1
        have b := congrArg List.length z2
        rw [List.length_map] at a b
        rw [← hr.length, ← a, b]
      refine ⟨p, vs.zip ps, rfl, by rw [z1]; exact hs, z3, by rw [z2]; exact c1, by rw [z2]; exact c2, fun b hb => c3 b.2 (by rw [← z2]; exact List.mem_map_of_mem hb), fun l hl2 => ?_⟩
      exact k G1 _ l (.lst (sortD ds ps)) ρ1 e1 (S1.new hl2) ⟨fresh_back S1.ex hl2, fresh_back S1.fx hl2⟩ ⟨_, upd_same, reps_sort hr hl⟩ (fresh_no S1 hl2) h2
    | _ => exact h2.elim) x
end DL
namespace DL
open PySem L2 Evl PySem.Spec PyProof.Rows
def rAllI (K : PySem.W.Frag) : List V → Hp → VK → Prop := fun vs H Q => ∃ (a : Addr) (ns : List Int), vs = [V.ref a] ∧ SqL K H a (ns.map V.int) ∧ Q (.bl (ns.all fun n => n != 0)) H
theorem ints_at : ∀ {us : List Value} {ns : List Int}, IntsAre us ns → ∀ {i : Nat} {v : Value}, us[i]? = some v → ∃ n t, v = Value.int n t ∧ ns[i]? = some n
  | _, _, .nil, i, v, h => by cases h
  | _, _, .cons n t r, 0, v, h => by cases h; exact ⟨n, t, rfl, rfl⟩
  | _, _, .cons n t r, i + 1, v, h => ints_at r h
theorem truth_ints {prog : Program} {w : World} {A : Around} {ns : List Int} {its : List Value} (e : IntsAre its ns) :
    TruthOf prog w A (fun i v => its.toArray[i]? = some v) (fun i => (ns.map fun n => n != 0).getD i false) := fun i v s Q E hv hq => by
  obtain ⟨n, t, rfl, hn⟩ := ints_at e (show its[i]? = some v by simpa using hv)
  have hg : (ns.map fun n => n != 0).getD i false = (n != 0) := by rw [List.getD_eq_getElem?_getD, List.getElem?_map, hn] <;> rfl
  have hq' : Q ((ns.map fun n => n != 0).getD i false) s := hq
  rw [hg] at hq'
  exact PySem.P.truthy_int hq'
theorem call_allI {X : Cx} (hc : X.calm = true) : CallR X (.builtin "all") (rAllI X.K) := by
  intro pins s σ H vs us Q I r h
  obtain ⟨a, ns, rfl, hs, q⟩ := h
  obtain ⟨its, rv, hl, hz⟩ := I.list hs
  rw [Vals.ref1 r]
  have hi := rv.ints
  have hlen : its.length = (ns.map fun n => n != 0).length := by rw [List.length_map, ← rv.length, List.length_map]
  refine call_all_walk (iter_any hl.isList fun s₂ e2 st hne => ?_)
  subst e2
  refine ⟨_, _, _, _, _, _, _, rfl, Walks.list (A := X.A.in1) (I.ok.hd hc) _ a hne its.toArray, st, truth_ints hi, fun h' tk hk => ⟨.bl _, H, I.kept fun b o eo => hk b o (fun hmem => ?_) (Heap.get?_push_of_some _ eo), ?_, q⟩⟩
  · rcases List.mem_cons.mp hmem with e1 | hmem
    · exact (Nat.lt_irrefl _ (e1 ▸ Heap.lt_size eo)).elim
    · cases hmem
  · show Value.bool _ = Value.bool _
    rw [List.size_toArray, hlen, L2.all_range, List.all_map]
    rfl
def D.allI : List D → Option D
  | [.lst ds] => (D.ints ds).map fun ns => .bl (ns.all fun n => n != 0)
  | _ => none
theorem sc_allI {K : PySem.W.Frag} : SC K (rAllI K) D.allI := fun G H xs ds z Q e rx q k => by
  match ds, q, rx with
  | [.lst ds], q, rx =>
    have q : (D.ints ds).map (fun ns => D.bl (ns.all fun n => n != 0)) = some z := q
    obtain ⟨p, vs, rfl, hs, rr⟩ := lst_one e rx
    cases q2 : D.ints ds with
    | none => rw [q2] at q; cases q
    | some ns => rw [q2] at q; cases q; exact ⟨p, ns, rfl, reps_ints rr q2 ▸ hs, k G H _ (Al.refl e) (.bl _)⟩
section
variable {K : PySem.W.Frag} {b : Array UInt8}
theorem tyV_byt : (D.byt b).tyV = some (.type "bytes") := rfl
theorem kno_byt {Cs : List Addr} : (D.byt b).kno Cs = true := rfl
theorem band1 (n : Nat) : D.band (.int (n : Int)) (.int 1) = some (.int ((n % 2 : Nat) : Int)) := by
  show some (D.int (Builtin.bitAnd (n : Int) 1)) = _
  have h := Bits.bitAnd_mask (x := (n : Int)) 1 (Int.natCast_nonneg n)
  rw [show ((2 : Int) ^ 1 - 1) = 1 from rfl] at h
  rw [h]; rfl
end
end DL
namespace DL
open PySem L2 Evl PySem.Spec PyProof.Rows
def dNotT (da : DE) : DE := fun ρ q er => da ρ (fun s ρ1 => Opt (rd ρ1 s) fun x => Opt x.truth fun b => q (.val (.bl (!b))) ρ1) er
theorem se_notT {K : PySem.W.Frag} {pa : PaG} {W : WX} {ta : TE} {da : DE} (ha : SE K pa W ta da) : SE K pa W (tNotT K ta) (dNotT da) := fun F G σ H ρ Q q er S h k x =>
  ha F G σ H ρ _ _ er S h (fun G1 H1 v s ρ1 e1 S1 r1 h1 => by
    obtain ⟨dx, ex, b, eb, h3⟩ := h1
    exact ⟨b, tru_of S1.ex (S1.rdT r1 ex) eb, k G1 H1 _ (.val _) ρ1 e1 S1 (.bl _) h3⟩) x
end DL
namespace DL
open PySem L2 Evl PySem.Spec PyProof.Rows
def dExtend (i : Nat) (df : DF) : DE := fun ρ q er => Opt (ownAt ρ i) fun d0 => d0.isLst = true ∧ df ρ (fun e ρ1 => match e with
  | .lst zs => Opt (ownAt ρ1 i) fun d => (match d with
    | .lst ds => ds.length + zs.length ≤ sizeLine ∧ q (.val .non) (setD ρ1 i (.lst (ds ++ zs)))
    | _ => False)
  | _ => False) er
section
variable {K : PySem.W.Frag} {pa : PaG} {W : WX} {te ta tb tc : TE} {de da db dc : DE} {df : DF}
theorem se_extend {i : Nat} (he : SF K pa W te df) : SE K pa W (tBM K "list" rExtend (tVar i) (tCons te tNil)) (dExtend i df) := fun F G σ H ρ Q q er S h k x => by
  obtain ⟨d0, e0, hl, h⟩ := h
  obtain ⟨s, es, ed⟩ := ownAt_some e0
  obtain ⟨p, hp, gp, ow⟩ := S.own i s d0 es ed
  obtain ⟨vs0, hv0⟩ := own_lst ow hl
  refine ⟨.ref p, hp, .inl ⟨rfl, vs0, SqL.of hv0⟩, ?_⟩
  refine he F G σ H ρ _ _ er S h (fun G1 H1 b e ρ1 e1 S1 gb owb fr h1 => ?_) x
  cases e with
  | lst zs =>
    obtain ⟨ws, hb, rb⟩ := owb
    obtain ⟨d, ed1, h2⟩ := h1
    obtain ⟨s1, es1, ed1⟩ := ownAt_some ed1
    obtain ⟨c, hc, gc, ow1⟩ := S1.own i s1 d es1 ed1
    rw [hp] at hc
    cases hc
    cases d with
    | lst ds =>
      obtain ⟨vs, hv, rr⟩ := ow1
      refine ⟨p, b, vs, ws, rfl, rfl, hv, hb, by rw [rr.length, rb.length]; exact h2.1, ?_⟩
      exact k G1 _ .non (.val .non) _ e1 (S1.mut (e := .lst (ds ++ zs)) es1 ed1 hp ⟨_, upd_same, rr.append rb⟩) .non h2.2
    | _ => exact h2.elim
  | _ => exact h1.elim
def rgItems (i j c : Int) : List D := (List.range (Builtin.Range.rangeSize i j c).toNat).map fun (k : Nat) => D.int (i + (k : Int) * c)
def RgC3 (i j c : Int) : Prop := c ≠ 0 ∧ c.natAbs < 1073741824 ∧ Builtin.Range.small i j c = true ∧ 0 ≤ Builtin.Range.rangeSize i j c
def diRng3 (da db dc : DE) : DI := fun ρ q er => da ρ (fun s ρ1 => db ρ1 (fun t ρ2 => dc ρ2 (fun u ρ3 => Opt (rd ρ3 s) fun d => Opt (rd ρ3 t) fun e => Opt (rd ρ3 u) fun f => match d, e, f with
  | .int i, .int j, .int c => RgC3 i j c ∧ q (rgItems i j c) ρ3
  | _, _, _ => False) er) er) er
theorem itOk_rgC {G : Hp} (lo c : Int) (n : Nat) : ItOk K G (Itc lo c n) ((List.range n).map fun (k : Nat) => .int (lo + (k : Int) * c)) :=
  .mk0 (fun i H e hi => by show i < n; simpa using hi) (fun i H e hi => by show n ≤ i; simpa using hi)
    fun i H x H' e h d hd => by
      obtain ⟨e1, rfl⟩ := h
      rw [List.getElem?_map] at hd
      by_cases hi : i < n
      · rw [List.getElem?_range hi] at hd
        cases hd
        exact ⟨e1, .int _⟩
      · rw [List.getElem?_eq_none (by simpa using hi)] at hd
        cases hd
theorem si_rng3 (ha : SE K pa W ta da) (hb : SE K pa W tb db) (hc : SE K pa W tc dc) : SI K pa W (iRng3 (tCons ta (tCons tb (tCons tc tNil)))) (diRng3 da db dc) := fun F G σ H ρ R q er S h k x =>
  ha F G σ H ρ _ _ er S h (fun G1 H1 v s ρ1 e1 S1 r1 h1 => hb F G1 σ H1 ρ1 _ _ er S1 h1 (fun G2 H2 w t ρ2 e2 S2 r2 h2 => hc F G2 σ H2 ρ2 _ _ er S2 h2 (fun G3 H3 y u ρ3 e3 S3 r3 h3 => by
    obtain ⟨d, ed, e, ee, f, ef, h4⟩ := h3
    cases d with
    | int i =>
      cases e with
      | int j =>
        cases f with
        | int c =>
          obtain ⟨⟨c0, c1, c2, c3⟩, h5⟩ := h4
          rw [(S3.rdT (r1.mono (e2.trans e3)) ed).int, (S3.rdT (r2.mono e3) ee).int, (S3.rdT r3 ef).int]
          exact ⟨i, j, c, (Builtin.Range.rangeSize i j c).toNat, rfl, ⟨c0, c1, c2, (Int.toNat_of_nonneg c3).symm⟩, k G3 H3 _ _ ρ3 (e1.trans (e2.trans e3)) S3 (itOk_rgC i c _) h5⟩
        | _ => exact h4.elim
      | _ => exact h4.elim
    | _ => exact h4.elim) ((x.grow e1).grow e2)) (x.grow e1)) x
end
def rLtD (K : PySem.W.Frag) : R2 := fun x y H Q => ∃ da db, Dp K H x da ∧ Dp K H y db ∧ PySem.W.alike da db = true ∧ da ≠ .none ∧ da.depth ≤ 60 ∧ Q (.bl (PySem.W.dataLt da db)) H
theorem op_ltD {X : Cx} (hu : X.A.units + 65 < cLine) : OpR X (compareOp .Lt) (rLtD X.K) := by
  intro pins s σ H x y v u Q I rx ry h
  obtain ⟨da, db, h1, h2, h3, h4, h5, q⟩ := h
  obtain ⟨as, r1⟩ := Dp.reads I da x v h1 rx
  obtain ⟨bs, r2⟩ := Dp.reads I db y u h2 ry
  exact PySem.W.lt_data r1 r2 h3 h4 (by omega) ⟨.bl _, H, I, rfl, q⟩
theorem toPs_ints : ∀ {ds : List D} {ns : List Int}, D.ints ds = some ns → D.toPs ds = some (ns.map PyData.int)
  | [], ns, h => by cases h; rw [D.toPs]; rfl
  | d :: ds, ns, h => by
    cases d with
    | int b =>
      have h : (D.ints ds).map (fun bs => b :: bs) = some ns := h
      cases q : D.ints ds with
      | none => rw [q] at h; cases h
      | some ms => rw [q] at h; cases h; rw [D.toPs, D.toP, toPs_ints q]; rfl
    | _ => cases h
theorem alike_intsL : ∀ a b : List Int, PySem.W.alikeAll (a.map PyData.int) (b.map PyData.int) = true
  | [], _ => by rw [List.map_nil, PySem.W.alikeAll]
  | x :: a, [] => by rw [List.map_nil, List.map_cons, PySem.W.alikeAll]
  | x :: a, y :: b => by rw [List.map_cons, List.map_cons, PySem.W.alikeAll, PySem.W.alike, alike_intsL a b]; rfl
theorem depth_ints : ∀ a : List Int, PyData.depthAll (a.map PyData.int) ≤ 59
  | [] => by rw [List.map_nil, PyData.depthAll]; exact Nat.zero_le _
  | x :: a => by
    have := depth_ints a
    rw [List.map_cons, PyData.depthAll, PyData.depth]
    omega
def D.ltL (a b : D) : Option D := match a, b with
  | .lst xs, .lst ys => (D.ints xs).bind fun ns => (D.ints ys).map fun ms => .bl (decide (ns < ms))
  | _, _ => none
theorem sr_ltL {K : PySem.W.Frag} : SR K (rLtD K) D.ltL := fun G H x y dx dy z Q e rx ry q k => by
  cases dx with
  | lst xs =>
    cases dy with
    | lst ys =>
      have q : (D.ints xs).bind (fun ns => (D.ints ys).map fun ms => D.bl (decide (ns < ms))) = some z := q
      cases q1 : D.ints xs with
      | none => rw [q1] at q; cases q
      | some ns =>
        rw [q1, Option.bind_some] at q
        cases q2 : D.ints ys with
        | none => rw [q2] at q; cases q
        | some ms =>
          rw [q2] at q
          cases q
          have p1 : (D.lst xs).toP = some (.list (ns.map .int)) := by rw [D.toP, toPs_ints q1]; rfl
          have p2 : (D.lst ys).toP = some (.list (ms.map .int)) := by rw [D.toP, toPs_ints q2]; rfl
          have ev : PySem.W.dataLt (.list (ns.map .int)) (.list (ms.map .int)) = decide (ns < ms) := by
            rw [PySem.W.dataLt_list]
            have h := PySem.W.dataLt_ints ns ms
            unfold PySem.W.rowLt at h
            exact h
          refine ⟨_, _, repT_dp e rx p1, repT_dp e ry p2, by rw [PySem.W.alike]; exact alike_intsL _ _, by simp, ?_, ?_⟩
          · have := depth_ints ns
            rw [PyData.depth]; omega
          · rw [ev]; exact k G H _ (Al.refl e) (.bl _)
    | _ => cases q
  | _ => cases dy <;> cases q
def rNeBL (K : PySem.W.Frag) : R2 := fun x y H Q => ∃ (a b : Addr) (xs ys : List (Array UInt8)), x = .ref a ∧ y = .ref b ∧ SqL K H a (xs.map V.byt) ∧ SqL K H b (ys.map V.byt) ∧ Q (.bl (!decide (xs = ys))) H
theorem arr_eq {b c : Array UInt8} : decide (b.toList = c.toList) = decide (b = c) := by
  rw [Bool.eq_iff_iff, decide_eq_true_iff, decide_eq_true_iff]
  exact ⟨fun h => Array.toList_inj.mp h, fun h => by rw [h]⟩
theorem byt_at : ∀ {us : List Value} {bs : List (Array UInt8)}, Byt.BytAre us bs → ∀ {i : Nat} {v : Value}, us[i]? = some v → ∃ b t, v = Value.bytes b t ∧ bs[i]? = some b
  | _, _, .nil, i, v, h => by cases h
  | _, _, .cons n t r, 0, v, h => by cases h; exact ⟨n, t, rfl, rfl⟩
  | _, _, .cons n t r, i + 1, v, h => byt_at r h
theorem all_same {α : Type} [DecidableEq α] : ∀ (xs ys : List α), xs.length = ys.length → (List.range xs.length).all (fun j => decide (xs[j]? = ys[j]?)) = decide (xs = ys) := by
  intro xs ys h
  rw [Bool.eq_iff_iff, List.all_eq_true, decide_eq_true_iff]
  constructor
  · intro q
    refine List.ext_getElem? fun j => ?_
    by_cases hj : j < xs.length
    · exact of_decide_eq_true (q j (List.mem_range.mpr hj))
    · rw [List.getElem?_eq_none (by omega), List.getElem?_eq_none (by omega)]
  · rintro rfl j _
    exact decide_eq_true rfl
theorem op_neBL {X : Cx} (hu : X.A.units + 64 < cLine) : OpR X (compareOp .NotEq) (rNeBL X.K) := by
  intro pins s σ H x y v u Q I rx ry h
  obtain ⟨a, b, xs, ys, rfl, rfl, h1, h2, q⟩ := h
  cases rx
  cases ry
  obtain ⟨us, r1, p1, _⟩ := I.list h1
  obtain ⟨ws, r2, p2, _⟩ := I.list h2
  have l1 : us.length = xs.length := by rw [← r1.length, List.length_map]
  have l2 : ws.length = ys.length := by rw [← r2.length, List.length_map]
  have b1 := byts_of r1
  have b2 := byts_of r2
  show wpAny (model X.prog X.w) X.A (richCompare .NotEq (.ref a) (.ref b)) (EP X pins σ Q) X.xe s
  by_cases hl : xs.length = ys.length
  · refine SeqAt.rcNeIn (f := fun j => decide (xs[j]? = ys[j]?)) p1.isList p2.isList (by rw [List.size_toArray, List.size_toArray]; omega) (by omega) (fun j g1 g2 => ?_) ?_
    · have z1 : us[j]? = some us.toArray[j] := by simp
      have z2 : ws[j]? = some ws.toArray[j] := by simp
      obtain ⟨c, t, e1, f1⟩ := byt_at b1 z1
      obtain ⟨d, t', e2, f2⟩ := byt_at b2 z2
      have ev : decide (xs[j]? = ys[j]?) = decide (c.toList = d.toList) := by
        rw [f1, f2, arr_eq]
        rw [Bool.eq_iff_iff, decide_eq_true_iff, decide_eq_true_iff]
        exact ⟨fun h => Option.some.inj h, fun h => by rw [h]⟩
      intro E Q hq
      rw [e1, e2]
      refine PySem.W.eqBool_bytes ?_
      rw [← ev]
      exact hq
    · have e1 : us.toArray.size = xs.length := by rw [List.size_toArray, l1]
      rw [e1, all_same xs ys hl]
      exact ⟨V.bl _, H, I, rfl, q⟩
  · have hne : (!decide (xs = ys)) = true := by
      rw [Bool.not_eq_true']
      exact decide_eq_false fun e => hl (by rw [e])
    rw [hne] at q
    exact SeqAt.RcNeAt.lists_lengths p1.isList p2.isList (by rw [List.size_toArray, List.size_toArray, l1, l2]; simpa using hl) (by omega) _ _ _ _ ⟨V.bl true, H, I, rfl, q⟩
def D.neBL (a b : D) : Option D := match a, b with
  | .lst xs, .lst ys => (D.byts xs).bind fun bs => (D.byts ys).map fun cs => .bl (!decide (bs = cs))
  | _, _ => none
theorem sr_neBL {K : PySem.W.Frag} : SR K (rNeBL K) D.neBL := fun G H x y dx dy z Q e rx ry q k => by
  cases dx with
  | lst xs =>
    cases dy with
    | lst ys =>
      have q : (D.byts xs).bind (fun bs => (D.byts ys).map fun cs => D.bl (!decide (bs = cs))) = some z := q
      cases q1 : D.byts xs with
      | none => rw [q1] at q; cases q
      | some bs =>
        rw [q1, Option.bind_some] at q
        cases q2 : D.byts ys with
        | none => rw [q2] at q; cases q
        | some cs =>
          rw [q2] at q
          cases q
          obtain ⟨a, vs, rfl, h1, r1⟩ := rx.lst e
          obtain ⟨b, us, rfl, h2, r2⟩ := ry.lst e
          exact ⟨a, b, bs, cs, rfl, rfl, reps_byts r1 q1 ▸ h1, reps_byts r2 q2 ▸ h2, k G H _ (Al.refl e) (.bl _)⟩
    | _ => cases q
  | _ => cases dy <;> cases q
def rEqBL (K : PySem.W.Frag) : R2 := fun x y H Q => ∃ (a b : Addr) (xs ys : List (Array UInt8)), x = .ref a ∧ y = .ref b ∧ SqL K H a (xs.map V.byt) ∧ SqL K H b (ys.map V.byt) ∧ Q (.bl (decide (xs = ys))) H
theorem op_eqBL {X : Cx} (hu : X.A.units + 64 < cLine) : OpR X (compareOp .Eq) (rEqBL X.K) := by
  intro pins s σ H x y v u Q I rx ry h
  obtain ⟨a, b, xs, ys, rfl, rfl, h1, h2, q⟩ := h
  cases rx
  cases ry
  obtain ⟨us, r1, p1, _⟩ := I.list h1
  obtain ⟨ws, r2, p2, _⟩ := I.list h2
  have l1 : us.length = xs.length := by rw [← r1.length, List.length_map]
  have l2 : ws.length = ys.length := by rw [← r2.length, List.length_map]
  have b1 := byts_of r1
  have b2 := byts_of r2
  show wpAny (model X.prog X.w) X.A (richCompare .Eq (.ref a) (.ref b)) (EP X pins σ Q) X.xe s
  by_cases hl : xs.length = ys.length
  · refine SeqAt.rcIn_lists (e := fun j => decide (xs[j]? = ys[j]?)) p1.isList p2.isList (by rw [List.size_toArray, List.size_toArray]; omega) (by omega) (fun j g1 g2 => ?_) ?_
    · have z1 : us[j]? = some us.toArray[j] := by simp
      have z2 : ws[j]? = some ws.toArray[j] := by simp
      obtain ⟨c, t, e1, f1⟩ := byt_at b1 z1
      obtain ⟨d, t', e2, f2⟩ := byt_at b2 z2
      have ev : decide (xs[j]? = ys[j]?) = decide (c.toList = d.toList) := by
        rw [f1, f2, arr_eq]
        rw [Bool.eq_iff_iff, decide_eq_true_iff, decide_eq_true_iff]
        exact ⟨fun h => Option.some.inj h, fun h => by rw [h]⟩
      intro E Q hq
      rw [e1, e2]
      refine PySem.W.eqBool_bytes ?_
      rw [← ev]
      exact hq
    · have e1 : us.toArray.size = xs.length := by rw [List.size_toArray, l1]
      rw [e1, all_same xs ys hl]
      exact ⟨V.bl _, H, I, rfl, q⟩
  · have hne : decide (xs = ys) = false := decide_eq_false fun e => hl (by rw [e])
    rw [hne] at q
    exact SeqAt.RcAt.lists_lengths p1.isList p2.isList (by rw [List.size_toArray, List.size_toArray, l1, l2]; simpa using hl) (by omega) _ _ _ _ ⟨V.bl false, H, I, rfl, q⟩
def D.eqBL (a b : D) : Option D := match a, b with
  | .lst xs, .lst ys => (D.byts xs).bind fun bs => (D.byts ys).map fun cs => .bl (decide (bs = cs))
  | _, _ => none
theorem sr_eqBL {K : PySem.W.Frag} : SR K (rEqBL K) D.eqBL := fun G H x y dx dy z Q e rx ry q k => by
  cases dx with
  | lst xs =>
    cases dy with
    | lst ys =>
      have q : (D.byts xs).bind (fun bs => (D.byts ys).map fun cs => D.bl (decide (bs = cs))) = some z := q
      cases q1 : D.byts xs with
      | none => rw [q1] at q; cases q
      | some bs =>
        rw [q1, Option.bind_some] at q
        cases q2 : D.byts ys with
        | none => rw [q2] at q; cases q
        | some cs =>
          rw [q2] at q
          cases q
          obtain ⟨a, vs, rfl, h1, r1⟩ := rx.lst e
          obtain ⟨b, us, rfl, h2, r2⟩ := ry.lst e
          exact ⟨a, b, bs, cs, rfl, rfl, reps_byts r1 q1 ▸ h1, reps_byts r2 q2 ▸ h2, k G H _ (Al.refl e) (.bl _)⟩
    | _ => cases q
  | _ => cases dy <;> cases q
end DL
set_option maxHeartbeats 2000000
namespace My
open PySem L2 Evl ClX DL
structure Ads where
  a_is_integer : Addr
  d_is_integer : FuncData
  a_is_sequence : Addr
  d_is_sequence : FuncData
  a_is_key : Addr
  d_is_key : FuncData
  a_bytes_of : Addr
  d_bytes_of : FuncData
  a_p_is_label : Addr
  d_p_is_label : FuncData
  a_p_wrong_word : Addr
  d_p_wrong_word : FuncData
  a_p_next_start : Addr
  d_p_next_start : FuncData
  a_p_next_label : Addr
  d_p_next_label : FuncData
  a_first_labels : Addr
  d_first_labels : FuncData
  a_labels_between : Addr
  d_labels_between : FuncData
  a_p_law_rng : Addr
  d_p_law_rng : FuncData
  a_p_law_draw : Addr
  d_p_law_draw : FuncData
  a_p_law_pick : Addr
  d_p_law_pick : FuncData
  a_p_law_short : Addr
  d_p_law_short : FuncData
  a_p_law_near : Addr
  d_p_law_near : FuncData
  a_p_law_all : Addr
  d_p_law_all : FuncData
  a_p_law_can_begin : Addr
  d_p_law_can_begin : FuncData
  a_p_law_due : Addr
  d_p_law_due : FuncData
  a_law : Addr
  d_law : FuncData
  u_GREATEST_BYTE : Value
  u_GREATEST_LAST : Value
  u_LONGEST_LABEL : Value
  u_MOST_LABELS : Value
abbrev Ads.isis (A : Ads) : List Addr := []
structure Txt (K : PySem.W.Frag) (mg : Str → Option Value) (A : Ads) : Prop where
  F_is_integer : Fun K "is_integer" "is_integer" s_is_integer A.a_is_integer A.d_is_integer
  b_is_integer : Binds K A.d_is_integer ["x"] []
  g_is_integer : mg "is_integer" = some (.ref A.a_is_integer)
  F_is_sequence : Fun K "is_sequence" "is_sequence" s_is_sequence A.a_is_sequence A.d_is_sequence
  b_is_sequence : Binds K A.d_is_sequence ["x"] []
  g_is_sequence : mg "is_sequence" = some (.ref A.a_is_sequence)
  F_is_key : Fun K "is_key" "is_key" s_is_key A.a_is_key A.d_is_key
  b_is_key : Binds K A.d_is_key ["x"] []
  g_is_key : mg "is_key" = some (.ref A.a_is_key)
  F_bytes_of : Fun K "bytes_of" "bytes_of" s_bytes_of A.a_bytes_of A.d_bytes_of
  b_bytes_of : Binds K A.d_bytes_of ["numbers"] []
  g_bytes_of : mg "bytes_of" = some (.ref A.a_bytes_of)
  F_p_is_label : Fun K "_is_label" "_is_label" s_p_is_label A.a_p_is_label A.d_p_is_label
  b_p_is_label : Binds K A.d_p_is_label ["x"] []
  g_p_is_label : mg "_is_label" = some (.ref A.a_p_is_label)
  F_p_wrong_word : Fun K "_wrong_word" "_wrong_word" s_p_wrong_word A.a_p_wrong_word A.d_p_wrong_word
  b_p_wrong_word : Binds K A.d_p_wrong_word ["low", "high", "count"] []
  g_p_wrong_word : mg "_wrong_word" = some (.ref A.a_p_wrong_word)
  F_p_next_start : Fun K "_next_start" "_next_start" s_p_next_start A.a_p_next_start A.d_p_next_start
  b_p_next_start : Binds K A.d_p_next_start ["start"] []
  g_p_next_start : mg "_next_start" = some (.ref A.a_p_next_start)
  F_p_next_label : Fun K "_next_label" "_next_label" s_p_next_label A.a_p_next_label A.d_p_next_label
  b_p_next_label : Binds K A.d_p_next_label ["low", "length"] []
  g_p_next_label : mg "_next_label" = some (.ref A.a_p_next_label)
  F_first_labels : Fun K "first_labels" "first_labels" s_first_labels A.a_first_labels A.d_first_labels
  b_first_labels : Binds K A.d_first_labels ["low", "high", "count"] []
  g_first_labels : mg "first_labels" = some (.ref A.a_first_labels)
  F_labels_between : Fun K "labels_between" "labels_between" s_labels_between A.a_labels_between A.d_labels_between
  b_labels_between : Binds K A.d_labels_between ["low", "high", "count"] []
  g_labels_between : mg "labels_between" = some (.ref A.a_labels_between)
  F_p_law_rng : Fun K "_law_rng" "_law_rng" s_p_law_rng A.a_p_law_rng A.d_p_law_rng
  b_p_law_rng : Binds K A.d_p_law_rng ["_law_cell"] []
  g_p_law_rng : mg "_law_rng" = some (.ref A.a_p_law_rng)
  F_p_law_draw : Fun K "_law_draw" "_law_draw" s_p_law_draw A.a_p_law_draw A.d_p_law_draw
  b_p_law_draw : Binds K A.d_p_law_draw ["_law_rng_here", "_law_limit"] []
  g_p_law_draw : mg "_law_draw" = some (.ref A.a_p_law_draw)
  F_p_law_pick : Fun K "_law_pick" "_law_pick" s_p_law_pick A.a_p_law_pick A.d_p_law_pick
  b_p_law_pick : Binds K A.d_p_law_pick ["_law_rng_here", "_law_items"] []
  g_p_law_pick : mg "_law_pick" = some (.ref A.a_p_law_pick)
  F_p_law_short : Fun K "_law_short" "_law_short" s_p_law_short A.a_p_law_short A.d_p_law_short
  b_p_law_short : Binds K A.d_p_law_short ["_law_rng_here"] []
  g_p_law_short : mg "_law_short" = some (.ref A.a_p_law_short)
  F_p_law_near : Fun K "_law_near" "_law_near" s_p_law_near A.a_p_law_near A.d_p_law_near
  b_p_law_near : Binds K A.d_p_law_near ["_law_rng_here", "_law_label"] []
  g_p_law_near : mg "_law_near" = some (.ref A.a_p_law_near)
  F_p_law_all : Fun K "_law_all" "_law_all" s_p_law_all A.a_p_law_all A.d_p_law_all
  b_p_law_all : Binds K A.d_p_law_all ["_law_ahead", "_law_low", "_law_high"] []
  g_p_law_all : mg "_law_all" = some (.ref A.a_p_law_all)
  F_p_law_can_begin : Fun K "_law_can_begin" "_law_can_begin" s_p_law_can_begin A.a_p_law_can_begin A.d_p_law_can_begin
  b_p_law_can_begin : Binds K A.d_p_law_can_begin ["_law_ahead", "_law_low", "_law_high"] []
  g_p_law_can_begin : mg "_law_can_begin" = some (.ref A.a_p_law_can_begin)
  F_p_law_due : Fun K "_law_due" "_law_due" s_p_law_due A.a_p_law_due A.d_p_law_due
  b_p_law_due : Binds K A.d_p_law_due ["_law_low", "_law_high", "_law_count"] []
  g_p_law_due : mg "_law_due" = some (.ref A.a_p_law_due)
  F_law : Fun K "law" "law" s_law A.a_law A.d_law
  b_law : Binds K A.d_law ["_law_script"] []
  g_law : mg "law" = some (.ref A.a_law)
  ic : ∀ C ∈ A.isis, IsiC K C
  isi : IsiK K
  k_GREATEST_BYTE : mg "GREATEST_BYTE" = some A.u_GREATEST_BYTE ∧ RelV (.int (255)) A.u_GREATEST_BYTE
  k_GREATEST_LAST : mg "GREATEST_LAST" = some A.u_GREATEST_LAST ∧ RelV (.int (254)) A.u_GREATEST_LAST
  k_LONGEST_LABEL : mg "LONGEST_LABEL" = some A.u_LONGEST_LABEL ∧ RelV (.int (1000)) A.u_LONGEST_LABEL
  k_MOST_LABELS : mg "MOST_LABELS" = some A.u_MOST_LABELS ∧ RelV (.int (200)) A.u_MOST_LABELS
  z_abs : mg "abs" = none
  z_all : mg "all" = none
  z_bool : mg "bool" = none
  z_bytes : mg "bytes" = none
  z_enumerate : mg "enumerate" = none
  z_int : mg "int" = none
  z_isinstance : mg "isinstance" = none
  z_len : mg "len" = none
  z_list : mg "list" = none
  z_range : mg "range" = none
  z_sorted : mg "sorted" = none
  z_tuple : mg "tuple" = none
abbrev N_is_integer : List Str := ["x"]
theorem sc_is_integer : FnScope N_is_integer ["x"] (defScope s_is_integer) := ⟨rfl, rfl, rfl, by decide +kernel, rfl, by decide +kernel, by decide +kernel⟩
def body_is_integer (K : PySem.W.Frag) (A : Ads) : DS := (dRet (dAndV (dIsi K A.isis (dVar 0) (dC (.ty "int"))) (dNotV (dIsi K A.isis (dVar 0) (dC (.ty "bool"))))))
def dsp_is_integer (K : PySem.W.Frag) (A : Ads) : DSp := dBody 1 (body_is_integer K A)
abbrev N_is_sequence : List Str := ["x"]
theorem sc_is_sequence : FnScope N_is_sequence ["x"] (defScope s_is_sequence) := ⟨rfl, rfl, rfl, by decide +kernel, rfl, by decide +kernel, by decide +kernel⟩
def body_is_sequence (K : PySem.W.Frag) (A : Ads) : DS := (dRet (dIsiT K A.isis (dVar 0) (dCons (dC (.ty "list")) (dCons (dC (.ty "tuple")) dNil))))
def dsp_is_sequence (K : PySem.W.Frag) (A : Ads) : DSp := dBody 1 (body_is_sequence K A)
abbrev N_is_key : List Str := ["x"]
theorem sc_is_key : FnScope N_is_key ["x"] (defScope s_is_key) := ⟨rfl, rfl, rfl, by decide +kernel, rfl, by decide +kernel, by decide +kernel⟩
def body_is_key (K : PySem.W.Frag) (A : Ads) : DS := (dRet (dAndV (dIsi K A.isis (dVar 0) (dC (.ty "bytes"))) (dAndV (dOp D.gt (dCB D.len (dCons (dVar 0) dNil)) (dC (.int 0))) (dAndV (dOp D.notInB (dC (.int 0)) (dVar 0)) (dNotT (dOp D.band (dOp D.ixB (dVar 0) (dUn D.neg (dC (.int 1)))) (dC (.int 1))))))))
def dsp_is_key (K : PySem.W.Frag) (A : Ads) : DSp := dBody 1 (body_is_key K A)
abbrev N_bytes_of : List Str := ["numbers", "place", "number"]
theorem sc_bytes_of : FnScope N_bytes_of ["numbers"] (defScope s_bytes_of) := ⟨rfl, rfl, rfl, by decide +kernel, rfl, by decide +kernel, by decide +kernel⟩
def body_bytes_of (K : PySem.W.Frag) (A : Ads) : DS := (dSeq (dIfS (dNot (dTruth (dCall (noEr (dsp_is_sequence K A)) (dN 1 (dCons (dVar 0) dNil))))) dNever dNext)
    (dSeq (dFor (diEnumX (dVar 0)) (dgTup 2 (dgCons (dgName 1) (dgCons (dgName 2) dgNil))) (dIfS (dOr (dNot (dTruth (dCall (noEr (dsp_is_integer K A)) (dN 1 (dCons (dVar 2) dNil))))) (dNot (dTest (dChain D.le D.le (dC (.int 0)) (dVar 2) (dC (.int (255))))))) dNever dNext))
    (dRet (dCB D.toByt (dCons (dVar 0) dNil)))))
def dsp_bytes_of (K : PySem.W.Frag) (A : Ads) : DSp := dBody 3 (body_bytes_of K A)
abbrev N_p_is_label : List Str := ["x", "byte"]
theorem sc_p_is_label : FnScope N_p_is_label ["x"] (defScope s_p_is_label) := ⟨rfl, rfl, rfl, by decide +kernel, rfl, by decide +kernel, by decide +kernel⟩
def body_p_is_label (K : PySem.W.Frag) (A : Ads) : DS := (dSeq (dIfS (dOr (dNot (dTruth (dCall (noEr (dsp_is_key K A)) (dN 1 (dCons (dVar 0) dNil))))) (dTest (dOp D.gt (dCB D.len (dCons (dVar 0) dNil)) (dC (.int (1000)))))) (dRet (dC (.bl false))) dNext)
    (dRet (dCB D.allI (dCons (dV (dLc (diByt (dSlB (dVar 0) dNoP (dPart (dUn D.neg (dC (.int 1)))))) (dgName 1) (fun ρ q _ => q true ρ) (dOp D.band (dVar 1) (dC (.int 1))) [1])) dNil))))
def dsp_p_is_label (K : PySem.W.Frag) (A : Ads) : DSp := dBody 2 (body_p_is_label K A)
abbrev N_p_wrong_word : List Str := ["low", "high", "count"]
theorem sc_p_wrong_word : FnScope N_p_wrong_word ["low", "high", "count"] (defScope s_p_wrong_word) := ⟨rfl, rfl, rfl, by decide +kernel, rfl, by decide +kernel, by decide +kernel⟩
def body_p_wrong_word (K : PySem.W.Frag) (A : Ads) : DS := (dSeq (dIfS (dAnd (dTest (dOp D.isNotN (dVar 0) (dC .non))) (dNot (dTruth (dCall (noEr (dsp_p_is_label K A)) (dN 1 (dCons (dVar 0) dNil)))))) (dRet (dC (.str (PySem.Str.ofString "low")))) dNext)
    (dSeq (dIfS (dAnd (dTest (dOp D.isNotN (dVar 1) (dC .non))) (dNot (dTruth (dCall (noEr (dsp_p_is_label K A)) (dN 1 (dCons (dVar 1) dNil)))))) (dRet (dC (.str (PySem.Str.ofString "high")))) dNext)
    (dSeq (dIfS (dAnd (dTest (dOp D.isNotN (dVar 0) (dC .non))) (dAnd (dTest (dOp D.isNotN (dVar 1) (dC .non))) (dNot (dTest (dOp D.ltB (dVar 0) (dVar 1)))))) (dRet (dC (.str (PySem.Str.ofString "order")))) dNext)
    (dSeq (dIfS (dOr (dNot (dTruth (dCall (noEr (dsp_is_integer K A)) (dN 1 (dCons (dVar 2) dNil))))) (dNot (dTest (dChain D.le D.le (dC (.int 0)) (dVar 2) (dC (.int (200))))))) (dRet (dC (.str (PySem.Str.ofString "count")))) dNext)
    (dRet (dC .non))))))
def dsp_p_wrong_word (K : PySem.W.Frag) (A : Ads) : DSp := dBody 3 (body_p_wrong_word K A)
abbrev N_p_next_start : List Str := ["start", "raised"]
theorem sc_p_next_start : FnScope N_p_next_start ["start"] (defScope s_p_next_start) := ⟨rfl, rfl, rfl, by decide +kernel, rfl, by decide +kernel, by decide +kernel⟩
def body_p_next_start (K : PySem.W.Frag) (A : Ads) : DS := (dSeq (dAsg (dRsB (dVar 0) (dC (.byt (List.toArray [(255 : UInt8)])))) (dgName 1))
    (dSeq (dIfS (dTest (dOp D.eq (dCB D.len (dCons (dVar 1) dNil)) (dC (.int 0)))) (dRet (dC .non)) dNext)
    (dRet (dOp D.addB (dOp D.addB (dSlB (dVar 1) dNoP (dPart (dUn D.neg (dC (.int 1))))) (dCB D.toByt (dCons (dV (dLst (dCons (dOp D.add (dOp D.ixB (dVar 1) (dUn D.neg (dC (.int 1)))) (dC (.int 2))) dNil))) dNil))) (dOp D.mulB (dC (.byt (List.toArray [(1 : UInt8)]))) (dOp D.sub (dCB D.len (dCons (dVar 0) dNil)) (dCB D.len (dCons (dVar 1) dNil))))))))
def dsp_p_next_start (K : PySem.W.Frag) (A : Ads) : DSp := dBody 2 (body_p_next_start K A)
abbrev N_p_next_label : List Str := ["low", "length", "last", "start"]
theorem sc_p_next_label : FnScope N_p_next_label ["low", "length"] (defScope s_p_next_label) := ⟨rfl, rfl, rfl, by decide +kernel, rfl, by decide +kernel, by decide +kernel⟩
def body_p_next_label (K : PySem.W.Frag) (A : Ads) : DS := (dSeq (dIfS (dTest (dOp D.isN (dVar 0) (dC .non))) (dRet (dOp D.addB (dOp D.mulB (dC (.byt (List.toArray [(1 : UInt8)]))) (dOp D.sub (dVar 1) (dC (.int 1)))) (dC (.byt (List.toArray [(2 : UInt8)]))))) dNext)
    (dSeq (dIfS (dTest (dOp D.gt (dVar 1) (dCB D.len (dCons (dVar 0) dNil)))) (dRet (dOp D.addB (dOp D.addB (dOp D.addB (dSlB (dVar 0) dNoP (dPart (dUn D.neg (dC (.int 1))))) (dCB D.toByt (dCons (dV (dLst (dCons (dOp D.add (dOp D.ixB (dVar 0) (dUn D.neg (dC (.int 1)))) (dC (.int 1))) dNil))) dNil))) (dOp D.mulB (dC (.byt (List.toArray [(1 : UInt8)]))) (dOp D.sub (dOp D.sub (dVar 1) (dCB D.len (dCons (dVar 0) dNil))) (dC (.int 1))))) (dC (.byt (List.toArray [(2 : UInt8)]))))) dNext)
    (dSeq (dAsg (dOp D.ixB (dVar 0) (dOp D.sub (dVar 1) (dC (.int 1)))) (dgName 2))
    (dSeq (dAsg (dOp D.sub (dOp D.add (dVar 2) (dC (.int 2))) (dOp D.band (dVar 2) (dC (.int 1)))) (dgName 2))
    (dSeq (dIfS (dTest (dOp D.le (dVar 2) (dC (.int (254))))) (dRet (dOp D.addB (dSlB (dVar 0) dNoP (dPart (dOp D.sub (dVar 1) (dC (.int 1))))) (dCB D.toByt (dCons (dV (dLst (dCons (dVar 2) dNil))) dNil)))) dNext)
    (dSeq (dAsg (dCall (noEr (dsp_p_next_start K A)) (dN 1 (dCons (dSlB (dVar 0) dNoP (dPart (dOp D.sub (dVar 1) (dC (.int 1))))) dNil))) (dgName 3))
    (dRet (dIf (dTest (dOp D.isN (dVar 3) (dC .non))) (dC .non) (dOp D.addB (dVar 3) (dC (.byt (List.toArray [(2 : UInt8)]))))))))))))
def dsp_p_next_label (K : PySem.W.Frag) (A : Ads) : DSp := dBody 4 (body_p_next_label K A)
abbrev N_first_labels : List Str := ["low", "high", "count", "found", "length", "label"]
theorem sc_first_labels : FnScope N_first_labels ["low", "high", "count"] (defScope s_first_labels) := ⟨rfl, rfl, rfl, by decide +kernel, rfl, by decide +kernel, by decide +kernel⟩
def body_first_labels (K : PySem.W.Frag) (A : Ads) : DS := (dSeq (dOwn (dLst dNil) 3)
    (dSeq (dAsg (dC (.int 1)) (dgName 4))
    (dSeq (dWhile (dTest (dOp D.lt (dCB D.len (dCons (dVar 3) dNil)) (dVar 2))) (dSeq (dAsg (dCall (noEr (dsp_p_next_label K A)) (dN 2 (dCons (dVar 0) (dCons (dVar 4) dNil)))) (dgName 5))
    (dSeq (dWhile (dAnd (dTest (dOp D.isNotN (dVar 5) (dC .non))) (dAnd (dOr (dTest (dOp D.isN (dVar 1) (dC .non))) (dTest (dOp D.ltB (dVar 5) (dVar 1)))) (dTest (dOp D.lt (dCB D.len (dCons (dVar 3) dNil)) (dVar 2))))) (dSeq (dDrop (dAppend 3 (dVar 5)))
    (dAsg (dCall (noEr (dsp_p_next_label K A)) (dN 2 (dCons (dVar 5) (dCons (dVar 4) dNil)))) (dgName 5))))
    (dAsg (dOp D.iadd (dVar 4) (dC (.int 1))) (dgName 4)))))
    (dRet (dV (dSortB (dVar 3)))))))
def dsp_first_labels (K : PySem.W.Frag) (A : Ads) : DSp := dBody 6 (body_first_labels K A)
abbrev N_labels_between : List Str := ["low", "high", "count", "word"]
theorem sc_labels_between : FnScope N_labels_between ["low", "high", "count"] (defScope s_labels_between) := ⟨rfl, rfl, rfl, by decide +kernel, rfl, by decide +kernel, by decide +kernel⟩
def body_labels_between (K : PySem.W.Frag) (A : Ads) : DS := (dSeq (dAsg (dCall (noEr (dsp_p_wrong_word K A)) (dN 3 (dCons (dVar 0) (dCons (dVar 1) (dCons (dVar 2) dNil))))) (dgName 3))
    (dSeq (dIfS (dTest (dOp D.isNotN (dVar 3) (dC .non))) dNever dNext)
    (dRet (dCall (noEr (dsp_first_labels K A)) (dN 3 (dCons (dVar 0) (dCons (dVar 1) (dCons (dVar 2) dNil))))))))
def dsp_labels_between (K : PySem.W.Frag) (A : Ads) : DSp := dBody 4 (body_labels_between K A)
abbrev N_p_law_rng : List Str := ["_law_cell"]
theorem sc_p_law_rng : FnScope N_p_law_rng ["_law_cell"] (defScope s_p_law_rng) := ⟨rfl, rfl, rfl, by decide +kernel, rfl, by decide +kernel, by decide +kernel⟩
def body_p_law_rng (K : PySem.W.Frag) (A : Ads) : DS := (dRetF (dLst (dCons (dCB D.abs (dCons (dVar 0) dNil)) (dCons (dOp D.mod (dCB D.toInt (dCons (dVar 0) dNil)) (dC (.int 2147483629))) (dCons (dC (.int 0)) dNil)))))
def dsp_p_law_rng (K : PySem.W.Frag) (A : Ads) : DSp := dBodyF 1 (body_p_law_rng K A)
abbrev N_p_law_draw : List Str := ["_law_rng_here", "_law_limit", "_law_digit", "_law_mixed"]
theorem sc_p_law_draw : FnScope N_p_law_draw ["_law_rng_here", "_law_limit"] (defScope s_p_law_draw) := ⟨rfl, rfl, rfl, by decide +kernel, rfl, by decide +kernel, by decide +kernel⟩
def body_p_law_draw (K : PySem.W.Frag) (A : Ads) : DS := (dSeq (dIfS (dTest (dOp D.ge (dOp D.ix (dVar 0) (dC (.int 0))) (dOp D.pow (dC (.int 10)) (dC (.int 18))))) (dSeq (dAsg (dOp D.mod (dCB D.toInt (dCons (dOp D.ix (dVar 0) (dC (.int 0))) dNil)) (dVar 1)) (dgName 2))
    (dSeq (dSetIx 0 (dC (.int 0)) (dOp D.fdiv (dOp D.ix (dVar 0) (dC (.int 0))) (dVar 1)))
    (dRet (dVar 2)))) dNext)
    (dSeq (dSetIx 0 (dC (.int 2)) (dOp D.add (dOp D.ix (dVar 0) (dC (.int 2))) (dC (.int 1))))
    (dSeq (dAsg (dOp D.mod (dCB D.toInt (dCons (dOp D.mul (dOp D.add (dOp D.add (dOp D.ix (dVar 0) (dC (.int 1))) (dOp D.mul (dC (.int 7919)) (dOp D.ix (dVar 0) (dC (.int 2))))) (dC (.int 1))) (dC (.int 48271))) dNil)) (dC (.int 2147483647))) (dgName 3))
    (dSeq (dAsg (dOp D.mod (dCB D.toInt (dCons (dOp D.mul (dVar 3) (dOp D.add (dOp D.fdiv (dVar 3) (dC (.int 1013))) (dC (.int 69621)))) dNil)) (dC (.int 2147483587))) (dgName 3))
    (dRet (dOp D.mod (dCB D.toInt (dCons (dOp D.mod (dCB D.toInt (dCons (dOp D.add (dOp D.fdiv (dVar 3) (dC (.int 7))) (dOp D.mul (dOp D.mod (dCB D.toInt (dCons (dVar 3) dNil)) (dC (.int 7919))) (dC (.int 40692)))) dNil)) (dC (.int 2147483399))) dNil)) (dVar 1)))))))
def dsp_p_law_draw (K : PySem.W.Frag) (A : Ads) : DSp := dBody 4 (body_p_law_draw K A)
abbrev N_p_law_pick : List Str := ["_law_rng_here", "_law_items"]
theorem sc_p_law_pick : FnScope N_p_law_pick ["_law_rng_here", "_law_items"] (defScope s_p_law_pick) := ⟨rfl, rfl, rfl, by decide +kernel, rfl, by decide +kernel, by decide +kernel⟩
def body_p_law_pick (K : PySem.W.Frag) (A : Ads) : DS := (dRet (dOp D.ix (dVar 1) (dCall (noEr (dsp_p_law_draw K A)) (dN 2 (dCons (dVar 0) (dCons (dCB D.len (dCons (dVar 1) dNil)) dNil))))))
def dsp_p_law_pick (K : PySem.W.Frag) (A : Ads) : DSp := dBody 2 (body_p_law_pick K A)
abbrev N_p_law_short : List Str := ["_law_rng_here", "_law_many", "_law_ahead", "_law_turn"]
theorem sc_p_law_short : FnScope N_p_law_short ["_law_rng_here"] (defScope s_p_law_short) := ⟨rfl, rfl, rfl, by decide +kernel, rfl, by decide +kernel, by decide +kernel⟩
def body_p_law_short (K : PySem.W.Frag) (A : Ads) : DS := (dSeq (dAsg (dCall (noEr (dsp_p_law_pick K A)) (dN 2 (dCons (dVar 0) (dCons (dV (dLst (dCons (dC (.int 0)) (dCons (dC (.int 0)) (dCons (dC (.int 1)) (dCons (dC (.int 1)) (dCons (dC (.int 2)) dNil))))))) dNil)))) (dgName 1))
    (dSeq (dAsg (dV (dLc (diRng1 (dVar 1)) (dgName 3) (fun ρ q _ => q true ρ) (dCall (noEr (dsp_p_law_pick K A)) (dN 2 (dCons (dVar 0) (dCons (dV (dLst (dCons (dC (.int 1)) (dCons (dC (.int 3)) (dCons (dC (.int 125)) (dCons (dC (.int 253)) (dCons (dC (.int 255)) (dCons (dOp D.add (dOp D.mul (dC (.int 2)) (dCall (noEr (dsp_p_law_draw K A)) (dN 2 (dCons (dVar 0) (dCons (dC (.int 128)) dNil))))) (dC (.int 1))) dNil)))))))) dNil)))) [3])) (dgName 2))
    (dRet (dOp D.add (dVar 2) (dV (dLst (dCons (dCall (noEr (dsp_p_law_pick K A)) (dN 2 (dCons (dVar 0) (dCons (dV (dLst (dCons (dC (.int 2)) (dCons (dC (.int 4)) (dCons (dC (.int 126)) (dCons (dC (.int 252)) (dCons (dC (.int 254)) (dCons (dOp D.add (dOp D.mul (dC (.int 2)) (dCall (noEr (dsp_p_law_draw K A)) (dN 2 (dCons (dVar 0) (dCons (dC (.int 127)) dNil))))) (dC (.int 2))) dNil)))))))) dNil)))) dNil)))))))
def dsp_p_law_short (K : PySem.W.Frag) (A : Ads) : DSp := dBody 4 (body_p_law_short K A)
abbrev N_p_law_near : List Str := ["_law_rng_here", "_law_label", "_law_at", "_law_number"]
theorem sc_p_law_near : FnScope N_p_law_near ["_law_rng_here", "_law_label"] (defScope s_p_law_near) := ⟨rfl, rfl, rfl, by decide +kernel, rfl, by decide +kernel, by decide +kernel⟩
def body_p_law_near (K : PySem.W.Frag) (A : Ads) : DS := (dSeq (dAsg (dCall (noEr (dsp_p_law_draw K A)) (dN 2 (dCons (dVar 0) (dCons (dCB D.len (dCons (dVar 1) dNil)) dNil)))) (dgName 2))
    (dSeq (dAsg (dOp D.add (dOp D.ix (dVar 1) (dVar 2)) (dCall (noEr (dsp_p_law_pick K A)) (dN 2 (dCons (dVar 0) (dCons (dV (dLst (dCons (dC (.int 1)) (dCons (dUn D.neg (dC (.int 1))) (dCons (dC (.int 2)) (dCons (dUn D.neg (dC (.int 2))) dNil)))))) dNil))))) (dgName 3))
    (dSeq (dIfS (dNot (dTest (dChain D.le D.le (dC (.int 1)) (dVar 3) (dC (.int 255))))) (dRet (dCall (noEr (dsp_p_law_short K A)) (dN 1 (dCons (dVar 0) dNil)))) dNext)
    (dSeq (dIfS (dTest (dOp D.eq (dOp D.mod (dCB D.toInt (dCons (dVar 3) dNil)) (dC (.int 2))) (dC (.int 0)))) (dRet (dOp D.add (dSl (dVar 1) dNoP (dPart (dVar 2))) (dV (dLst (dCons (dVar 3) dNil))))) dNext)
    (dRet (dOp D.add (dOp D.add (dSl (dVar 1) dNoP (dPart (dVar 2))) (dV (dLst (dCons (dVar 3) dNil)))) (dSl (dCall (noEr (dsp_p_law_short K A)) (dN 1 (dCons (dVar 0) dNil))) (dPart (dUn D.neg (dC (.int 1)))) dNoP)))))))
def dsp_p_law_near (K : PySem.W.Frag) (A : Ads) : DSp := dBody 4 (body_p_law_near K A)
abbrev N_p_law_all : List Str := ["_law_ahead", "_law_low", "_law_high", "_law_some", "_law_number", "_law_one"]
theorem sc_p_law_all : FnScope N_p_law_all ["_law_ahead", "_law_low", "_law_high"] (defScope s_p_law_all) := ⟨rfl, rfl, rfl, by decide +kernel, rfl, by decide +kernel, by decide +kernel⟩
def body_p_law_all (K : PySem.W.Frag) (A : Ads) : DS := (dSeq (dAsg (dV (dLc (diRng3 (dC (.int 2)) (dC (.int 256)) (dC (.int 2))) (dgName 4) (fun ρ q _ => q true ρ) (dOp D.add (dVar 0) (dV (dLst (dCons (dVar 4) dNil)))) [4])) (dgName 3))
    (dRetF (dLc (diAny (dVar 3)) (dgName 5) (dAnd (dOr (dTest (dOp D.isN (dVar 1) (dC .non))) (dTest (dOp D.ltL (dVar 1) (dVar 5)))) (dOr (dTest (dOp D.isN (dVar 2) (dC .non))) (dTest (dOp D.ltL (dVar 5) (dVar 2))))) (dVar 5) [5])))
def dsp_p_law_all (K : PySem.W.Frag) (A : Ads) : DSp := dBodyF 6 (body_p_law_all K A)
abbrev N_p_law_can_begin : List Str := ["_law_ahead", "_law_low", "_law_high"]
theorem sc_p_law_can_begin : FnScope N_p_law_can_begin ["_law_ahead", "_law_low", "_law_high"] (defScope s_p_law_can_begin) := ⟨rfl, rfl, rfl, by decide +kernel, rfl, by decide +kernel, by decide +kernel⟩
def body_p_law_can_begin (K : PySem.W.Frag) (A : Ads) : DS := (dRet (dAndV (dOrV (dOp D.isN (dVar 1) (dC .non)) (dOp D.ltL (dVar 1) (dOp D.add (dVar 0) (dV (dLst (dCons (dC (.int 256)) dNil)))))) (dOrV (dOp D.isN (dVar 2) (dC .non)) (dOp D.ltL (dOp D.add (dVar 0) (dV (dLst (dCons (dC (.int 0)) dNil)))) (dVar 2)))))
def dsp_p_law_can_begin (K : PySem.W.Frag) (A : Ads) : DSp := dBody 3 (body_p_law_can_begin K A)
abbrev N_p_law_due : List Str := ["_law_low", "_law_high", "_law_count", "_law_found", "_law_beginnings", "_law_length", "_law_later", "_law_ahead", "_law_some", "_law_number", "_law_one"]
theorem sc_p_law_due : FnScope N_p_law_due ["_law_low", "_law_high", "_law_count"] (defScope s_p_law_due) := ⟨rfl, rfl, rfl, by decide +kernel, rfl, by decide +kernel, by decide +kernel⟩
def body_p_law_due (K : PySem.W.Frag) (A : Ads) : DS := (dSeq (dParOV 3 4 (dLst dNil) (dV (dLst (dCons (dV (dLst dNil)) dNil))))
    (dSeq (dFor (diRng1 (dC (.int 3))) (dgName 5) (dSeq (dOwn (dLst dNil) 6)
    (dSeq (dFor (diAny (dV (dList (dVar 4)))) (dgName 7) (dSeq (dDrop (dExtend 3 (dCallF (noEr (dsp_p_law_all K A)) (dN 3 (dCons (dVar 7) (dCons (dVar 0) (dCons (dVar 1) dNil)))))))
    (dSeq (dAsg (dV (dLc (diRng3 (dC (.int 1)) (dC (.int 256)) (dC (.int 2))) (dgName 9) (fun ρ q _ => q true ρ) (dOp D.add (dVar 7) (dV (dLst (dCons (dVar 9) dNil)))) [9])) (dgName 8))
    (dDrop (dExtend 6 (dLc (diAny (dVar 8)) (dgName 10) (dTruth (dCall (noEr (dsp_p_law_can_begin K A)) (dN 3 (dCons (dVar 10) (dCons (dVar 0) (dCons (dVar 1) dNil)))))) (dVar 10) [10]))))))
    (dSeq (dIfS (dTest (dOp D.ge (dCB D.len (dCons (dVar 3) dNil)) (dVar 2))) (dRet (dV (dSortD (dSl (dVar 3) dNoP (dPart (dVar 2)))))) dNext)
    (dFrz 6 (dAsg (dVar 6) (dgName 4)))))))
    (dRet (dC .non))))
def dsp_p_law_due (K : PySem.W.Frag) (A : Ads) : DSp := dBody 11 (body_p_law_due K A)
abbrev N_law : List Str := ["_law_script", "_law_cell", "_law_rng_here", "_law_turn", "_law_low", "_law_high", "_law_pair", "_law_count", "_law_due_here", "_law_found", "_law_one"]
theorem sc_law : FnScope N_law ["_law_script"] (defScope s_law) := ⟨rfl, rfl, rfl, by decide +kernel, rfl, by decide +kernel, by decide +kernel⟩
def body_law (K : PySem.W.Frag) (A : Ads) : DS := (dSeq (dFor (diAny (dSl (dOp D.add (dVar 0) (dV (dLst (dCons (dC (.int 0)) dNil)))) dNoP (dPart (dC (.int 3))))) (dgName 1) (dSeq (dOwn (dCallF (noEr (dsp_p_law_rng K A)) (dN 1 (dCons (dVar 1) dNil))) 2)
    (dFor (diRng1 (dC (.int 4))) (dgName 3) (dSeq (dAsg (dCall (noEr (dsp_p_law_short K A)) (dN 1 (dCons (dVar 2) dNil))) (dgName 4))
    (dSeq (dAsg (dCall (noEr (dsp_p_law_pick K A)) (dN 2 (dCons (dVar 2) (dCons (dV (dLst (dCons (dCall (noEr (dsp_p_law_near K A)) (dN 2 (dCons (dVar 2) (dCons (dVar 4) dNil)))) (dCons (dCall (noEr (dsp_p_law_near K A)) (dN 2 (dCons (dVar 2) (dCons (dVar 4) dNil)))) (dCons (dCall (noEr (dsp_p_law_short K A)) (dN 1 (dCons (dVar 2) dNil))) dNil))))) dNil)))) (dgName 5))
    (dSeq (dAsg (dIf (dTest (dOp D.eq (dVar 4) (dVar 5))) (dV (dLst (dCons (dC .non) (dCons (dC .non) dNil)))) (dV (dSortD (dV (dLst (dCons (dVar 4) (dCons (dVar 5) dNil))))))) (dgName 6))
    (dSeq (dAsg (dV (dLc (diAny (dVar 6)) (dgName 10) (fun ρ q _ => q true ρ) (dCall (noEr (dsp_p_law_pick K A)) (dN 2 (dCons (dVar 2) (dCons (dV (dLst (dCons (dVar 10) (dCons (dVar 10) (dCons (dVar 10) (dCons (dC .non) dNil)))))) dNil)))) [10])) (dgName 6))
    (dSeq (dAsg (dCall (noEr (dsp_p_law_pick K A)) (dN 2 (dCons (dVar 2) (dCons (dV (dLst (dCons (dC (.int 0)) (dCons (dC (.int 1)) (dCons (dC (.int 2)) (dCons (dC (.int 5)) (dCons (dCall (noEr (dsp_p_law_draw K A)) (dN 2 (dCons (dVar 2) (dCons (dC (.int 41)) dNil)))) dNil))))))) dNil)))) (dgName 7))
    (dSeq (dAsg (dCall (noEr (dsp_p_law_due K A)) (dN 3 (dCons (dOp D.ix (dVar 6) (dC (.int 0))) (dCons (dOp D.ix (dVar 6) (dC (.int 1))) (dCons (dVar 7) dNil))))) (dgName 8))
    (dSeq (dAsg (dV (dLc (diAny (dVar 6)) (dgName 10) (fun ρ q _ => q true ρ) (dIf (dTest (dOp D.isN (dVar 10) (dC .non))) (dC .non) (dCall (noEr (dsp_bytes_of K A)) (dN 1 (dCons (dVar 10) dNil)))) [10])) (dgSq 2 (dgCons (dgName 4) (dgCons (dgName 5) dgNil))))
    (dSeq (dAsg (dCall (noEr (dsp_labels_between K A)) (dN 3 (dCons (dVar 4) (dCons (dVar 5) (dCons (dVar 7) dNil))))) (dgName 9))
    (dIfS (dAnd (dTest (dOp D.isNotN (dVar 8) (dC .non))) (dTest (dOp D.neBL (dVar 9) (dV (dLc (diAny (dVar 8)) (dgName 10) (fun ρ q _ => q true ρ) (dCall (noEr (dsp_bytes_of K A)) (dN 1 (dCons (dVar 10) dNil))) [10]))))) (dRet (dC (.bl false))) dNext))))))))))))
    (dRet (dOp D.eqBL (dCall (noEr (dsp_labels_between K A)) (dN 3 (dCons (dC .non) (dCons (dC .non) (dCons (dC (.int 3)) dNil))))) (dV (dLst (dCons (dCall (noEr (dsp_bytes_of K A)) (dN 1 (dCons (dV (dLst (dCons (dC (.int 2)) dNil))) dNil))) (dCons (dCall (noEr (dsp_bytes_of K A)) (dN 1 (dCons (dV (dLst (dCons (dC (.int 4)) dNil))) dNil))) (dCons (dCall (noEr (dsp_bytes_of K A)) (dN 1 (dCons (dV (dLst (dCons (dC (.int 6)) dNil))) dNil))) dNil))))))))
def dsp_law (K : PySem.W.Frag) (A : Ads) : DSp := dBody 11 (body_law K A)
section
variable {P : Program} {w : World} {K : PySem.W.Frag} {mg : Str → Option Value} {base : Heap} {A : Ads}
theorem ok_is_integer (T : Txt K mg A) : FnOk P w K mg base CX0 1 A.a_is_integer A.d_is_integer ["x"] (SpV K 1 (dsp_is_integer K A)) :=
  T.F_is_integer.ok sc_is_integer (fun vs H Q E h => h.len) (fun cdv A' outer s H vs Q E hr h => ⟨_, (pss_one (ps_ret (pe_and (pe_callB call_isiX (by rfl) T.z_isinstance (by decide +kernel) (pa_cons (pv 0) (pa_cons (pe_bltn (v := .ty "int") (u := .type "int") (by rfl) T.z_int (by decide +kernel) rfl) pa_nil))) (pe_one (pe_not (pe_callB call_isiX (by rfl) T.z_isinstance (by decide +kernel) (pa_cons (pv 0) (pa_cons (pe_bltn (v := .ty "bool") (u := .type "bool") (by rfl) T.z_bool (by decide +kernel) rfl) pa_nil)))))))),
    bodyV (N := N_is_integer) (fun _ => (ss_ret (se_andV (se_isi T.isi T.ic se_var (se_c (fun _ => .ty "int"))) (se_notV (se_isi T.isi T.ic se_var (se_c (fun _ => .ty "bool"))))))) (by decide) h⟩)
theorem ok_is_sequence (T : Txt K mg A) : FnOk P w K mg base CX0 1 A.a_is_sequence A.d_is_sequence ["x"] (SpV K 1 (dsp_is_sequence K A)) :=
  T.F_is_sequence.ok sc_is_sequence (fun vs H Q E h => h.len) (fun cdv A' outer s H vs Q E hr h => ⟨_, (pss_one (ps_ret (pe_callB call_isiX (by rfl) T.z_isinstance (by decide +kernel) (pa_cons (pv 0) (pa_cons (pe_tup (pa_cons (pe_bltn (v := .ty "list") (u := .type "list") (by rfl) T.z_list (by decide +kernel) rfl) (pa_cons (pe_bltn (v := .ty "tuple") (u := .type "tuple") (by rfl) T.z_tuple (by decide +kernel) rfl) pa_nil))) pa_nil))))),
    bodyV (N := N_is_sequence) (fun _ => (ss_ret (se_isiT T.isi T.ic se_var (sa_cons (se_c (fun _ => .ty "list")) (sa_cons (se_c (fun _ => .ty "tuple")) sa_nil))))) (by decide) h⟩)
theorem ok_is_key (T : Txt K mg A) : FnOk P w K mg base CX0 1 A.a_is_key A.d_is_key ["x"] (SpV K 1 (dsp_is_key K A)) :=
  T.F_is_key.ok sc_is_key (fun vs H Q E h => h.len) (fun cdv A' outer s H vs Q E hr h => ⟨_, (pss_one (ps_ret (pe_and (pe_callB call_isiX (by rfl) T.z_isinstance (by decide +kernel) (pa_cons (pv 0) (pa_cons (pe_bltn (v := .ty "bytes") (u := .type "bytes") (by rfl) T.z_bytes (by decide +kernel) rfl) pa_nil))) (pe_and (pe_cmpR op_gtX (pe_callB call_lenX (by rfl) T.z_len (by decide +kernel) (pa_cons (pv 0) pa_nil)) pe_int (nomark _)) (pe_and (pe_cmpR op_notInB pe_int (pv 0) (by first | rfl | with_unfolding_all rfl)) (pe_one (pe_notT (pe_op op_andB (pe_ix ix_byt (pv 0) (pe_un un_negX pe_int) (fun _ _ => rfl)) pe_int)))))))),
    bodyV (N := N_is_key) (fun _ => (ss_ret (se_andV (se_isi T.isi T.ic se_var (se_c (fun _ => .ty "bytes"))) (se_andV (se_op sr_cmp (se_cb sc_len (sa_cons se_var sa_nil)) (se_c (fun _ => .int 0))) (se_andV (se_op sr_notInB (se_c (fun _ => .int 0)) se_var) (se_notT (se_op sr_band (se_op sr_ixB se_var (se_un su_neg (se_c (fun _ => .int 1)))) (se_c (fun _ => .int 1))))))))) (by decide) h⟩)
theorem ok_bytes_of (T : Txt K mg A) : FnOk P w K mg base CX0 2 A.a_bytes_of A.d_bytes_of ["numbers"] (SpV K 1 (dsp_bytes_of K A)) :=
  T.F_bytes_of.ok sc_bytes_of (fun vs H Q E h => h.len) (fun cdv A' outer s H vs Q E hr h => ⟨_, (pss_cons (ps_if (pt_not (pt_truth (pe_call (ok_is_sequence T) (hr.mono (by decide)) rfl T.g_is_sequence T.F_is_sequence.kp T.b_is_sequence .nil pass0 (pa_cons (pv 0) pa_nil)) (by intro _; rfl))) (pss_one ps_never) pss_nil)
      (pss_cons (ps_for PassesOwn.never rfl (pi_enumX (by rfl) T.z_enumerate (pa_cons (pv 0) pa_nil)) (pg_tup rfl (pgs_cons (pg_name (i := 1) sc_bytes_of.nd rfl (Or.inl rfl)) (pgs_cons (pg_name (i := 2) sc_bytes_of.nd rfl (Or.inl rfl)) pgs_nil))) (pss_one (ps_if (PW.pt (pw_or (pt_not (pt_truth (pe_call (ok_is_integer T) (hr.mono (by decide)) rfl T.g_is_integer T.F_is_integer.kp T.b_is_integer .nil pass0 (pa_cons (pv 2) pa_nil)) (by intro _; rfl))) (pw_or1 (pt_not (pt_chain op_leX op_leX pe_int (pv 2) (pe_glob rfl T.k_GREATEST_BYTE.1 T.k_GREATEST_BYTE.2)))))) (pss_one ps_never) pss_nil)))
      (pss_one (ps_ret (pe_callTy (call_toB rfl) (by rfl) T.z_bytes (by decide +kernel) (pa_cons (pv 0) pa_nil)))))),
    bodyV (N := N_bytes_of) (fun _ => (ss_seq (ss_if (st_not (st_truth (se_call (sa_cons se_var sa_nil)))) ss_never ss_next)
      (ss_seq (ss_for (si_enumX se_var) (sg_tup (sgs_cons sg_name (sgs_cons sg_name sgs_nil))) (ss_if (st_or (st_not (st_truth (se_call (sa_cons se_var sa_nil)))) (st_not (st_test (se_chain sr_cmp sr_cmp (se_c (fun _ => .int 0)) se_var (se_c fun _ => .int _))))) ss_never ss_next))
      (ss_ret (se_cb sc_toByt (sa_cons se_var sa_nil)))))) (by decide) h⟩)
theorem ok_p_is_label (T : Txt K mg A) : FnOk P w K mg base CX0 2 A.a_p_is_label A.d_p_is_label ["x"] (SpV K 1 (dsp_p_is_label K A)) :=
  T.F_p_is_label.ok sc_p_is_label (fun vs H Q E h => h.len) (fun cdv A' outer s H vs Q E hr h => ⟨_, (pss_cons (ps_if (PW.pt (pw_or (pt_not (pt_truth (pe_call (ok_is_key T) (hr.mono (by decide)) rfl T.g_is_key T.F_is_key.kp T.b_is_key .nil pass0 (pa_cons (pv 0) pa_nil)) (by intro _; rfl))) (pw_or1 (pt_cmpR op_gtX (pe_callB call_lenX (by rfl) T.z_len (by decide +kernel) (pa_cons (pv 0) pa_nil)) (pe_glob rfl T.k_LONGEST_LABEL.1 T.k_LONGEST_LABEL.2) (nomark _))))) (pss_one (ps_ret pe_bl)) pss_nil)
      (pss_one (ps_ret (pe_callB (call_allI rfl) (by rfl) T.z_all (by decide +kernel) (pa_cons (pe_lc (own := [("byte", 1)]) (by rfl) sc_p_is_label.nd (pi_byt (pe_slice sl_bytB (pv 0) po_none (po_some (pe_un un_negX pe_int)))) (blkOk_by (own := [("byte", 1)]) (N := N_p_is_label) (sc := defScope s_p_is_label) (by decide +kernel)) (fun _ _ _ _ _ => (pg_name (i := 1) sc_p_is_label.nd rfl (Or.inl rfl))) (fun _ _ _ _ _ => pts_nil) (fun _ _ _ _ _ => (pe_op op_andB (pv 1) pe_int))) pa_nil))))),
    bodyV (N := N_p_is_label) (fun _ => (ss_seq (ss_if (st_or (st_not (st_truth (se_call (sa_cons se_var sa_nil)))) (st_test (se_op sr_cmp (se_cb sc_len (sa_cons se_var sa_nil)) (se_c fun _ => .int _)))) (ss_ret (se_c (fun _ => .bl false))) ss_next)
      (ss_ret (se_cb sc_allI (sa_cons (se_new (sf_lc (vs := [1]) (by decide) (si_byt (se_slB se_var so_none (so_some (se_un su_neg (se_c (fun _ => .int 1)))))) sg_name st_yes (se_op sr_band se_var (se_c (fun _ => .int 1))))) sa_nil))))) (by decide) h⟩)
theorem ok_p_wrong_word (T : Txt K mg A) : FnOk P w K mg base CX0 3 A.a_p_wrong_word A.d_p_wrong_word ["low", "high", "count"] (SpV K 3 (dsp_p_wrong_word K A)) :=
  T.F_p_wrong_word.ok sc_p_wrong_word (fun vs H Q E h => h.len) (fun cdv A' outer s H vs Q E hr h => ⟨_, (pss_cons (ps_if (PW.pt (pw_and (pt_cmpR op_notNX (pv 0) pe_non (nomark _)) (pw_and1 (pt_not (pt_truth (pe_call (ok_p_is_label T) (hr.mono (by decide)) rfl T.g_p_is_label T.F_p_is_label.kp T.b_p_is_label .nil pass0 (pa_cons (pv 0) pa_nil)) (by intro _; rfl)))))) (pss_one (ps_ret pe_str)) pss_nil)
      (pss_cons (ps_if (PW.pt (pw_and (pt_cmpR op_notNX (pv 1) pe_non (nomark _)) (pw_and1 (pt_not (pt_truth (pe_call (ok_p_is_label T) (hr.mono (by decide)) rfl T.g_p_is_label T.F_p_is_label.kp T.b_p_is_label .nil pass0 (pa_cons (pv 1) pa_nil)) (by intro _; rfl)))))) (pss_one (ps_ret pe_str)) pss_nil)
      (pss_cons (ps_if (PW.pt (pw_and (pt_cmpR op_notNX (pv 0) pe_non (nomark _)) (pw_and (pt_cmpR op_notNX (pv 1) pe_non (nomark _)) (pw_and1 (pt_not (pt_cmpR op_lt_byt (pv 0) (pv 1) (nomark _))))))) (pss_one (ps_ret pe_str)) pss_nil)
      (pss_cons (ps_if (PW.pt (pw_or (pt_not (pt_truth (pe_call (ok_is_integer T) (hr.mono (by decide)) rfl T.g_is_integer T.F_is_integer.kp T.b_is_integer .nil pass0 (pa_cons (pv 2) pa_nil)) (by intro _; rfl))) (pw_or1 (pt_not (pt_chain op_leX op_leX pe_int (pv 2) (pe_glob rfl T.k_MOST_LABELS.1 T.k_MOST_LABELS.2)))))) (pss_one (ps_ret pe_str)) pss_nil)
      (pss_one (ps_ret pe_non)))))),
    bodyV (N := N_p_wrong_word) (fun _ => (ss_seq (ss_if (st_and (st_test (se_op sr_notN se_var (se_c (fun _ => .non)))) (st_not (st_truth (se_call (sa_cons se_var sa_nil))))) (ss_ret (se_c (fun _ => .str _))) ss_next)
      (ss_seq (ss_if (st_and (st_test (se_op sr_notN se_var (se_c (fun _ => .non)))) (st_not (st_truth (se_call (sa_cons se_var sa_nil))))) (ss_ret (se_c (fun _ => .str _))) ss_next)
      (ss_seq (ss_if (st_and (st_test (se_op sr_notN se_var (se_c (fun _ => .non)))) (st_and (st_test (se_op sr_notN se_var (se_c (fun _ => .non)))) (st_not (st_test (se_op sr_ltB se_var se_var))))) (ss_ret (se_c (fun _ => .str _))) ss_next)
      (ss_seq (ss_if (st_or (st_not (st_truth (se_call (sa_cons se_var sa_nil)))) (st_not (st_test (se_chain sr_cmp sr_cmp (se_c (fun _ => .int 0)) se_var (se_c fun _ => .int _))))) (ss_ret (se_c (fun _ => .str _))) ss_next)
      (ss_ret (se_c (fun _ => .non)))))))) (by decide) h⟩)
theorem ok_p_next_start (T : Txt K mg A) : FnOk P w K mg base CX0 1 A.a_p_next_start A.d_p_next_start ["start"] (SpV K 1 (dsp_p_next_start K A)) :=
  T.F_p_next_start.ok sc_p_next_start (fun vs H Q E h => h.len) (fun cdv A' outer s H vs Q E hr h => ⟨_, (pss_cons (ps_set (i := 1) sc_p_next_start.nd rfl (Or.inl rfl) (pe_rsB (pv 0) pe_byt))
      (pss_cons (ps_if (pt_cmpR (op_eqD hr.units) (pe_callB call_lenX (by rfl) T.z_len (by decide +kernel) (pa_cons (pv 1) pa_nil)) pe_int (nomark _)) (pss_one (ps_ret pe_non)) pss_nil)
      (pss_one (ps_ret (pe_op op_addB (pe_op op_addB (pe_slice sl_bytB (pv 1) po_none (po_some (pe_un un_negX pe_int))) (pe_callTy (call_toB rfl) (by rfl) T.z_bytes (by decide +kernel) (pa_cons (pe_lst (pa_cons (pe_op op_addX (pe_ix ix_byt (pv 1) (pe_un un_negX pe_int) (fun _ _ => rfl)) pe_int) pa_nil)) pa_nil))) (pe_op op_mulB pe_byt (pe_op op_subX (pe_callB call_lenX (by rfl) T.z_len (by decide +kernel) (pa_cons (pv 0) pa_nil)) (pe_callB call_lenX (by rfl) T.z_len (by decide +kernel) (pa_cons (pv 1) pa_nil))))))))),
    bodyV (N := N_p_next_start) (fun _ => (ss_seq (ss_asg (se_rsB se_var (se_c (fun _ => .byt _))) sg_name)
      (ss_seq (ss_if (st_test (se_op sr_eq (se_cb sc_len (sa_cons se_var sa_nil)) (se_c (fun _ => .int 0)))) (ss_ret (se_c (fun _ => .non))) ss_next)
      (ss_ret (se_op sr_addB (se_op sr_addB (se_slB se_var so_none (so_some (se_un su_neg (se_c (fun _ => .int 1))))) (se_cb sc_toByt (sa_cons (se_new (sf_lst (sa_cons (se_op sr_add (se_op sr_ixB se_var (se_un su_neg (se_c (fun _ => .int 1)))) (se_c (fun _ => .int 2))) sa_nil))) sa_nil))) (se_op sr_mulB (se_c (fun _ => .byt _)) (se_op sr_sub (se_cb sc_len (sa_cons se_var sa_nil)) (se_cb sc_len (sa_cons se_var sa_nil))))))))) (by decide) h⟩)
theorem ok_p_next_label (T : Txt K mg A) : FnOk P w K mg base CX0 2 A.a_p_next_label A.d_p_next_label ["low", "length"] (SpV K 2 (dsp_p_next_label K A)) :=
  T.F_p_next_label.ok sc_p_next_label (fun vs H Q E h => h.len) (fun cdv A' outer s H vs Q E hr h => ⟨_, (pss_cons (ps_if (pt_cmpR op_isNX (pv 0) pe_non (nomark _)) (pss_one (ps_ret (pe_op op_addB (pe_op op_mulB pe_byt (pe_op op_subX (pv 1) pe_int)) pe_byt))) pss_nil)
      (pss_cons (ps_if (pt_cmpR op_gtX (pv 1) (pe_callB call_lenX (by rfl) T.z_len (by decide +kernel) (pa_cons (pv 0) pa_nil)) (nomark _)) (pss_one (ps_ret (pe_op op_addB (pe_op op_addB (pe_op op_addB (pe_slice sl_bytB (pv 0) po_none (po_some (pe_un un_negX pe_int))) (pe_callTy (call_toB rfl) (by rfl) T.z_bytes (by decide +kernel) (pa_cons (pe_lst (pa_cons (pe_op op_addX (pe_ix ix_byt (pv 0) (pe_un un_negX pe_int) (fun _ _ => rfl)) pe_int) pa_nil)) pa_nil))) (pe_op op_mulB pe_byt (pe_op op_subX (pe_op op_subX (pv 1) (pe_callB call_lenX (by rfl) T.z_len (by decide +kernel) (pa_cons (pv 0) pa_nil))) pe_int))) pe_byt))) pss_nil)
      (pss_cons (ps_set (i := 2) sc_p_next_label.nd rfl (Or.inl rfl) (pe_ix ix_byt (pv 0) (pe_op op_subX (pv 1) pe_int) (fun _ _ => rfl)))
      (pss_cons (ps_set (i := 2) sc_p_next_label.nd rfl (Or.inl rfl) (pe_op op_subX (pe_op op_addX (pv 2) pe_int) (pe_op op_andB (pv 2) pe_int)))
      (pss_cons (ps_if (pt_cmpR op_leX (pv 2) (pe_glob rfl T.k_GREATEST_LAST.1 T.k_GREATEST_LAST.2) (nomark _)) (pss_one (ps_ret (pe_op op_addB (pe_slice sl_bytB (pv 0) po_none (po_some (pe_op op_subX (pv 1) pe_int))) (pe_callTy (call_toB rfl) (by rfl) T.z_bytes (by decide +kernel) (pa_cons (pe_lst (pa_cons (pv 2) pa_nil)) pa_nil))))) pss_nil)
      (pss_cons (ps_set (i := 3) sc_p_next_label.nd rfl (Or.inl rfl) (pe_call (ok_p_next_start T) (hr.mono (by decide)) rfl T.g_p_next_start T.F_p_next_start.kp T.b_p_next_start .nil pass0 (pa_cons (pe_slice sl_bytB (pv 0) po_none (po_some (pe_op op_subX (pv 1) pe_int))) pa_nil)))
      (pss_one (ps_ret (pe_ifExp (pt_cmpR op_isNX (pv 3) pe_non (nomark _)) pe_non (pe_op op_addB (pv 3) pe_byt)))))))))),
    bodyV (N := N_p_next_label) (fun _ => (ss_seq (ss_if (st_test (se_op sr_isN se_var (se_c (fun _ => .non)))) (ss_ret (se_op sr_addB (se_op sr_mulB (se_c (fun _ => .byt _)) (se_op sr_sub se_var (se_c (fun _ => .int 1)))) (se_c (fun _ => .byt _)))) ss_next)
      (ss_seq (ss_if (st_test (se_op sr_cmp se_var (se_cb sc_len (sa_cons se_var sa_nil)))) (ss_ret (se_op sr_addB (se_op sr_addB (se_op sr_addB (se_slB se_var so_none (so_some (se_un su_neg (se_c (fun _ => .int 1))))) (se_cb sc_toByt (sa_cons (se_new (sf_lst (sa_cons (se_op sr_add (se_op sr_ixB se_var (se_un su_neg (se_c (fun _ => .int 1)))) (se_c (fun _ => .int 1))) sa_nil))) sa_nil))) (se_op sr_mulB (se_c (fun _ => .byt _)) (se_op sr_sub (se_op sr_sub se_var (se_cb sc_len (sa_cons se_var sa_nil))) (se_c (fun _ => .int 1))))) (se_c (fun _ => .byt _)))) ss_next)
      (ss_seq (ss_asg (se_op sr_ixB se_var (se_op sr_sub se_var (se_c (fun _ => .int 1)))) sg_name)
      (ss_seq (ss_asg (se_op sr_sub (se_op sr_add se_var (se_c (fun _ => .int 2))) (se_op sr_band se_var (se_c (fun _ => .int 1)))) sg_name)
      (ss_seq (ss_if (st_test (se_op sr_cmp se_var (se_c fun _ => .int _))) (ss_ret (se_op sr_addB (se_slB se_var so_none (so_some (se_op sr_sub se_var (se_c (fun _ => .int 1))))) (se_cb sc_toByt (sa_cons (se_new (sf_lst (sa_cons se_var sa_nil))) sa_nil)))) ss_next)
      (ss_seq (ss_asg (se_call (sa_cons (se_slB se_var so_none (so_some (se_op sr_sub se_var (se_c (fun _ => .int 1))))) sa_nil)) sg_name)
      (ss_ret (se_if (st_test (se_op sr_isN se_var (se_c (fun _ => .non)))) (se_c (fun _ => .non)) (se_op sr_addB se_var (se_c (fun _ => .byt _)))))))))))) (by decide) h⟩)
theorem ok_first_labels (T : Txt K mg A) : FnOk P w K mg base CX0 3 A.a_first_labels A.d_first_labels ["low", "high", "count"] (SpV K 3 (dsp_first_labels K A)) :=
  T.F_first_labels.ok sc_first_labels (fun vs H Q E h => h.len) (fun cdv A' outer s H vs Q E hr h => ⟨_, (pss_cons (ps_set (i := 3) sc_first_labels.nd rfl (Or.inl rfl) (pe_lst pa_nil))
      (pss_cons (ps_set (i := 4) sc_first_labels.nd rfl (Or.inl rfl) pe_int)
      (pss_cons (ps_while PassesOwn.never (pt_cmpR op_ltX (pe_callB call_lenX (by rfl) T.z_len (by decide +kernel) (pa_cons (pv 3) pa_nil)) (pv 2) (nomark _)) (pss_cons (ps_set (i := 5) sc_first_labels.nd rfl (Or.inl rfl) (pe_call (ok_p_next_label T) (hr.mono (by decide)) rfl T.g_p_next_label T.F_p_next_label.kp T.b_p_next_label .nil pass0 (pa_cons (pv 0) (pa_cons (pv 4) pa_nil))))
      (pss_cons (ps_while PassesOwn.never (PW.pt (pw_and (pt_cmpR op_notNX (pv 5) pe_non (nomark _)) (pw_and (PW.pt (pw_or (pt_cmpR op_isNX (pv 1) pe_non (nomark _)) (pw_or1 (pt_cmpR op_lt_byt (pv 5) (pv 1) (nomark _))))) (pw_and1 (pt_cmpR op_ltX (pe_callB call_lenX (by rfl) T.z_len (by decide +kernel) (pa_cons (pv 3) pa_nil)) (pv 2) (nomark _)))))) (pss_cons (ps_expr (pe_bm PySem.F.plainAttrs_list PySem.F.slot_list_append PySem.F.type_list_append mt_append (pv 3) (pa_cons (pv 5) pa_nil)))
      (pss_one (ps_set (i := 5) sc_first_labels.nd rfl (Or.inl rfl) (pe_call (ok_p_next_label T) (hr.mono (by decide)) rfl T.g_p_next_label T.F_p_next_label.kp T.b_p_next_label .nil pass0 (pa_cons (pv 5) (pa_cons (pv 4) pa_nil)))))))
      (pss_one (ps_aug (i := 4) sc_first_labels.nd rfl (.inl rfl) pe_int ip_add)))))
      (pss_one (ps_ret (pe_callB call_sortB (by rfl) T.z_sorted (by decide +kernel) (pa_cons (pv 3) pa_nil))))))),
    bodyV (N := N_first_labels) (fun _ => (ss_seq (ss_own (sf_lst sa_nil))
      (ss_seq (ss_asg (se_c (fun _ => .int 1)) sg_name)
      (ss_seq (ss_while (st_test (se_op sr_cmp (se_cb sc_len (sa_cons se_var sa_nil)) se_var)) (ss_seq (ss_asg (se_call (sa_cons se_var (sa_cons se_var sa_nil))) sg_name)
      (ss_seq (ss_while (st_and (st_test (se_op sr_notN se_var (se_c (fun _ => .non)))) (st_and (st_or (st_test (se_op sr_isN se_var (se_c (fun _ => .non)))) (st_test (se_op sr_ltB se_var se_var))) (st_test (se_op sr_cmp (se_cb sc_len (sa_cons se_var sa_nil)) se_var)))) (ss_seq (ss_drop (se_append se_var))
      (ss_asg (se_call (sa_cons se_var (sa_cons se_var sa_nil))) sg_name)))
      (ss_aug sr_iadd (se_c (fun _ => .int 1))))))
      (ss_ret (se_new (sf_sortB se_var))))))) (by decide) h⟩)
theorem ok_labels_between (T : Txt K mg A) : FnOk P w K mg base CX0 4 A.a_labels_between A.d_labels_between ["low", "high", "count"] (SpV K 3 (dsp_labels_between K A)) :=
  T.F_labels_between.ok sc_labels_between (fun vs H Q E h => h.len) (fun cdv A' outer s H vs Q E hr h => ⟨_, (pss_cons (ps_set (i := 3) sc_labels_between.nd rfl (Or.inl rfl) (pe_call (ok_p_wrong_word T) (hr.mono (by decide)) rfl T.g_p_wrong_word T.F_p_wrong_word.kp T.b_p_wrong_word .nil pass0 (pa_cons (pv 0) (pa_cons (pv 1) (pa_cons (pv 2) pa_nil)))))
      (pss_cons (ps_if (pt_cmpR op_notNX (pv 3) pe_non (nomark _)) (pss_one ps_never) pss_nil)
      (pss_one (ps_ret (pe_call (ok_first_labels T) (hr.mono (by decide)) rfl T.g_first_labels T.F_first_labels.kp T.b_first_labels .nil pass0 (pa_cons (pv 0) (pa_cons (pv 1) (pa_cons (pv 2) pa_nil)))))))),
    bodyV (N := N_labels_between) (fun _ => (ss_seq (ss_asg (se_call (sa_cons se_var (sa_cons se_var (sa_cons se_var sa_nil)))) sg_name)
      (ss_seq (ss_if (st_test (se_op sr_notN se_var (se_c (fun _ => .non)))) ss_never ss_next)
      (ss_ret (se_call (sa_cons se_var (sa_cons se_var (sa_cons se_var sa_nil)))))))) (by decide) h⟩)
theorem ok_p_law_rng (T : Txt K mg A) : FnOk P w K mg base CX0 1 A.a_p_law_rng A.d_p_law_rng ["_law_cell"] (SpF K 1 (dsp_p_law_rng K A)) :=
  T.F_p_law_rng.ok sc_p_law_rng (fun vs H Q E h => h.len) (fun cdv A' outer s H vs Q E hr h => ⟨_, (pss_one (ps_ret (pe_lst (pa_cons (pe_callB call_absX (by rfl) T.z_abs (by decide +kernel) (pa_cons (pv 0) pa_nil)) (pa_cons (pe_op op_modX (pe_callTy call_intX (by rfl) T.z_int (by decide +kernel) (pa_cons (pv 0) pa_nil)) pe_int) (pa_cons pe_int pa_nil)))))),
    bodyF (N := N_p_law_rng) (fun _ => (ss_retF (sf_lst (sa_cons (se_cb sc_abs (sa_cons se_var sa_nil)) (sa_cons (se_op sr_mod (se_cb sc_int (sa_cons se_var sa_nil)) (se_c (fun _ => .int 2147483629))) (sa_cons (se_c (fun _ => .int 0)) sa_nil)))))) (by decide) h⟩)
theorem ok_p_law_draw (T : Txt K mg A) : FnOk P w K mg base CX0 1 A.a_p_law_draw A.d_p_law_draw ["_law_rng_here", "_law_limit"] (SpV K 2 (dsp_p_law_draw K A)) :=
  T.F_p_law_draw.ok sc_p_law_draw (fun vs H Q E h => h.len) (fun cdv A' outer s H vs Q E hr h => ⟨_, (pss_cons (ps_if (pt_cmpR op_geX (pe_ix ix_seq (pv 0) pe_int (fun _ _ => rfl)) (pe_op op_powX pe_int pe_int) (nomark _)) (pss_cons (ps_set (i := 2) sc_p_law_draw.nd rfl (Or.inl rfl) (pe_op op_modX (pe_callTy call_intX (by rfl) T.z_int (by decide +kernel) (pa_cons (pe_ix ix_seq (pv 0) pe_int (fun _ _ => rfl)) pa_nil)) (pv 1)))
      (pss_cons (ps_asg (pe_op op_divX (pe_ix ix_seq (pv 0) pe_int (fun _ _ => rfl)) (pv 1)) (pg_sub (pv 0) pe_int set_list))
      (pss_one (ps_ret (pv 2))))) pss_nil)
      (pss_cons (ps_asg (pe_op op_addX (pe_ix ix_seq (pv 0) pe_int (fun _ _ => rfl)) pe_int) (pg_sub (pv 0) pe_int set_list))
      (pss_cons (ps_set (i := 3) sc_p_law_draw.nd rfl (Or.inl rfl) (pe_op op_modX (pe_callTy call_intX (by rfl) T.z_int (by decide +kernel) (pa_cons (pe_op op_mulX (pe_op op_addX (pe_op op_addX (pe_ix ix_seq (pv 0) pe_int (fun _ _ => rfl)) (pe_op op_mulX pe_int (pe_ix ix_seq (pv 0) pe_int (fun _ _ => rfl)))) pe_int) pe_int) pa_nil)) pe_int))
      (pss_cons (ps_set (i := 3) sc_p_law_draw.nd rfl (Or.inl rfl) (pe_op op_modX (pe_callTy call_intX (by rfl) T.z_int (by decide +kernel) (pa_cons (pe_op op_mulX (pv 3) (pe_op op_addX (pe_op op_divX (pv 3) pe_int) pe_int)) pa_nil)) pe_int))
      (pss_one (ps_ret (pe_op op_modX (pe_callTy call_intX (by rfl) T.z_int (by decide +kernel) (pa_cons (pe_op op_modX (pe_callTy call_intX (by rfl) T.z_int (by decide +kernel) (pa_cons (pe_op op_addX (pe_op op_divX (pv 3) pe_int) (pe_op op_mulX (pe_op op_modX (pe_callTy call_intX (by rfl) T.z_int (by decide +kernel) (pa_cons (pv 3) pa_nil)) pe_int) pe_int)) pa_nil)) pe_int) pa_nil)) (pv 1)))))))),
    bodyV (N := N_p_law_draw) (fun _ => (ss_seq (ss_if (st_test (se_op sr_cmp (se_op sr_ix se_var (se_c (fun _ => .int 0))) (se_op sr_pow (se_c (fun _ => .int 10)) (se_c (fun _ => .int 18))))) (ss_seq (ss_asg (se_op sr_mod (se_cb sc_int (sa_cons (se_op sr_ix se_var (se_c (fun _ => .int 0))) sa_nil)) se_var) sg_name)
      (ss_seq (ss_setIx (se_c (fun _ => .int 0)) (se_op sr_fdiv (se_op sr_ix se_var (se_c (fun _ => .int 0))) se_var))
      (ss_ret se_var))) ss_next)
      (ss_seq (ss_setIx (se_c (fun _ => .int 2)) (se_op sr_add (se_op sr_ix se_var (se_c (fun _ => .int 2))) (se_c (fun _ => .int 1))))
      (ss_seq (ss_asg (se_op sr_mod (se_cb sc_int (sa_cons (se_op sr_mul (se_op sr_add (se_op sr_add (se_op sr_ix se_var (se_c (fun _ => .int 1))) (se_op sr_mul (se_c (fun _ => .int 7919)) (se_op sr_ix se_var (se_c (fun _ => .int 2))))) (se_c (fun _ => .int 1))) (se_c (fun _ => .int 48271))) sa_nil)) (se_c (fun _ => .int 2147483647))) sg_name)
      (ss_seq (ss_asg (se_op sr_mod (se_cb sc_int (sa_cons (se_op sr_mul se_var (se_op sr_add (se_op sr_fdiv se_var (se_c (fun _ => .int 1013))) (se_c (fun _ => .int 69621)))) sa_nil)) (se_c (fun _ => .int 2147483587))) sg_name)
      (ss_ret (se_op sr_mod (se_cb sc_int (sa_cons (se_op sr_mod (se_cb sc_int (sa_cons (se_op sr_add (se_op sr_fdiv se_var (se_c (fun _ => .int 7))) (se_op sr_mul (se_op sr_mod (se_cb sc_int (sa_cons se_var sa_nil)) (se_c (fun _ => .int 7919))) (se_c (fun _ => .int 40692)))) sa_nil)) (se_c (fun _ => .int 2147483399))) sa_nil)) se_var))))))) (by decide) h⟩)
theorem ok_p_law_pick (T : Txt K mg A) : FnOk P w K mg base CX0 2 A.a_p_law_pick A.d_p_law_pick ["_law_rng_here", "_law_items"] (SpV K 2 (dsp_p_law_pick K A)) :=
  T.F_p_law_pick.ok sc_p_law_pick (fun vs H Q E h => h.len) (fun cdv A' outer s H vs Q E hr h => ⟨_, (pss_one (ps_ret (pe_ix ix_seq (pv 1) (pe_call (ok_p_law_draw T) (hr.mono (by decide)) rfl T.g_p_law_draw T.F_p_law_draw.kp T.b_p_law_draw .nil pass0 (pa_cons (pv 0) (pa_cons (pe_callB call_lenX (by rfl) T.z_len (by decide +kernel) (pa_cons (pv 1) pa_nil)) pa_nil))) (fun _ _ => rfl)))),
    bodyV (N := N_p_law_pick) (fun _ => (ss_ret (se_op sr_ix se_var (se_call (sa_cons se_var (sa_cons (se_cb sc_len (sa_cons se_var sa_nil)) sa_nil)))))) (by decide) h⟩)
theorem ok_p_law_short (T : Txt K mg A) : FnOk P w K mg base CX0 3 A.a_p_law_short A.d_p_law_short ["_law_rng_here"] (SpV K 1 (dsp_p_law_short K A)) :=
  T.F_p_law_short.ok sc_p_law_short (fun vs H Q E h => h.len) (fun cdv A' outer s H vs Q E hr h => ⟨_, (pss_cons (ps_set (i := 1) sc_p_law_short.nd rfl (Or.inl rfl) (pe_call (ok_p_law_pick T) (hr.mono (by decide)) rfl T.g_p_law_pick T.F_p_law_pick.kp T.b_p_law_pick .nil pass0 (pa_cons (pv 0) (pa_cons (pe_lst (pa_cons pe_int (pa_cons pe_int (pa_cons pe_int (pa_cons pe_int (pa_cons pe_int pa_nil)))))) pa_nil))))
      (pss_cons (ps_setLc (i := 2) (own := [("_law_turn", 3)]) (by rfl) sc_p_law_short.nd rfl rfl (sw_true rfl rfl rfl (by decide +kernel)) (pi_range1 rfl T.z_range (pa_cons (pv 1) pa_nil)) (blkOk_by (own := [("_law_turn", 3)]) (N := N_p_law_short) (sc := defScope s_p_law_short) (by decide +kernel)) (fun _ _ _ _ _ => (pg_name (i := 3) sc_p_law_short.nd rfl (Or.inl rfl))) (fun _ _ _ _ _ => pts_nil) (fun _ _ _ _ _ => (pe_call (ok_p_law_pick T) (hr.mono (by decide)) rfl T.g_p_law_pick T.F_p_law_pick.kp T.b_p_law_pick .nil pass0 (pa_cons (pv 0) (pa_cons (pe_lst (pa_cons pe_int (pa_cons pe_int (pa_cons pe_int (pa_cons pe_int (pa_cons pe_int (pa_cons (pe_op op_addX (pe_op op_mulX pe_int (pe_call (ok_p_law_draw T) (hr.mono (by decide)) rfl T.g_p_law_draw T.F_p_law_draw.kp T.b_p_law_draw .nil pass0 (pa_cons (pv 0) (pa_cons pe_int pa_nil)))) pe_int) pa_nil))))))) pa_nil)))))
      (pss_one (ps_ret (pe_op op_addX (pv 2) (pe_lst (pa_cons (pe_call (ok_p_law_pick T) (hr.mono (by decide)) rfl T.g_p_law_pick T.F_p_law_pick.kp T.b_p_law_pick .nil pass0 (pa_cons (pv 0) (pa_cons (pe_lst (pa_cons pe_int (pa_cons pe_int (pa_cons pe_int (pa_cons pe_int (pa_cons pe_int (pa_cons (pe_op op_addX (pe_op op_mulX pe_int (pe_call (ok_p_law_draw T) (hr.mono (by decide)) rfl T.g_p_law_draw T.F_p_law_draw.kp T.b_p_law_draw .nil pass0 (pa_cons (pv 0) (pa_cons pe_int pa_nil)))) pe_int) pa_nil))))))) pa_nil))) pa_nil))))))),
    bodyV (N := N_p_law_short) (fun _ => (ss_seq (ss_asg (se_call (sa_cons se_var (sa_cons (se_new (sf_lst (sa_cons (se_c (fun _ => .int 0)) (sa_cons (se_c (fun _ => .int 0)) (sa_cons (se_c (fun _ => .int 1)) (sa_cons (se_c (fun _ => .int 1)) (sa_cons (se_c (fun _ => .int 2)) sa_nil))))))) sa_nil))) sg_name)
      (ss_seq (ss_asg (se_new (sf_lc (vs := [3]) (by decide) (si_rng1 se_var) sg_name st_yes (se_call (sa_cons se_var (sa_cons (se_new (sf_lst (sa_cons (se_c (fun _ => .int 1)) (sa_cons (se_c (fun _ => .int 3)) (sa_cons (se_c (fun _ => .int 125)) (sa_cons (se_c (fun _ => .int 253)) (sa_cons (se_c (fun _ => .int 255)) (sa_cons (se_op sr_add (se_op sr_mul (se_c (fun _ => .int 2)) (se_call (sa_cons se_var (sa_cons (se_c (fun _ => .int 128)) sa_nil)))) (se_c (fun _ => .int 1))) sa_nil)))))))) sa_nil))))) sg_name)
      (ss_ret (se_op sr_add se_var (se_new (sf_lst (sa_cons (se_call (sa_cons se_var (sa_cons (se_new (sf_lst (sa_cons (se_c (fun _ => .int 2)) (sa_cons (se_c (fun _ => .int 4)) (sa_cons (se_c (fun _ => .int 126)) (sa_cons (se_c (fun _ => .int 252)) (sa_cons (se_c (fun _ => .int 254)) (sa_cons (se_op sr_add (se_op sr_mul (se_c (fun _ => .int 2)) (se_call (sa_cons se_var (sa_cons (se_c (fun _ => .int 127)) sa_nil)))) (se_c (fun _ => .int 2))) sa_nil)))))))) sa_nil))) sa_nil)))))))) (by decide) h⟩)
theorem ok_p_law_near (T : Txt K mg A) : FnOk P w K mg base CX0 4 A.a_p_law_near A.d_p_law_near ["_law_rng_here", "_law_label"] (SpV K 2 (dsp_p_law_near K A)) :=
  T.F_p_law_near.ok sc_p_law_near (fun vs H Q E h => h.len) (fun cdv A' outer s H vs Q E hr h => ⟨_, (pss_cons (ps_set (i := 2) sc_p_law_near.nd rfl (Or.inl rfl) (pe_call (ok_p_law_draw T) (hr.mono (by decide)) rfl T.g_p_law_draw T.F_p_law_draw.kp T.b_p_law_draw .nil pass0 (pa_cons (pv 0) (pa_cons (pe_callB call_lenX (by rfl) T.z_len (by decide +kernel) (pa_cons (pv 1) pa_nil)) pa_nil))))
      (pss_cons (ps_set (i := 3) sc_p_law_near.nd rfl (Or.inl rfl) (pe_op op_addX (pe_ix ix_seq (pv 1) (pv 2) (fun _ _ => rfl)) (pe_call (ok_p_law_pick T) (hr.mono (by decide)) rfl T.g_p_law_pick T.F_p_law_pick.kp T.b_p_law_pick .nil pass0 (pa_cons (pv 0) (pa_cons (pe_lst (pa_cons pe_int (pa_cons (pe_un un_negX pe_int) (pa_cons pe_int (pa_cons (pe_un un_negX pe_int) pa_nil))))) pa_nil)))))
      (pss_cons (ps_if (pt_not (pt_chain op_leX op_leX pe_int (pv 3) pe_int)) (pss_one (ps_ret (pe_call (ok_p_law_short T) (hr.mono (by decide)) rfl T.g_p_law_short T.F_p_law_short.kp T.b_p_law_short .nil pass0 (pa_cons (pv 0) pa_nil)))) pss_nil)
      (pss_cons (ps_if (pt_cmpR (op_eqD hr.units) (pe_op op_modX (pe_callTy call_intX (by rfl) T.z_int (by decide +kernel) (pa_cons (pv 3) pa_nil)) pe_int) pe_int (nomark _)) (pss_one (ps_ret (pe_op op_addX (pe_slice sl_any (pv 1) po_none (po_some (pv 2))) (pe_lst (pa_cons (pv 3) pa_nil))))) pss_nil)
      (pss_one (ps_ret (pe_op op_addX (pe_op op_addX (pe_slice sl_any (pv 1) po_none (po_some (pv 2))) (pe_lst (pa_cons (pv 3) pa_nil))) (pe_slice sl_any (pe_call (ok_p_law_short T) (hr.mono (by decide)) rfl T.g_p_law_short T.F_p_law_short.kp T.b_p_law_short .nil pass0 (pa_cons (pv 0) pa_nil)) (po_some (pe_un un_negX pe_int)) po_none)))))))),
    bodyV (N := N_p_law_near) (fun _ => (ss_seq (ss_asg (se_call (sa_cons se_var (sa_cons (se_cb sc_len (sa_cons se_var sa_nil)) sa_nil))) sg_name)
      (ss_seq (ss_asg (se_op sr_add (se_op sr_ix se_var se_var) (se_call (sa_cons se_var (sa_cons (se_new (sf_lst (sa_cons (se_c (fun _ => .int 1)) (sa_cons (se_un su_neg (se_c (fun _ => .int 1))) (sa_cons (se_c (fun _ => .int 2)) (sa_cons (se_un su_neg (se_c (fun _ => .int 2))) sa_nil)))))) sa_nil)))) sg_name)
      (ss_seq (ss_if (st_not (st_test (se_chain sr_cmp sr_cmp (se_c (fun _ => .int 1)) se_var (se_c (fun _ => .int 255))))) (ss_ret (se_call (sa_cons se_var sa_nil))) ss_next)
      (ss_seq (ss_if (st_test (se_op sr_eq (se_op sr_mod (se_cb sc_int (sa_cons se_var sa_nil)) (se_c (fun _ => .int 2))) (se_c (fun _ => .int 0)))) (ss_ret (se_op sr_add (se_sl se_var so_none (so_some se_var)) (se_new (sf_lst (sa_cons se_var sa_nil))))) ss_next)
      (ss_ret (se_op sr_add (se_op sr_add (se_sl se_var so_none (so_some se_var)) (se_new (sf_lst (sa_cons se_var sa_nil)))) (se_sl (se_call (sa_cons se_var sa_nil)) (so_some (se_un su_neg (se_c (fun _ => .int 1)))) so_none)))))))) (by decide) h⟩)
theorem ok_p_law_all (T : Txt K mg A) : FnOk P w K mg base CX0 1 A.a_p_law_all A.d_p_law_all ["_law_ahead", "_law_low", "_law_high"] (SpF K 3 (dsp_p_law_all K A)) :=
  T.F_p_law_all.ok sc_p_law_all (fun vs H Q E h => h.len) (fun cdv A' outer s H vs Q E hr h => ⟨_, (pss_cons (ps_setLc (i := 3) (own := [("_law_number", 4)]) (by rfl) sc_p_law_all.nd rfl rfl (sw_true rfl rfl rfl (by decide +kernel)) (pi_range3 rfl T.z_range (pa_cons pe_int (pa_cons pe_int (pa_cons pe_int pa_nil)))) (blkOk_by (own := [("_law_number", 4)]) (N := N_p_law_all) (sc := defScope s_p_law_all) (by decide +kernel)) (fun _ _ _ _ _ => (pg_name (i := 4) sc_p_law_all.nd rfl (Or.inl rfl))) (fun _ _ _ _ _ => pts_nil) (fun _ _ _ _ _ => (pe_op op_addX (pv 0) (pe_lst (pa_cons (pv 4) pa_nil)))))
      (pss_one (ps_ret (pe_lc (own := [("_law_one", 5)]) (by rfl) sc_p_law_all.nd (pi_any (pv 3)) (blkOk_by (own := [("_law_one", 5)]) (N := N_p_law_all) (sc := defScope s_p_law_all) (by decide +kernel)) (fun _ _ _ _ _ => (pg_name (i := 5) sc_p_law_all.nd rfl (Or.inl rfl))) (fun _ _ _ _ _ => pts_one (PW.pt (pw_and (PW.pt (pw_or (pt_cmpR op_isNX (pv 1) pe_non (nomark _)) (pw_or1 (pt_cmpR (op_ltD (hu65 hr)) (pv 1) (pv 5) (nomark _))))) (pw_and1 (PW.pt (pw_or (pt_cmpR op_isNX (pv 2) pe_non (nomark _)) (pw_or1 (pt_cmpR (op_ltD (hu65 hr)) (pv 5) (pv 2) (nomark _))))))))) (fun _ _ _ _ _ => (pv 5)))))),
    bodyF (N := N_p_law_all) (fun _ => (ss_seq (ss_asg (se_new (sf_lc (vs := [4]) (by decide) (si_rng3 (se_c (fun _ => .int 2)) (se_c (fun _ => .int 256)) (se_c (fun _ => .int 2))) sg_name st_yes (se_op sr_add se_var (se_new (sf_lst (sa_cons se_var sa_nil)))))) sg_name)
      (ss_retF (sf_lc (vs := [5]) (by decide) (si_any se_var) sg_name (st_and (st_or (st_test (se_op sr_isN se_var (se_c (fun _ => .non)))) (st_test (se_op sr_ltL se_var se_var))) (st_or (st_test (se_op sr_isN se_var (se_c (fun _ => .non)))) (st_test (se_op sr_ltL se_var se_var)))) se_var)))) (by decide) h⟩)
theorem ok_p_law_can_begin (T : Txt K mg A) : FnOk P w K mg base CX0 1 A.a_p_law_can_begin A.d_p_law_can_begin ["_law_ahead", "_law_low", "_law_high"] (SpV K 3 (dsp_p_law_can_begin K A)) :=
  T.F_p_law_can_begin.ok sc_p_law_can_begin (fun vs H Q E h => h.len) (fun cdv A' outer s H vs Q E hr h => ⟨_, (pss_one (ps_ret (pe_and (pe_or (pe_cmpR op_isNX (pv 1) pe_non (nomark _)) (pe_one (pe_cmpR (op_ltD (hu65 hr)) (pv 1) (pe_op op_addX (pv 0) (pe_lst (pa_cons pe_int pa_nil))) (nomark _)))) (pe_one (pe_or (pe_cmpR op_isNX (pv 2) pe_non (nomark _)) (pe_one (pe_cmpR (op_ltD (hu65 hr)) (pe_op op_addX (pv 0) (pe_lst (pa_cons pe_int pa_nil))) (pv 2) (nomark _)))))))),
    bodyV (N := N_p_law_can_begin) (fun _ => (ss_ret (se_andV (se_orV (se_op sr_isN se_var (se_c (fun _ => .non))) (se_op sr_ltL se_var (se_op sr_add se_var (se_new (sf_lst (sa_cons (se_c (fun _ => .int 256)) sa_nil)))))) (se_orV (se_op sr_isN se_var (se_c (fun _ => .non))) (se_op sr_ltL (se_op sr_add se_var (se_new (sf_lst (sa_cons (se_c (fun _ => .int 0)) sa_nil)))) se_var))))) (by decide) h⟩)
theorem ok_p_law_due (T : Txt K mg A) : FnOk P w K mg base CX0 2 A.a_p_law_due A.d_p_law_due ["_law_low", "_law_high", "_law_count"] (SpV K 3 (dsp_p_law_due K A)) :=
  T.F_p_law_due.ok sc_p_law_due (fun vs H Q E h => h.len) (fun cdv A' outer s H vs Q E hr h => ⟨_, (pss_cons (ps_par (i := 3) (j := 4) (by rfl) sc_p_law_due.nd rfl rfl (by decide) rfl rfl (pa_cons (pe_lst pa_nil) (pa_cons (pe_lst (pa_cons (pe_lst pa_nil) pa_nil)) pa_nil)) (by rfl))
      (pss_cons (ps_for PassesOwn.never rfl (pi_range1 rfl T.z_range (pa_cons pe_int pa_nil)) (pg_name (i := 5) sc_p_law_due.nd rfl (Or.inl rfl)) (pss_cons (ps_set (i := 6) sc_p_law_due.nd rfl (Or.inl rfl) (pe_lst pa_nil))
      (pss_cons (ps_for PassesOwn.never rfl (pi_any (pe_callTy call_listX (by rfl) T.z_list (by decide +kernel) (pa_cons (pv 4) pa_nil))) (pg_name (i := 7) sc_p_law_due.nd rfl (Or.inr rfl)) (pss_cons (ps_expr (pe_bm PySem.F.plainAttrs_list PySem.F.slot_list_extend PySem.F.type_list_extend mt_extend (pv 3) (pa_cons (pe_call (ok_p_law_all T) (hr.mono (by decide)) rfl T.g_p_law_all T.F_p_law_all.kp T.b_p_law_all .nil pass0 (pa_cons (pv 7) (pa_cons (pv 0) (pa_cons (pv 1) pa_nil)))) pa_nil)))
      (pss_cons (ps_setLc (i := 8) (own := [("_law_number", 9)]) (by rfl) sc_p_law_due.nd rfl rfl (sw_true rfl rfl rfl (by decide +kernel)) (pi_range3 rfl T.z_range (pa_cons pe_int (pa_cons pe_int (pa_cons pe_int pa_nil)))) (blkOk_by (own := [("_law_number", 9)]) (N := N_p_law_due) (sc := defScope s_p_law_due) (by decide +kernel)) (fun _ _ _ _ _ => (pg_name (i := 9) sc_p_law_due.nd rfl (Or.inl rfl))) (fun _ _ _ _ _ => pts_nil) (fun _ _ _ _ _ => (pe_op op_addX (pv 7) (pe_lst (pa_cons (pv 9) pa_nil)))))
      (pss_one (ps_expr (pe_bm PySem.F.plainAttrs_list PySem.F.slot_list_extend PySem.F.type_list_extend mt_extend (pv 6) (pa_cons (pe_lc (own := [("_law_one", 10)]) (by rfl) sc_p_law_due.nd (pi_any (pv 8)) (blkOk_by (own := [("_law_one", 10)]) (N := N_p_law_due) (sc := defScope s_p_law_due) (by decide +kernel)) (fun _ _ _ _ _ => (pg_name (i := 10) sc_p_law_due.nd rfl (Or.inl rfl))) (fun _ _ _ _ _ => pts_one (pt_truth (pe_call (ok_p_law_can_begin T) (hr.mono (by decide)) (by rfl) T.g_p_law_can_begin T.F_p_law_can_begin.kp T.b_p_law_can_begin .nil pass0 (pa_cons (pv 10) (pa_cons (pv 0) (pa_cons (pv 1) pa_nil)))) (by intro _; rfl))) (fun _ _ _ _ _ => (pv 10))) pa_nil)))))))
      (pss_cons (ps_if (pt_cmpR op_geX (pe_callB call_lenX (by rfl) T.z_len (by decide +kernel) (pa_cons (pv 3) pa_nil)) (pv 2) (nomark _)) (pss_one (ps_ret (pe_callB (call_sortD (hu65 hr)) (by rfl) T.z_sorted (by decide +kernel) (pa_cons (pe_slice sl_any (pv 3) po_none (po_some (pv 2))) pa_nil)))) pss_nil)
      (pss_one (ps_set (i := 4) sc_p_law_due.nd rfl (Or.inl rfl) (pv 6)))))))
      (pss_one (ps_ret pe_non)))),
    bodyV (N := N_p_law_due) (fun _ => (ss_seq (ss_parOV (sf_lst sa_nil) (se_new (sf_lst (sa_cons (se_new (sf_lst sa_nil)) sa_nil))))
      (ss_seq (ss_for (si_rng1 (se_c (fun _ => .int 3))) sg_name (ss_seq (ss_own (sf_lst sa_nil))
      (ss_seq (ss_for (si_any (se_new (sf_list se_var))) sg_name (ss_seq (ss_drop (se_extend (sf_call (sa_cons se_var (sa_cons se_var (sa_cons se_var sa_nil))))))
      (ss_seq (ss_asg (se_new (sf_lc (vs := [9]) (by decide) (si_rng3 (se_c (fun _ => .int 1)) (se_c (fun _ => .int 256)) (se_c (fun _ => .int 2))) sg_name st_yes (se_op sr_add se_var (se_new (sf_lst (sa_cons se_var sa_nil)))))) sg_name)
      (ss_drop (se_extend (sf_lc (vs := [10]) (by decide) (si_any se_var) sg_name (st_truth (se_call (sa_cons se_var (sa_cons se_var (sa_cons se_var sa_nil))))) se_var))))))
      (ss_seq (ss_if (st_test (se_op sr_cmp (se_cb sc_len (sa_cons se_var sa_nil)) se_var)) (ss_ret (se_new (sf_sortD (se_sl se_var so_none (so_some se_var))))) ss_next)
      (ss_frz (i := 6) (ss_asg se_var sg_name))))))
      (ss_ret (se_c (fun _ => .non)))))) (by decide) h⟩)
theorem ok_law (T : Txt K mg A) : FnOk P w K mg base CX0 5 A.a_law A.d_law ["_law_script"] (SpV K 1 (dsp_law K A)) :=
  T.F_law.ok sc_law (fun vs H Q E h => h.len) (fun cdv A' outer s H vs Q E hr h => ⟨_, (pss_cons (ps_for PassesOwn.never rfl (pi_any (pe_slice sl_any (pe_op op_addX (pv 0) (pe_lst (pa_cons pe_int pa_nil))) po_none (po_some pe_int))) (pg_name (i := 1) sc_law.nd rfl (Or.inl rfl)) (pss_cons (ps_set (i := 2) sc_law.nd rfl (Or.inr rfl) (pe_call (ok_p_law_rng T) (hr.mono (by decide)) rfl T.g_p_law_rng T.F_p_law_rng.kp T.b_p_law_rng .nil pass0 (pa_cons (pv 1) pa_nil)))
      (pss_one (ps_for PassesOwn.never rfl (pi_range1 rfl T.z_range (pa_cons pe_int pa_nil)) (pg_name (i := 3) sc_law.nd rfl (Or.inl rfl)) (pss_cons (ps_set (i := 4) sc_law.nd rfl (Or.inl rfl) (pe_call (ok_p_law_short T) (hr.mono (by decide)) rfl T.g_p_law_short T.F_p_law_short.kp T.b_p_law_short .nil pass0 (pa_cons (pv 2) pa_nil)))
      (pss_cons (ps_set (i := 5) sc_law.nd rfl (Or.inl rfl) (pe_call (ok_p_law_pick T) (hr.mono (by decide)) rfl T.g_p_law_pick T.F_p_law_pick.kp T.b_p_law_pick .nil pass0 (pa_cons (pv 2) (pa_cons (pe_lst (pa_cons (pe_call (ok_p_law_near T) (hr.mono (by decide)) rfl T.g_p_law_near T.F_p_law_near.kp T.b_p_law_near .nil pass0 (pa_cons (pv 2) (pa_cons (pv 4) pa_nil))) (pa_cons (pe_call (ok_p_law_near T) (hr.mono (by decide)) rfl T.g_p_law_near T.F_p_law_near.kp T.b_p_law_near .nil pass0 (pa_cons (pv 2) (pa_cons (pv 4) pa_nil))) (pa_cons (pe_call (ok_p_law_short T) (hr.mono (by decide)) rfl T.g_p_law_short T.F_p_law_short.kp T.b_p_law_short .nil pass0 (pa_cons (pv 2) pa_nil)) pa_nil)))) pa_nil))))
      (pss_cons (ps_set (i := 6) sc_law.nd rfl (Or.inl rfl) (pe_ifExp (pt_cmpR (op_eqD hr.units) (pv 4) (pv 5) (nomark _)) (pe_lst (pa_cons pe_non (pa_cons pe_non pa_nil))) (pe_callB (call_sortD (hu65 hr)) (by rfl) T.z_sorted (by decide +kernel) (pa_cons (pe_lst (pa_cons (pv 4) (pa_cons (pv 5) pa_nil))) pa_nil))))
      (pss_cons (ps_setLc (i := 6) (own := [("_law_one", 10)]) (by rfl) sc_law.nd rfl rfl (sw_true rfl rfl rfl (by decide +kernel)) (pi_any (pv 6)) (blkOk_by (own := [("_law_one", 10)]) (N := N_law) (sc := defScope s_law) (by decide +kernel)) (fun _ _ _ _ _ => (pg_name (i := 10) sc_law.nd rfl (Or.inl rfl))) (fun _ _ _ _ _ => pts_nil) (fun _ _ _ _ _ => (pe_call (ok_p_law_pick T) (hr.mono (by decide)) rfl T.g_p_law_pick T.F_p_law_pick.kp T.b_p_law_pick .nil pass0 (pa_cons (pv 2) (pa_cons (pe_lst (pa_cons (pv 10) (pa_cons (pv 10) (pa_cons (pv 10) (pa_cons pe_non pa_nil))))) pa_nil)))))
      (pss_cons (ps_set (i := 7) sc_law.nd rfl (Or.inl rfl) (pe_call (ok_p_law_pick T) (hr.mono (by decide)) rfl T.g_p_law_pick T.F_p_law_pick.kp T.b_p_law_pick .nil pass0 (pa_cons (pv 2) (pa_cons (pe_lst (pa_cons pe_int (pa_cons pe_int (pa_cons pe_int (pa_cons pe_int (pa_cons (pe_call (ok_p_law_draw T) (hr.mono (by decide)) rfl T.g_p_law_draw T.F_p_law_draw.kp T.b_p_law_draw .nil pass0 (pa_cons (pv 2) (pa_cons pe_int pa_nil))) pa_nil)))))) pa_nil))))
      (pss_cons (ps_set (i := 8) sc_law.nd rfl (Or.inl rfl) (pe_call (ok_p_law_due T) (hr.mono (by decide)) rfl T.g_p_law_due T.F_p_law_due.kp T.b_p_law_due .nil pass0 (pa_cons (pe_ix ix_seq (pv 6) pe_int (fun _ _ => rfl)) (pa_cons (pe_ix ix_seq (pv 6) pe_int (fun _ _ => rfl)) (pa_cons (pv 7) pa_nil)))))
      (pss_cons (ps_asg (pe_lc (own := [("_law_one", 10)]) (by rfl) sc_law.nd (pi_any (pv 6)) (blkOk_by (own := [("_law_one", 10)]) (N := N_law) (sc := defScope s_law) (by decide +kernel)) (fun _ _ _ _ _ => (pg_name (i := 10) sc_law.nd rfl (Or.inl rfl))) (fun _ _ _ _ _ => pts_nil) (fun _ _ _ _ _ => (pe_ifExp (pt_cmpR op_isNX (pv 10) pe_non (nomark _)) pe_non (pe_call (ok_bytes_of T) (hr.mono (by decide)) rfl T.g_bytes_of T.F_bytes_of.kp T.b_bytes_of .nil pass0 (pa_cons (pv 10) pa_nil))))) (pg_sq (pg_tup rfl (pgs_cons (pg_name (i := 4) sc_law.nd rfl (Or.inl rfl)) (pgs_cons (pg_name (i := 5) sc_law.nd rfl (Or.inl rfl)) pgs_nil))) (pg_lst rfl (pgs_cons (pg_name (i := 4) sc_law.nd rfl (Or.inl rfl)) (pgs_cons (pg_name (i := 5) sc_law.nd rfl (Or.inl rfl)) pgs_nil)))))
      (pss_cons (ps_set (i := 9) sc_law.nd rfl (Or.inl rfl) (pe_call (ok_labels_between T) (hr.mono (by decide)) rfl T.g_labels_between T.F_labels_between.kp T.b_labels_between .nil pass0 (pa_cons (pv 4) (pa_cons (pv 5) (pa_cons (pv 7) pa_nil)))))
      (pss_one (ps_if (PW.pt (pw_and (pt_cmpR op_notNX (pv 8) pe_non (nomark _)) (pw_and1 (pt_cmpR (op_neBL hr.units) (pv 9) (pe_lc (own := [("_law_one", 10)]) (by rfl) sc_law.nd (pi_any (pv 8)) (blkOk_by (own := [("_law_one", 10)]) (N := N_law) (sc := defScope s_law) (by decide +kernel)) (fun _ _ _ _ _ => (pg_name (i := 10) sc_law.nd rfl (Or.inl rfl))) (fun _ _ _ _ _ => pts_nil) (fun _ _ _ _ _ => (pe_call (ok_bytes_of T) (hr.mono (by decide)) rfl T.g_bytes_of T.F_bytes_of.kp T.b_bytes_of .nil pass0 (pa_cons (pv 10) pa_nil)))) (nomark _))))) (pss_one (ps_ret pe_bl)) pss_nil))))))))))))))
      (pss_one (ps_ret (pe_cmpR (op_eqBL hr.units) (pe_call (ok_labels_between T) (hr.mono (by decide)) rfl T.g_labels_between T.F_labels_between.kp T.b_labels_between .nil pass0 (pa_cons pe_non (pa_cons pe_non (pa_cons pe_int pa_nil)))) (pe_lst (pa_cons (pe_call (ok_bytes_of T) (hr.mono (by decide)) rfl T.g_bytes_of T.F_bytes_of.kp T.b_bytes_of .nil pass0 (pa_cons (pe_lst (pa_cons pe_int pa_nil)) pa_nil)) (pa_cons (pe_call (ok_bytes_of T) (hr.mono (by decide)) rfl T.g_bytes_of T.F_bytes_of.kp T.b_bytes_of .nil pass0 (pa_cons (pe_lst (pa_cons pe_int pa_nil)) pa_nil)) (pa_cons (pe_call (ok_bytes_of T) (hr.mono (by decide)) rfl T.g_bytes_of T.F_bytes_of.kp T.b_bytes_of .nil pass0 (pa_cons (pe_lst (pa_cons pe_int pa_nil)) pa_nil)) pa_nil)))) (nomark _))))),
    bodyV (N := N_law) (fun _ => (ss_seq (ss_for (si_any (se_sl (se_op sr_add se_var (se_new (sf_lst (sa_cons (se_c (fun _ => .int 0)) sa_nil)))) so_none (so_some (se_c (fun _ => .int 3))))) sg_name (ss_seq (ss_own (sf_call (sa_cons se_var sa_nil)))
      (ss_for (si_rng1 (se_c (fun _ => .int 4))) sg_name (ss_seq (ss_asg (se_call (sa_cons se_var sa_nil)) sg_name)
      (ss_seq (ss_asg (se_call (sa_cons se_var (sa_cons (se_new (sf_lst (sa_cons (se_call (sa_cons se_var (sa_cons se_var sa_nil))) (sa_cons (se_call (sa_cons se_var (sa_cons se_var sa_nil))) (sa_cons (se_call (sa_cons se_var sa_nil)) sa_nil))))) sa_nil))) sg_name)
      (ss_seq (ss_asg (se_if (st_test (se_op sr_eq se_var se_var)) (se_new (sf_lst (sa_cons (se_c (fun _ => .non)) (sa_cons (se_c (fun _ => .non)) sa_nil)))) (se_new (sf_sortD (se_new (sf_lst (sa_cons se_var (sa_cons se_var sa_nil))))))) sg_name)
      (ss_seq (ss_asg (se_new (sf_lc (vs := [10]) (by decide) (si_any se_var) sg_name st_yes (se_call (sa_cons se_var (sa_cons (se_new (sf_lst (sa_cons se_var (sa_cons se_var (sa_cons se_var (sa_cons (se_c (fun _ => .non)) sa_nil)))))) sa_nil))))) sg_name)
      (ss_seq (ss_asg (se_call (sa_cons se_var (sa_cons (se_new (sf_lst (sa_cons (se_c (fun _ => .int 0)) (sa_cons (se_c (fun _ => .int 1)) (sa_cons (se_c (fun _ => .int 2)) (sa_cons (se_c (fun _ => .int 5)) (sa_cons (se_call (sa_cons se_var (sa_cons (se_c (fun _ => .int 41)) sa_nil))) sa_nil))))))) sa_nil))) sg_name)
      (ss_seq (ss_asg (se_call (sa_cons (se_op sr_ix se_var (se_c (fun _ => .int 0))) (sa_cons (se_op sr_ix se_var (se_c (fun _ => .int 1))) (sa_cons se_var sa_nil)))) sg_name)
      (ss_seq (ss_asg (se_new (sf_lc (vs := [10]) (by decide) (si_any se_var) sg_name st_yes (se_if (st_test (se_op sr_isN se_var (se_c (fun _ => .non)))) (se_c (fun _ => .non)) (se_call (sa_cons se_var sa_nil))))) (sg_sq (sgs_cons sg_name (sgs_cons sg_name sgs_nil))))
      (ss_seq (ss_asg (se_call (sa_cons se_var (sa_cons se_var (sa_cons se_var sa_nil)))) sg_name)
      (ss_if (st_and (st_test (se_op sr_notN se_var (se_c (fun _ => .non)))) (st_test (se_op sr_neBL se_var (se_new (sf_lc (vs := [10]) (by decide) (si_any se_var) sg_name st_yes (se_call (sa_cons se_var sa_nil))))))) (ss_ret (se_c (fun _ => .bl false))) ss_next))))))))))))
      (ss_ret (se_op sr_eqBL (se_call (sa_cons (se_c (fun _ => .non)) (sa_cons (se_c (fun _ => .non)) (sa_cons (se_c (fun _ => .int 3)) sa_nil)))) (se_new (sf_lst (sa_cons (se_call (sa_cons (se_new (sf_lst (sa_cons (se_c (fun _ => .int 2)) sa_nil))) sa_nil)) (sa_cons (se_call (sa_cons (se_new (sf_lst (sa_cons (se_c (fun _ => .int 4)) sa_nil))) sa_nil)) (sa_cons (se_call (sa_cons (se_new (sf_lst (sa_cons (se_c (fun _ => .int 6)) sa_nil))) sa_nil)) sa_nil))))))))) (by decide) h⟩)
end
def Od (x : UInt8) : Prop := x.toNat % 2 = 1
structure Lb (h : List UInt8) (c : UInt8) : Prop where
  odd : ∀ x ∈ h, Od x
  ev : c.toNat % 2 = 0
  pos : 0 < c.toNat
theorem u8_lt {a b : UInt8} : a < b ↔ a.toNat < b.toNat := UInt8.lt_iff_toNat_lt
theorem lt_cons {x y : UInt8} {a b : List UInt8} : x :: a < y :: b ↔ x.toNat < y.toNat ∨ (x = y ∧ a < b) := by
  rw [List.cons_lt_cons_iff, u8_lt]
theorem Lb.tail {x : UInt8} {h : List UInt8} {c : UInt8} (l : Lb (x :: h) c) : Lb h c := ⟨fun y hy => l.odd y (List.mem_cons_of_mem _ hy), l.ev, l.pos⟩
abbrev LB := List UInt8
theorem app_lt : ∀ (h a b : LB), h ++ a < h ++ b ↔ a < b
  | [], a, b => Iff.rfl
  | x :: h, a, b => by
    rw [List.cons_append, List.cons_append, lt_cons, app_lt h a b]
    exact ⟨fun q => q.elim (fun q => absurd q (Nat.lt_irrefl _)) fun q => q.2, fun q => .inr ⟨rfl, q⟩⟩
theorem tri : ∀ (y h : LB), (∃ r, y = h ++ r) ∨ (∀ a, y < h ++ a) ∨ (∀ a, h ++ a < y)
  | y, [] => .inl ⟨y, rfl⟩
  | [], x :: h => .inr (.inl fun a => List.nil_lt_cons _ _)
  | z :: y, x :: h => by
    rcases Nat.lt_trichotomy z.toNat x.toNat with c | c | c
    · exact .inr (.inl fun a => by rw [List.cons_append, lt_cons]; exact .inl c)
    · have e : z = x := UInt8.toNat_inj.mp c
      subst e
      rcases tri y h with ⟨r, rfl⟩ | q | q
      · exact .inl ⟨r, rfl⟩
      · exact .inr (.inl fun a => by rw [List.cons_append, lt_cons]; exact .inr ⟨rfl, q a⟩)
      · exact .inr (.inr fun a => by rw [List.cons_append, lt_cons]; exact .inr ⟨rfl, q a⟩)
    · exact .inr (.inr fun a => by rw [List.cons_append, lt_cons]; exact .inl c)
theorem lt_trans {a b c : LB} (h : a < b) (g : b < c) : a < c := List.lt_trans h g
theorem lt_asymm {a b : LB} (h : a < b) : ¬ b < a := List.lt_asymm h
theorem lt_irr (a : LB) : ¬ a < a := List.lt_irrefl a
theorem ones_le : ∀ (r g : LB) (c : UInt8), Lb g c → ¬ g ++ [c] < List.replicate g.length (1 : UInt8) ++ [2]
  | _, [], c, l, h => by
    rw [List.nil_append, List.length_nil, List.replicate_zero, List.nil_append, lt_cons] at h
    have := l.ev; have := l.pos
    have e : (2 : UInt8).toNat = 2 := rfl
    rcases h with h | ⟨_, h⟩
    · omega
    · exact lt_irr _ h
  | r, x :: g, c, l, h => by
    rw [List.length_cons, List.replicate_succ, List.cons_append, List.cons_append, lt_cons] at h
    have hx : x.toNat % 2 = 1 := l.odd x List.mem_cons_self
    have e : (1 : UInt8).toNat = 1 := rfl
    rcases h with h | ⟨_, h⟩
    · omega
    · exact ones_le r g c l.tail h
theorem odd_ones : ∀ (g : LB), (∀ x ∈ g, Od x) → ¬ g < List.replicate g.length (1 : UInt8)
  | [], l, h => lt_irr _ h
  | x :: g, l, h => by
    rw [List.length_cons, List.replicate_succ, lt_cons] at h
    have hx : x.toNat % 2 = 1 := l x List.mem_cons_self
    have e : (1 : UInt8).toNat = 1 := rfl
    rcases h with h | ⟨_, h⟩
    · omega
    · exact odd_ones g (fun y hy => l y (List.mem_cons_of_mem _ hy)) h
theorem full_max : ∀ (n : Nat) (g : LB), g.length = n → ¬ List.replicate n (255 : UInt8) < g
  | 0, g, h, q => by
    rw [List.length_eq_zero_iff.mp h] at q
    exact lt_irr _ q
  | n + 1, [], h, q => by simp at h
  | n + 1, x :: g, h, q => by
    rw [List.replicate_succ, lt_cons] at q
    have := UInt8.toNat_lt x
    have e : (255 : UInt8).toNat = 255 := rfl
    rcases q with q | ⟨_, q⟩
    · omega
    · exact full_max n g (by simpa using h) q
theorem start_least {r g : LB} {z : UInt8} {n : Nat} (hg : ∀ x ∈ g, Od x) (hl : g.length = r.length + 1 + n) (hz : Od z) (hz2 : z.toNat ≤ 253) (h : r ++ [z] ++ List.replicate n (255 : UInt8) < g) :
    ¬ g < r ++ [UInt8.ofNat (z.toNat + 2)] ++ List.replicate n (1 : UInt8) := by
  have ez : (UInt8.ofNat (z.toNat + 2)).toNat = z.toNat + 2 := by rw [UInt8.toNat_ofNat']; exact Nat.mod_eq_of_lt (by omega)
  rw [List.append_assoc] at h ⊢
  rcases tri g r with ⟨q, rfl⟩ | k | k
  · rw [app_lt] at h ⊢
    cases q with
    | nil => rw [List.singleton_append] at h; exact absurd h (List.not_lt_nil _)
    | cons a q =>
      rw [List.singleton_append, lt_cons] at h
      rw [List.singleton_append, lt_cons, ez]
      have ha : a.toNat % 2 = 1 := hg a (by simp)
      have hz3 : z.toNat % 2 = 1 := hz
      have hq : q.length = n := by simp at hl; omega
      rcases h with h | ⟨_, h⟩
      · rintro (h2 | ⟨_, h2⟩)
        · omega
        · rw [← hq] at h2
          exact odd_ones q (fun x hx => hg x (by simp [hx])) h2
      · exact absurd h (full_max n q hq)
  · exact absurd (k _) (lt_asymm h)
  · exact fun h2 => absurd (k _) (lt_asymm h2)
theorem pre_lt : ∀ {g t a b : LB}, g.length = t.length → (g ++ a < t ++ b ↔ g < t ∨ (g = t ∧ a < b))
  | [], [], a, b, _ => by simp
  | x :: g, y :: t, a, b, h => by
    rw [List.cons_append, List.cons_append, lt_cons, lt_cons, pre_lt (g := g) (t := t) (by simpa using h)]
    constructor
    · rintro (h | ⟨h, h2 | ⟨h2, h3⟩⟩)
      · exact .inl (.inl h)
      · exact .inl (.inr ⟨h, h2⟩)
      · exact .inr ⟨by rw [h, h2], h3⟩
    · rintro ((h | ⟨h, h2⟩) | ⟨h, h2⟩)
      · exact .inl h
      · exact .inr ⟨h, .inl h2⟩
      · cases h; exact .inr ⟨rfl, .inr ⟨rfl, h2⟩⟩
theorem one_lt {a b : UInt8} : [a] < [b] ↔ a.toNat < b.toNat := by
  rw [lt_cons]
  exact ⟨fun h => h.elim id fun h => absurd h.2 (lt_irr _), fun h => .inl h⟩
theorem snoc_least {s t g : LB} {e : UInt8} {v : UInt8} {u : LB} (hl : g.length = s.length) (ht : t.length = s.length) (l : Lb g e) (h2 : 254 < v.toNat + 2 - v.toNat % 2) (hlt : s ++ v :: u < g ++ [e]) (hm : s < g → ¬ g < t) : ¬ g ++ [e] < t ++ [2] := by
  have := l.ev; have := l.pos
  have := UInt8.toNat_lt e
  rw [pre_lt hl.symm, lt_cons] at hlt
  rw [pre_lt (hl.trans ht.symm), one_lt]
  have e2 : (2 : UInt8).toNat = 2 := rfl
  have hsg : s < g := by
    rcases hlt with h | ⟨_, h | ⟨_, h⟩⟩
    · exact h
    · omega
    · exact absurd h (List.not_lt_nil _)
  rintro (h | ⟨_, h⟩)
  · exact hm hsg h
  · omega
theorem snoc_none {s g : LB} {e : UInt8} {v : UInt8} {u : LB} (hl : g.length = s.length) (l : Lb g e) (h2 : 254 < v.toNat + 2 - v.toNat % 2) (hm : ¬ s < g) : ¬ s ++ v :: u < g ++ [e] := by
  have := l.ev; have := l.pos
  have := UInt8.toNat_lt e
  rw [pre_lt hl.symm, lt_cons]
  rintro (h | ⟨_, h | ⟨_, h⟩⟩)
  · exact hm h
  · omega
  · exact absurd h (List.not_lt_nil _)
theorem even_least {s g u : LB} {e v : UInt8} (hl : g.length = s.length) (l : Lb g e) (h2 : v.toNat + 2 - v.toNat % 2 ≤ 254) (hlt : s ++ v :: u < g ++ [e]) : ¬ g ++ [e] < s ++ [UInt8.ofNat (v.toNat + 2 - v.toNat % 2)] := by
  have := l.ev
  have ez : (UInt8.ofNat (v.toNat + 2 - v.toNat % 2)).toNat = v.toNat + 2 - v.toNat % 2 := by rw [UInt8.toNat_ofNat']; exact Nat.mod_eq_of_lt (by omega)
  rw [pre_lt hl.symm, lt_cons] at hlt
  rw [pre_lt hl, one_lt, ez]
  rintro (h | ⟨rfl, h⟩)
  · rcases hlt with k | ⟨rfl, _⟩
    · exact lt_asymm h k
    · exact lt_irr _ h
  · rcases hlt with k | ⟨_, k | ⟨_, k⟩⟩
    · exact lt_irr _ k
    · omega
    · exact absurd k (List.not_lt_nil _)
theorem long_least {h g : LB} {c c2 e : UInt8} {m : Nat} (l : Lb h c) (lg : Lb g e) (hl : g.length = h.length + 1 + m) (hc : c2.toNat = c.toNat + 1) (hlt : h ++ [c] < g ++ [e]) : ¬ g ++ [e] < h ++ [c2] ++ (List.replicate m (1 : UInt8) ++ [2]) := by
  have hcv := l.ev
  obtain ⟨g1, x, g2, rfl, h1⟩ : ∃ g1 x g2, g = g1 ++ x :: g2 ∧ g1.length = h.length := by
    have hlt : h.length < g.length := by omega
    refine ⟨g.take h.length, g[h.length], g.drop (h.length + 1), ?_, by rw [List.length_take]; omega⟩
    rw [← List.drop_eq_getElem_cons hlt, List.take_append_drop]
  have hx : x.toNat % 2 = 1 := lg.odd x (by simp)
  rw [List.append_assoc, List.cons_append] at hlt
  rw [List.append_assoc, List.cons_append, List.append_assoc, List.singleton_append, pre_lt h1, lt_cons, hc]
  rw [pre_lt h1.symm, lt_cons] at hlt
  have hm : g2.length = m := by simp at hl; omega
  rintro (k | ⟨rfl, k | ⟨k1, k⟩⟩)
  · rcases hlt with k2 | ⟨rfl, _⟩
    · exact lt_asymm k k2
    · exact lt_irr _ k
  · rcases hlt with k2 | ⟨_, k2 | ⟨rfl, k2⟩⟩
    · exact lt_irr _ k2
    · omega
    · omega
  · rw [← hm] at k
    exact ones_le g2 g2 e ⟨fun y hy => lg.odd y (by simp [hy]), lg.ev, lg.pos⟩ k
def odds : List UInt8 := (List.range 128).map fun i => UInt8.ofNat (2 * i + 1)
def evens : List UInt8 := (List.range 127).map fun i => UInt8.ofNat (2 * i + 2)
theorem onat {n : Nat} (h : n < 256) : (UInt8.ofNat n).toNat = n := by rw [UInt8.toNat_ofNat']; exact Nat.mod_eq_of_lt h
theorem mem_odds {x : UInt8} : x ∈ odds ↔ Od x := by
  unfold odds Od
  rw [List.mem_map]
  constructor
  · rintro ⟨i, hi, rfl⟩
    have := List.mem_range.mp hi
    rw [onat (by omega)]; omega
  · intro h
    have := UInt8.toNat_lt x
    exact ⟨x.toNat / 2, List.mem_range.mpr (by omega), UInt8.toNat_inj.mp (by rw [onat (by omega)]; omega)⟩
theorem mem_evens {x : UInt8} : x ∈ evens ↔ x.toNat % 2 = 0 ∧ 0 < x.toNat := by
  unfold evens
  rw [List.mem_map]
  constructor
  · rintro ⟨i, hi, rfl⟩
    have := List.mem_range.mp hi
    rw [onat (by omega)]; omega
  · rintro ⟨h, h2⟩
    have := UInt8.toNat_lt x
    exact ⟨x.toNat / 2 - 1, List.mem_range.mpr (by omega), UInt8.toNat_inj.mp (by rw [onat (by omega)]; omega)⟩
theorem pw_range (n : Nat) (f : Nat → Nat) (hf : ∀ i j, i < j → f i < f j) (hn : ∀ i, i < n → f i < 256) : ((List.range n).map fun i => UInt8.ofNat (f i)).Pairwise fun a b => a.toNat < b.toNat := by
  rw [List.pairwise_map]
  refine List.Pairwise.imp_of_mem (R := fun a b => a < b) (fun {a b} ha hb h => ?_) List.pairwise_lt_range
  have := List.mem_range.mp ha; have := List.mem_range.mp hb
  rw [onat (hn _ (by omega)), onat (hn _ (by omega))]
  exact hf _ _ h
theorem pw_odds : odds.Pairwise fun a b => a.toNat < b.toNat := pw_range 128 (fun i => 2 * i + 1) (fun i j h => by omega) fun i h => by omega
theorem pw_evens : evens.Pairwise fun a b => a.toNat < b.toNat := pw_range 127 (fun i => 2 * i + 2) (fun i j h => by omega) fun i h => by omega
def kids (h : LB) : List LB := odds.map fun x => h ++ [x]
def labs (h : LB) : List LB := evens.map fun x => h ++ [x]
def allOdd : Nat → List LB
  | 0 => [[]]
  | k + 1 => (allOdd k).flatMap kids
theorem mem_allOdd : ∀ {k : Nat} {h : LB}, h ∈ allOdd k ↔ (∀ x ∈ h, Od x) ∧ h.length = k
  | 0, h => by
    show h ∈ [[]] ↔ _
    rw [List.mem_singleton]
    constructor
    · rintro rfl; exact ⟨fun x hx => (by cases hx), rfl⟩
    · rintro ⟨_, h⟩; exact List.length_eq_zero_iff.mp h
  | k + 1, h => by
    show h ∈ (allOdd k).flatMap kids ↔ _
    rw [List.mem_flatMap]
    constructor
    · rintro ⟨g, hg, hh⟩
      obtain ⟨x, hx, rfl⟩ := List.mem_map.mp hh
      obtain ⟨g1, g2⟩ := mem_allOdd.mp hg
      refine ⟨fun y hy => ?_, by simp [g2]⟩
      rcases List.mem_append.mp hy with hy | hy
      · exact g1 y hy
      · rw [List.mem_singleton.mp hy]; exact mem_odds.mp hx
    · rintro ⟨h1, h2⟩
      have hne : h ≠ [] := by rintro rfl; cases h2
      refine ⟨h.dropLast, mem_allOdd.mpr ⟨fun x hx => h1 x ((List.dropLast_sublist h).subset hx), by simp [h2]⟩, List.mem_map.mpr ⟨h.getLast hne, mem_odds.mpr (h1 _ (List.getLast_mem hne)), List.dropLast_concat_getLast hne⟩⟩
def allLab (k : Nat) : List LB := (allOdd k).flatMap labs
theorem mem_allLab {k : Nat} {y : LB} : y ∈ allLab k ↔ ∃ h c, y = h ++ [c] ∧ Lb h c ∧ h.length = k := by
  unfold allLab
  rw [List.mem_flatMap]
  constructor
  · rintro ⟨g, hg, hh⟩
    obtain ⟨x, hx, rfl⟩ := List.mem_map.mp hh
    obtain ⟨g1, g2⟩ := mem_allOdd.mp hg
    obtain ⟨e1, e2⟩ := mem_evens.mp hx
    exact ⟨g, x, rfl, ⟨g1, e1, e2⟩, g2⟩
  · rintro ⟨h, c, rfl, l, hl⟩
    exact ⟨h, mem_allOdd.mpr ⟨l.odd, hl⟩, List.mem_map.mpr ⟨c, mem_evens.mpr ⟨l.ev, l.pos⟩, rfl⟩⟩
theorem pw_snoc (h : LB) {xs : List UInt8} (hx : xs.Pairwise fun a b => a.toNat < b.toNat) : (xs.map fun x => h ++ [x]).Pairwise (· < ·) := by
  rw [List.pairwise_map]
  exact hx.imp fun {a b} q => (app_lt _ _ _).mpr (one_lt.mpr q)
theorem pw_flat {ls : List LB} {xs : List UInt8} {k : Nat} (h1 : ls.Pairwise (· < ·)) (h2 : ∀ h ∈ ls, h.length = k) (hx : xs.Pairwise fun a b => a.toNat < b.toNat) : (ls.flatMap fun h => xs.map fun x => h ++ [x]).Pairwise (· < ·) := by
  rw [List.pairwise_flatMap]
  refine ⟨fun h _ => pw_snoc h hx, h1.imp_of_mem fun {a b} ha hb q y hy z hz => ?_⟩
  obtain ⟨u, _, rfl⟩ := List.mem_map.mp hy
  obtain ⟨v, _, rfl⟩ := List.mem_map.mp hz
  exact (pre_lt ((h2 a ha).trans (h2 b hb).symm)).mpr (.inl q)
theorem pw_allOdd : ∀ k, (allOdd k).Pairwise (· < ·)
  | 0 => List.pairwise_singleton _ _
  | k + 1 => pw_flat (k := k) (pw_allOdd k) (fun h hh => (mem_allOdd.mp hh).2) pw_odds
theorem pw_allLab (k : Nat) : (allLab k).Pairwise (· < ·) := pw_flat (k := k) (pw_allOdd k) (fun h hh => (mem_allOdd.mp hh).2) pw_evens
abbrev Bd := Option LB
def abv (lo : Bd) (y : LB) : Bool := match lo with
  | none => true
  | some a => decide (a < y)
def bel (hi : Bd) (y : LB) : Bool := match hi with
  | none => true
  | some a => decide (y < a)
def FL (lo hi : Bd) (k : Nat) : List LB := ((allLab k).filter (abv lo)).filter (bel hi)
def FF (lo hi : Bd) : Nat → List LB
  | 0 => []
  | k + 1 => FF lo hi k ++ FL lo hi k
theorem FF_add {lo hi : Bd} {k : Nat} : ∀ m, ∃ t, FF lo hi (k + m) = FF lo hi k ++ t
  | 0 => ⟨[], by simp⟩
  | m + 1 => by
    obtain ⟨t, h⟩ := FF_add (lo := lo) (hi := hi) (k := k) m
    exact ⟨t ++ FL lo hi (k + m), by rw [← List.append_assoc, ← h]; rfl⟩
theorem FF_take {lo hi : Bd} {k j n : Nat} (h1 : n ≤ (FF lo hi k).length) (h2 : n ≤ (FF lo hi j).length) : (FF lo hi k).take n = (FF lo hi j).take n := by
  have key : ∀ {k j : Nat}, k ≤ j → n ≤ (FF lo hi k).length → (FF lo hi k).take n = (FF lo hi j).take n := fun {k j} hkj h => by
    obtain ⟨m, rfl⟩ := Nat.exists_eq_add_of_le hkj
    obtain ⟨t, e⟩ := FF_add (lo := lo) (hi := hi) (k := k) m
    rw [e, List.take_append_of_le_length h]
  rcases Nat.le_total k j with h | h
  · exact key h h1
  · exact (key h h2).symm
def Nx (k : Nat) (p : LB → Bool) (x : Option LB) : Prop := match x with
  | none => ∀ y ∈ allLab k, p y = false
  | some a => a ∈ allLab k ∧ p a = true ∧ ∀ y ∈ allLab k, p y = true → ¬ y < a
theorem flt_cons {p : LB → Bool} (hp : ∀ a b, a < b → p a = true → p b = true) {x : LB} : ∀ {l : List LB}, l.Pairwise (· < ·) → x ∈ l → p x = true → (∀ y ∈ l, p y = true → ¬ y < x) → l.filter p = x :: l.filter fun y => decide (x < y)
  | [], _, hx, _, _ => by cases hx
  | y :: l, hl, hx, hpx, hm => by
    rw [List.pairwise_cons] at hl
    rcases List.mem_cons.mp hx with rfl | hx
    · rw [List.filter_cons_of_pos hpx, List.filter_cons_of_neg (by rw [decide_eq_true_eq]; exact lt_irr _)]
      congr 1
      rw [List.filter_eq_self.mpr fun z hz => hp _ _ (hl.1 z hz) hpx, List.filter_eq_self.mpr fun z hz => decide_eq_true (hl.1 z hz)]
    · have hyx := hl.1 x hx
      have hpy : ¬ p y = true := fun h => hm y List.mem_cons_self h hyx
      rw [List.filter_cons_of_neg hpy, List.filter_cons_of_neg (by rw [decide_eq_true_eq]; exact lt_asymm hyx)]
      exact flt_cons hp hl.2 hx hpx fun z hz => hm z (List.mem_cons_of_mem _ hz)
theorem abv_up {lo : Bd} : ∀ a b, a < b → abv lo a = true → abv lo b = true := fun a b h q => by
  cases lo with
  | none => rfl
  | some z => exact decide_eq_true (lt_trans (of_decide_eq_true q) h)
theorem Nx.rest {k : Nat} {lo : Bd} {x : LB} (h : Nx k (abv lo) (some x)) : (allLab k).filter (abv lo) = x :: (allLab k).filter (abv (some x)) := flt_cons abv_up (pw_allLab k) h.1 h.2.1 h.2.2
theorem Nx.done {k : Nat} {lo : Bd} (h : Nx k (abv lo) none) : (allLab k).filter (abv lo) = [] := List.filter_eq_nil_iff.mpr fun y hy => by rw [h y hy]; simp
theorem bel_none {k : Nat} {lo hi : Bd} {x : LB} (h : Nx k (abv lo) (some x)) (hx : bel hi x = false) : ((allLab k).filter (abv lo)).filter (bel hi) = [] := by
  rw [h.rest]
  refine List.filter_eq_nil_iff.mpr fun y hy => ?_
  rw [Bool.not_eq_true]
  rcases List.mem_cons.mp hy with rfl | hy
  · exact hx
  · have hlt : x < y := of_decide_eq_true (List.mem_filter.mp hy).2
    cases hi with
    | none => cases hx
    | some b =>
      refine decide_eq_false fun q => ?_
      have := of_decide_eq_false hx
      exact this (lt_trans hlt q)
theorem bel_some {k : Nat} {lo hi : Bd} {x : LB} (h : Nx k (abv lo) (some x)) (hx : bel hi x = true) : ((allLab k).filter (abv lo)).filter (bel hi) = x :: ((allLab k).filter (abv (some x))).filter (bel hi) := by
  rw [h.rest, List.filter_cons_of_pos hx]
def toI (l : List UInt8) : List Int := l.map fun x => ((x.toNat : Nat) : Int)
theorem ints_lt : ∀ {a b : List UInt8}, toI a < toI b ↔ a < b
  | [], [] => by simp [toI]
  | [], y :: b => by simp [toI]
  | x :: a, [] => by simp [toI]
  | x :: a, y :: b => by
    rw [lt_cons]
    unfold toI
    rw [List.map_cons, List.map_cons, List.cons_lt_cons_iff]
    have ih : toI a < toI b ↔ a < b := ints_lt
    unfold toI at ih
    rw [ih]
    constructor
    · rintro (h | ⟨h, h2⟩)
      · exact .inl (by omega)
      · exact .inr ⟨UInt8.toNat_inj.mp (by omega), h2⟩
    · rintro (h | ⟨h, h2⟩)
      · exact .inl (by omega)
      · exact .inr ⟨by rw [h], h2⟩
theorem toI_app (a b : LB) : toI (a ++ b) = toI a ++ toI b := List.map_append
theorem iapp_lt : ∀ (h a b : List Int), h ++ a < h ++ b ↔ a < b
  | [], a, b => Iff.rfl
  | x :: h, a, b => by
    rw [List.cons_append, List.cons_append, List.cons_lt_cons_iff, iapp_lt h a b]
    exact ⟨fun q => q.elim (fun q => absurd q (Int.lt_irrefl _)) fun q => q.2, fun q => .inr ⟨rfl, q⟩⟩
theorem ilt_trans {a b c : List Int} (h : a < b) (g : b < c) : a < c := List.lt_trans h g
theorem ilt_asymm {a b : List Int} (h : a < b) : ¬ b < a := List.lt_asymm h
theorem itri : ∀ (y h : LB), (∃ r, y = h ++ r) ∨ (∀ a, toI y < toI h ++ a) ∨ (∀ a, toI h ++ a < toI y)
  | y, [] => .inl ⟨y, rfl⟩
  | [], x :: h => .inr (.inl fun a => by unfold toI; exact List.nil_lt_cons _ _)
  | z :: y, x :: h => by
    rcases Nat.lt_trichotomy z.toNat x.toNat with c | c | c
    · refine .inr (.inl fun a => ?_)
      show ((z.toNat : Nat) : Int) :: toI y < ((x.toNat : Nat) : Int) :: (toI h ++ a)
      rw [List.cons_lt_cons_iff]; exact .inl (by omega)
    · have e : z = x := UInt8.toNat_inj.mp c
      subst e
      rcases itri y h with ⟨r, rfl⟩ | q | q
      · exact .inl ⟨r, rfl⟩
      · refine .inr (.inl fun a => ?_)
        show ((z.toNat : Nat) : Int) :: toI y < ((z.toNat : Nat) : Int) :: (toI h ++ a)
        rw [List.cons_lt_cons_iff]; exact .inr ⟨rfl, q a⟩
      · refine .inr (.inr fun a => ?_)
        show ((z.toNat : Nat) : Int) :: (toI h ++ a) < ((z.toNat : Nat) : Int) :: toI y
        rw [List.cons_lt_cons_iff]; exact .inr ⟨rfl, q a⟩
    · refine .inr (.inr fun a => ?_)
      show ((x.toNat : Nat) : Int) :: (toI h ++ a) < ((z.toNat : Nat) : Int) :: toI y
      rw [List.cons_lt_cons_iff]; exact .inl (by omega)
def canLo (lo : Bd) (h : LB) : Bool := match lo with
  | none => true
  | some a => decide (toI a < toI h ++ [256])
def canHi (hi : Bd) (h : LB) : Bool := match hi with
  | none => true
  | some a => decide (toI h ++ [0] < toI a)
def can (lo hi : Bd) (h : LB) : Bool := canLo lo h && canHi hi h
def btw (lo hi : Bd) (y : LB) : Bool := abv lo y && bel hi y
theorem snoc256 {h : LB} {x : UInt8} (r : List Int) : toI (h ++ [x]) ++ r < toI h ++ [256] := by
  rw [toI_app, List.append_assoc, iapp_lt]
  show ((x.toNat : Nat) : Int) :: ([] ++ r) < _
  rw [List.cons_lt_cons_iff]
  have := UInt8.toNat_lt x
  exact .inl (by omega)
theorem snoc0 {h : LB} {x : UInt8} (hx : 0 < x.toNat) (r : List Int) : toI h ++ [0] < toI (h ++ [x]) ++ r := by
  rw [toI_app, List.append_assoc, iapp_lt]
  show _ < ((x.toNat : Nat) : Int) :: ([] ++ r)
  rw [List.cons_lt_cons_iff]
  exact .inl (by omega)
theorem can_kid {lo hi : Bd} {h : LB} {x : UInt8} (hx : 0 < x.toNat) (q : can lo hi (h ++ [x]) = true) : can lo hi h = true := by
  unfold can at q ⊢
  rw [Bool.and_eq_true] at q ⊢
  refine ⟨?_, ?_⟩
  · cases lo with
    | none => rfl
    | some a => exact decide_eq_true (ilt_trans (of_decide_eq_true q.1) (snoc256 _))
  · cases hi with
    | none => rfl
    | some a => exact decide_eq_true (ilt_trans (snoc0 hx _) (of_decide_eq_true q.2))
theorem can_lab {lo hi : Bd} {h : LB} {x : UInt8} (hx : 0 < x.toNat) (q : btw lo hi (h ++ [x]) = true) : can lo hi h = true := by
  unfold btw at q
  unfold can
  rw [Bool.and_eq_true] at q ⊢
  refine ⟨?_, ?_⟩
  · cases lo with
    | none => rfl
    | some a =>
      have := ints_lt.mpr (of_decide_eq_true q.1)
      have z := snoc256 (h := h) (x := x) []
      rw [List.append_nil] at z
      exact decide_eq_true (ilt_trans this z)
  · cases hi with
    | none => rfl
    | some a =>
      have := ints_lt.mpr (of_decide_eq_true q.2)
      have z := snoc0 (h := h) hx []
      rw [List.append_nil] at z
      exact decide_eq_true (ilt_trans z this)
def cans (lo hi : Bd) (k : Nat) : List LB := (allOdd k).filter (can lo hi)
theorem flat_filter {f : LB → List LB} {p q : LB → Bool} : ∀ (l : List LB), (∀ h ∈ l, ∀ y ∈ f h, q y = true → p h = true) → (l.flatMap f).filter q = (l.filter p).flatMap fun h => (f h).filter q
  | [], _ => rfl
  | h :: l, hh => by
    rw [List.flatMap_cons, List.filter_append, flat_filter l fun g hg => hh g (List.mem_cons_of_mem _ hg)]
    by_cases hp : p h = true
    · rw [List.filter_cons_of_pos hp, List.flatMap_cons]
    · rw [List.filter_cons_of_neg hp, List.filter_eq_nil_iff.mpr fun y hy q1 => hp (hh h List.mem_cons_self y hy q1), List.nil_append]
theorem cans_succ (lo hi : Bd) (k : Nat) : cans lo hi (k + 1) = (cans lo hi k).flatMap fun h => (kids h).filter (can lo hi) :=
  flat_filter _ fun h _ y hy q => by
    obtain ⟨x, hx, rfl⟩ := List.mem_map.mp hy
    have := mem_odds.mp hx
    unfold Od at this
    exact can_kid (by omega) q
theorem FL_eq (lo hi : Bd) (k : Nat) : FL lo hi k = (cans lo hi k).flatMap fun h => (labs h).filter (btw lo hi) := by
  have e : FL lo hi k = (allLab k).filter (btw lo hi) := by
    unfold FL
    rw [List.filter_filter]
    congr 1
    funext y
    unfold btw
    exact Bool.and_comm _ _
  rw [e]
  exact flat_filter _ fun h _ y hy q => by
    obtain ⟨x, hx, rfl⟩ := List.mem_map.mp hy
    exact can_lab (mem_evens.mp hx).2 q
def IsL (a : LB) : Prop := ∃ h c, a = h ++ [c] ∧ Lb h c
theorem IsL.pos {a : LB} (l : IsL a) : ∀ x ∈ a, 0 < x.toNat := by
  obtain ⟨h, c, rfl, l⟩ := l
  intro x hx
  rcases List.mem_append.mp hx with hx | hx
  · have := l.odd x hx
    unfold Od at this
    omega
  · rw [List.mem_singleton.mp hx]; exact l.pos
def lst (lo : Bd) (h : LB) : Nat := match lo with
  | none => 0
  | some a => if a.take h.length = h then (a.getD h.length 0).toNat else 0
theorem take_at (h : LB) (r : LB) : (h ++ r).take h.length = h := by simp
theorem take_ne {a h : LB} (e : ¬ a.take h.length = h) : ¬ ∃ r, a = h ++ r := by
  rintro ⟨r, rfl⟩
  exact e (take_at h r)
def LoL (lo : Bd) : Prop := ∀ a, lo = some a → IsL a
theorem in256 {r : LB} : toI r < [256] := by
  cases r with
  | nil => exact List.nil_lt_cons _ _
  | cons x r =>
    show ((x.toNat : Nat) : Int) :: toI r < [256]
    rw [List.cons_lt_cons_iff]
    have := UInt8.toNat_lt x
    exact .inl (by omega)
theorem free_lo {lo : Bd} {h : LB} (hc : canLo lo h = true) (hf : ∀ a, lo = some a → ¬ a.take h.length = h) (y : LB) : abv lo (h ++ y) = true ∧ canLo lo (h ++ y) = true := by
  cases lo with
  | none => exact ⟨rfl, rfl⟩
  | some a =>
    rcases itri a h with k | k | k
    · exact absurd k (take_ne (hf a rfl))
    · exact ⟨decide_eq_true (ints_lt.mp (by rw [toI_app]; exact k _)), decide_eq_true (by rw [toI_app, List.append_assoc]; exact k _)⟩
    · exact absurd (of_decide_eq_true hc) (ilt_asymm (k _))
theorem free_hi {hi : Bd} {h : LB} (hc : canHi hi h = true) (hf : ∀ a, hi = some a → ¬ a.take h.length = h) (y : LB) : bel hi (h ++ y) = true ∧ canHi hi (h ++ y) = true := by
  cases hi with
  | none => exact ⟨rfl, rfl⟩
  | some a =>
    rcases itri a h with k | k | k
    · exact absurd k (take_ne (hf a rfl))
    · exact absurd (of_decide_eq_true hc) (ilt_asymm (k _))
    · exact ⟨decide_eq_true (ints_lt.mp (by rw [toI_app]; exact k _)), decide_eq_true (by rw [toI_app, List.append_assoc]; exact k _)⟩
def Free (lo hi : Bd) (h : LB) : Prop := (∀ a, lo = some a → ¬ a.take h.length = h) ∧ ∀ a, hi = some a → ¬ a.take h.length = h
theorem free_labs {lo hi : Bd} {h : LB} (hc : can lo hi h = true) (hf : Free lo hi h) : (labs h).filter (btw lo hi) = labs h := by
  unfold can at hc
  rw [Bool.and_eq_true] at hc
  refine List.filter_eq_self.mpr fun y hy => ?_
  obtain ⟨x, _, rfl⟩ := List.mem_map.mp hy
  unfold btw
  rw [(free_lo hc.1 hf.1 _).1, (free_hi hc.2 hf.2 _).1]; rfl
theorem labs_len (h : LB) : (labs h).length = 127 := by unfold labs evens; rw [List.length_map, List.length_map, List.length_range]
theorem kids_len (h : LB) : (kids h).length = 128 := by unfold kids odds; rw [List.length_map, List.length_map, List.length_range]
theorem mem_cans {lo hi : Bd} {k : Nat} {h : LB} : h ∈ cans lo hi k ↔ ((∀ x ∈ h, Od x) ∧ h.length = k) ∧ can lo hi h = true := by
  unfold cans
  rw [List.mem_filter, mem_allOdd]
theorem ones_lt : ∀ (h : List UInt8) (c : UInt8) (m : Nat), Lb h c → h.length < m → List.replicate m (1 : UInt8) ++ [2] < h ++ [c]
  | [], c, m + 1, l, _ => by
    rw [List.replicate_succ, List.nil_append, List.cons_append, lt_cons]
    have := l.ev; have := l.pos
    have e : (1 : UInt8).toNat = 1 := rfl
    left; omega
  | x :: h, c, m + 1, l, hm => by
    rw [List.replicate_succ, List.cons_append, List.cons_append, lt_cons]
    have hx : x.toNat % 2 = 1 := l.odd x List.mem_cons_self
    have e : (1 : UInt8).toNat = 1 := rfl
    by_cases h1 : x.toNat = 1
    · right
      exact ⟨UInt8.toNat_inj.mp (by rw [e, h1]), ones_lt h c m l.tail (by simpa using hm)⟩
    · left; omega
  | [], c, 0, l, h => absurd h (Nat.not_lt_zero _)
  | x :: h, c, 0, l, hm => absurd hm (Nat.not_lt_zero _)
theorem first_lt : ∀ (h : List UInt8) (c : UInt8) (g : List UInt8) (d c2 : UInt8) (m : Nat), Lb h c → Lb g d → h ++ [c] < g ++ [d] → c2.toNat = c.toNat + 1 → g.length < h.length + 1 + m →
    h ++ [c2] ++ (List.replicate m (1 : UInt8) ++ [2]) < g ++ [d]
  | [], c, [], d, c2, m, lh, lg, hlt, hc, hm => by
    rw [List.nil_append, List.nil_append, lt_cons] at hlt
    have hd := lg.ev; have hcv := lh.ev
    rw [List.nil_append, List.nil_append, List.cons_append, lt_cons]
    left
    rcases hlt with h | ⟨_, h⟩
    · omega
    · exact absurd h (List.lt_irrefl _)
  | [], c, y :: g, d, c2, m, lh, lg, hlt, hc, hm => by
    rw [List.nil_append, List.cons_append, lt_cons] at hlt
    have hy : y.toNat % 2 = 1 := lg.odd y List.mem_cons_self
    have hcv := lh.ev
    rw [List.nil_append, List.cons_append, List.cons_append, lt_cons]
    have hlt : c.toNat < y.toNat := by
      rcases hlt with h | ⟨h, _⟩
      · exact h
      · rw [h] at hcv; omega
    by_cases h1 : y.toNat = c.toNat + 1
    · right
      refine ⟨UInt8.toNat_inj.mp (by rw [hc, h1]), ?_⟩
      rw [List.nil_append]
      exact ones_lt g d m lg.tail (by simp at hm; omega)
    · left; omega
  | x :: h, c, [], d, c2, m, lh, lg, hlt, hc, hm => by
    rw [List.cons_append, List.nil_append, lt_cons] at hlt
    have hx : x.toNat % 2 = 1 := lh.odd x List.mem_cons_self
    have hd := lg.ev
    rw [List.cons_append, List.cons_append, List.nil_append, lt_cons]
    left
    rcases hlt with h | ⟨h, _⟩
    · exact h
    · rw [h] at hx; omega
  | x :: h, c, y :: g, d, c2, m, lh, lg, hlt, hc, hm => by
    rw [List.cons_append, List.cons_append, lt_cons] at hlt
    rw [List.cons_append, List.cons_append, List.cons_append, lt_cons]
    rcases hlt with h1 | ⟨h1, h2⟩
    · exact .inl h1
    · exact .inr ⟨h1, first_lt h c g d c2 m lh.tail lg.tail h2 hc (by simp at hm; omega)⟩
theorem lt_ltB {a b : List UInt8} : DL.ltB a.toArray b.toArray = decide (a < b) := by
  unfold DL.ltB
  rw [Bool.eq_iff_iff, decide_eq_true_iff]
  exact Byt.ord_lt
end My
namespace My
open PySem L2 Evl ClX DL PySem.W
abbrev byD (l : List UInt8) : D := .byt l.toArray
def nsL (l : List UInt8) : List D := l.map fun x => D.int ((x.toNat : Nat) : Int)
abbrev nsD (l : List UInt8) : D := .lst (nsL l)
theorem toByt_ns (l : List UInt8) : D.toByt [nsD l] = some (byD l) := by
  show (D.ints (nsL l)).bind (fun ns => if allB ns = true then some (D.byt (byteArr ns)) else none) = _
  unfold nsL
  rw [ints_map (f := fun x : UInt8 => ((x.toNat : Nat) : Int)) l]
  show (if allB (l.map fun x => ((x.toNat : Nat) : Int)) = true then some (D.byt (byteArr (l.map fun x => ((x.toNat : Nat) : Int)))) else none) = _
  rw [if_pos (of_b8 fun n hn => by
    obtain ⟨x, _, rfl⟩ := List.mem_map.mp hn
    have := UInt8.toNat_lt x
    omega)]
  have e : byteArr (l.map fun x => ((x.toNat : Nat) : Int)) = l.toArray := by
    unfold byteArr
    rw [List.map_map]
    congr 1
    have : ((fun n : Int => n.toNat.toUInt8) ∘ fun x : UInt8 => ((x.toNat : Nat) : Int)) = id := by
      funext x
      show (Int.toNat ((x.toNat : Nat) : Int)).toUInt8 = x
      rw [Int.toNat_natCast]
      exact UInt8.ofNat_toNat
    rw [this, List.map_id]
  rw [e]
theorem add_ns {a b : List UInt8} (h : a.length + b.length ≤ 5000) : D.add (nsD a) (nsD b) = some (nsD (a ++ b)) := by
  unfold nsD nsL
  rw [D_addL (by rw [List.length_map, List.length_map]; exact Nat.le_trans h (by decide)), List.map_append]
theorem enumD_mem {ds : List D} {i : Nat} {e : D} (h : (enumD ds)[i]? = some e) : ∃ d, d ∈ ds ∧ e = .tup [.int (i : Int), d] := by
  unfold enumD at h
  rw [List.getElem?_map] at h
  cases hz : ds.zipIdx[i]? with
  | none => rw [hz] at h; cases h
  | some p =>
    rw [hz] at h
    cases h
    rw [List.getElem?_zipIdx] at hz
    cases hd : ds[i]? with
    | none => rw [hd] at hz; cases hz
    | some d => rw [hd] at hz; cases hz; exact ⟨d, List.mem_of_getElem? hd, by simp⟩
def ip (l : List UInt8) : PyData := .list ((toI l).map .int)
theorem toPs_ns : ∀ l : List UInt8, D.toPs (nsL l) = some ((toI l).map PyData.int)
  | [] => by unfold nsL toI; rw [List.map_nil, D.toPs]; rfl
  | x :: l => by
    have ih := toPs_ns l
    unfold nsL toI at ih ⊢
    rw [List.map_cons, D.toPs, D.toP, ih]
    rfl
theorem toP_ns (l : List UInt8) : (nsD l).toP = some (ip l) := by rw [D.toP, toPs_ns]; rfl
theorem toPs2 (a b : List UInt8) : D.toPs [nsD a, nsD b] = some [ip a, ip b] := by
  rw [D.toPs, toP_ns, D.toPs, toP_ns, D.toPs]; rfl
theorem alike_ints : ∀ a b : List Int, alikeAll (a.map PyData.int) (b.map PyData.int) = true
  | [], _ => by rw [List.map_nil, alikeAll]
  | x :: a, [] => by rw [List.map_nil, List.map_cons, alikeAll]
  | x :: a, y :: b => by rw [List.map_cons, List.map_cons, alikeAll, alike, alike_ints a b]; rfl
theorem alike_ip (a b : List UInt8) : alike (ip a) (ip b) = true := by unfold ip; rw [alike]; exact alike_ints _ _
theorem ns_nice (l : List UInt8) : (nsD l).nice 1 = true := nices_all fun d hd => by
  obtain ⟨x, _, rfl⟩ := List.mem_map.mp hd
  rfl
theorem ip_depth (l : List UInt8) : (ip l).depth ≤ 60 := by
  obtain ⟨p, h1, _, h3⟩ := nice_p (ns_nice l)
  rw [toP_ns] at h1
  cases h1
  omega
theorem leP_ip (a b : List UInt8) : leP (ip a) (ip b) = !decide (b < a) := by
  unfold leP ip
  rw [dataLt_list]
  have h := dataLt_ints (toI b) (toI a)
  unfold rowLt at h
  rw [h]
  congr 1
  rw [Bool.eq_iff_iff, decide_eq_true_iff, decide_eq_true_iff]
  exact ints_lt
theorem sort2 (a b : List UInt8) : sortD [nsD a, nsD b] [ip a, ip b] = if b < a then [nsD b, nsD a] else [nsD a, nsD b] := by
  unfold sortD
  have h := leP_ip a b
  by_cases hl : b < a
  · rw [if_pos hl]
    have h2 : leP (ip a) (ip b) = false := by rw [h, decide_eq_true hl]; rfl
    simp [List.mergeSort, List.MergeSort.Internal.splitInTwo, List.merge, h2]
  · rw [if_neg hl]
    have h2 : leP (ip a) (ip b) = true := by rw [h, decide_eq_false hl]; rfl
    simp [List.mergeSort, List.MergeSort.Internal.splitInTwo, List.merge, h2]
theorem sort2_ok (a b : List UInt8) : AllAlike [ip a, ip b] ∧ Sortable [ip a, ip b] ∧ ∀ p, p = ip a ∨ p = ip b → p.depth ≤ 60 := by
  refine ⟨fun d hd d' hd' => ?_, .inr fun d hd => ?_, fun p hp => ?_⟩
  · simp only [List.mem_cons, List.not_mem_nil, or_false] at hd hd'
    rcases hd with rfl | rfl <;> rcases hd' with rfl | rfl <;> exact alike_ip _ _
  · simp only [List.mem_cons, List.not_mem_nil, or_false] at hd
    rcases hd with rfl | rfl <;> exact ⟨by simp [ip], fun xs => by simp [ip]⟩
  · rcases hp with rfl | rfl <;> exact ip_depth _
def bdI (b : Bd) : D := match b with
  | none => .non
  | some a => nsD a
theorem eqvAll_ints : ∀ ns ms : List Int, PyData.eqvAll (ns.map PyData.int) (ms.map PyData.int) = decide (ns = ms)
  | [], [] => by simp [PyData.eqvAll]
  | [], _ :: _ => by simp [PyData.eqvAll]
  | _ :: _, [] => by simp [PyData.eqvAll]
  | a :: r, b :: t => by
    simp only [List.map_cons, PyData.eqvAll, PyData.eqv, eqvAll_ints r t]
    by_cases h : a = b <;> by_cases h' : r = t <;> simp [h, h']
theorem toI_inj {a b : LB} : toI a = toI b ↔ a = b := by
  constructor
  · intro h
    have e : ∀ a : LB, (toI a).map (fun z => UInt8.ofNat z.toNat) = a := fun a => by
      unfold toI
      rw [List.map_map]
      conv => rhs; rw [← List.map_id a]
      refine List.map_congr_left fun x _ => ?_
      show UInt8.ofNat (Int.toNat ((x.toNat : Nat) : Int)) = x
      rw [Int.toNat_natCast]
      exact UInt8.ofNat_toNat
    rw [← e a, ← e b, h]
  · rintro rfl; rfl
theorem eqv_ip (a b : LB) : PyData.eqv (ip a) (ip b) = decide (a = b) := by
  unfold ip
  have : PyData.eqv (.list ((toI a).map .int)) (.list ((toI b).map .int)) = PyData.eqvAll ((toI a).map .int) ((toI b).map .int) := by rw [PyData.eqv]
  rw [this, eqvAll_ints, Bool.eq_iff_iff, decide_eq_true_iff, decide_eq_true_iff]
  exact toI_inj
theorem eqB_ns (a b : LB) : D.eqB (nsD a) (nsD b) = some (decide (a = b)) := by
  obtain ⟨p, q, h1, h2, h⟩ := eqB_nice (ns_nice a) (ns_nice b) (by decide) (by decide)
  rw [toP_ns] at h1 h2
  cases h1; cases h2
  rw [h, eqv_ip]
theorem eq_ns (a b : LB) : D.eq (nsD a) (nsD b) = some (.bl (decide (a = b))) := by unfold D.eq; rw [eqB_ns]; rfl
theorem lt_ns (a b : LB) : D.ltL (nsD a) (nsD b) = some (.bl (decide (a < b))) := by
  show (D.ints (nsL a)).bind (fun ns => (D.ints (nsL b)).map fun ms => D.bl (decide (ns < ms))) = _
  unfold nsL
  rw [ints_map (f := fun x : UInt8 => ((x.toNat : Nat) : Int)) a, ints_map (f := fun x : UInt8 => ((x.toNat : Nat) : Int)) b]
  show some (D.bl (decide (toI a < toI b))) = _
  congr 2
  rw [Bool.eq_iff_iff, decide_eq_true_iff, decide_eq_true_iff]
  exact ints_lt
theorem cutTo_ns (a : LB) (n : Nat) : D.cut (nsD a) none (some (n : Int)) = some (nsD (a.take n)) := by
  unfold nsD nsL
  rw [cutL_lo, List.map_take]
theorem cutTo_nss (fs : List LB) (n : Nat) : D.cut (.lst (fs.map nsD)) none (some (n : Int)) = some (.lst ((fs.take n).map nsD)) := by
  rw [cutL_lo, List.map_take]
theorem ix_ns {a : LB} {n : Nat} (h : n < a.length) : D.ix (nsD a) (.int (n : Int)) = some (.int (((a.getD n 0).toNat : Nat) : Int)) := by
  unfold nsD nsL
  rw [ixn rfl (by rw [List.length_map]; exact h), List.getElem?_map, List.getD_eq_getElem?_getD, List.getElem?_eq_getElem h]
  rfl
theorem add1_ns {h : LB} (x : UInt8) (hl : h.length ≤ 4000) : D.add (.lst (nsL h)) (.lst [.int ((x.toNat : Nat) : Int)]) = some (nsD (h ++ [x])) := add_ns (b := [x]) (by simp; omega)
def leB (a b : LB) : Bool := !decide (b < a)
theorem leB_trans (a b c : LB) (h1 : leB a b = true) (h2 : leB b c = true) : leB a c = true := by
  unfold leB at *
  simp only [Bool.not_eq_true', decide_eq_false_iff_not] at *
  exact fun h => absurd (List.lt_of_le_of_lt (List.not_lt.mp h2) h) h1
theorem leB_total (a b : LB) : (leB a b || leB b a) = true := by
  unfold leB
  by_cases h : b < a
  · rw [decide_eq_true h, decide_eq_false (lt_asymm h)]; rfl
  · rw [decide_eq_false h]; rfl
def Srt (lo hi : Bd) (n : Nat) (cs : List LB) : Prop := ∃ m, n ≤ (FF lo hi m).length ∧ cs.Perm ((FF lo hi m).take n) ∧ cs.Pairwise fun x y => ¬ y < x
theorem Srt.uniq {lo hi : Bd} {n : Nat} {cs es : List LB} (h : Srt lo hi n cs) (g : Srt lo hi n es) : cs = es := by
  obtain ⟨m, a1, a2, a3⟩ := h
  obtain ⟨k, b1, b2, b3⟩ := g
  rw [FF_take b1 a1] at b2
  refine List.Perm.eq_of_pairwise (fun a b _ _ h1 h2 => ?_) a3 b3 (a2.trans b2.symm)
  exact List.le_antisymm (List.not_lt.mp h1) (List.not_lt.mp h2)
theorem toPs_nss : ∀ ls : List LB, D.toPs (ls.map nsD) = some (ls.map ip)
  | [] => by rw [List.map_nil, D.toPs]; rfl
  | a :: ls => by rw [List.map_cons, D.toPs, toP_ns, toPs_nss ls]; rfl
theorem sort_nss (ls : List LB) : sortD (ls.map nsD) (ls.map ip) = (ls.mergeSort leB).map nsD := by
  unfold sortD
  have e : (ls.map nsD).zip (ls.map ip) = ls.map fun a => (nsD a, ip a) := by
    rw [List.zip_map']
  rw [e, ← List.map_mergeSort (r := leB) (s := fun x y : D × PyData => leP x.2 y.2) (f := fun a => (nsD a, ip a)) (fun a _ b _ => (leP_ip a b).symm), List.map_map]
  rfl
theorem sort_okL (ls : List LB) : AllAlike (ls.map ip) ∧ Sortable (ls.map ip) ∧ ∀ p ∈ ls.map ip, p.depth ≤ 60 := by
  refine ⟨fun d hd d' hd' => ?_, .inr fun d hd => ?_, fun p hp => ?_⟩
  · obtain ⟨a, _, rfl⟩ := List.mem_map.mp hd
    obtain ⟨b, _, rfl⟩ := List.mem_map.mp hd'
    exact alike_ip _ _
  · obtain ⟨a, _, rfl⟩ := List.mem_map.mp hd
    exact ⟨by simp [ip], fun xs => by simp [ip]⟩
  · obtain ⟨a, _, rfl⟩ := List.mem_map.mp hp
    exact ip_depth _
theorem srt_of {lo hi : Bd} {n m : Nat} {fs : List LB} (h1 : n ≤ (FF lo hi m).length) (h2 : fs.take n = (FF lo hi m).take n) : Srt lo hi n ((fs.take n).mergeSort leB) :=
  ⟨m, h1, by rw [← h2]; exact List.mergeSort_perm _ _, (List.pairwise_mergeSort leB_trans leB_total _).imp fun {a b} h => by
    unfold leB at h
    simpa using h⟩
theorem cans_zero {lo hi : Bd} (l2 : LoL hi) : cans lo hi 0 = [[]] := by
  have h1 : canLo lo [] = true := by
    cases lo with
    | none => rfl
    | some a => exact decide_eq_true (by show toI a < [256]; exact in256)
  have h2 : canHi hi [] = true := by
    cases hi with
    | none => rfl
    | some a =>
      refine decide_eq_true ?_
      obtain ⟨h, c, rfl, l⟩ := l2 a rfl
      have hp := IsL.pos ⟨h, c, rfl, l⟩
      cases h with
      | nil =>
        show [0] < [((c.toNat : Nat) : Int)]
        rw [List.cons_lt_cons_iff]
        have := hp c (by simp)
        exact .inl (by omega)
      | cons x h =>
        show [0] < ((x.toNat : Nat) : Int) :: toI (h ++ [c])
        rw [List.cons_lt_cons_iff]
        have := hp x (by simp)
        exact .inl (by omega)
  unfold cans can
  rw [show allOdd 0 = [[]] from rfl, List.filter_cons_of_pos (by rw [h1, h2]; rfl)]
  rfl
end My
namespace My
open PySem L2 Evl ClX DL
local macro_rules | `(tactic| simp! only [$xs,*]) => `(tactic| simp -implicitDefEqProofs -dsimp only [idd_eq, Nat.reduceEqDiff, ↓w_seq, ↓w_if, ↓dTest, ↓dOp, ↓dUn, ↓w_var, ↓getS_val, ↓getS_own, ↓getS_par, ↓dC, rd_val, rd_bor, ownD_own, ownD_par, rds_nil, rds_cons, ↓w_asg, ↓dCB, ↓dCons, ↓dNil, ↓dgName, ↓dgTup, ↓dgCons, ↓dgNil, ↓w_setIx, ↓w_ret, ↓w_retF, ↓w_retN, ↓w_next, ↓w_drop, ↓w_own, ↓w_brk, ↓w_cnt, ↓w_setF, ↓w_dput, ↓w_body, ↓dN, ↓dCall, ↓dCallF, argsOf_nil, argsOf_val, argsOf_bor, bors, ↓dV, ↓dTup, ↓dLst, vals_nil, vals_val, ↓w_par, ↓w_par3, ↓w_parVO, ↓w_parOV, ↓w_parOO, ↓dTruth, ↓dIsi, ↓dIsiT, ↓dInO, insOf_ins, ↓dDNew, ↓dDGet, ↓dDIn, toTup_lst, toTup_tup, pf_nil, lk_self, key_str, key_int, isN_non, isNN_non, kno_int, kno_str, kno_lst, kno_tup, kno_bl, kno_non, tyV_int, tyV_bl, tyV_str, tyV_lst, tyV_tup, tyV_non, clV_ty, clVT_nil, clVT_val, kit_same, kit_int_bool, kit_bool_int, kits_list, kits_tuple, ↓dNot, ↓dAnd, ↓dOr, ↓dIf, ↓dAndV, ↓dOrV, ↓dNotV, ↓dChain, ↓dMeth, ↓dMethF, ↓dKw, ↓dSl, ↓dNoP, ↓dPart, ↓w_for, diRng1, diRng2, diRevR1, diEnumX, diAny, items_lst, items_tup, ↓dLc, ↓dDc, ↓dFld, ownAt_def, setD, Sl.setD, isPar0, isParS, isPN, isP_val, isP_own, isP_no, isP_par, ↓doF, outs_nil, outs_cons, parD_par, parIx, putOuts, wipeD, ↓dBodyF, ↓dAppend, D.isLst, cmp_int, bool_bl, toInt_int, toInt_bl, truth_bl, truth_int, truth_non, len_lst, len_tup, D_add, D_sub, D_mod, eq_int, ne_int, neg_int, ix0, ix1, ix2, ix3, ix4, tx0, tx1, tx2, sx0, sx1, sx2, List.length_cons, List.length_nil, List.cons_append, List.nil_append, List.replicate, Nat.reduceAdd, Nat.reduceSub, List.getElem?_cons_zero, List.getElem?_cons_succ, List.getElem?_nil, List.set_cons_zero, List.set_cons_succ, Option.bind_some, Option.map_some, Option.isSome_some, true_and, and_true, if_true, if_false, Bool.false_eq_true, reduceIte, Int.reduceBEq, Bool.not_true, Bool.not_false, List.nodup_cons, List.nodup_nil, List.not_mem_nil, not_false_eq_true, List.mem_cons, or_false, ↓opt_f, ↓optF_some, ↓ite_cd, ↓cd_true, ↓cd_false, ↓forL_f, ↓lcL_f, ↓dcL_f, ↓noEr_run, ↓w_frz, ↓getW_own, ↓dListRg1, ↓dIndex, ↓dCKw, ↓dMake, ↓dList, seq_lst, seq_tup, kwP1, kwP10, beq_self_eq_true, ↓dEqO, ↓dBinO, ↓dNev, tyV_dct, tyV_ins, kno_dct, clV_ptr, kit_sameR, nf_same, nf_none, nf_int, nf_bool, nf_str, nf_lst, nf_tup, nf_dct, ↓dLenO, eq_bl, ne_bl, ↓hot_run, ↓w_try, ↓w_try0, ↓erH_cons, ↓erH_nil, ↓shutD_mk, x1_mk, x2_mk, ↓w_rz, ↓dXf, ↓dIsX, ↓dBinS, ↓w_nest, ↓w_dnSeq, ↓w_dnT, ↓w_dnFrz, dnCons, dnNil, hideR, hid_val, hid_own, hid_par, hid_no, oL_none, oL_some, ltO_none, ltO_some, hidL_cons, hidL_nil, dgSq, ↓dLc2, lcL2_f, ↓dChain3, ↓w_seqP, ↓w_retT, ↓w_callT, ↓dIfF, ↓w_nestL, ↓w_dnSeq2, dnLc, ↓w_dnPar2, ↓w_dnFC, lcN_f, $xs,*])
section
variable {K : PySem.W.Frag} (A : Ads)
def Rng (n : Nat) (d : D) : Prop := ∃ a b c : Int, d = .lst [.int a, .int b, .int c] ∧ 0 ≤ a ∧ 0 ≤ b ∧ b < 2147483629 ∧ 0 ≤ c ∧ c ≤ n
theorem Rng.mono {n m : Nat} {d : D} (h : Rng n d) (e : n ≤ m) : Rng m d := by
  obtain ⟨a, b, c, h1, h2, h3, h4, h5, h6⟩ := h
  exact ⟨a, b, c, h1, h2, h3, h4, h5, by omega⟩
theorem log_int {z : Int} (h0 : 0 ≤ z) (h1 : z < 2 ^ 64) : z.natAbs.log2 < 9000 := by
  obtain ⟨n, rfl⟩ := Int.eq_ofNat_of_zero_le h0
  rw [Int.natAbs_natCast]
  rcases Nat.eq_zero_or_pos n with e | e
  · subst e; decide
  · have := (Nat.log2_lt (by omega)).mpr (show n < 2 ^ 64 by omega)
    omega
theorem draw_ok {n : Nat} (hn : n < 1000000000) {w : D} (hw : Rng n w) {m : Int} (hm : 0 < m) (hm2 : m < 2 ^ 64) {q : D → List D → Prop} {er} (k : ∀ (x : Int) (w' : D), 0 ≤ x → x < m → Rng (n + 1) w' → q (.int x) [w']) :
    dsp_p_law_draw K A [.par w, .val (.int m)] q er := by
  obtain ⟨a, b, c, rfl, a0, b0, b1, c0, c1⟩ := hw
  have hml := log_int (by omega) hm2
  unfold dsp_p_law_draw body_p_law_draw
  have hp : D.pow (.int 10) (.int 18) = some (.int (10 ^ 18)) := D_pow ⟨by decide, by decide, by decide⟩
  by_cases ha : (10 : Int) ^ 18 ≤ a
  · simp! only [hp, decide_eq_true ha, D_mod hm, D_div (show CDivW a m from ⟨hm, hml⟩)]
    exact k _ _ (Int.emod_nonneg _ (by omega)) (Int.emod_lt_of_pos _ hm) ⟨_, _, _, rfl, Int.ediv_nonneg a0 (by omega), b0, b1, c0, by omega⟩
  · have h1 : D.mul (.int 7919) (.int (c + 1)) = some (.int (7919 * (c + 1))) := D_mul (Or.inl ⟨by decide, by decide⟩)
    have h2 : D.mul (.int (b + 7919 * (c + 1) + 1)) (.int 48271) = some (.int ((b + 7919 * (c + 1) + 1) * 48271)) := D_mul (Or.inl ⟨by omega, by omega⟩)
    generalize hX : (b + 7919 * (c + 1) + 1) * 48271 % 2147483647 = X
    have x0 : 0 ≤ X := by rw [← hX]; exact Int.emod_nonneg _ (by decide)
    have x1 : X < 2147483647 := by rw [← hX]; exact Int.emod_lt_of_pos _ (by decide)
    have h3 : D.fdiv (.int X) (.int 1013) = some (.int (X / 1013)) := D_div ⟨by decide, by decide⟩
    have h4 : D.mul (.int X) (.int (X / 1013 + 69621)) = some (.int (X * (X / 1013 + 69621))) := D_mul (Or.inl ⟨by omega, by omega⟩)
    generalize hY : X * (X / 1013 + 69621) % 2147483587 = Y
    have y0 : 0 ≤ Y := by rw [← hY]; exact Int.emod_nonneg _ (by decide)
    have y1 : Y < 2147483587 := by rw [← hY]; exact Int.emod_lt_of_pos _ (by decide)
    have h5 : D.fdiv (.int Y) (.int 7) = some (.int (Y / 7)) := D_div ⟨by decide, by decide⟩
    have h6 : D.mul (.int (Y % 7919)) (.int 40692) = some (.int (Y % 7919 * 40692)) := D_mul (Or.inl ⟨by omega, by omega⟩)
    have m1 : ∀ z : Int, D.mod (.int z) (.int 2147483647) = some (.int (z % 2147483647)) := fun z => D_mod (by decide)
    have m2 : ∀ z : Int, D.mod (.int z) (.int 2147483587) = some (.int (z % 2147483587)) := fun z => D_mod (by decide)
    have m3 : ∀ z : Int, D.mod (.int z) (.int 2147483399) = some (.int (z % 2147483399)) := fun z => D_mod (by decide)
    have m4 : ∀ z : Int, D.mod (.int z) (.int 7919) = some (.int (z % 7919)) := fun z => D_mod (by decide)
    simp! only [hp, decide_eq_false ha, h1, h2, m1, hX, h3, h4, m2, hY, h5, m4, h6, m3, D_mod hm]
    exact k _ _ (Int.emod_nonneg _ (by omega)) (Int.emod_lt_of_pos _ hm) ⟨_, _, _, rfl, a0, b0, b1, by omega, by omega⟩
theorem pick_ok {n : Nat} (hn : n < 1000000000) {w : D} (hw : Rng n w) {xs : List D} (hx : xs ≠ []) (hx2 : xs.length < 1000) {q : D → List D → Prop} {er} (k : ∀ (x : D) (w' : D), x ∈ xs → Rng (n + 1) w' → q x [w']) :
    dsp_p_law_pick K A [.par w, .val (.lst xs)] q er := by
  unfold dsp_p_law_pick body_p_law_pick
  have hp : 0 < xs.length := List.length_pos_iff.mpr hx
  simp! only [D.len]
  refine draw_ok A hn hw (by omega) (by omega) fun x w' x0 x1 hw' => ?_
  obtain ⟨i, rfl⟩ := Int.eq_ofNat_of_zero_le x0
  have hi : i < xs.length := by omega
  simp! only [ixn (xs := xs) rfl hi, List.getElem?_eq_getElem hi]
  exact k _ w' (List.getElem_mem hi) hw'
theorem rng_ok (c : Int) {q : D → List D → Prop} {er} (k : ∀ w', Rng 0 w' → q w' []) : dsp_p_law_rng K A [.val (.int c)] q er := by
  unfold dsp_p_law_rng body_p_law_rng
  have h3 : D.mod (.int c) (.int 2147483629) = some (.int (c % 2147483629)) := D_mod (by decide)
  have h4 : 0 + 1 + 1 + 1 ≤ sizeLine := by decide
  have h5 : D.abs [.int c] = some (.int (if c < 0 then -c else c)) := rfl
  simp! only [h5, h3, h4]
  exact k _ ⟨_, _, _, rfl, by split <;> omega, Int.emod_nonneg _ (by decide), Int.emod_lt_of_pos _ (by decide), by decide, by decide⟩
end
theorem lenB {l : List UInt8} (h : l.length ≤ 10000) : D.len [byD l] = some (.int (l.length : Int)) := by
  show (if l.toArray.size ≤ sizeLine then some (D.int l.toArray.size) else none) = _
  rw [if_pos (by rw [List.size_toArray]; exact Nat.le_trans h (by decide)), List.size_toArray]
theorem ixB_at {l : List UInt8} {j : Nat} (h : j < l.length) (hl : l.length ≤ 10000) : D.ixB (byD l) (.int (j : Int)) = some (.int ((l[j].toNat : Nat) : Int)) := by
  show (if l.toArray.size ≤ sizeLine then (atI l.toArray.toList (j : Int)).map fun c => D.int ((c.toNat : Nat) : Int) else none) = _
  rw [if_pos (by rw [List.size_toArray]; exact Nat.le_trans hl (by decide))]
  have e : atI l.toArray.toList (j : Int) = some l[j] := by
    show (ixN l.length (j : Int)).bind (fun j => l[j]?) = _
    unfold ixN
    rw [if_pos (by omega), if_pos (by omega)]
    exact List.getElem?_eq_getElem h
  rw [e]; rfl
theorem ixB_last {h : List UInt8} {c : UInt8} (hl : h.length < 10000) : D.ixB (byD (h ++ [c])) (.int (-1)) = some (.int ((c.toNat : Nat) : Int)) := by
  show (if (h ++ [c]).toArray.size ≤ sizeLine then (atI (h ++ [c]).toArray.toList (-1)).map fun c => D.int ((c.toNat : Nat) : Int) else none) = _
  rw [if_pos (by rw [List.size_toArray, List.length_append, List.length_singleton]; exact Nat.le_trans (by omega : h.length + 1 ≤ 10000) (by decide))]
  have e : atI (h ++ [c]).toArray.toList (-1) = some c := by
    show (ixN (h ++ [c]).length (-1)).bind (fun j => (h ++ [c])[j]?) = _
    have e : ixN (h ++ [c]).length (-1) = some h.length := by
      unfold ixN
      rw [if_neg (by omega), if_pos (by simp; omega)]
      simp
      omega
    rw [e, Option.bind_some]
    simp
  rw [e]; rfl
theorem cut_but {h : List UInt8} {c : UInt8} (hl : h.length < 10000) : D.cutB (byD (h ++ [c])) none (some (-1)) = some (byD h) := by
  show (if (h ++ [c]).toArray.size ≤ 16777216 then some (D.byt (PySem.W.KBy.picked (h ++ [c]).toArray none (some (-1)))) else none) = _
  rw [if_pos (by rw [List.size_toArray, List.length_append, List.length_singleton]; omega), pk_butlast]
theorem cut_to {l : List UInt8} {j : Nat} (h : j ≤ l.length) (hl : l.length ≤ 10000) : D.cutB (byD l) none (some (j : Int)) = some (byD (l.take j)) := by
  show (if l.toArray.size ≤ 16777216 then some (D.byt (PySem.W.KBy.picked l.toArray none (some (j : Int)))) else none) = _
  rw [if_pos (by rw [List.size_toArray]; omega), pk_to h]
theorem addB_ok {a b : List UInt8} (h : a.length ≤ 10000) (h2 : b.length ≤ 10000) : D.addB (byD a) (byD b) = some (byD (a ++ b)) := by
  show (if a.toArray.size + b.toArray.size ≤ 16777216 then some (D.byt (a.toArray ++ b.toArray)) else none) = _
  rw [if_pos (by rw [List.size_toArray, List.size_toArray]; omega), List.append_toArray]
theorem rep_one (n : Nat) : Builtin.Bytes.repeated (List.toArray [(1 : UInt8)]) n = (List.replicate n (1 : UInt8)).toArray := by
  unfold Builtin.Bytes.repeated
  rw [if_neg (by decide)]
  have h : ∀ (n : Nat) (a : List UInt8), (List.replicate n (List.toArray [(1 : UInt8)])).foldl (· ++ ·) a.toArray = (a ++ List.replicate n (1 : UInt8)).toArray := by
    intro n
    induction n with
    | zero => intro a; simp
    | succ n ih =>
      intro a
      rw [List.replicate_succ, List.foldl_cons, List.append_toArray, ih, List.append_assoc]
      rfl
  exact h n []
theorem D_mulB {b : Array UInt8} {n : Int} (h : 0 ≤ n ∧ n < 2 ^ 63 ∧ b.size * n.toNat ≤ 16777216) : D.mulB (.byt b) (.int n) = some (.byt (Builtin.Bytes.repeated b n.toNat)) := by
  unfold D.mulB
  exact if_pos h
theorem mulB_ok {n : Nat} (h : n ≤ 10000) : D.mulB (.byt (List.toArray [(1 : UInt8)])) (.int (n : Int)) = some (byD (List.replicate n 1)) := by
  have hz : (List.toArray [(1 : UInt8)]).size = 1 := rfl
  rw [D_mulB ⟨by omega, by omega, by rw [hz, Int.toNat_natCast]; omega⟩, Int.toNat_natCast, rep_one]
theorem toB_one {n : Nat} (h : n < 256) : D.toByt [.lst [.int (n : Int)]] = some (byD [UInt8.ofNat n]) := by
  show (D.ints [.int (n : Int)]).bind (fun ns => if allB ns = true then some (D.byt (byteArr ns)) else none) = _
  show (if allB [(n : Int)] = true then some (D.byt (byteArr [(n : Int)])) else none) = _
  rw [if_pos (of_b8 fun m hm => by rw [List.mem_singleton.mp hm]; omega)]
  rfl
theorem ofNat_toNat {n : Nat} (h : n < 256) : (UInt8.ofNat n).toNat = n := by rw [UInt8.toNat_ofNat']; exact Nat.mod_eq_of_lt h
theorem dw_head {α : Type} (p : α → Bool) : ∀ {l : List α} {z : α} {t : List α}, l.dropWhile p = z :: t → p z = false ∧ ∀ x ∈ z :: t, x ∈ l
  | [], z, t, h => by cases h
  | y :: l, z, t, h => by
    rw [List.dropWhile_cons] at h
    split at h
    · obtain ⟨h1, h2⟩ := dw_head p h
      exact ⟨h1, fun x hx => List.mem_cons_of_mem _ (h2 x hx)⟩
    · rename_i hy
      cases h
      exact ⟨Bool.eq_false_iff.mpr hy, fun x hx => hx⟩
def rs (s : List UInt8) : List UInt8 := (s.reverse.dropWhile fun x => x == 255).reverse
theorem rs_eq (s : List UInt8) : Byt.rstrip s.toArray (List.toArray [(255 : UInt8)]) = (rs s).toArray := by
  unfold Byt.rstrip rs
  have h : (List.toArray [(255 : UInt8)]).contains = fun x : UInt8 => x == 255 := by funext x; simp; rfl
  rw [h]
theorem rs_len (s : List UInt8) : (rs s).length ≤ s.length := by
  unfold rs
  have := Byt.drop_le (fun x : UInt8 => x == 255) s.reverse
  rw [List.length_reverse] at this ⊢
  exact this
theorem rs_cases {s : List UInt8} (hs : ∀ x ∈ s, Od x) : rs s = [] ∨ ∃ r z, rs s = r ++ [z] ∧ (∀ x ∈ r, Od x) ∧ Od z ∧ z.toNat ≤ 253 := by
  unfold rs
  cases h : s.reverse.dropWhile (fun x => x == 255) with
  | nil => exact .inl rfl
  | cons z t =>
    obtain ⟨h1, h2⟩ := dw_head _ h
    have hz : Od z := hs z (List.mem_reverse.mp (h2 z List.mem_cons_self))
    refine .inr ⟨t.reverse, z, by rw [List.reverse_cons], fun x hx => hs x (List.mem_reverse.mp (h2 x (List.mem_cons_of_mem _ (List.mem_reverse.mp hx)))), hz, ?_⟩
    have hne : z ≠ 255 := fun e => by rw [e] at h1; cases h1
    have hlt := UInt8.toNat_lt z
    have h255 : z.toNat ≠ 255 := fun e => hne (UInt8.toNat_inj.mp (by rw [e]; rfl))
    unfold Od at hz
    omega
theorem rs_back (s : List UInt8) : s = rs s ++ List.replicate (s.length - (rs s).length) 255 := by
  have h := List.takeWhile_append_dropWhile (p := fun x : UInt8 => x == 255) (l := s.reverse)
  have e : s.reverse.takeWhile (fun x : UInt8 => x == 255) = List.replicate (s.reverse.takeWhile fun x : UInt8 => x == 255).length 255 := by
    refine List.eq_replicate_iff.mpr ⟨rfl, fun b hb => ?_⟩
    have := List.all_takeWhile (p := fun x : UInt8 => x == 255) (l := s.reverse)
    exact eq_of_beq (List.all_eq_true.mp this b hb)
  have h2 : s = rs s ++ (s.reverse.takeWhile fun x : UInt8 => x == 255).reverse := by
    unfold rs
    rw [← List.reverse_append, h, List.reverse_reverse]
  have hl : s.length - (rs s).length = (s.reverse.takeWhile fun x : UInt8 => x == 255).length := by
    have := congrArg List.length h2
    rw [List.length_append, List.length_reverse] at this
    omega
  rw [hl]
  rw [e, List.reverse_replicate] at h2
  exact h2
section
variable {K : PySem.W.Frag} (A : Ads)
theorem nstart_ok {s : List UInt8} (hs : ∀ x ∈ s, Od x) (hl : s.length ≤ 5000) {q : D → List D → Prop} {er} (k1 : (∀ g : LB, (∀ x ∈ g, Od x) → g.length = s.length → ¬ s < g) → q .non []) (k2 : ∀ t : LB, t.length = s.length → (∀ x ∈ t, Od x) → s < t → (∀ g : LB, (∀ x ∈ g, Od x) → g.length = s.length → s < g → ¬ g < t) → q (byD t) []) : dsp_p_next_start K A [.val (byD s)] q er := by
  unfold dsp_p_next_start body_p_next_start
  have hz : s.toArray.size ≤ sizeLine := by rw [List.size_toArray]; exact Nat.le_trans hl (by decide)
  have hr := rs_len s
  have hl2 : D.len [byD (rs s)] = some (.int ((rs s).length : Int)) := lenB (by omega)
  have hl1 : D.len [byD s] = some (.int (s.length : Int)) := lenB (by omega)
  rcases rs_cases hs with h | ⟨r, z, h, h1, h2, h3⟩
  · have hb : (((rs s).length : Int) == 0) = true := by rw [h]; rfl
    simp! only [↓dRsB, hz, rs_eq, hl2, hb]
    refine k1 fun g hg hgl => ?_
    have e := rs_back s
    rw [h, List.nil_append, List.length_nil, Nat.sub_zero] at e
    rw [e]
    exact full_max s.length g hgl
  · have hlr : (rs s).length = r.length + 1 := by rw [h]; simp
    have hb : (((rs s).length : Int) == 0) = false := by rw [hlr]; exact beq_eq_false_iff_ne.mpr (by omega)
    have ha : D.cutB (byD (rs s)) none (some (-1)) = some (byD r) := by rw [h]; exact cut_but (by omega)
    have hx : D.ixB (byD (rs s)) (.int (-1)) = some (.int ((z.toNat : Nat) : Int)) := by rw [h]; exact ixB_last (by omega)
    have ht : D.toByt [.lst [.int ((z.toNat : Int) + 2)]] = some (byD [UInt8.ofNat (z.toNat + 2)]) := toB_one (n := z.toNat + 2) (by omega)
    have hm : D.mulB (.byt (List.toArray [(1 : UInt8)])) (.int ((s.length : Int) - ((rs s).length : Int))) = some (byD (List.replicate (s.length - (rs s).length) 1)) := by
      rw [show (s.length : Int) - ((rs s).length : Int) = ((s.length - (rs s).length : Nat) : Int) by omega]
      exact mulB_ok (by omega)
    have a1 : D.addB (byD r) (byD [UInt8.ofNat (z.toNat + 2)]) = some (byD (r ++ [UInt8.ofNat (z.toNat + 2)])) := addB_ok (by omega) (by simp)
    have a2 : D.addB (byD (r ++ [UInt8.ofNat (z.toNat + 2)])) (byD (List.replicate (s.length - (rs s).length) 1)) = some (byD (r ++ [UInt8.ofNat (z.toNat + 2)] ++ List.replicate (s.length - (rs s).length) 1)) := addB_ok (by simp; omega) (by simp; omega)
    have z1 : 0 + 1 ≤ sizeLine := by decide
    simp! only [↓dRsB, ↓dSlB, hz, rs_eq, hl2, hl1, hb, ha, hx, ht, hm, a1, a2, z1]
    have e := rs_back s
    refine k2 _ (by simp; omega) (fun x hx => ?_) ?_ ?_
    · rcases List.mem_append.mp hx with hx | hx
      · rcases List.mem_append.mp hx with hx | hx
        · exact h1 x hx
        · rw [List.mem_singleton.mp hx]
          unfold Od at h2 ⊢
          rw [ofNat_toNat (by omega)]
          omega
      · rw [(List.mem_replicate.mp hx).2]; rfl
    · conv => lhs; rw [e]
      rw [h, List.append_assoc, List.append_assoc, app_lt, List.singleton_append, List.singleton_append, lt_cons, ofNat_toNat (by omega)]
      exact .inl (by omega)
    · intro g hg hgl hlt
      rw [e, h] at hlt
      rw [h]
      exact start_least hg (by rw [hgl, List.length_append, List.length_singleton]; omega) h2 h3 hlt
end
section
variable {K : PySem.W.Frag} (A : Ads)
theorem nnone_ok {k : Nat} (h1 : 1 ≤ k) (h2 : k ≤ 5000) {q : D → List D → Prop} {er} (kk : q (byD (List.replicate (k - 1) 1 ++ [2])) []) : dsp_p_next_label K A [.val .non, .val (.int (k : Int))] q er := by
  unfold dsp_p_next_label body_p_next_label
  have hm : D.mulB (.byt (List.toArray [(1 : UInt8)])) (.int ((k : Int) - 1)) = some (byD (List.replicate (k - 1) 1)) := by
    rw [show (k : Int) - 1 = ((k - 1 : Nat) : Int) by omega]
    exact mulB_ok (by omega)
  have a1 : D.addB (byD (List.replicate (k - 1) 1)) (.byt (List.toArray [(2 : UInt8)])) = some (byD (List.replicate (k - 1) 1 ++ [2])) := addB_ok (by simp; omega) (by simp)
  simp! only [↓dSlB, hm, a1]
  exact kk
theorem isN_byt (b : Array UInt8) : D.isN (.byt b) .non = some (.bl false) := rfl
theorem nlong_ok {h : List UInt8} {c : UInt8} (l : Lb h c) {k : Nat} (h1 : h.length + 1 < k) (h2 : k ≤ 5000) {q : D → List D → Prop} {er} (kk : q (byD (h ++ [UInt8.ofNat (c.toNat + 1)] ++ (List.replicate (k - (h.length + 1) - 1) 1 ++ [2]))) []) :
    dsp_p_next_label K A [.val (byD (h ++ [c])), .val (.int (k : Int))] q er := by
  unfold dsp_p_next_label body_p_next_label
  have hlen : (h ++ [c]).length = h.length + 1 := by simp
  have hl : D.len [byD (h ++ [c])] = some (.int ((h.length : Int) + 1)) := by
    rw [lenB (by rw [hlen]; omega), hlen]; rfl
  have hg : decide (((h.length : Int) + 1) < (k : Int)) = true := decide_eq_true (by omega)
  have hcut : D.cutB (byD (h ++ [c])) none (some (-1)) = some (byD h) := cut_but (by omega)
  have hx : D.ixB (byD (h ++ [c])) (.int (-1)) = some (.int ((c.toNat : Nat) : Int)) := ixB_last (by omega)
  have hc := l.ev
  have hc2 := UInt8.toNat_lt c
  have ht : D.toByt [.lst [.int ((c.toNat : Int) + 1)]] = some (byD [UInt8.ofNat (c.toNat + 1)]) := toB_one (n := c.toNat + 1) (by omega)
  have hm : D.mulB (.byt (List.toArray [(1 : UInt8)])) (.int ((k : Int) - ((h.length : Int) + 1) - 1)) = some (byD (List.replicate (k - (h.length + 1) - 1) 1)) := by
    rw [show (k : Int) - ((h.length : Int) + 1) - 1 = ((k - (h.length + 1) - 1 : Nat) : Int) by omega]
    exact mulB_ok (by omega)
  have a1 : D.addB (byD h) (byD [UInt8.ofNat (c.toNat + 1)]) = some (byD (h ++ [UInt8.ofNat (c.toNat + 1)])) := addB_ok (by omega) (by simp)
  have a2 : D.addB (byD (h ++ [UInt8.ofNat (c.toNat + 1)])) (byD (List.replicate (k - (h.length + 1) - 1) 1)) = some (byD (h ++ [UInt8.ofNat (c.toNat + 1)] ++ List.replicate (k - (h.length + 1) - 1) 1)) := addB_ok (by simp; omega) (by simp; omega)
  have a3 : D.addB (byD (h ++ [UInt8.ofNat (c.toNat + 1)] ++ List.replicate (k - (h.length + 1) - 1) 1)) (.byt (List.toArray [(2 : UInt8)])) = some (byD (h ++ [UInt8.ofNat (c.toNat + 1)] ++ List.replicate (k - (h.length + 1) - 1) 1 ++ [2])) := addB_ok (by simp; omega) (by simp)
  have z1 : 0 + 1 ≤ sizeLine := by decide
  rw [← List.append_assoc] at kk
  simp! only [↓dSlB, isN_byt, hl, hg, hcut, hx, ht, hm, a1, a2, a3, z1]
  exact kk
theorem nshort_ok {h : List UInt8} {c : UInt8} (l : Lb h c) {k : Nat} (h0 : 1 ≤ k) (h1 : k ≤ h.length + 1) (h2 : h.length < 5000) {q : D → List D → Prop} {er} (k1 : (∀ (g : LB) (e : UInt8), Lb g e → g.length + 1 = k → ¬ h ++ [c] < g ++ [e]) → q .non []) (k2 : ∀ (h' : LB) (c' : UInt8), Lb h' c' → h'.length + 1 = k → h ++ [c] < h' ++ [c'] → (∀ (g : LB) (e : UInt8), Lb g e → g.length + 1 = k → h ++ [c] < g ++ [e] → ¬ g ++ [e] < h' ++ [c']) → q (byD (h' ++ [c'])) []) :
    dsp_p_next_label K A [.val (byD (h ++ [c])), .val (.int (k : Int))] q er := by
  unfold dsp_p_next_label body_p_next_label
  have hlen : (h ++ [c]).length = h.length + 1 := by simp
  have hl : D.len [byD (h ++ [c])] = some (.int ((h.length : Int) + 1)) := by
    rw [lenB (by rw [hlen]; omega), hlen]; rfl
  have hg : decide (((h.length : Int) + 1) < (k : Int)) = false := decide_eq_false (by omega)
  have hk : k - 1 < (h ++ [c]).length := by rw [hlen]; omega
  have hkk : (k : Int) - 1 = ((k - 1 : Nat) : Int) := by omega
  have hx : D.ixB (byD (h ++ [c])) (.int ((k : Int) - 1)) = some (.int (((h ++ [c])[k - 1].toNat : Nat) : Int)) := by
    rw [hkk]; exact ixB_at hk (by rw [hlen]; omega)
  have hsp : h ++ [c] = h.take (k - 1) ++ (h ++ [c])[k - 1] :: (h ++ [c]).drop (k - 1 + 1) := by
    rw [← List.drop_eq_getElem_cons hk]
    conv => lhs; rw [← List.take_append_drop (k - 1) (h ++ [c])]
    rw [List.take_append_of_le_length (by omega)]
  generalize (h ++ [c])[k - 1] = v at hx hsp
  generalize (h ++ [c]).drop (k - 1 + 1) = u at hsp
  have hv := UInt8.toNat_lt v
  have hb := band1 v.toNat
  have hcut : D.cutB (byD (h ++ [c])) none (some ((k : Int) - 1)) = some (byD (h.take (k - 1))) := by
    rw [hkk, cut_to (by rw [hlen]; omega) (by rw [hlen]; omega), List.take_append_of_le_length (by omega)]
  have hod : ∀ x ∈ h.take (k - 1), Od x := fun x hx => l.odd x (List.mem_of_mem_take hx)
  have htl : (h.take (k - 1)).length = k - 1 := by rw [List.length_take]; omega
  have hw : (v.toNat : Int) + 2 - ((v.toNat % 2 : Nat) : Int) = ((v.toNat + 2 - v.toNat % 2 : Nat) : Int) := by omega
  have z1 : 0 + 1 ≤ sizeLine := by decide
  by_cases hd : v.toNat + 2 - v.toNat % 2 ≤ 254
  · have hg2 : decide (((v.toNat + 2 - v.toNat % 2 : Nat) : Int) ≤ 254) = true := decide_eq_true (by omega)
    have ht : D.toByt [.lst [.int ((v.toNat + 2 - v.toNat % 2 : Nat) : Int)]] = some (byD [UInt8.ofNat (v.toNat + 2 - v.toNat % 2)]) := toB_one (by omega)
    have a1 : D.addB (byD (h.take (k - 1))) (byD [UInt8.ofNat (v.toNat + 2 - v.toNat % 2)]) = some (byD (h.take (k - 1) ++ [UInt8.ofNat (v.toNat + 2 - v.toNat % 2)])) := addB_ok (by omega) (by simp)
    simp! only [↓dSlB, isN_byt, hl, hg, hx, hb, hw, hg2, hcut, ht, a1, z1]
    refine k2 _ _ ⟨hod, ?_, ?_⟩ (by omega) ?_ fun g e l' hg hlt => ?_
    · rw [ofNat_toNat (by omega)]; omega
    · rw [ofNat_toNat (by omega)]; omega
    · rw [hsp, app_lt, lt_cons, ofNat_toNat (by omega)]
      exact .inl (by omega)
    · rw [hsp] at hlt
      exact even_least (by omega) l' hd hlt
  · have hg2 : decide (((v.toNat + 2 - v.toNat % 2 : Nat) : Int) ≤ 254) = false := decide_eq_false (by omega)
    simp! only [↓dSlB, isN_byt, hl, hg, hx, hb, hw, hg2, hcut, z1]
    refine nstart_ok A hod (by omega) (fun hno => ?_) fun t ht hto htl htm => ?_
    · simp! only [↓dSlB, isN_byt]
      refine k1 fun g e l' hg => ?_
      rw [hsp]
      exact snoc_none (by omega) l' (by omega) (hno g l'.odd (by omega))
    · have a1 : D.addB (byD t) (.byt (List.toArray [(2 : UInt8)])) = some (byD (t ++ [2])) := addB_ok (by omega) (by simp)
      simp! only [↓dSlB, isN_byt, a1]
      refine k2 t 2 ⟨hto, by decide, by decide⟩ (by omega) ?_ fun g e l' hg hlt => ?_
      · rw [hsp, pre_lt ht.symm]
        exact .inl htl
      · rw [hsp] at hlt
        exact snoc_least (by omega) ht l' (by omega) hlt (htm g l'.odd (by omega))
end
abbrev Lab := Option (List UInt8 × UInt8)
def labD : Lab → D
  | none => .non
  | some p => byD (p.1 ++ [p.2])
def OkL (k : Nat) (x : Lab) : Prop := ∀ p, x = some p → Lb p.1 p.2 ∧ p.1.length + 1 = k
def OkB (x : Lab) : Prop := ∀ p, x = some p → Lb p.1 p.2 ∧ p.1.length < 1000
def Bef (x hi : Lab) : Prop := ∃ p, x = some p ∧ ∀ g, hi = some g → p.1 ++ [p.2] < g.1 ++ [g.2]
def LtB (lo hi : Lab) : Prop := ∀ p g, lo = some p → hi = some g → p.1 ++ [p.2] < g.1 ++ [g.2]
theorem ones_lb {m : Nat} : Lb (List.replicate m (1 : UInt8)) 2 := ⟨fun x hx => by rw [(List.mem_replicate.mp hx).2]; rfl, by decide, by decide⟩
def lbB (x : Lab) : Bd := x.map fun p => p.1 ++ [p.2]
theorem nx_none {k : Nat} (hk : 1 ≤ k) {p : LB → Bool} (h : ∀ (g : LB) (e : UInt8), Lb g e → g.length + 1 = k → p (g ++ [e]) = false) : Nx (k - 1) p none := fun y hy => by
  obtain ⟨g, e, rfl, l, hl⟩ := mem_allLab.mp hy
  exact h g e l (by omega)
theorem nx_some {k : Nat} (hk : 1 ≤ k) {p : LB → Bool} {h : LB} {c : UInt8} (l : Lb h c) (hl : h.length + 1 = k) (hp : p (h ++ [c]) = true) (hm : ∀ (g : LB) (e : UInt8), Lb g e → g.length + 1 = k → p (g ++ [e]) = true → ¬ g ++ [e] < h ++ [c]) : Nx (k - 1) p (some (h ++ [c])) :=
  ⟨mem_allLab.mpr ⟨h, c, rfl, l, by omega⟩, hp, fun y hy hpy => by
    obtain ⟨g, e, rfl, l2, hl2⟩ := mem_allLab.mp hy
    exact hm g e l2 (by omega) hpy⟩
section
variable {K : PySem.W.Frag} (A : Ads)
theorem nl_low {lo hi : Lab} (h1 : OkB lo) (h2 : OkB hi) (h3 : LtB lo hi) {k : Nat} (hk : 1 ≤ k) (hk2 : k ≤ 4000) {q : D → List D → Prop} {er} (kk : ∀ x : Lab, OkL k x → Nx (k - 1) (abv (lbB lo)) (lbB x) → (1000 < k → Bef x hi) → q (labD x) []) :
    dsp_p_next_label K A [.val (labD lo), .val (.int (k : Int))] q er := by
  cases lo with
  | none =>
    refine nnone_ok A hk (by omega) (kk (some (List.replicate (k - 1) 1, 2)) (fun p e => ?_) (nx_some hk ones_lb (by simp; omega) rfl fun g e l2 hl2 _ => ?_) fun hl => ⟨_, rfl, fun g hg => ?_⟩)
    · cases e; exact ⟨ones_lb, by simp; omega⟩
    · rw [show k - 1 = g.length by omega]
      exact ones_le g g e l2
    · obtain ⟨lg, hg2⟩ := h2 g hg
      exact ones_lt g.1 g.2 (k - 1) lg (by omega)
  | some p =>
    obtain ⟨h, c⟩ := p
    have l : Lb h c := (h1 _ rfl).1
    have hl : h.length < 1000 := (h1 _ rfl).2
    have hc := l.ev
    have hc2 := UInt8.toNat_lt c
    by_cases hs : h.length + 1 < k
    · refine nlong_ok A l hs (by omega) ?_
      have e : (h ++ [UInt8.ofNat (c.toNat + 1)] ++ (List.replicate (k - (h.length + 1) - 1) 1 ++ [2])) = (h ++ [UInt8.ofNat (c.toNat + 1)] ++ List.replicate (k - (h.length + 1) - 1) 1) ++ [2] := by rw [List.append_assoc, List.append_assoc, List.append_assoc]
      have hlb : Lb (h ++ [UInt8.ofNat (c.toNat + 1)] ++ List.replicate (k - (h.length + 1) - 1) 1) 2 := by
        refine ⟨fun x hx => ?_, (ones_lb (m := 0)).ev, (ones_lb (m := 0)).pos⟩
        rcases List.mem_append.mp hx with hx | hx
        · rcases List.mem_append.mp hx with hx | hx
          · exact l.odd x hx
          · rw [List.mem_singleton.mp hx]
            unfold Od
            rw [ofNat_toNat (by omega)]
            omega
        · rw [(List.mem_replicate.mp hx).2]; rfl
      rw [e]
      refine kk (some (h ++ [UInt8.ofNat (c.toNat + 1)] ++ List.replicate (k - (h.length + 1) - 1) 1, 2)) (fun p ep => ?_) (nx_some hk hlb (by simp; omega) (decide_eq_true ?_) fun g e2 l2 hl2 hp => ?_) fun hN => ⟨_, rfl, fun g hg => ?_⟩
      · cases ep
        exact ⟨hlb, by simp; omega⟩
      · show h ++ [c] < _
        rw [← e, List.append_assoc, app_lt, List.singleton_append, lt_cons, ofNat_toNat (by omega)]
        exact .inl (by omega)
      · rw [← e]
        exact long_least l l2 (by omega) (ofNat_toNat (by omega)) (of_decide_eq_true hp)
      · obtain ⟨lg, hg2⟩ := h2 g hg
        show (h ++ [UInt8.ofNat (c.toNat + 1)] ++ List.replicate (k - (h.length + 1) - 1) 1) ++ [2] < g.1 ++ [g.2]
        rw [← e]
        exact first_lt h c g.1 g.2 _ _ l lg (h3 _ g rfl hg) (ofNat_toNat (by omega)) (by omega)
    · refine nshort_ok A l hk (by omega) (by omega) (fun hno => kk none (fun p e => by cases e) (nx_none hk fun g e l2 hl2 => decide_eq_false (hno g e l2 hl2)) fun hN => by omega) fun h' c' l' hl' hlt hm => kk (some (h', c')) (fun p e => by cases e; exact ⟨l', hl'⟩) (nx_some hk l' hl' (decide_eq_true hlt) fun g e l2 hl2 hp => hm g e l2 hl2 (of_decide_eq_true hp)) fun hN => by omega
theorem nl_in {p : List UInt8 × UInt8} {k : Nat} (h : Lb p.1 p.2 ∧ p.1.length + 1 = k) (hk : 1 ≤ k) (hk2 : k ≤ 4000) {q : D → List D → Prop} {er} (kk : ∀ x : Lab, OkL k x → Nx (k - 1) (abv (lbB (some p))) (lbB x) → q (labD x) []) :
    dsp_p_next_label K A [.val (labD (some p)), .val (.int (k : Int))] q er :=
  nshort_ok A h.1 hk (by omega) (by omega) (fun hno => kk none (fun p e => by cases e) (nx_none hk fun g e l2 hl2 => decide_eq_false (hno g e l2 hl2))) fun h' c' l' hl' hlt hm => kk (some (h', c')) (fun p e => by cases e; exact ⟨l', hl'⟩) (nx_some hk l' hl' (decide_eq_true hlt) fun g e l2 hl2 hp => hm g e l2 hl2 (of_decide_eq_true hp))
theorem lab_nonN (x : Lab) : D.isNotN (labD x) .non = some (.bl x.isSome) := by cases x <;> rfl
theorem lab_isN (x : Lab) : D.isN (labD x) .non = some (.bl (!x.isSome)) := by cases x <;> rfl
theorem lab_lt (p g : List UInt8 × UInt8) : D.ltB (labD (some p)) (labD (some g)) = some (.bl (decide (p.1 ++ [p.2] < g.1 ++ [g.2]))) := by
  show some (D.bl (DL.ltB (p.1 ++ [p.2]).toArray (g.1 ++ [g.2]).toArray)) = _
  rw [lt_ltB]
theorem byts_byD (gs : List LB) : D.byts (gs.map byD) = some (gs.map List.toArray) := by
  have h := byts_map (gs.map List.toArray)
  rw [List.map_map] at h
  exact h
theorem first_ok {lo hi : Lab} (h1 : OkB lo) (h2 : OkB hi) (h3 : LtB lo hi) {n : Nat} (hn : n ≤ 200) {q : D → List D → Prop} {er} (kk : ∀ (m : Nat) (cs : List LB), n ≤ (FF (lbB lo) (lbB hi) m).length → cs.Perm ((FF (lbB lo) (lbB hi) m).take n) → cs.Pairwise (fun x y => ¬ y < x) → q (.lst (cs.map byD)) []) :
    dsp_first_labels K A [.val (labD lo), .val (labD hi), .val (.int (n : Int))] q er := by
  unfold dsp_first_labels body_first_labels
  have z0 : 0 ≤ sizeLine := by decide
  simp! only [↓dSlB, z0, Nat.reduceLT]
  refine while_inv (fun m ρ => ∃ (fs : List LB) (k : Nat) (s5 : Sl), s5.isP = false ∧ 1 ≤ k ∧ k ≤ 1001 + fs.length ∧ fs.length ≤ n ∧ fs = (FF (lbB lo) (lbB hi) (k - 1)).take n ∧ m = (1001 - k) + (n - fs.length) ∧ ρ = [.val (labD lo), .val (labD hi), .val (.int (n : Int)), .own (.lst (fs.map byD)), .val (.int (k : Int)), s5]) (m0 := 1000 + n) ⟨[], 1, .no, rfl, Nat.le_refl _, by simp, by simp, by simp [FF], by simp, rfl⟩ ?_
  rintro m ρ nx ⟨fs, k, s5, p5, k1, k2, hf, hff, rfl, rfl⟩ hnx
  have hb2 : (0 : Int) ≤ (fs.length : Int) ∧ (fs.length : Int) < 2 ^ 63 := ⟨by omega, by omega⟩
  by_cases hlt : fs.length < n
  · have hg : decide ((fs.length : Int) < (n : Int)) = true := decide_eq_true (by omega)
    have hfa : fs = FF (lbB lo) (lbB hi) (k - 1) := by
      rw [hff, List.length_take] at hlt
      rw [hff, List.take_of_length_le (by omega)]
    simp! only [Nat.reduceLT, List.length_map, hg, hb2, p5]
    refine nl_low A h1 h2 h3 k1 (by omega) fun x0 hx0 hnx0 hx1 => ?_
    simp! only [Nat.reduceLT, p5]
    refine while_inv (fun m ρ => ∃ (gs : List LB) (c x : Lab), fs.length ≤ gs.length ∧ gs.length ≤ n ∧ OkL k x ∧ Nx (k - 1) (abv (lbB c)) (lbB x) ∧ gs ++ ((allLab (k - 1)).filter (abv (lbB c))).filter (bel (lbB hi)) = FF (lbB lo) (lbB hi) k ∧ (gs.length = fs.length → 1000 < k → Bef x hi) ∧ m = n - gs.length ∧ ρ = [.val (labD lo), .val (labD hi), .val (.int (n : Int)), .own (.lst (gs.map byD)), .val (.int (k : Int)), .val (labD x)]) (m0 := n - fs.length) ⟨fs, lo, x0, Nat.le_refl _, hf, hx0, hnx0, (by rw [hfa, show k = k - 1 + 1 by omega]; rfl), fun _ => hx1, rfl, rfl⟩ ?_
    rintro m ρ nx2 ⟨gs, c, x, g1, g2, g3, gx, gf, g4, rfl, rfl⟩ hnx2
    have hb3 : (0 : Int) ≤ (gs.length : Int) ∧ (gs.length : Int) < 2 ^ 63 := ⟨by omega, by omega⟩
    have hout : gs = (FF (lbB lo) (lbB hi) k).take n → (gs.length = fs.length → 1000 < k → False) → nx [.val (labD lo), .val (labD hi), .val (.int (n : Int)), .own (.lst (gs.map byD)), .val (.int ((k : Int) + 1)), .val (labD x)] := fun hgt hz => by
      by_cases e : gs.length = fs.length
      · have hk3 : ¬ 1000 < k := hz e
        exact hnx ((1001 - (k + 1)) + (n - gs.length)) _ (by omega) ⟨gs, k + 1, _, rfl, by omega, by omega, g2, hgt, rfl, rfl⟩
      · exact hnx ((1001 - (k + 1)) + (n - gs.length)) _ (by omega) ⟨gs, k + 1, _, rfl, by omega, by omega, g2, hgt, rfl, rfl⟩
    have hend : ((allLab (k - 1)).filter (abv (lbB c))).filter (bel (lbB hi)) = [] → gs = (FF (lbB lo) (lbB hi) k).take n := fun e => by
      rw [← gf, e, List.append_nil, List.take_of_length_le g2]
    have hfull : ¬ gs.length < n → gs = (FF (lbB lo) (lbB hi) k).take n := fun e => by
      have : gs.length = n := by omega
      rw [← gf, ← this, List.take_left]
    cases x with
    | none =>
      have hN := lab_nonN none
      have hx : Option.isSome (none : Lab) = false := rfl
      simp! only [Nat.reduceLT, hN, hx, iadd_int]
      refine hout (hend ?_) fun e hk => by obtain ⟨p, hp, _⟩ := g4 e hk; cases hp
      have := Nx.done gx
      rw [this]; rfl
    | some p =>
      have hN := lab_nonN (some p)
      have hx : Option.isSome (some p : Lab) = true := rfl
      have hin : ∀ (hlt2 : gs.length < n), gs.length < sizeLine := fun hlt2 => Nat.lt_of_lt_of_le (by omega : gs.length < 200) (by decide)
      have hh := lab_isN hi
      have hstep : gs.length < n → bel (lbB hi) (p.1 ++ [p.2]) = true → ∀ y : Lab, OkL k y → Nx (k - 1) (abv (lbB (some p))) (lbB y) → nx2 [.val (labD lo), .val (labD hi), .val (.int (n : Int)), .own (.lst ((gs ++ [p.1 ++ [p.2]]).map byD)), .val (.int (k : Int)), .val (labD y)] := fun hlt2 hbe y hy hny =>
        hnx2 (n - (gs.length + 1)) _ (by omega) ⟨gs ++ [p.1 ++ [p.2]], some p, y, by simp; omega, by simp; omega, hy, hny, (by rw [← gf, bel_some gx hbe, List.append_assoc]; rfl), fun e => by simp at e; omega, by simp, rfl⟩
      cases hi with
      | none =>
        have hx2 : (!Option.isSome (none : Lab)) = true := rfl
        by_cases hlt2 : gs.length < n
        · have hg2 : decide ((gs.length : Int) < (n : Int)) = true := decide_eq_true (by omega)
          simp! only [Nat.reduceLT, hN, hx, hh, hx2, hg2, hb3, List.length_map, hin hlt2]
          refine nl_in A (g3 p rfl) k1 (by omega) fun y hy hny => ?_
          simp! only [Nat.reduceLT]
          have := hstep hlt2 rfl y hy hny
          rw [List.map_append] at this
          exact this
        · have hg2 : decide ((gs.length : Int) < (n : Int)) = false := decide_eq_false (by omega)
          simp! only [Nat.reduceLT, hN, hx, hh, hx2, hg2, hb3, List.length_map, iadd_int]
          exact hout (hfull hlt2) fun e hk => by omega
      | some g =>
        have hx2 : (!Option.isSome (some g : Lab)) = false := rfl
        have hll := lab_lt p g
        by_cases hpg : p.1 ++ [p.2] < g.1 ++ [g.2]
        · have hd : decide (p.1 ++ [p.2] < g.1 ++ [g.2]) = true := decide_eq_true hpg
          by_cases hlt2 : gs.length < n
          · have hg2 : decide ((gs.length : Int) < (n : Int)) = true := decide_eq_true (by omega)
            simp! only [Nat.reduceLT, hN, hx, hh, hx2, hll, hd, hg2, hb3, List.length_map, hin hlt2]
            refine nl_in A (g3 p rfl) k1 (by omega) fun y hy hny => ?_
            simp! only [Nat.reduceLT]
            have := hstep hlt2 hd y hy hny
            rw [List.map_append] at this
            exact this
          · have hg2 : decide ((gs.length : Int) < (n : Int)) = false := decide_eq_false (by omega)
            simp! only [Nat.reduceLT, hN, hx, hh, hx2, hll, hd, hg2, hb3, List.length_map, iadd_int]
            exact hout (hfull hlt2) fun e hk => by omega
        · have hd : decide (p.1 ++ [p.2] < g.1 ++ [g.2]) = false := decide_eq_false hpg
          simp! only [Nat.reduceLT, hN, hx, hh, hx2, hll, hd, iadd_int]
          refine hout (hend (bel_none gx hd)) fun e hk => ?_
          obtain ⟨p', hp', hb⟩ := g4 e hk
          cases hp'
          exact hpg (hb g rfl)
  · have hg : decide ((fs.length : Int) < (n : Int)) = false := decide_eq_false (by omega)
    have hby := byts_byD fs
    simp! only [Nat.reduceLT, List.length_map, hg, hb2, p5, ↓dSortB, hby]
    intro cs hp hw
    have hlen : n ≤ (FF (lbB lo) (lbB hi) (k - 1)).length := by
      have := congrArg List.length hff
      rw [List.length_take] at this
      omega
    have e : cs.map D.byt = (cs.map Array.toList).map byD := by
      rw [List.map_map]
      rfl
    rw [e]
    refine kk (k - 1) _ hlen ?_ ?_
    · rw [← hff]
      have := hp.map Array.toList
      rw [List.map_map] at this
      have e2 : fs.map (Array.toList ∘ List.toArray) = fs := by
        have : (Array.toList ∘ List.toArray : LB → LB) = id := rfl
        rw [this, List.map_id]
      rw [e2] at this
      exact this
    · rw [List.pairwise_map]
      refine hw.imp fun {a b} h hlt => ?_
      have h2 : DL.ltB b.toList.toArray a.toList.toArray = false := h
      rw [lt_ltB] at h2
      exact of_decide_eq_false h2 hlt
end
theorem notInB_ok (l : List UInt8) : D.notInB (.int 0) (byD l) = some (.bl (!(l.contains 0))) := by
  show (if (0 : Int) ≤ 0 ∧ (0 : Int) < 256 then some (D.bl (!(l.toArray.contains (Int.toNat 0).toUInt8))) else none) = _
  rw [if_pos ⟨by decide, by decide⟩]
  have e : (Int.toNat 0).toUInt8 = 0 := rfl
  rw [e]; simp
section
variable {K : PySem.W.Frag} (A : Ads)
theorem key_ok {h : List UInt8} {c : UInt8} (hl : h.length < 2000) {q : D → List D → Prop} {er} (k : q (.bl (!((h ++ [c]).contains 0) && !(((c.toNat % 2 : Nat) : Int) != 0))) []) : dsp_is_key K A [.val (byD (h ++ [c]))] q er := by
  unfold dsp_is_key body_is_key
  have hlen : D.len [byD (h ++ [c])] = some (.int ((h.length : Int) + 1)) := by rw [lenB (by simp; omega)]; simp
  have hg : decide ((0 : Int) < (h.length : Int) + 1) = true := decide_eq_true (by omega)
  have hc := notInB_ok (h ++ [c])
  have hx : D.ixB (byD (h ++ [c])) (.int (-1)) = some (.int ((c.toNat : Nat) : Int)) := ixB_last (by omega)
  have hb := band1 c.toNat
  cases hz : (h ++ [c]).contains 0 with
  | true =>
    rw [hz] at hc k
    simp! only [tyV_byt, kno_byt, hlen, hg, hc, hx, hb, ↓dNotT]
    exact k
  | false =>
    rw [hz] at hc k
    simp! only [tyV_byt, kno_byt, hlen, hg, hc, hx, hb, ↓dNotT]
    exact k
theorem lab_ok {h : List UInt8} {c : UInt8} (hz : (h ++ [c]).contains 0 = false) (hc : c.toNat % 2 = 0) (hl : h.length < 1000) {q : D → List D → Prop} {er} (k : q (.bl ((h.map fun x => ((x.toNat % 2 : Nat) : Int)).all fun n => n != 0)) []) : dsp_p_is_label K A [.val (byD (h ++ [c]))] q er := by
  unfold dsp_p_is_label body_p_is_label
  simp! only [idd_eq]
  refine key_ok A (by omega) ?_
  have e : (!((h ++ [c]).contains 0) && !(((c.toNat % 2 : Nat) : Int) != 0)) = true := by rw [hz, hc]; rfl
  rw [e]
  have hlen : D.len [byD (h ++ [c])] = some (.int ((h.length : Int) + 1)) := by rw [lenB (by simp; omega)]; simp
  have hg : decide ((1000 : Int) < (h.length : Int) + 1) = false := decide_eq_false (by omega)
  have hcut : D.cutB (byD (h ++ [c])) none (some (-1)) = some (byD h) := cut_but (by omega)
  simp! only [hlen, hg, ↓dSlB, diByt, hcut]
  refine lcL_inv (fun i acc ρ => ∃ t : Sl, t.isP = false ∧ acc = ((h.take i).map fun x => ((x.toNat % 2 : Nat) : Int)).map D.int ∧ ρ = [.val (byD (h ++ [c])), t]) ⟨.no, rfl, rfl, rfl⟩ ?_ ?_
  · rintro i d acc ρ nx hd ⟨t, pt, rfl, rfl⟩ hnx
    rw [List.getElem?_map] at hd
    cases hg2 : h[i]? with
    | none => rw [show (h.toArray.toList)[i]? = h[i]? from rfl, hg2] at hd; cases hd
    | some x =>
      rw [show (h.toArray.toList)[i]? = h[i]? from rfl, hg2] at hd
      cases hd
      have hi := (List.getElem?_eq_some_iff.mp hg2).1
      have hb := band1 x.toNat
      have hsz : (((h.take i).map fun x => ((x.toNat % 2 : Nat) : Int)).map D.int).length < sizeLine := by
        rw [List.length_map, List.length_map, List.length_take]
        exact Nat.lt_of_lt_of_le (by omega : min i h.length < 1000) (by decide)
      simp! only [pt, hb, hsz]
      refine hnx _ _ ⟨_, rfl, ?_, rfl⟩
      rw [List.take_succ, hg2]
      simp
  · rintro acc ρ ⟨t, pt, rfl, rfl⟩
    have e2 : (h.toArray.toList.map fun c => D.int ((c.toNat : Nat) : Int)).length = h.length := by rw [List.length_map]
    rw [e2, List.take_length]
    have ha : D.allI [.lst ((h.map fun x => ((x.toNat % 2 : Nat) : Int)).map D.int)] = some (.bl ((h.map fun x => ((x.toNat % 2 : Nat) : Int)).all fun n => n != 0)) := by
      show (D.ints _).map _ = _
      have := ints_map (f := fun n : Int => n) (h.map fun x => ((x.toNat % 2 : Nat) : Int))
      rw [show ((h.map fun x => ((x.toNat % 2 : Nat) : Int)).map D.int) = ((h.map fun x => ((x.toNat % 2 : Nat) : Int)).map fun x => D.int x) from rfl, this]
      simp [Function.comp_def]
    simp! only [ha]
    exact k
end
theorem Lb.no0 {h : List UInt8} {c : UInt8} (l : Lb h c) : (h ++ [c]).contains 0 = false := by
  refine Bool.eq_false_iff.mpr fun hc => ?_
  rcases List.mem_append.mp (List.contains_iff_mem.mp hc) with hx | hx
  · have := l.odd 0 hx; unfold Od at this; revert this; decide
  · have := l.pos; rw [← List.mem_singleton.mp hx] at this; revert this; decide
theorem Lb.all1 {h : List UInt8} {c : UInt8} (l : Lb h c) : ((h.map fun x => ((x.toNat % 2 : Nat) : Int)).all fun n => n != 0) = true := by
  rw [List.all_map, List.all_eq_true]
  intro x hx
  have := l.odd x hx
  unfold Od at this
  show (((x.toNat % 2 : Nat) : Int) != 0) = true
  rw [this]; rfl
section
variable {K : PySem.W.Frag} (A : Ads)
theorem lab_true {h : List UInt8} {c : UInt8} (l : Lb h c) (hl : h.length < 1000) {q : D → List D → Prop} {er} (k : q (.bl true) []) : dsp_p_is_label K A [.val (byD (h ++ [c]))] q er :=
  lab_ok A l.no0 l.ev hl (by rw [l.all1]; exact k)
theorem lab_isl {x : Lab} (h : OkB x) {p : List UInt8 × UInt8} (e : x = some p) {q : D → List D → Prop} {er} (k : q (.bl true) []) : dsp_p_is_label K A [.val (labD x)] q er := by
  subst e
  obtain ⟨l, hl⟩ := h p rfl
  exact lab_true A l hl k
theorem isint_i (n : Int) {q : D → List D → Prop} {er} (k : q (.bl true) []) : dsp_is_integer K A [.val (.int n)] q er := by
  unfold dsp_is_integer body_is_integer
  simp! only [idd_eq]
  exact k
theorem word_none {lo hi : Lab} (h1 : OkB lo) (h2 : OkB hi) (h3 : LtB lo hi) {n : Nat} (hn : n ≤ 200) {q : D → List D → Prop} {er} (k : q .non []) : dsp_p_wrong_word K A [.val (labD lo), .val (labD hi), .val (.int (n : Int))] q er := by
  have d0 : decide ((0 : Int) ≤ (n : Int)) = true := decide_eq_true (by omega)
  have d1 : decide ((n : Int) ≤ (200 : Int)) = true := decide_eq_true (by omega)
  unfold dsp_p_wrong_word body_p_wrong_word
  have hN := lab_nonN lo
  have hM := lab_nonN hi
  cases lo with
  | none =>
    have s1 : Option.isSome (none : Lab) = false := rfl
    cases hi with
    | none =>
      have s2 : Option.isSome (none : Lab) = false := rfl
      simp! only [hN, s1]
      refine isint_i A _ ?_
      simp! only [d0, d1]
      exact k
    | some g =>
      have s2 : Option.isSome (some g : Lab) = true := rfl
      simp! only [hN, s1, hM, s2]
      refine lab_isl A h2 rfl ?_
      simp! only [hN, s1, hM, s2]
      refine isint_i A _ ?_
      simp! only [d0, d1]
      exact k
  | some p =>
    have s1 : Option.isSome (some p : Lab) = true := rfl
    cases hi with
    | none =>
      have s2 : Option.isSome (none : Lab) = false := rfl
      simp! only [hN, s1]
      refine lab_isl A h1 rfl ?_
      simp! only [hN, s1, hM, s2]
      refine isint_i A _ ?_
      simp! only [d0, d1]
      exact k
    | some g =>
      have s2 : Option.isSome (some g : Lab) = true := rfl
      have hd := lab_lt p g
      have hf2 : decide (p.1 ++ [p.2] < g.1 ++ [g.2]) = true := decide_eq_true (h3 p g rfl rfl)
      simp! only [hN, s1]
      refine lab_isl A h1 rfl ?_
      simp! only [hM, s2]
      refine lab_isl A h2 rfl ?_
      simp! only [hN, s1, hM, s2, hd, hf2]
      refine isint_i A _ ?_
      simp! only [d0, d1]
      exact k
theorem betw_ok {lo hi : Lab} (h1 : OkB lo) (h2 : OkB hi) (h3 : LtB lo hi) {n : Nat} (hn : n ≤ 200) {q : D → List D → Prop} {er} (k : ∀ cs : List LB, Srt (lbB lo) (lbB hi) n cs → q (.lst (cs.map byD)) []) : dsp_labels_between K A [.val (labD lo), .val (labD hi), .val (.int (n : Int))] q er := by
  unfold dsp_labels_between body_labels_between
  simp! only [Nat.reduceLT]
  refine word_none A h1 h2 h3 hn ?_
  have hz : D.isNotN .non .non = some (.bl false) := rfl
  simp! only [Nat.reduceLT, hz]
  refine first_ok A h1 h2 h3 hn fun m cs c1 c2 c3 => ?_
  simp! only [Nat.reduceLT]
  exact k cs ⟨m, c1, c2, c3⟩
theorem bytes_ok {l : List UInt8} (hl : l.length ≤ 2000) {q : D → List D → Prop} {er} (k : q (byD l) []) : dsp_bytes_of K A [.val (nsD l)] q er := by
  unfold dsp_bytes_of body_bytes_of
  have hsq : ∀ (q : D → List D → Prop) (er : Addr → List (Str × D) → List D → Prop), q (.bl true) [] → dsp_is_sequence K A [.val (nsD l)] q er := fun q er k => by
    unfold dsp_is_sequence body_is_sequence
    have h2 : 0 + 1 + 1 ≤ sizeLine := by decide
    simp! only [h2]
    exact k
  simp! only [Nat.reduceLT]
  refine hsq _ _ ?_
  simp! only [Nat.reduceLT]
  refine forL_inv (fun i ρ => ∃ s1 s2 : Sl, s1.isP = false ∧ s2.isP = false ∧ ρ = [.val (nsD l), s1, s2]) ⟨.no, .no, rfl, rfl, rfl⟩ ?_ ?_
  · rintro i e ρ nx he ⟨s1, s2, p1, p2, rfl⟩ hnx
    obtain ⟨d, hd, rfl⟩ := enumD_mem he
    obtain ⟨x, _, rfl⟩ := List.mem_map.mp hd
    have hx := UInt8.toNat_lt x
    have d0 : decide ((0 : Int) ≤ ((x.toNat : Nat) : Int)) = true := decide_eq_true (by omega)
    have d1 : decide (((x.toNat : Nat) : Int) ≤ (255 : Int)) = true := decide_eq_true (by omega)
    simp! only [Nat.reduceLT, p1, p2]
    refine isint_i A _ ?_
    simp! only [Nat.reduceLT, d0, d1]
    exact hnx _ ⟨_, _, rfl, rfl, rfl⟩
  · rintro ρ ⟨s1, s2, p1, p2, rfl⟩
    have ht := toByt_ns l
    simp! only [Nat.reduceLT, ht]
    exact k
end
set_option maxHeartbeats 2000000
def duR0 (K : PySem.W.Frag) (A : Ads) : DS := (dDrop (dExtend 3 (dCallF (noEr (dsp_p_law_all K A)) (dN 3 (dCons (dVar 7) (dCons (dVar 0) (dCons (dVar 1) dNil)))))))
def duR1 (K : PySem.W.Frag) (A : Ads) : DS := (dAsg (dV (dLc (diRng3 (dC (.int 1)) (dC (.int 256)) (dC (.int 2))) (dgName 9) (fun ρ q _ => q true ρ) (dOp D.add (dVar 7) (dV (dLst (dCons (dVar 9) dNil)))) [9])) (dgName 8))
def duR2 (K : PySem.W.Frag) (A : Ads) : DS := (dDrop (dExtend 6 (dLc (diAny (dVar 8)) (dgName 10) (dTruth (dCall (noEr (dsp_p_law_can_begin K A)) (dN 3 (dCons (dVar 10) (dCons (dVar 0) (dCons (dVar 1) dNil)))))) (dVar 10) [10])))
def duRow (K : PySem.W.Frag) (A : Ads) : DS := dSeq (duR0 K A) (dSeq (duR1 K A) (duR2 K A))
def duO0 (K : PySem.W.Frag) (A : Ads) : DS := (dOwn (dLst dNil) 6)
def duO2 (K : PySem.W.Frag) (A : Ads) : DS := (dIfS (dTest (dOp D.ge (dCB D.len (dCons (dVar 3) dNil)) (dVar 2))) (dRet (dV (dSortD (dSl (dVar 3) dNoP (dPart (dVar 2)))))) dNext)
def duO3 (K : PySem.W.Frag) (A : Ads) : DS := (dFrz 6 (dAsg (dVar 6) (dgName 4)))
def duO1 (K : PySem.W.Frag) (A : Ads) : DS := dFor (diAny (dV (dList (dVar 4)))) (dgName 7) (duRow K A)
def duOut (K : PySem.W.Frag) (A : Ads) : DS := dSeq (duO0 K A) (dSeq (duO1 K A) (dSeq (duO2 K A) (duO3 K A)))
theorem duebody (K : PySem.W.Frag) (A : Ads) : body_p_law_due K A = dSeq (dParOV 3 4 (dLst dNil) (dV (dLst (dCons (dV (dLst dNil)) dNil)))) (dSeq (dFor (diRng1 (dC (.int 3))) (dgName 5) (duOut K A)) (dRet (dC .non))) := rfl
theorem rg_e : RgC3 2 256 2 := ⟨by decide, by decide, by decide, by decide⟩
theorem rg_o : RgC3 1 256 2 := ⟨by decide, by decide, by decide, by decide⟩
theorem rg_evens : rgItems 2 256 2 = evens.map fun c => D.int ((c.toNat : Nat) : Int) := by
  unfold rgItems evens
  rw [show (Builtin.Range.rangeSize 2 256 2).toNat = 127 by decide, List.map_map]
  refine List.map_congr_left fun k hk => ?_
  have := List.mem_range.mp hk
  show D.int _ = D.int _
  rw [onat (by omega)]
  congr 1
  omega
theorem rg_odds : rgItems 1 256 2 = odds.map fun c => D.int ((c.toNat : Nat) : Int) := by
  unfold rgItems odds
  rw [show (Builtin.Range.rangeSize 1 256 2).toNat = 128 by decide, List.map_map]
  refine List.map_congr_left fun k hk => ?_
  have := List.mem_range.mp hk
  show D.int _ = D.int _
  rw [onat (by omega)]
  congr 1
  omega
theorem evens_len : evens.length = 127 := by unfold evens; rw [List.length_map, List.length_range]
theorem odds_len : odds.length = 128 := by unfold odds; rw [List.length_map, List.length_range]
def addF (h : LB) : D → Option D := fun d => D.add (nsD h) (.lst [d])
theorem add_fm {h : LB} (hl : h.length ≤ 4000) (us : List UInt8) : (us.map fun c => D.int ((c.toNat : Nat) : Int)).filterMap (addF h) = (us.map fun c => h ++ [c]).map nsD := by
  rw [List.map_map]
  exact fm_map fun c _ => add1_ns c hl
theorem lt_i {xs ys : List D} {ns ms : List Int} (h1 : D.ints xs = some ns) (h2 : D.ints ys = some ms) : D.ltL (.lst xs) (.lst ys) = some (.bl (decide (ns < ms))) := by
  show (D.ints xs).bind (fun ns => (D.ints ys).map fun ms => D.bl (decide (ns < ms))) = _
  rw [h1, h2]; rfl
theorem ints_ns (a : LB) : D.ints (nsL a) = some (toI a) := ints_map (f := fun x : UInt8 => ((x.toNat : Nat) : Int)) a
theorem ints_app (a : LB) (z : Int) : D.ints (nsL a ++ [.int z]) = some (toI a ++ [z]) := by
  have e : nsL a ++ [D.int z] = (toI a ++ [z]).map fun x => D.int x := by
    unfold nsL toI
    rw [List.map_append, List.map_map]; rfl
  rw [e, ints_map (f := fun x : Int => x), List.map_id']
theorem addZ {a : LB} (z : Int) (hl : a.length ≤ 4000) : D.add (nsD a) (.lst [.int z]) = some (.lst (nsL a ++ [.int z])) := D_addL (by
  unfold nsL; rw [List.length_map, List.length_singleton]; exact Nat.le_trans (by omega : a.length + 1 ≤ 4001) (by decide))
section
variable {K : PySem.W.Frag} (A : Ads)
theorem can_ok {h : LB} (hl : h.length ≤ 4000) {lo hi : Bd} {q : D → List D → Prop} {er} (k : q (.bl (can lo hi h)) []) : dsp_p_law_can_begin K A [.val (nsD h), .val (bdI lo), .val (bdI hi)] q er := by
  unfold dsp_p_law_can_begin body_p_law_can_begin
  have z1 : 0 + 1 ≤ sizeLine := by decide
  have a1 := addZ 256 hl
  have a2 := addZ 0 hl
  unfold can at k
  have nN : D.isN D.non .non = some (.bl true) := rfl
  have nS : ∀ a : LB, D.isN (nsD a) .non = some (.bl false) := fun a => rfl
  have e0 : bdI none = .non := rfl
  have e1 : ∀ a : LB, bdI (some a) = nsD a := fun a => rfl
  cases lo with
  | none =>
    have c1 : canLo none h = true := rfl
    rw [c1, Bool.true_and] at k
    cases hi with
    | none =>
      have c2 : canHi none h = true := rfl
      rw [c2] at k
      simp! only [Nat.reduceLT, z1, e0, nN]
      exact k
    | some b =>
      have l2 : D.ltL (.lst (nsL h ++ [.int 0])) (nsD b) = some (.bl (canHi (some b) h)) := lt_i (ints_app h 0) (ints_ns b)
      simp! only [Nat.reduceLT, z1, e0, e1, nN, nS, a2, l2]
      exact k
  | some a =>
    have l1 : D.ltL (nsD a) (.lst (nsL h ++ [.int 256])) = some (.bl (canLo (some a) h)) := lt_i (ints_ns a) (ints_app h 256)
    cases hc : canLo (some a) h with
    | false =>
      rw [hc] at l1 k
      simp! only [Nat.reduceLT, z1, e1, nS, a1, l1]
      exact k
    | true =>
      rw [hc] at l1 k
      rw [Bool.true_and] at k
      cases hi with
      | none =>
        have c2 : canHi none h = true := rfl
        rw [c2] at k
        simp! only [Nat.reduceLT, z1, e0, e1, nN, nS, a1, l1]
        exact k
      | some b =>
        have l2 : D.ltL (.lst (nsL h ++ [.int 0])) (nsD b) = some (.bl (canHi (some b) h)) := lt_i (ints_app h 0) (ints_ns b)
        simp! only [Nat.reduceLT, z1, e0, e1, nN, nS, a1, l1, a2, l2]
        exact k
def btwF (lo hi : Bd) : D → Option D := fun d => if isB (D.ltL (bdI lo) d) lo && isB (D.ltL d (bdI hi)) hi then some d else none
where isB (o : Option D) (b : Bd) : Bool := match b, o with
  | none, _ => true
  | some _, some (.bl x) => x
  | _, _ => false
theorem btwF_eq (lo hi : Bd) (a : LB) : btwF lo hi (nsD a) = if btw lo hi a = true then some (nsD a) else none := by
  unfold btwF
  have e1 : btwF.isB (D.ltL (bdI lo) (nsD a)) lo = abv lo a := by
    cases lo with
    | none => rfl
    | some b =>
      show btwF.isB (D.ltL (nsD b) (nsD a)) (some b) = _
      rw [lt_ns]; rfl
  have e2 : btwF.isB (D.ltL (nsD a) (bdI hi)) hi = bel hi a := by
    cases hi with
    | none => rfl
    | some b =>
      show btwF.isB (D.ltL (nsD a) (nsD b)) (some b) = _
      rw [lt_ns]; rfl
  rw [e1, e2]; rfl
theorem btw_fm (lo hi : Bd) (ls : List LB) : (ls.map nsD).filterMap (btwF lo hi) = (ls.filter (btw lo hi)).map nsD := by
  induction ls with
  | nil => rfl
  | cons a ls ih =>
    rw [List.map_cons, List.filterMap_cons, ih, btwF_eq]
    cases h : btw lo hi a
    · rw [if_neg (by simp), List.filter_cons_of_neg (by simp [h])]
    · rw [if_pos rfl, List.filter_cons_of_pos h, List.map_cons]
theorem all_ok {h : LB} (hl : h.length ≤ 4000) {lo hi : Bd} {q : D → List D → Prop} {er} (k : q (.lst (((labs h).filter (btw lo hi)).map nsD)) []) : dsp_p_law_all K A [.val (nsD h), .val (bdI lo), .val (bdI hi)] q er := by
  unfold dsp_p_law_all body_p_law_all
  have z1 : 0 + 1 ≤ sizeLine := by decide
  have nN : D.isN D.non .non = some (.bl true) := rfl
  have nS : ∀ a : LB, D.isN (nsD a) .non = some (.bl false) := fun a => rfl
  have e0 : bdI none = .non := rfl
  have e1 : ∀ a : LB, bdI (some a) = nsD a := fun a => rfl
  simp! only [↓diRng3, Nat.reduceLT]
  refine ⟨rg_e, ?_⟩
  rw [rg_evens]
  refine lcL_fm (addF h) (fun ρ => ρ = [.val (nsD h), .val (bdI lo), .val (bdI hi), .no, .no, .no]) rfl (by rw [List.length_map, evens_len]; decide) ?_ ?_
  · rintro i d ρ nx2 el2 sm hd rfl hnx hel
    obtain ⟨c, -, rfl⟩ := List.mem_map.mp (List.mem_of_getElem? hd)
    have ha := add1_ns (h := h) c hl
    simp! only [Nat.reduceLT, z1, ha]
    exact hnx _ ha _ rfl
  · rintro ρ rfl
    rw [add_fm hl]
    simp! only [Nat.reduceLT]
    refine lcL_fm (btwF lo hi) (fun ρ => ρ = [.val (nsD h), .val (bdI lo), .val (bdI hi), .val (.lst ((evens.map fun c => h ++ [c]).map nsD)), .no, .no]) rfl (by rw [List.length_map, List.length_map, evens_len]; decide) ?_ ?_
    · rintro i d ρ nx2 el2 sm hd rfl hnx hel
      obtain ⟨a, -, rfl⟩ := List.mem_map.mp (List.mem_of_getElem? hd)
      have hb := btwF_eq lo hi a
      have key : ∀ b : Bool, btw lo hi a = b → (b = true → nx2 (nsD a) [.val (nsD h), .val (bdI lo), .val (bdI hi), .val (.lst ((evens.map fun c => h ++ [c]).map nsD)), .no, .no]) ∧ (b = false → el2 [.val (nsD h), .val (bdI lo), .val (bdI hi), .val (.lst ((evens.map fun c => h ++ [c]).map nsD)), .no, .no]) := fun b e => ⟨fun h => hnx _ (by rw [hb, if_pos (by rw [e, h])]) _ rfl, fun h => hel (by rw [hb, if_neg (by rw [e, h]; simp)]) _ rfl⟩
      clear hnx hel hb
      generalize (evens.map fun c => h ++ [c]).map nsD = L at key ⊢
      unfold btw at key
      cases lo with
      | none =>
        have c1 : abv none a = true := rfl
        cases hi with
        | none =>
          simp! only [Nat.reduceLT, e0, nN]
          exact (key true rfl).1 rfl
        | some b =>
          have l2 := lt_ns a b
          by_cases hb : a < b
          · rw [decide_eq_true hb] at l2
            simp! only [Nat.reduceLT, e0, e1, nN, nS, l2]
            exact (key true (decide_eq_true hb)).1 rfl
          · rw [decide_eq_false hb] at l2
            simp! only [Nat.reduceLT, e0, e1, nN, nS, l2]
            exact (key false (decide_eq_false hb)).2 rfl
      | some c =>
        have l1 := lt_ns c a
        by_cases hc : c < a
        · rw [decide_eq_true hc] at l1
          have c1 : abv (some c) a = true := decide_eq_true hc
          rw [c1] at key
          cases hi with
          | none =>
            simp! only [Nat.reduceLT, e0, e1, nN, nS, l1]
            exact (key true rfl).1 rfl
          | some b =>
            have l2 := lt_ns a b
            by_cases hb : a < b
            · rw [decide_eq_true hb] at l2
              simp! only [Nat.reduceLT, e1, nN, nS, l1, l2]
              exact (key true (decide_eq_true hb)).1 rfl
            · rw [decide_eq_false hb] at l2
              simp! only [Nat.reduceLT, e1, nN, nS, l1, l2]
              exact (key false (decide_eq_false hb)).2 rfl
        · rw [decide_eq_false hc] at l1
          have c1 : abv (some c) a = false := decide_eq_false hc
          rw [c1] at key
          simp! only [Nat.reduceLT, e1, nN, nS, l1]
          exact (key false rfl).2 rfl
    · rintro ρ rfl
      rw [btw_fm]
      exact k
end
set_option maxHeartbeats 2000000
theorem okb_lol {x : Lab} (h : OkB x) : LoL (lbB x) := fun a e => by
  cases x with
  | none => cases e
  | some p => cases e; exact ⟨p.1, p.2, rfl, (h p rfl).1⟩
theorem FF_len {lo hi : Bd} : ∀ {i : Nat} {a : LB}, a ∈ FF lo hi i → a.length ≤ i
  | 0, a, h => by cases h
  | i + 1, a, h => by
    rcases List.mem_append.mp (show a ∈ FF lo hi i ++ FL lo hi i from h) with h | h
    · exact Nat.le_succ_of_le (FF_len h)
    · obtain ⟨g, c, rfl, _, hl⟩ := mem_allLab.mp (List.mem_filter.mp (List.mem_filter.mp h).1).1
      rw [List.length_append, List.length_singleton]; omega
theorem flat_le {f : LB → List LB} {n : Nat} : ∀ {l : List LB}, (∀ h ∈ l, (f h).length ≤ n) → (l.flatMap f).length ≤ n * l.length
  | [], _ => by simp
  | h :: l, hh => by
    have a := hh h List.mem_cons_self
    have b := flat_le fun g hg => hh g (List.mem_cons_of_mem _ hg)
    rw [List.flatMap_cons, List.length_append, List.length_cons, Nat.mul_succ]
    omega
theorem cans_le (lo hi : Bd) (k : Nat) : (cans lo hi k).length ≤ (allOdd k).length := List.length_filter_le _ _
theorem allOdd_le : ∀ k, (allOdd k).length ≤ 128 ^ k
  | 0 => Nat.le_refl _
  | k + 1 => by
    have h := flat_le (f := kids) (n := 128) (l := allOdd k) fun h _ => Nat.le_of_eq (kids_len h)
    have := allOdd_le k
    rw [Nat.pow_succ, Nat.mul_comm]
    exact Nat.le_trans h (Nat.mul_le_mul_left _ this)
theorem cans_small {lo hi : Bd} {i : Nat} (h : i < 3) : (cans lo hi i).length ≤ 16384 := by
  refine Nat.le_trans (cans_le _ _ _) (Nat.le_trans (allOdd_le i) ?_)
  have := Nat.pow_le_pow_right (show 0 < 128 by decide) (show i ≤ 2 by omega)
  exact Nat.le_trans this (by decide)
theorem FL_small {lo hi : Bd} {i : Nat} (h : i < 3) : (FL lo hi i).length ≤ 127 * 16384 := by
  rw [FL_eq]
  refine Nat.le_trans (flat_le (n := 127) fun h _ => ?_) (Nat.mul_le_mul_left _ (cans_small h))
  exact Nat.le_trans (List.length_filter_le _ _) (Nat.le_of_eq (labs_len h))
theorem FF_small {lo hi : Bd} {i : Nat} (h : i < 3) : (FF lo hi i).length ≤ 2 * (127 * 16384) := by
  match i, h with
  | 0, _ => exact Nat.zero_le _
  | 1, _ =>
    show (FF lo hi 0 ++ FL lo hi 0).length ≤ _
    rw [List.length_append]
    have := FL_small (lo := lo) (hi := hi) (i := 0) (by omega)
    have e : (FF lo hi 0).length = 0 := rfl
    omega
  | 2, _ =>
    show (FF lo hi 0 ++ FL lo hi 0 ++ FL lo hi 1).length ≤ _
    rw [List.length_append, List.length_append]
    have := FL_small (lo := lo) (hi := hi) (i := 0) (by omega)
    have := FL_small (lo := lo) (hi := hi) (i := 1) (by omega)
    have e : (FF lo hi 0).length = 0 := rfl
    omega
theorem flat_take_le {f : LB → List LB} (l : List LB) (j : Nat) : ((l.take j).flatMap f).length ≤ (l.flatMap f).length := by
  conv => rhs; rw [← List.take_append_drop j l]
  rw [List.flatMap_append, List.length_append]; omega
section
variable {K : PySem.W.Frag} (A : Ads)
theorem some_ok {h : LB} (hl : h.length ≤ 4000) {a0 a1 a2 a3 a4 a5 a6 a8 : Sl} (p8 : a8.isP = false) {nx : Ro → Prop} {rt rf bk ct er} (k : nx [a0, a1, a2, a3, a4, a5, a6, .val (nsD h), .val (.lst ((kids h).map nsD)), .no, .no]) :
    duR1 K A ⟨nx, rt, rf, bk, ct, er⟩ [a0, a1, a2, a3, a4, a5, a6, .val (nsD h), a8, .no, .no] := by
  unfold duR1
  have z1 : 0 + 1 ≤ sizeLine := by decide
  simp! only [↓diRng3, Nat.reduceLT]
  refine ⟨rg_o, ?_⟩
  rw [rg_odds]
  refine lcL_fm (addF h) (fun ρ => ρ = [a0, a1, a2, a3, a4, a5, a6, .val (nsD h), a8, .no, .no]) rfl (by rw [List.length_map, odds_len]; decide) ?_ ?_
  · rintro i d ρ nx2 el2 sm hd rfl hnx hel
    obtain ⟨c, -, rfl⟩ := List.mem_map.mp (List.mem_of_getElem? hd)
    have ha := add1_ns (h := h) c hl
    simp! only [Nat.reduceLT, z1, ha]
    exact hnx _ ha _ rfl
  · rintro ρ rfl
    rw [add_fm hl]
    simp! only [Nat.reduceLT, p8]
    exact k
theorem later_ok {lo hi : Bd} {ls ms : List LB} (hk : ls.length ≤ 200) (hll : ∀ a ∈ ls, a.length ≤ 4000) (hm : ms.length ≤ 10000000) {a2 a3 a4 a5 a7 : Sl} {nx : Ro → Prop} {rt rf bk ct er} (k : nx [.val (bdI lo), .val (bdI hi), a2, a3, a4, a5, .own (.lst ((ms ++ ls.filter (can lo hi)).map nsD)), a7, .val (.lst (ls.map nsD)), .no, .no]) :
    duR2 K A ⟨nx, rt, rf, bk, ct, er⟩ [.val (bdI lo), .val (bdI hi), a2, a3, a4, a5, .own (.lst (ms.map nsD)), a7, .val (.lst (ls.map nsD)), .no, .no] := by
  unfold duR2
  simp! only [↓dExtend, Nat.reduceLT]
  refine lcL_inv (fun i acc ρ => acc = ((ls.take i).filter (can lo hi)).map nsD ∧ ρ = [.val (bdI lo), .val (bdI hi), a2, a3, a4, a5, .own (.lst (ms.map nsD)), a7, .val (.lst (ls.map nsD)), .no, .no]) ⟨rfl, rfl⟩ ?_ ?_
  · rintro i d acc ρ nx2 hd ⟨rfl, rfl⟩ hnx
    rw [List.getElem?_map] at hd
    cases hj : ls[i]? with
    | none => rw [hj] at hd; cases hd
    | some a =>
      rw [hj] at hd
      cases hd
      have hla := hll a (List.mem_of_getElem? hj)
      have hsz : (((ls.take i).filter (can lo hi)).map nsD).length < sizeLine := by
        rw [List.length_map]
        refine Nat.lt_of_le_of_lt (Nat.le_trans (List.length_filter_le _ _) (by rw [List.length_take]; exact Nat.le_trans (Nat.min_le_right _ _) hk)) (by decide)
      simp! only [Nat.reduceLT]
      refine can_ok A hla ?_
      cases hc : can lo hi a with
      | true =>
        simp! only [Nat.reduceLT, hsz]
        refine hnx _ _ ⟨?_, rfl⟩
        rw [List.take_succ, hj, List.filter_append, List.map_append, Option.toList_some, List.filter_cons_of_pos hc]
        rfl
      | false =>
        simp! only [Nat.reduceLT, hsz]
        refine hnx _ _ ⟨?_, rfl⟩
        rw [List.take_succ, hj, List.filter_append, Option.toList_some, List.filter_cons_of_neg (by simp [hc])]
        simp
  · rintro acc ρ ⟨rfl, rfl⟩
    rw [List.length_map, List.take_length]
    have hsz : (ms.map nsD).length + ((ls.filter (can lo hi)).map nsD).length ≤ sizeLine := by
      have := List.length_filter_le (can lo hi) ls
      rw [List.length_map, List.length_map]
      exact Nat.le_trans (by omega : ms.length + (ls.filter (can lo hi)).length ≤ 10000200) (by decide)
    simp! only [Nat.reduceLT, hsz]
    rw [List.map_append] at k
    exact k
theorem rows_ok {lo hi : Bd} {i : Nat} (hi3 : i < 3) {a2 a5 a7 a8 : Sl} (p7 : a7.isP = false) (p8 : a8.isP = false) {nx : Ro → Prop} {rt rf bk ct er} (k : ∀ b7 b8 : Sl, b7.isP = false → b8.isP = false → nx [.val (bdI lo), .val (bdI hi), a2, .own (.lst ((FF lo hi (i + 1)).map nsD)), .val (.lst ((cans lo hi i).map nsD)), a5, .own (.lst ((cans lo hi (i + 1)).map nsD)), b7, b8, .no, .no]) :
    duO1 K A ⟨nx, rt, rf, bk, ct, er⟩ [.val (bdI lo), .val (bdI hi), a2, .own (.lst ((FF lo hi i).map nsD)), .val (.lst ((cans lo hi i).map nsD)), a5, .own (.lst []), a7, a8, .no, .no] := by
  unfold duO1
  have hcl := cans_small (lo := lo) (hi := hi) hi3
  have hfl := FF_small (lo := lo) (hi := hi) hi3
  have hll := FL_small (lo := lo) (hi := hi) hi3
  have eL := FL_eq lo hi i
  have eK := cans_succ lo hi i
  have hck : (cans lo hi (i + 1)).length ≤ 128 * 16384 := by
    rw [eK]
    exact Nat.le_trans (flat_le (n := 128) fun h _ => Nat.le_trans (List.length_filter_le _ _) (Nat.le_of_eq (kids_len h))) (Nat.mul_le_mul_left _ hcl)
  have hzz : ((cans lo hi i).map nsD).length ≤ sizeLine := by rw [List.length_map]; exact Nat.le_trans hcl (by decide)
  simp! only [Nat.reduceLT, hzz]
  refine forL_inv (fun j ρ => ∃ b7 b8 : Sl, b7.isP = false ∧ b8.isP = false ∧ ρ = [.val (bdI lo), .val (bdI hi), a2, .own (.lst ((FF lo hi i ++ ((cans lo hi i).take j).flatMap fun h => (labs h).filter (btw lo hi)).map nsD)), .val (.lst ((cans lo hi i).map nsD)), a5, .own (.lst ((((cans lo hi i).take j).flatMap fun h => (kids h).filter (can lo hi)).map nsD)), b7, b8, .no, .no]) ⟨a7, a8, p7, p8, by simp⟩ ?_ ?_
  · rintro j d ρ nx2 hd ⟨b7, b8, p7, p8, rfl⟩ hnx
    rw [List.getElem?_map] at hd
    cases hj : (cans lo hi i)[j]? with
    | none => rw [hj] at hd; cases hd
    | some h =>
      rw [hj] at hd
      cases hd
      obtain ⟨⟨ho, hl⟩, hc⟩ := mem_cans.mp (List.mem_of_getElem? hj)
      have hl4 : h.length ≤ 4000 := by omega
      have t1 := flat_take_le (f := fun h => (labs h).filter (btw lo hi)) (cans lo hi i) j
      have t2 := flat_take_le (f := fun h => (kids h).filter (can lo hi)) (cans lo hi i) j
      rw [← eL] at t1
      rw [← eK] at t2
      have t3 : ((labs h).filter (btw lo hi)).length ≤ 127 := Nat.le_trans (List.length_filter_le _ _) (Nat.le_of_eq (labs_len h))
      have hkl : ∀ a ∈ kids h, a.length ≤ 4000 := fun a ha => by
        obtain ⟨x, _, rfl⟩ := List.mem_map.mp ha
        rw [List.length_append, List.length_singleton]; omega
      have hkk := kids_len h
      have hsz : ((FF lo hi i ++ ((cans lo hi i).take j).flatMap fun h => (labs h).filter (btw lo hi)).map nsD).length + (((labs h).filter (btw lo hi)).map nsD).length ≤ sizeLine := by
        rw [List.length_map, List.length_map, List.length_append]
        exact Nat.le_trans (by omega : (FF lo hi i).length + (((cans lo hi i).take j).flatMap fun h => (labs h).filter (btw lo hi)).length + ((labs h).filter (btw lo hi)).length ≤ 10000000) (by decide)
      have hF : nx2 [.val (bdI lo), .val (bdI hi), a2, .own (.lst ((FF lo hi i ++ ((cans lo hi i).take j).flatMap fun h => (labs h).filter (btw lo hi)).map nsD ++ ((labs h).filter (btw lo hi)).map nsD)), .val (.lst ((cans lo hi i).map nsD)), a5, .own (.lst (((((cans lo hi i).take j).flatMap fun h => (kids h).filter (can lo hi)) ++ (kids h).filter (can lo hi)).map nsD)), .val (nsD h), .val (.lst ((kids h).map nsD)), .no, .no] := by
        refine hnx _ ⟨.val (nsD h), .val (.lst ((kids h).map nsD)), rfl, rfl, ?_⟩
        rw [List.take_succ, hj, List.flatMap_append, List.flatMap_append, Option.toList_some, List.flatMap_singleton, List.flatMap_singleton, ← List.append_assoc, List.map_append (l₂ := (labs h).filter (btw lo hi))]
      clear hnx
      generalize (FF lo hi i ++ ((cans lo hi i).take j).flatMap fun h => (labs h).filter (btw lo hi)).map nsD = X at hsz hF ⊢
      have hmm : (((cans lo hi i).take j).flatMap fun h => (kids h).filter (can lo hi)).length ≤ 10000000 := by omega
      generalize (((cans lo hi i).take j).flatMap fun h => (kids h).filter (can lo hi)) = Y at hmm hF ⊢
      generalize (cans lo hi i).map nsD = Z at hF ⊢
      unfold duRow duR0
      simp! only [↓dExtend, Nat.reduceLT, p7]
      refine all_ok A hl4 ?_
      simp! only [Nat.reduceLT, hsz]
      refine some_ok A hl4 p8 ?_
      exact later_ok A (by omega) hkl hmm hF
  · rintro ρ ⟨b7, b8, p7, p8, rfl⟩
    rw [List.length_map, List.take_length, ← eL, ← eK]
    exact k b7 b8 p7 p8
theorem due_ok {lo hi : Lab} (h1 : OkB lo) (h2 : OkB hi) {n : Nat} (hn : n ≤ 200) {q : D → List D → Prop} {er} (k0 : q .non []) (k : ∀ es : List LB, Srt (lbB lo) (lbB hi) n es → (∀ a ∈ es, a.length ≤ 1010) → q (.lst (es.map nsD)) []) : dsp_p_law_due K A [.val (bdI (lbB lo)), .val (bdI (lbB hi)), .val (.int (n : Int))] q er := by
  have l2 := okb_lol h2
  have hz := cans_zero (lo := lbB lo) l2
  generalize lbB lo = lo at *
  generalize lbB hi = hi at *
  unfold dsp_p_law_due
  rw [duebody]
  have z0 : 0 ≤ sizeLine := by decide
  have z1 : 0 + 1 ≤ sizeLine := by decide
  simp! only [Nat.reduceLT, z0, z1]
  refine ⟨⟨by decide, by decide⟩, ?_⟩
  refine forL_inv (fun i ρ => ∃ (a5 a6 a7 a8 : Sl), (a5.isP = false ∧ a6.isP = false ∧ a7.isP = false ∧ a8.isP = false) ∧ ρ = [.val (bdI lo), .val (bdI hi), .val (.int (n : Int)), .own (.lst ((FF lo hi i).map nsD)), .val (.lst ((cans lo hi i).map nsD)), a5, a6, a7, a8, .no, .no]) ⟨.no, .no, .no, .no, ⟨rfl, rfl, rfl, rfl⟩, by rw [hz]; rfl⟩ ?_ ?_
  · rintro i d ρ nx hd ⟨a5, a6, a7, a8, ⟨p5, p6, p7, p8⟩, rfl⟩ hnx
    rw [List.getElem?_map] at hd
    by_cases hi2 : i < 3
    · rw [show (3 : Int).toNat = 3 from rfl, List.getElem?_range hi2] at hd
      cases hd
      unfold duOut duO0
      simp! only [Nat.reduceLT, p5, p6, z0]
      refine rows_ok A hi2 p7 p8 fun b7 b8 q7 q8 => ?_
      have hll := FL_small (lo := lo) (hi := hi) hi2
      have hfl := FF_small (lo := lo) (hi := hi) hi2
      have hfs : (FF lo hi (i + 1)).length ≤ 10000000 := by
        show (FF lo hi i ++ FL lo hi i).length ≤ _
        rw [List.length_append]; omega
      have hlen : (0 : Int) ≤ ((FF lo hi (i + 1)).length : Int) ∧ ((FF lo hi (i + 1)).length : Int) < 2 ^ 63 := ⟨by omega, by omega⟩
      have hc := cutTo_nss (FF lo hi (i + 1)) n
      have hp := toPs_nss ((FF lo hi (i + 1)).take n)
      have hs := sort_nss ((FF lo hi (i + 1)).take n)
      unfold duO2
      by_cases hge : n ≤ (FF lo hi (i + 1)).length
      · have hg : decide ((n : Int) ≤ ((FF lo hi (i + 1)).length : Int)) = true := decide_eq_true (by omega)
        simp! only [↓dSortD, Nat.reduceLT, List.length_map, hg, hlen, hc, hp, hs]
        exact ⟨sort_okL _, k _ (srt_of hge rfl) fun a ha => Nat.le_trans (FF_len (List.mem_of_mem_take (List.mem_mergeSort.mp ha))) (by omega)⟩
      · have hg : decide ((n : Int) ≤ ((FF lo hi (i + 1)).length : Int)) = false := decide_eq_false (by omega)
        unfold duO3
        simp! only [Nat.reduceLT, List.length_map, hg, hlen]
        exact hnx _ ⟨_, _, _, _, ⟨rfl, rfl, q7, q8⟩, rfl⟩
    · rw [List.getElem?_eq_none (by simpa using hi2)] at hd; cases hd
  · rintro ρ ⟨a5, a6, a7, a8, ⟨p5, p6, p7, p8⟩, rfl⟩
    simp! only [Nat.reduceLT]
    exact k0
end
set_option maxHeartbeats 2000000
theorem cut_last {h : LB} {c : UInt8} : D.cut (nsD (h ++ [c])) (some (-1)) none = some (nsD [c]) := by
  unfold nsD nsL
  rw [List.map_append, cutL]
  have e : HT.sIx ((h.map fun x => D.int ((x.toNat : Nat) : Int)) ++ [c].map fun x => D.int ((x.toNat : Nat) : Int)).length 0 (some (-1)) = (h.map fun x => D.int ((x.toNat : Nat) : Int)).length := by
    rw [List.length_append, List.length_map, List.length_map, List.length_singleton]
    unfold HT.sIx
    simp
    omega
  have e2 : HT.sIx ((h.map fun x => D.int ((x.toNat : Nat) : Int)) ++ [c].map fun x => D.int ((x.toNat : Nat) : Int)).length ((h.map fun x => D.int ((x.toNat : Nat) : Int)) ++ [c].map fun x => D.int ((x.toNat : Nat) : Int)).length none = ((h.map fun x => D.int ((x.toNat : Nat) : Int)) ++ [c].map fun x => D.int ((x.toNat : Nat) : Int)).length := by
    unfold HT.sIx
    simp
  rw [e, e2, List.drop_left, List.length_append]
  simp
theorem nsL_len (a : LB) : (nsL a).length = a.length := by unfold nsL; rw [List.length_map]
theorem od_take {h : LB} (ho : ∀ x ∈ h, Od x) (j : Nat) : ∀ x ∈ h.take j, Od x := fun x hx => ho x (List.mem_of_mem_take hx)
theorem od_app {a b : LB} (h1 : ∀ x ∈ a, Od x) (h2 : ∀ x ∈ b, Od x) : ∀ x ∈ a ++ b, Od x := fun x hx => (List.mem_append.mp hx).elim (h1 x) (h2 x)
theorem od_one {x : UInt8} (h : Od x) : ∀ y ∈ [x], Od y := fun y hy => by rw [List.mem_singleton.mp hy]; exact h
def Ev (c : UInt8) : Prop := c.toNat % 2 = 0 ∧ 0 < c.toNat
instance (x : UInt8) : Decidable (Od x) := by unfold Od; exact inferInstance
instance (x : UInt8) : Decidable (Ev x) := by unfold Ev; exact inferInstance
section
variable {K : PySem.W.Frag} (A : Ads)
theorem pick_nat {P : Nat → Prop} {n : Nat} (hn : n < 1000000000) {w : D} (hw : Rng n w) (us : List Nat) (hne : us ≠ []) (hl : us.length < 1000) (hp : ∀ u ∈ us, P u) {q : D → List D → Prop} {er} (k : ∀ (u : Nat) (w' : D), P u → Rng (n + 1) w' → q (.int (u : Int)) [w']) :
    dsp_p_law_pick K A [.par w, .val (.lst (us.map fun (u : Nat) => D.int (u : Int)))] q er :=
  pick_ok A hn hw (by simpa using hne) (by rw [List.length_map]; exact hl) fun y w' hy hw' => by
    obtain ⟨u, hu, rfl⟩ := List.mem_map.mp hy
    exact k u w' (hp u hu) hw'
theorem pick_int {P : Int → Prop} {n : Nat} (hn : n < 1000000000) {w : D} (hw : Rng n w) (us : List Int) (hne : us ≠ []) (hl : us.length < 1000) (hp : ∀ u ∈ us, P u) {q : D → List D → Prop} {er} (k : ∀ (u : Int) (w' : D), P u → Rng (n + 1) w' → q (.int u) [w']) :
    dsp_p_law_pick K A [.par w, .val (.lst (us.map D.int))] q er :=
  pick_ok A hn hw (by simpa using hne) (by rw [List.length_map]; exact hl) fun y w' hy hw' => by
    obtain ⟨u, hu, rfl⟩ := List.mem_map.mp hy
    exact k u w' (hp u hu) hw'
def AsOd (y : Int) : Prop := ∃ u : UInt8, Od u ∧ y = ((u.toNat : Nat) : Int)
def AsEv (y : Int) : Prop := ∃ u : UInt8, Ev u ∧ y = ((u.toNat : Nat) : Int)
theorem asOd {y : Int} (h0 : 0 ≤ y) (h1 : y < 256) (h2 : y % 2 = 1) : AsOd y := ⟨UInt8.ofNat y.toNat, by unfold Od; rw [onat (by omega)]; omega, by rw [onat (by omega)]; omega⟩
theorem asEv {y : Int} (h0 : 0 < y) (h1 : y < 256) (h2 : y % 2 = 0) : AsEv y := ⟨UInt8.ofNat y.toNat, by unfold Ev; rw [onat (by omega)]; omega, by rw [onat (by omega)]; omega⟩
theorem short_ok {n : Nat} (hn : n < 900000000) {w : D} (hw : Rng n w) {q : D → List D → Prop} {er} (k : ∀ (h : LB) (c : UInt8) (w' : D), Lb h c → h.length ≤ 2 → Rng (n + 10) w' → q (nsD (h ++ [c])) [w']) : dsp_p_law_short K A [.par w] q er := by
  unfold dsp_p_law_short body_p_law_short
  have z6 : 0 + 1 + 1 + 1 + 1 + 1 + 1 ≤ sizeLine := by decide
  have z5 : 0 + 1 + 1 + 1 + 1 + 1 ≤ sizeLine := by decide
  have z1 : 0 + 1 ≤ sizeLine := by decide
  have hmul : ∀ x : Int, 0 ≤ x → x < 1000 → D.mul (.int 2) (.int x) = some (.int (2 * x)) := fun x h0 h1 => D_mul (Or.inl ⟨by omega, by omega⟩)
  simp! only [Nat.reduceLT, z5]
  refine pick_nat A (by omega) hw [0, 0, 1, 1, 2] (List.cons_ne_nil _ _) (by decide) (P := fun m => m ≤ 2) (by decide) fun m w1 hm hw1 => ?_
  simp! only [Nat.reduceLT]
  refine ⟨⟨by omega, by omega⟩, ?_⟩
  refine lcL_inv (fun i acc ρ => ∃ (h : LB) (w2 : D), (∀ x ∈ h, Od x) ∧ h.length = i ∧ Rng (n + 1 + 2 * i) w2 ∧ acc = nsL h ∧ ρ = [.par w2, .val (.int (m : Int)), .no, .no]) ⟨[], w1, (fun x hx => by cases hx), rfl, hw1, rfl, rfl⟩ ?_ ?_
  · rintro i d acc ρ nx hd ⟨h, w2, ho, hi, hw2, rfl, rfl⟩ hnx
    rw [Int.toNat_natCast, List.getElem?_map] at hd
    by_cases him : i < m
    · rw [List.getElem?_range him] at hd
      cases hd
      have hsz : (nsL h).length < sizeLine := by unfold nsL; rw [List.length_map, hi]; exact Nat.lt_of_lt_of_le (by omega : i < 4) (by decide)
      simp! only [Nat.reduceLT]
      refine draw_ok A (by omega) hw2 (by decide) (by decide) fun x w3 x0 x1 hw3 => ?_
      have hx := hmul x x0 (by omega)
      simp! only [Nat.reduceLT, z6, hx]
      refine pick_int A (by omega) hw3 [1, 3, 125, 253, 255, 2 * x + 1] (List.cons_ne_nil _ _) (by simp) (P := AsOd) (fun y hy => by
        simp only [List.mem_cons, List.not_mem_nil, or_false] at hy
        rcases hy with rfl | rfl | rfl | rfl | rfl | rfl <;> exact asOd (by omega) (by omega) (by omega)) fun y w4 hy hw4 => ?_
      obtain ⟨u, hu, rfl⟩ := hy
      simp! only [Nat.reduceLT, hsz]
      refine hnx _ _ ⟨h ++ [u], w4, od_app ho (od_one hu), by simp [hi], hw4.mono (by omega), ?_, rfl⟩
      unfold nsL; rw [List.map_append]; rfl
    · rw [List.getElem?_eq_none (by simpa using him)] at hd; cases hd
  · rintro acc ρ ⟨h, w2, ho, hi, hw2, rfl, rfl⟩
    rw [List.length_map, List.length_range, Int.toNat_natCast] at hi hw2
    simp! only [Nat.reduceLT]
    refine draw_ok A (by omega) hw2 (by decide) (by decide) fun x w3 x0 x1 hw3 => ?_
    have hx := hmul x x0 (by omega)
    simp! only [Nat.reduceLT, z6, hx]
    refine pick_int A (by omega) hw3 [2, 4, 126, 252, 254, 2 * x + 2] (List.cons_ne_nil _ _) (by simp) (P := AsEv) (fun y hy => by
      simp only [List.mem_cons, List.not_mem_nil, or_false] at hy
      rcases hy with rfl | rfl | rfl | rfl | rfl | rfl <;> exact asEv (by omega) (by omega) (by omega)) fun y w4 hy hw4 => ?_
    obtain ⟨u, hu, rfl⟩ := hy
    have ha := add1_ns (h := h) u (by omega)
    simp! only [Nat.reduceLT, z1, ha]
    exact k h u w4 ⟨ho, hu.1, hu.2⟩ (by omega) (hw4.mono (by omega))
theorem near_ok {n : Nat} (hn : n < 800000000) {w : D} (hw : Rng n w) {h : LB} {c : UInt8} (l : Lb h c) (hl : h.length ≤ 2) {q : D → List D → Prop} {er} (k : ∀ (h : LB) (c : UInt8) (w' : D), Lb h c → h.length < 1000 → Rng (n + 20) w' → q (nsD (h ++ [c])) [w']) :
    dsp_p_law_near K A [.par w, .val (nsD (h ++ [c]))] q er := by
  unfold dsp_p_law_near body_p_law_near
  have z4 : 0 + 1 + 1 + 1 + 1 ≤ sizeLine := by decide
  have z1 : 0 + 1 ≤ sizeLine := by decide
  have hll : (h ++ [c]).length = h.length + 1 := by rw [List.length_append]; rfl
  have hti : ∀ j, j ≤ h.length → (h ++ [c]).take j = h.take j := fun j hj => List.take_append_of_le_length hj
  generalize h ++ [c] = lab at hll hti ⊢
  have hnl := nsL_len lab
  simp! only [Nat.reduceLT, hnl]
  refine draw_ok A (by omega) hw (by omega) (by omega) fun x w2 x0 x1 hw2 => ?_
  obtain ⟨j, rfl⟩ := Int.eq_ofNat_of_zero_le x0
  have hj : j < lab.length := by omega
  have hix := ix_ns hj
  generalize lab.getD j 0 = v at hix
  have hv := UInt8.toNat_lt v
  simp! only [Nat.reduceLT, z4, hix]
  refine pick_int A (by omega) hw2 [1, -1, 2, -2] (List.cons_ne_nil _ _) (by decide) (P := fun y => -2 ≤ y ∧ y ≤ 3) (by decide) fun z w3 hz hw3 => ?_
  have hcut := cutTo_ns lab j
  rw [hti j (by omega)] at hcut
  have htl : (h.take j).length ≤ 2 := by rw [List.length_take]; omega
  by_cases hr : 1 ≤ ((v.toNat : Nat) : Int) + z ∧ ((v.toNat : Nat) : Int) + z ≤ 255
  · have d1 : decide ((1 : Int) ≤ ((v.toNat : Nat) : Int) + z) = true := decide_eq_true hr.1
    have d2 : decide (((v.toNat : Nat) : Int) + z ≤ (255 : Int)) = true := decide_eq_true hr.2
    obtain ⟨u, hu⟩ : ∃ u : UInt8, ((v.toNat : Nat) : Int) + z = ((u.toNat : Nat) : Int) := ⟨UInt8.ofNat (((v.toNat : Nat) : Int) + z).toNat, by rw [onat (by omega)]; omega⟩
    rw [hu] at d1 d2
    have hmod : D.mod (.int ((u.toNat : Nat) : Int)) (.int 2) = some (.int (((u.toNat : Nat) : Int) % 2)) := D_mod (by decide)
    have ha := add1_ns (h := h.take j) u (by omega)
    by_cases he : ((u.toNat : Nat) : Int) % 2 = 0
    · have hb : (((u.toNat : Nat) : Int) % 2 == 0) = true := beq_iff_eq.mpr he
      simp! only [Nat.reduceLT, z1, hix, hu, d1, d2, hmod, hb, hcut, ha]
      exact k _ u w3 ⟨od_take l.odd j, by omega, by omega⟩ (by omega) (hw3.mono (by omega))
    · have hb : (((u.toNat : Nat) : Int) % 2 == 0) = false := beq_eq_false_iff_ne.mpr he
      have hou : Od u := by unfold Od; omega
      have hod : ∀ y ∈ h.take j ++ [u], Od y := od_app (od_take l.odd j) (od_one hou)
      have htl2 : (h.take j ++ [u]).length ≤ 3 := by rw [List.length_append, List.length_singleton]; omega
      generalize h.take j ++ [u] = T at ha hod htl2
      simp! only [Nat.reduceLT, z1, hix, hu, d1, d2, hmod, hb, hcut, ha]
      refine short_ok A (by omega) hw3 fun g e w4 lg hg hw4 => ?_
      have hcl := cut_last (h := g) (c := e)
      have ha3 : D.add (nsD T) (nsD [e]) = some (nsD (T ++ [e])) := add_ns (by simp; omega)
      generalize g ++ [e] = G at hcl ⊢
      have hm1 : (-(1 : Int)) = -1 := rfl
      simp! only [Nat.reduceLT, z1, hcl, ha3]
      exact k _ e w4 ⟨hod, lg.ev, lg.pos⟩ (by omega) (hw4.mono (by omega))
  · have hbad : ∀ {P : Prop}, ((decide ((1 : Int) ≤ ((v.toNat : Nat) : Int) + z) = false → P) → (decide ((1 : Int) ≤ ((v.toNat : Nat) : Int) + z) = true → decide (((v.toNat : Nat) : Int) + z ≤ (255 : Int)) = false → P) → P) := fun {P} f g => by
      by_cases h1 : (1 : Int) ≤ ((v.toNat : Nat) : Int) + z
      · exact g (decide_eq_true h1) (decide_eq_false fun h2 => hr ⟨h1, h2⟩)
      · exact f (decide_eq_false h1)
    refine hbad (fun d1 => ?_) fun d1 d2 => ?_
    · simp! only [Nat.reduceLT, hix, d1, hcut]
      refine short_ok A (by omega) hw3 fun g e w4 lg hg hw4 => ?_
      simp! only [Nat.reduceLT]
      exact k g e w4 lg (by omega) (hw4.mono (by omega))
    · simp! only [Nat.reduceLT, hix, d1, d2, hcut]
      refine short_ok A (by omega) hw3 fun g e w4 lg hg hw4 => ?_
      simp! only [Nat.reduceLT]
      exact k g e w4 lg (by omega) (hw4.mono (by omega))
end
set_option maxHeartbeats 2000000
def tw0 (K : PySem.W.Frag) (A : Ads) : DS := (dAsg (dCall (noEr (dsp_p_law_short K A)) (dN 1 (dCons (dVar 2) dNil))) (dgName 4))
def tw1 (K : PySem.W.Frag) (A : Ads) : DS := (dAsg (dCall (noEr (dsp_p_law_pick K A)) (dN 2 (dCons (dVar 2) (dCons (dV (dLst (dCons (dCall (noEr (dsp_p_law_near K A)) (dN 2 (dCons (dVar 2) (dCons (dVar 4) dNil)))) (dCons (dCall (noEr (dsp_p_law_near K A)) (dN 2 (dCons (dVar 2) (dCons (dVar 4) dNil)))) (dCons (dCall (noEr (dsp_p_law_short K A)) (dN 1 (dCons (dVar 2) dNil))) dNil))))) dNil)))) (dgName 5))
def tw2 (K : PySem.W.Frag) (A : Ads) : DS := (dAsg (dIf (dTest (dOp D.eq (dVar 4) (dVar 5))) (dV (dLst (dCons (dC .non) (dCons (dC .non) dNil)))) (dV (dSortD (dV (dLst (dCons (dVar 4) (dCons (dVar 5) dNil))))))) (dgName 6))
def tw3 (K : PySem.W.Frag) (A : Ads) : DS := (dAsg (dV (dLc (diAny (dVar 6)) (dgName 10) (fun ρ q _ => q true ρ) (dCall (noEr (dsp_p_law_pick K A)) (dN 2 (dCons (dVar 2) (dCons (dV (dLst (dCons (dVar 10) (dCons (dVar 10) (dCons (dVar 10) (dCons (dC .non) dNil)))))) dNil)))) [10])) (dgName 6))
def tw4 (K : PySem.W.Frag) (A : Ads) : DS := (dAsg (dCall (noEr (dsp_p_law_pick K A)) (dN 2 (dCons (dVar 2) (dCons (dV (dLst (dCons (dC (.int 0)) (dCons (dC (.int 1)) (dCons (dC (.int 2)) (dCons (dC (.int 5)) (dCons (dCall (noEr (dsp_p_law_draw K A)) (dN 2 (dCons (dVar 2) (dCons (dC (.int 41)) dNil)))) dNil))))))) dNil)))) (dgName 7))
def tw5 (K : PySem.W.Frag) (A : Ads) : DS := (dAsg (dCall (noEr (dsp_p_law_due K A)) (dN 3 (dCons (dOp D.ix (dVar 6) (dC (.int 0))) (dCons (dOp D.ix (dVar 6) (dC (.int 1))) (dCons (dVar 7) dNil))))) (dgName 8))
def tw6 (K : PySem.W.Frag) (A : Ads) : DS := (dAsg (dV (dLc (diAny (dVar 6)) (dgName 10) (fun ρ q _ => q true ρ) (dIf (dTest (dOp D.isN (dVar 10) (dC .non))) (dC .non) (dCall (noEr (dsp_bytes_of K A)) (dN 1 (dCons (dVar 10) dNil)))) [10])) (dgSq 2 (dgCons (dgName 4) (dgCons (dgName 5) dgNil))))
def tw7 (K : PySem.W.Frag) (A : Ads) : DS := (dAsg (dCall (noEr (dsp_labels_between K A)) (dN 3 (dCons (dVar 4) (dCons (dVar 5) (dCons (dVar 7) dNil))))) (dgName 9))
def tw8 (K : PySem.W.Frag) (A : Ads) : DS := (dIfS (dAnd (dTest (dOp D.isNotN (dVar 8) (dC .non))) (dTest (dOp D.neBL (dVar 9) (dV (dLc (diAny (dVar 8)) (dgName 10) (fun ρ q _ => q true ρ) (dCall (noEr (dsp_bytes_of K A)) (dN 1 (dCons (dVar 10) dNil))) [10]))))) (dRet (dC (.bl false))) dNext)
def twT (K : PySem.W.Frag) (A : Ads) : DS := dSeq (tw0 K A) (dSeq (tw1 K A) (dSeq (tw2 K A) (dSeq (tw3 K A) (dSeq (tw4 K A) (dSeq (tw5 K A) (dSeq (tw6 K A) (dSeq (tw7 K A) (tw8 K A))))))))
theorem lwbody (K : PySem.W.Frag) (A : Ads) : body_law K A = dSeq (dFor (diAny (dSl (dOp D.add (dVar 0) (dV (dLst (dCons (dC (.int 0)) dNil)))) dNoP (dPart (dC (.int 3))))) (dgName 1) (dSeq (dOwn (dCallF (noEr (dsp_p_law_rng K A)) (dN 1 (dCons (dVar 1) dNil))) 2) (dFor (diRng1 (dC (.int 4))) (dgName 3) (twT K A)))) (dRet (dOp D.eqBL (dCall (noEr (dsp_labels_between K A)) (dN 3 (dCons (dC .non) (dCons (dC .non) (dCons (dC (.int 3)) dNil))))) (dV (dLst (dCons (dCall (noEr (dsp_bytes_of K A)) (dN 1 (dCons (dV (dLst (dCons (dC (.int 2)) dNil))) dNil))) (dCons (dCall (noEr (dsp_bytes_of K A)) (dN 1 (dCons (dV (dLst (dCons (dC (.int 4)) dNil))) dNil))) (dCons (dCall (noEr (dsp_bytes_of K A)) (dN 1 (dCons (dV (dLst (dCons (dC (.int 6)) dNil))) dNil))) dNil))))))) := rfl
theorem okb_none : OkB none := fun p e => by cases e
theorem okb_some {h : List UInt8} {c : UInt8} (l : Lb h c) (hl : h.length < 1000) : OkB (some (h, c)) := fun p e => by cases e; exact ⟨l, hl⟩
theorem ltb_l {x : Lab} : LtB none x := fun p g e => by cases e
theorem ltb_r {x : Lab} : LtB x none := fun p g _ e => by cases e
def Sub (x y : Lab) : Prop := y = x ∨ y = none
theorem Sub.ok {x y : Lab} (h : Sub x y) (o : OkB x) : OkB y := by
  rcases h with rfl | rfl
  · exact o
  · exact okb_none
theorem Sub.lt {x y u v : Lab} (h : Sub x y) (g : Sub u v) (o : LtB x u) : LtB y v := by
  rcases h with rfl | rfl
  · rcases g with rfl | rfl
    · exact o
    · exact ltb_r
  · exact ltb_l
theorem tot : ∀ a b : LB, a < b ∨ a = b ∨ b < a
  | [], [] => .inr (.inl rfl)
  | [], y :: b => .inl (List.nil_lt_cons y b)
  | x :: a, [] => .inr (.inr (List.nil_lt_cons x a))
  | x :: a, y :: b => by
    rw [lt_cons, lt_cons]
    rcases Nat.lt_trichotomy x.toNat y.toNat with h | h | h
    · exact .inl (.inl h)
    · have e : x = y := UInt8.toNat_inj.mp h
      rcases tot a b with h2 | h2 | h2
      · exact .inl (.inr ⟨e, h2⟩)
      · exact .inr (.inl (by rw [e, h2]))
      · exact .inr (.inr (.inr ⟨e.symm, h2⟩))
    · exact .inr (.inr (.inl h))
theorem nn_isN : D.isN .non .non = some (.bl true) := rfl
theorem ne_same (cs : List LB) : D.neBL (.lst (cs.map byD)) (.lst (cs.map byD)) = some (.bl false) := by
  show (D.byts (cs.map byD)).bind (fun bs => (D.byts (cs.map byD)).map fun cs => D.bl (!decide (bs = cs))) = _
  rw [byts_byD]
  show some (D.bl (!decide (cs.map List.toArray = cs.map List.toArray))) = _
  rw [decide_eq_true rfl]; rfl
section
variable {K : PySem.W.Frag} (A : Ads)
theorem pick_lab3 {n : Nat} (hn : n < 1000000000) {w : D} (hw : Rng n w) {h1 h2 h3 : LB} {c1 c2 c3 : UInt8} (l1 : Lb h1 c1) (l2 : Lb h2 c2) (l3 : Lb h3 c3) (b1 : h1.length < 1000) (b2 : h2.length < 1000) (b3 : h3.length < 1000) {q : D → List D → Prop} {er} (k : ∀ (h : LB) (c : UInt8) (w' : D), Lb h c → h.length < 1000 → Rng (n + 1) w' → q (nsD (h ++ [c])) [w']) :
    dsp_p_law_pick K A [.par w, .val (.lst [nsD (h1 ++ [c1]), nsD (h2 ++ [c2]), nsD (h3 ++ [c3])])] q er :=
  pick_ok A hn hw (List.cons_ne_nil _ _) (by simp) fun y w' hy hw' => by
    rcases List.mem_cons.mp hy with rfl | hy
    · exact k h1 c1 w' l1 b1 hw'
    rcases List.mem_cons.mp hy with rfl | hy
    · exact k h2 c2 w' l2 b2 hw'
    rcases List.mem_cons.mp hy with rfl | hy
    · exact k h3 c3 w' l3 b3 hw'
    · cases hy
theorem pick_sub {n : Nat} (hn : n < 1000000000) {w : D} (hw : Rng n w) (x : Lab) {q : D → List D → Prop} {er} (k : ∀ (y : Lab) (w' : D), Sub x y → Rng (n + 1) w' → q (bdI (lbB y)) [w']) :
    dsp_p_law_pick K A [.par w, .val (.lst [bdI (lbB x), bdI (lbB x), bdI (lbB x), .non])] q er :=
  pick_ok A hn hw (List.cons_ne_nil _ _) (by simp) fun y w' hy hw' => by
    rcases List.mem_cons.mp hy with rfl | hy
    · exact k x w' (.inl rfl) hw'
    rcases List.mem_cons.mp hy with rfl | hy
    · exact k x w' (.inl rfl) hw'
    rcases List.mem_cons.mp hy with rfl | hy
    · exact k x w' (.inl rfl) hw'
    rcases List.mem_cons.mp hy with rfl | hy
    · exact k none w' (.inr rfl) hw'
    · cases hy
theorem tw2_ok {h g : LB} {c d : UInt8} (l1 : Lb h c) (l2 : Lb g d) (b1 : h.length < 1000) (b2 : g.length < 1000) {a0 a1 a2 a3 a6 a7 a8 a9 a10 : Sl} (p6 : a6.isP = false) {nx : Ro → Prop} {rt rf bk ct er} (k : ∀ lo hi : Lab, OkB lo → OkB hi → LtB lo hi → nx [a0, a1, a2, a3, .val (nsD (h ++ [c])), .val (nsD (g ++ [d])), .val (.lst [bdI (lbB lo), bdI (lbB hi)]), a7, a8, a9, a10]) :
    tw2 K A ⟨nx, rt, rf, bk, ct, er⟩ [a0, a1, a2, a3, .val (nsD (h ++ [c])), .val (nsD (g ++ [d])), a6, a7, a8, a9, a10] := by
  unfold tw2
  have o1 := okb_some l1 b1
  have o2 := okb_some l2 b2
  have he := eq_ns (h ++ [c]) (g ++ [d])
  have z2 : 0 + 1 + 1 ≤ sizeLine := by decide
  by_cases e : h ++ [c] = g ++ [d]
  · rw [decide_eq_true e] at he
    have := k none none okb_none okb_none ltb_l
    simp! only [Nat.reduceLT, he, z2, p6]
    exact this
  · rw [decide_eq_false e] at he
    have hp := toPs2 (h ++ [c]) (g ++ [d])
    have hs := sort2 (h ++ [c]) (g ++ [d])
    have hok := sort2_ok (h ++ [c]) (g ++ [d])
    rcases tot (h ++ [c]) (g ++ [d]) with hlt | hlt | hlt
    · rw [if_neg (lt_asymm hlt)] at hs
      have := k (some (h, c)) (some (g, d)) o1 o2 (fun p q e1 e2 => by cases e1; cases e2; exact hlt)
      simp! only [↓dSortD, Nat.reduceLT, he, z2, p6, hp, hs]
      exact ⟨hok, this⟩
    · exact absurd hlt e
    · rw [if_pos hlt] at hs
      have := k (some (g, d)) (some (h, c)) o2 o1 (fun p q e1 e2 => by cases e1; cases e2; exact hlt)
      simp! only [↓dSortD, Nat.reduceLT, he, z2, p6, hp, hs]
      exact ⟨hok, this⟩
theorem tw3_ok {n : Nat} (hn : n < 900000000) {w : D} (hw : Rng n w) {lo hi : Lab} {a0 a1 a3 a4 a5 a7 a8 a9 : Sl} {nx : Ro → Prop} {rt rf bk ct er} (k : ∀ (x y : Lab) (w' : D), Sub lo x → Sub hi y → Rng (n + 2) w' → nx [a0, a1, .own w', a3, a4, a5, .val (.lst [bdI (lbB x), bdI (lbB y)]), a7, a8, a9, .no]) :
    tw3 K A ⟨nx, rt, rf, bk, ct, er⟩ [a0, a1, .own w, a3, a4, a5, .val (.lst [bdI (lbB lo), bdI (lbB hi)]), a7, a8, a9, .no] := by
  unfold tw3
  have z4 : 0 + 1 + 1 + 1 + 1 ≤ sizeLine := by decide
  simp! only [Nat.reduceLT]
  refine lcL_inv (fun i acc ρ => ∃ (w' : D) (xs : List Lab), Rng (n + i) w' ∧ xs.length = i ∧ (∀ x, xs[0]? = some x → Sub lo x) ∧ (∀ x, xs[1]? = some x → Sub hi x) ∧ acc = xs.map (fun x => bdI (lbB x)) ∧ ρ = [a0, a1, .own w', a3, a4, a5, .val (.lst [bdI (lbB lo), bdI (lbB hi)]), a7, a8, a9, .no]) ⟨w, [], hw, rfl, fun x e => (by cases e), fun x e => (by cases e), rfl, rfl⟩ ?_ ?_
  · rintro i d acc ρ nx2 hd ⟨w', xs, hw', hl, s0, s1, rfl, rfl⟩ hnx
    have hi2 : i < 2 := (List.getElem?_eq_some_iff.mp hd).1
    have hsz : (xs.map fun x => bdI (lbB x)).length < sizeLine := by rw [List.length_map, hl]; exact Nat.lt_of_lt_of_le hi2 (by decide)
    match i, hi2, hl, hd with
    | 0, _, hl, hd =>
      cases hd
      have e := List.length_eq_zero_iff.mp hl
      subst e
      simp! only [Nat.reduceLT, z4]
      refine pick_sub A (by omega) hw' lo fun y w2 hy hw2 => ?_
      simp! only [Nat.reduceLT]
      exact ⟨hsz, hnx _ _ ⟨w2, [y], hw2, rfl, fun x e => (by cases e; exact hy), fun x e => (by cases e), rfl, rfl⟩⟩
    | 1, _, hl, hd =>
      cases hd
      obtain ⟨x0, rfl⟩ := List.length_eq_one_iff.mp hl
      simp! only [Nat.reduceLT, z4]
      refine pick_sub A (by omega) hw' hi fun y w2 hy hw2 => ?_
      simp! only [Nat.reduceLT]
      exact ⟨hsz, hnx _ _ ⟨w2, [x0, y], hw2, rfl, fun x e => (by cases e; exact s0 _ rfl), fun x e => (by cases e; exact hy), rfl, rfl⟩⟩
  · rintro acc ρ ⟨w', xs, hw', hl, s0, s1, rfl, rfl⟩
    match xs, hl with
    | [x, y], _ =>
      simp! only [Nat.reduceLT]
      exact k x y w' (s0 _ rfl) (s1 _ rfl) hw'
end
set_option maxHeartbeats 4000000
theorem bytes_lab {K : PySem.W.Frag} (A : Ads) {x : Lab} (o : OkB x) {p : LB × UInt8} (e : x = some p) {q : D → List D → Prop} {er} (k : q (labD x) []) : dsp_bytes_of K A [.val (bdI (lbB x))] q er := by
  subst e
  have := (o p rfl).2
  exact bytes_ok A (l := p.1 ++ [p.2]) (by rw [List.length_append, List.length_singleton]; omega) k
section
variable {K : PySem.W.Frag} (A : Ads)
theorem tw6_ok {x y : Lab} (o1 : OkB x) (o2 : OkB y) {a0 a1 a2 a3 a4 a5 a7 a8 a9 : Sl} (p4 : a4.isP = false) (p5 : a5.isP = false) {nx : Ro → Prop} {rt rf bk ct er} (k : nx [a0, a1, a2, a3, .val (labD x), .val (labD y), .val (.lst [bdI (lbB x), bdI (lbB y)]), a7, a8, a9, .no]) :
    tw6 K A ⟨nx, rt, rf, bk, ct, er⟩ [a0, a1, a2, a3, a4, a5, .val (.lst [bdI (lbB x), bdI (lbB y)]), a7, a8, a9, .no] := by
  unfold tw6
  simp! only [Nat.reduceLT]
  refine lcL_inv (fun i acc ρ => acc = [labD x, labD y].take i ∧ ρ = [a0, a1, a2, a3, a4, a5, .val (.lst [bdI (lbB x), bdI (lbB y)]), a7, a8, a9, .no]) ⟨rfl, rfl⟩ ?_ ?_
  · rintro i d acc ρ nx2 hd ⟨rfl, rfl⟩ hnx
    have hi2 : i < 2 := (List.getElem?_eq_some_iff.mp hd).1
    have hsz : ([labD x, labD y].take i).length < sizeLine := by rw [List.length_take]; exact Nat.lt_of_le_of_lt (Nat.min_le_left _ _) (Nat.lt_of_lt_of_le hi2 (by decide))
    have hone : ∀ (u : Lab), OkB u → (nx2 ([labD x, labD y].take i ++ [labD u]) [a0, a1, a2, a3, a4, a5, .val (.lst [bdI (lbB x), bdI (lbB y)]), a7, a8, a9, .no]) → d = bdI (lbB u) → dgName 10 (.val d) (wipeD [a0, a1, a2, a3, a4, a5, .val (.lst [bdI (lbB x), bdI (lbB y)]), a7, a8, a9, .no] [10]) fun ρ1 => (fun ρ q _ => q true ρ : DT) ρ1 (fun b ρ2 => if b = true then (dIf (dTest (dOp D.isN (dVar 10) (dC .non))) (dC .non) (dCall (noEr (dsp_bytes_of K A)) (dN 1 (dCons (dVar 10) dNil)))) ρ2 (fun s ρ3 => match s with
        | .val z => ([labD x, labD y].take i).length < sizeLine ∧ nx2 ([labD x, labD y].take i ++ [z]) (wipeD ρ3 [10])
        | .bor _ => False) (fun _ _ _ => False) else nx2 ([labD x, labD y].take i) (wipeD ρ2 [10])) (fun _ _ _ => False) := fun u ou hu ed => by
      subst ed
      cases u with
      | none =>
        simp! only [Nat.reduceLT, show bdI (lbB none) = D.non from rfl, nn_isN]
        exact ⟨hsz, hu⟩
      | some p =>
        have hn : D.isN (bdI (lbB (some p))) .non = some (.bl false) := rfl
        simp! only [Nat.reduceLT, hn]
        refine bytes_lab A ou rfl ?_
        simp! only [Nat.reduceLT]
        exact ⟨hsz, hu⟩
    match i, hi2, hd with
    | 0, _, hd => exact hone x o1 (hnx _ _ ⟨rfl, rfl⟩) (Option.some.inj hd).symm
    | 1, _, hd => exact hone y o2 (hnx _ _ ⟨rfl, rfl⟩) (Option.some.inj hd).symm
  · rintro acc ρ ⟨rfl, rfl⟩
    have e : [labD x, labD y].take [bdI (lbB x), bdI (lbB y)].length = [labD x, labD y] := rfl
    rw [e]
    simp! only [Nat.reduceLT, p4, p5]
    exact k
theorem tw5_ok {lo hi : Lab} (h1 : OkB lo) (h2 : OkB hi) {n : Nat} (hn : n ≤ 200) {a0 a1 a2 a3 a4 a5 a8 a9 a10 : Sl} (p8 : a8.isP = false) {nx : Ro → Prop} {rt rf bk ct er} (k0 : nx [a0, a1, a2, a3, a4, a5, .val (.lst [bdI (lbB lo), bdI (lbB hi)]), .val (.int (n : Int)), .val .non, a9, a10])
    (k : ∀ es : List LB, Srt (lbB lo) (lbB hi) n es → (∀ a ∈ es, a.length ≤ 1010) → nx [a0, a1, a2, a3, a4, a5, .val (.lst [bdI (lbB lo), bdI (lbB hi)]), .val (.int (n : Int)), .val (.lst (es.map nsD)), a9, a10]) :
    tw5 K A ⟨nx, rt, rf, bk, ct, er⟩ [a0, a1, a2, a3, a4, a5, .val (.lst [bdI (lbB lo), bdI (lbB hi)]), .val (.int (n : Int)), a8, a9, a10] := by
  unfold tw5
  simp! only [Nat.reduceLT]
  refine due_ok A h1 h2 hn ?_ fun es hs hb => ?_
  · simp! only [Nat.reduceLT, p8]
    exact k0
  · simp! only [Nat.reduceLT, p8]
    exact k es hs hb
theorem tw7_ok {lo hi : Lab} (h1 : OkB lo) (h2 : OkB hi) (h3 : LtB lo hi) {n : Nat} (hn : n ≤ 200) {a0 a1 a2 a3 a6 a8 a9 a10 : Sl} (p9 : a9.isP = false) {nx : Ro → Prop} {rt rf bk ct er} (k : ∀ cs : List LB, Srt (lbB lo) (lbB hi) n cs → nx [a0, a1, a2, a3, .val (labD lo), .val (labD hi), a6, .val (.int (n : Int)), a8, .val (.lst (cs.map byD)), a10]) :
    tw7 K A ⟨nx, rt, rf, bk, ct, er⟩ [a0, a1, a2, a3, .val (labD lo), .val (labD hi), a6, .val (.int (n : Int)), a8, a9, a10] := by
  unfold tw7
  simp! only [Nat.reduceLT]
  refine betw_ok A h1 h2 h3 hn fun cs hc => ?_
  simp! only [Nat.reduceLT, p9]
  exact k cs hc
theorem tw8_none {a0 a1 a2 a3 a4 a5 a6 a7 a9 a10 : Sl} {nx : Ro → Prop} {rt rf bk ct er} (k : nx [a0, a1, a2, a3, a4, a5, a6, a7, .val .non, a9, a10]) : tw8 K A ⟨nx, rt, rf, bk, ct, er⟩ [a0, a1, a2, a3, a4, a5, a6, a7, .val .non, a9, a10] := by
  unfold tw8
  have nN : D.isNotN D.non .non = some (.bl false) := rfl
  simp! only [Nat.reduceLT, nN]
  exact k
theorem tw8_some {es : List LB} (hl : es.length ≤ 200) (hb : ∀ a ∈ es, a.length ≤ 1010) {a0 a1 a2 a3 a4 a5 a6 a7 : Sl} {nx : Ro → Prop} {rt rf bk ct er} (k : nx [a0, a1, a2, a3, a4, a5, a6, a7, .val (.lst (es.map nsD)), .val (.lst (es.map byD)), .no]) : tw8 K A ⟨nx, rt, rf, bk, ct, er⟩ [a0, a1, a2, a3, a4, a5, a6, a7, .val (.lst (es.map nsD)), .val (.lst (es.map byD)), .no] := by
  unfold tw8
  have nN : D.isNotN (.lst (es.map nsD)) .non = some (.bl true) := rfl
  simp! only [Nat.reduceLT, nN]
  refine lcL_fm (fun d => match d with
    | .lst xs => D.toByt [.lst xs]
    | _ => none) (fun ρ => ρ = [a0, a1, a2, a3, a4, a5, a6, a7, .val (.lst (es.map nsD)), .val (.lst (es.map byD)), .no]) rfl (by rw [List.length_map]; exact Nat.le_trans hl (by decide)) ?_ ?_
  · rintro i d ρ nx2 el2 sm hd rfl hnx hel
    obtain ⟨a, ha, rfl⟩ := List.mem_map.mp (List.mem_of_getElem? hd)
    simp! only [Nat.reduceLT]
    refine bytes_ok A (l := a) (by have := hb a ha; omega) ?_
    simp! only [Nat.reduceLT]
    exact hnx (byD a) (toByt_ns a) _ rfl
  · rintro ρ rfl
    have e : (es.map nsD).filterMap (fun d => match d with
      | .lst xs => D.toByt [.lst xs]
      | _ => none) = es.map byD := by
      refine fm_map fun a _ => toByt_ns a
    rw [e]
    have hne := ne_same es
    simp! only [Nat.reduceLT, hne]
    exact k
theorem turn_ok {n : Nat} (hn : n < 700000000) {w : D} (hw : Rng n w) {a0 a1 a3 a4 a5 a6 a7 a8 a9 : Sl} (p4 : a4.isP = false) (p5 : a5.isP = false) (p6 : a6.isP = false) (p7 : a7.isP = false) (p8 : a8.isP = false) (p9 : a9.isP = false) {nx : Ro → Prop} {rt rf bk ct er} (k : ∀ (w' : D) (b4 b5 b6 b7 b8 b9 : Sl), Rng (n + 200) w' → (b4.isP = false ∧ b5.isP = false ∧ b6.isP = false ∧ b7.isP = false ∧ b8.isP = false ∧ b9.isP = false) → nx [a0, a1, .own w', a3, b4, b5, b6, b7, b8, b9, .no]) :
    twT K A ⟨nx, rt, rf, bk, ct, er⟩ [a0, a1, .own w, a3, a4, a5, a6, a7, a8, a9, .no] := by
  unfold twT tw0
  have z3 : 0 + 1 + 1 + 1 ≤ sizeLine := by decide
  have z5 : 0 + 1 + 1 + 1 + 1 + 1 ≤ sizeLine := by decide
  simp! only [Nat.reduceLT]
  refine short_ok A (by omega) hw fun h c w1 l hl hw1 => ?_
  unfold tw1
  simp! only [Nat.reduceLT, p4]
  refine near_ok A (by omega) hw1 l hl fun h2 c2 w2 l2 b2 hw2 => ?_
  simp! only [Nat.reduceLT]
  refine near_ok A (by omega) hw2 l hl fun h3 c3 w3 l3 b3 hw3 => ?_
  simp! only [Nat.reduceLT]
  refine short_ok A (by omega) hw3 fun h4 c4 w4 l4 b4 hw4 => ?_
  simp! only [Nat.reduceLT, z3]
  refine pick_lab3 A (by omega) hw4 l2 l3 l4 b2 b3 (by omega) fun g d w5 lg bg hw5 => ?_
  simp! only [Nat.reduceLT, p5]
  refine tw2_ok A l lg (by omega) bg p6 fun lo hi o1 o2 o3 => ?_
  simp! only [Nat.reduceLT]
  refine tw3_ok A (by omega) hw5 fun x y w6 sx sy hw6 => ?_
  unfold tw4
  simp! only [Nat.reduceLT]
  refine draw_ok A (by omega) hw6 (by decide) (by decide) fun z w7 z0 z1 hw7 => ?_
  simp! only [Nat.reduceLT, z5]
  refine pick_int A (by omega) hw7 [0, 1, 2, 5, z] (List.cons_ne_nil _ _) (by simp) (P := fun m => 0 ≤ m ∧ m ≤ 200) (fun y hy => by
    simp only [List.mem_cons, List.not_mem_nil, or_false] at hy
    rcases hy with rfl | rfl | rfl | rfl | rfl <;> constructor <;> omega) fun m w8 hm hw8 => ?_
  obtain ⟨m, rfl⟩ := Int.eq_ofNat_of_zero_le hm.1
  have hm2 : m ≤ 200 := by omega
  simp! only [Nat.reduceLT, p7]
  refine tw5_ok A (sx.ok o1) (sy.ok o2) hm2 p8 ?_ fun es hs hb => ?_
  · simp! only [Nat.reduceLT]
    refine tw6_ok A (sx.ok o1) (sy.ok o2) rfl rfl ?_
    simp! only [Nat.reduceLT]
    refine tw7_ok A (sx.ok o1) (sy.ok o2) (sx.lt sy o3) hm2 p9 fun cs hc => ?_
    refine tw8_none A ?_
    exact k w8 _ _ _ _ _ _ (hw8.mono (by omega)) ⟨rfl, rfl, rfl, rfl, rfl, rfl⟩
  · simp! only [Nat.reduceLT]
    refine tw6_ok A (sx.ok o1) (sy.ok o2) rfl rfl ?_
    simp! only [Nat.reduceLT]
    refine tw7_ok A (sx.ok o1) (sy.ok o2) (sx.lt sy o3) hm2 p9 fun cs hc => ?_
    have := hc.uniq hs
    subst this
    have hlen : cs.length ≤ 200 := by
      obtain ⟨m, _, hp, _⟩ := hs
      rw [hp.length_eq, List.length_take]; omega
    refine tw8_some A hlen hb ?_
    exact k w8 _ _ _ _ _ _ (hw8.mono (by omega)) ⟨rfl, rfl, rfl, rfl, rfl, rfl⟩
theorem three {cs : List LB} (h : Srt none none 3 cs) : cs = [[2], [4], [6]] := by
  refine h.uniq ⟨1, ?_, ?_, ?_⟩
  · show 3 ≤ ([] ++ FL none none 0).length
    have e : FL none none 0 = labs [] := by
      rw [FL_eq, cans_zero (fun a e => by cases e), List.flatMap_singleton, free_labs rfl ⟨fun a e => (by cases e), fun a e => by cases e⟩]
    rw [List.nil_append, e, labs_len]; decide
  · have e : FF none none 1 = labs [] := by
      show [] ++ FL none none 0 = _
      rw [List.nil_append, FL_eq, cans_zero (fun a e => by cases e), List.flatMap_singleton, free_labs rfl ⟨fun a e => (by cases e), fun a e => by cases e⟩]
    rw [e]
    have e2 : (labs []).take 3 = [[2], [4], [6]] := by decide
    rw [e2]
  · decide
theorem last_ok {q : D → List D → Prop} {er} (k : q (.lst [byD [2], byD [4], byD [6]]) []) : dsp_labels_between K A [.val .non, .val .non, .val (.int 3)] q er :=
  betw_ok A (lo := none) (hi := none) (n := 3) okb_none okb_none ltb_l (by decide) fun cs hc => by
    have := three hc
    subst this
    exact k
theorem eqBL_3 : D.eqBL (.lst [byD [2], byD [4], byD [6]]) (.lst [byD [2], byD [4], byD [6]]) = some (.bl true) := by rfl
theorem by2 {q : D → List D → Prop} {er} (x : UInt8) (k : q (byD [x]) []) : dsp_bytes_of K A [.val (.lst [.int ((x.toNat : Nat) : Int)])] q er := bytes_ok A (l := [x]) (by simp) k
theorem law_true (ns : List Int) (hl : ns.length ≤ 63) : dsp_law K A [.val (.lst (ns.map D.int))] (fun d _ => d = .bl true) (fun _ _ _ => False) := by
  unfold dsp_law
  rw [lwbody]
  have z1 : 0 + 1 ≤ sizeLine := by decide
  have z3 : 0 + 1 + 1 + 1 ≤ sizeLine := by decide
  have ha : D.add (.lst (ns.map D.int)) (.lst [.int 0]) = some (.lst ((ns ++ [0]).map D.int)) := by
    rw [D_addL (by rw [List.length_map, List.length_singleton]; exact Nat.le_trans (by omega : ns.length + 1 ≤ 64) (by decide)), List.map_append]; rfl
  have hc : D.cut (.lst ((ns ++ [0]).map D.int)) none (some 3) = some (.lst (((ns ++ [0]).take 3).map D.int)) := by
    rw [show (3 : Int) = ((3 : Nat) : Int) from rfl, cutL_lo, List.map_take]
  simp! only [z1, ha, hc]
  refine forL_inv (fun i ρ => ∃ a1 a2 a3 a4 a5 a6 a7 a8 a9, (a1.isP = false ∧ a2.isP = false ∧ a3.isP = false ∧ a4.isP = false ∧ a5.isP = false ∧ a6.isP = false ∧ a7.isP = false ∧ a8.isP = false ∧ a9.isP = false) ∧ ρ = [.val (.lst (ns.map D.int)), a1, a2, a3, a4, a5, a6, a7, a8, a9, .no]) ⟨.no, .no, .no, .no, .no, .no, .no, .no, .no, ⟨rfl, rfl, rfl, rfl, rfl, rfl, rfl, rfl, rfl⟩, rfl⟩ ?_ ?_
  · rintro i d ρ nx hd ⟨a1, a2, a3, a4, a5, a6, a7, a8, a9, ⟨q1, q2, q3, q4, q5, q6, q7, q8, q9⟩, rfl⟩ hnx
    obtain ⟨cell, -, rfl⟩ := List.mem_map.mp (List.mem_of_getElem? hd)
    simp! only [Nat.reduceLT, q1, q2]
    refine rng_ok A cell ?_
    intro w0 hw0
    simp! only [Nat.reduceLT, q1, q2]
    refine ⟨⟨by decide, by decide⟩, ?_⟩
    refine forL_inv (fun j ρ => ∃ (w : D) (a3 a4 a5 a6 a7 a8 a9 : Sl), Rng (200 * j) w ∧ (a3.isP = false ∧ a4.isP = false ∧ a5.isP = false ∧ a6.isP = false ∧ a7.isP = false ∧ a8.isP = false ∧ a9.isP = false) ∧ ρ = [.val (.lst (ns.map D.int)), .val (.int cell), .own w, a3, a4, a5, a6, a7, a8, a9, .no]) ⟨w0, a3, a4, a5, a6, a7, a8, a9, hw0, ⟨q3, q4, q5, q6, q7, q8, q9⟩, rfl⟩ ?_ ?_
    · rintro j d ρ nx2 hd ⟨w, a3, a4, a5, a6, a7, a8, a9, hw, ⟨q3, q4, q5, q6, q7, q8, q9⟩, rfl⟩ hnx2
      have hj : j < 5 := by
        have := (List.getElem?_eq_some_iff.mp hd).1
        rw [List.length_map, List.length_range] at this
        exact Nat.lt_of_lt_of_le this (by decide)
      simp! only [Nat.reduceLT, q3]
      refine turn_ok A (by omega) hw q4 q5 q6 q7 q8 q9 fun w' b4 b5 b6 b7 b8 b9 hw' ⟨r4, r5, r6, r7, r8, r9⟩ => ?_
      refine hnx2 _ ⟨w', .val d, b4, b5, b6, b7, b8, b9, hw'.mono (by omega), ⟨rfl, r4, r5, r6, r7, r8, r9⟩, rfl⟩
    · rintro ρ ⟨w, a3, a4, a5, a6, a7, a8, a9, hw, ⟨q3, q4, q5, q6, q7, q8, q9⟩, rfl⟩
      exact hnx _ ⟨_, _, a3, a4, a5, a6, a7, a8, a9, ⟨rfl, rfl, q3, q4, q5, q6, q7, q8, q9⟩, rfl⟩
  · rintro ρ ⟨a1, a2, a3, a4, a5, a6, a7, a8, a9, ⟨q1, q2, q3, q4, q5, q6, q7, q8, q9⟩, rfl⟩
    simp! only [Nat.reduceLT]
    refine last_ok A ?_
    simp! only [Nat.reduceLT, z1]
    refine by2 A 2 ?_
    simp! only [Nat.reduceLT, z1]
    refine by2 A 4 ?_
    simp! only [Nat.reduceLT, z1]
    refine by2 A 6 ?_
    simp! only [Nat.reduceLT, z3, eqBL_3]
end
set_option maxHeartbeats 2000000
section
variable {w : World} {K : PySem.W.Frag} {h : Heap} {mg : Str → Option Value}
theorem all_mk {fa : Addr} (X : K.In h) (G : h.Ns mainGlobals mg) (hfa : mg "law" = some (.ref fa)) {a_is_integer a_is_sequence a_is_key a_bytes_of a_p_is_label a_p_wrong_word a_p_next_start a_p_next_label a_first_labels a_labels_between a_p_law_rng a_p_law_draw a_p_law_pick a_p_law_short a_p_law_near a_p_law_all a_p_law_can_begin a_p_law_due a_law : Addr} {od_is_integer an_is_integer od_is_sequence an_is_sequence od_is_key an_is_key od_bytes_of an_bytes_of od_p_is_label an_p_is_label od_p_wrong_word an_p_wrong_word od_p_next_start an_p_next_start od_p_next_label an_p_next_label od_first_labels an_first_labels od_labels_between an_labels_between od_p_law_rng an_p_law_rng od_p_law_draw an_p_law_draw od_p_law_pick an_p_law_pick od_p_law_short an_p_law_short od_p_law_near an_p_law_near od_p_law_all an_p_law_all od_p_law_can_begin an_p_law_can_begin od_p_law_due an_p_law_due od_law an_law : Option Addr} {sl_is_integer sl_is_sequence sl_is_key sl_bytes_of sl_p_is_label sl_p_wrong_word sl_p_next_start sl_p_next_label sl_first_labels sl_labels_between sl_p_law_rng sl_p_law_draw sl_p_law_pick sl_p_law_short sl_p_law_near sl_p_law_all sl_p_law_can_begin sl_p_law_due sl_law : Array (Option Value)} {oc_is_integer kV_is_integer dc_is_integer pm_is_integer cd_is_integer ct_is_integer oc_is_sequence kV_is_sequence dc_is_sequence pm_is_sequence cd_is_sequence ct_is_sequence oc_is_key kV_is_key dc_is_key pm_is_key cd_is_key ct_is_key oc_bytes_of kV_bytes_of dc_bytes_of pm_bytes_of cd_bytes_of ct_bytes_of oc_p_is_label kV_p_is_label dc_p_is_label pm_p_is_label cd_p_is_label ct_p_is_label oc_p_wrong_word kV_p_wrong_word dc_p_wrong_word pm_p_wrong_word cd_p_wrong_word ct_p_wrong_word oc_p_next_start kV_p_next_start dc_p_next_start pm_p_next_start cd_p_next_start ct_p_next_start oc_p_next_label kV_p_next_label dc_p_next_label pm_p_next_label cd_p_next_label ct_p_next_label oc_first_labels kV_first_labels dc_first_labels pm_first_labels cd_first_labels ct_first_labels oc_labels_between kV_labels_between dc_labels_between pm_labels_between cd_labels_between ct_labels_between oc_p_law_rng kV_p_law_rng dc_p_law_rng pm_p_law_rng cd_p_law_rng ct_p_law_rng oc_p_law_draw kV_p_law_draw dc_p_law_draw pm_p_law_draw cd_p_law_draw ct_p_law_draw oc_p_law_pick kV_p_law_pick dc_p_law_pick pm_p_law_pick cd_p_law_pick ct_p_law_pick oc_p_law_short kV_p_law_short dc_p_law_short pm_p_law_short cd_p_law_short ct_p_law_short oc_p_law_near kV_p_law_near dc_p_law_near pm_p_law_near cd_p_law_near ct_p_law_near oc_p_law_all kV_p_law_all dc_p_law_all pm_p_law_all cd_p_law_all ct_p_law_all oc_p_law_can_begin kV_p_law_can_begin dc_p_law_can_begin pm_p_law_can_begin cd_p_law_can_begin ct_p_law_can_begin oc_p_law_due kV_p_law_due dc_p_law_due pm_p_law_due cd_p_law_due ct_p_law_due oc_law kV_law dc_law pm_law cd_law ct_law u_GREATEST_BYTE u_GREATEST_LAST u_LONGEST_LABEL u_MOST_LABELS : Value}
    (n_is_integer : PySem.W.nsIn K mainGlobals "is_integer" = some (some (.ref a_is_integer)))
    (l_is_integer : K.lookup a_is_integer = some ⟨oc_is_integer, od_is_integer, .func (PySem.W.fnOf "is_integer" "is_integer" (defArgs s_is_integer) (defBody s_is_integer) (defScope s_is_integer) .none kV_is_integer dc_is_integer pm_is_integer an_is_integer cd_is_integer ct_is_integer), sl_is_integer⟩)
    (c2_is_integer : PySem.W.codeIn K cd_is_integer "is_integer" = true)
    (k2_is_integer : PySem.W.keepIn K (.ref a_is_integer) = true)
    (n_is_sequence : PySem.W.nsIn K mainGlobals "is_sequence" = some (some (.ref a_is_sequence)))
    (l_is_sequence : K.lookup a_is_sequence = some ⟨oc_is_sequence, od_is_sequence, .func (PySem.W.fnOf "is_sequence" "is_sequence" (defArgs s_is_sequence) (defBody s_is_sequence) (defScope s_is_sequence) .none kV_is_sequence dc_is_sequence pm_is_sequence an_is_sequence cd_is_sequence ct_is_sequence), sl_is_sequence⟩)
    (c2_is_sequence : PySem.W.codeIn K cd_is_sequence "is_sequence" = true)
    (k2_is_sequence : PySem.W.keepIn K (.ref a_is_sequence) = true)
    (n_is_key : PySem.W.nsIn K mainGlobals "is_key" = some (some (.ref a_is_key)))
    (l_is_key : K.lookup a_is_key = some ⟨oc_is_key, od_is_key, .func (PySem.W.fnOf "is_key" "is_key" (defArgs s_is_key) (defBody s_is_key) (defScope s_is_key) .none kV_is_key dc_is_key pm_is_key an_is_key cd_is_key ct_is_key), sl_is_key⟩)
    (c2_is_key : PySem.W.codeIn K cd_is_key "is_key" = true)
    (k2_is_key : PySem.W.keepIn K (.ref a_is_key) = true)
    (n_bytes_of : PySem.W.nsIn K mainGlobals "bytes_of" = some (some (.ref a_bytes_of)))
    (l_bytes_of : K.lookup a_bytes_of = some ⟨oc_bytes_of, od_bytes_of, .func (PySem.W.fnOf "bytes_of" "bytes_of" (defArgs s_bytes_of) (defBody s_bytes_of) (defScope s_bytes_of) .none kV_bytes_of dc_bytes_of pm_bytes_of an_bytes_of cd_bytes_of ct_bytes_of), sl_bytes_of⟩)
    (c2_bytes_of : PySem.W.codeIn K cd_bytes_of "bytes_of" = true)
    (k2_bytes_of : PySem.W.keepIn K (.ref a_bytes_of) = true)
    (n_p_is_label : PySem.W.nsIn K mainGlobals "_is_label" = some (some (.ref a_p_is_label)))
    (l_p_is_label : K.lookup a_p_is_label = some ⟨oc_p_is_label, od_p_is_label, .func (PySem.W.fnOf "_is_label" "_is_label" (defArgs s_p_is_label) (defBody s_p_is_label) (defScope s_p_is_label) .none kV_p_is_label dc_p_is_label pm_p_is_label an_p_is_label cd_p_is_label ct_p_is_label), sl_p_is_label⟩)
    (c2_p_is_label : PySem.W.codeIn K cd_p_is_label "_is_label" = true)
    (k2_p_is_label : PySem.W.keepIn K (.ref a_p_is_label) = true)
    (n_p_wrong_word : PySem.W.nsIn K mainGlobals "_wrong_word" = some (some (.ref a_p_wrong_word)))
    (l_p_wrong_word : K.lookup a_p_wrong_word = some ⟨oc_p_wrong_word, od_p_wrong_word, .func (PySem.W.fnOf "_wrong_word" "_wrong_word" (defArgs s_p_wrong_word) (defBody s_p_wrong_word) (defScope s_p_wrong_word) .none kV_p_wrong_word dc_p_wrong_word pm_p_wrong_word an_p_wrong_word cd_p_wrong_word ct_p_wrong_word), sl_p_wrong_word⟩)
    (c2_p_wrong_word : PySem.W.codeIn K cd_p_wrong_word "_wrong_word" = true)
    (k2_p_wrong_word : PySem.W.keepIn K (.ref a_p_wrong_word) = true)
    (n_p_next_start : PySem.W.nsIn K mainGlobals "_next_start" = some (some (.ref a_p_next_start)))
    (l_p_next_start : K.lookup a_p_next_start = some ⟨oc_p_next_start, od_p_next_start, .func (PySem.W.fnOf "_next_start" "_next_start" (defArgs s_p_next_start) (defBody s_p_next_start) (defScope s_p_next_start) .none kV_p_next_start dc_p_next_start pm_p_next_start an_p_next_start cd_p_next_start ct_p_next_start), sl_p_next_start⟩)
    (c2_p_next_start : PySem.W.codeIn K cd_p_next_start "_next_start" = true)
    (k2_p_next_start : PySem.W.keepIn K (.ref a_p_next_start) = true)
    (n_p_next_label : PySem.W.nsIn K mainGlobals "_next_label" = some (some (.ref a_p_next_label)))
    (l_p_next_label : K.lookup a_p_next_label = some ⟨oc_p_next_label, od_p_next_label, .func (PySem.W.fnOf "_next_label" "_next_label" (defArgs s_p_next_label) (defBody s_p_next_label) (defScope s_p_next_label) .none kV_p_next_label dc_p_next_label pm_p_next_label an_p_next_label cd_p_next_label ct_p_next_label), sl_p_next_label⟩)
    (c2_p_next_label : PySem.W.codeIn K cd_p_next_label "_next_label" = true)
    (k2_p_next_label : PySem.W.keepIn K (.ref a_p_next_label) = true)
    (n_first_labels : PySem.W.nsIn K mainGlobals "first_labels" = some (some (.ref a_first_labels)))
    (l_first_labels : K.lookup a_first_labels = some ⟨oc_first_labels, od_first_labels, .func (PySem.W.fnOf "first_labels" "first_labels" (defArgs s_first_labels) (defBody s_first_labels) (defScope s_first_labels) .none kV_first_labels dc_first_labels pm_first_labels an_first_labels cd_first_labels ct_first_labels), sl_first_labels⟩)
    (c2_first_labels : PySem.W.codeIn K cd_first_labels "first_labels" = true)
    (k2_first_labels : PySem.W.keepIn K (.ref a_first_labels) = true)
    (n_labels_between : PySem.W.nsIn K mainGlobals "labels_between" = some (some (.ref a_labels_between)))
    (l_labels_between : K.lookup a_labels_between = some ⟨oc_labels_between, od_labels_between, .func (PySem.W.fnOf "labels_between" "labels_between" (defArgs s_labels_between) (defBody s_labels_between) (defScope s_labels_between) .none kV_labels_between dc_labels_between pm_labels_between an_labels_between cd_labels_between ct_labels_between), sl_labels_between⟩)
    (c2_labels_between : PySem.W.codeIn K cd_labels_between "labels_between" = true)
    (k2_labels_between : PySem.W.keepIn K (.ref a_labels_between) = true)
    (n_p_law_rng : PySem.W.nsIn K mainGlobals "_law_rng" = some (some (.ref a_p_law_rng)))
    (l_p_law_rng : K.lookup a_p_law_rng = some ⟨oc_p_law_rng, od_p_law_rng, .func (PySem.W.fnOf "_law_rng" "_law_rng" (defArgs s_p_law_rng) (defBody s_p_law_rng) (defScope s_p_law_rng) .none kV_p_law_rng dc_p_law_rng pm_p_law_rng an_p_law_rng cd_p_law_rng ct_p_law_rng), sl_p_law_rng⟩)
    (c2_p_law_rng : PySem.W.codeIn K cd_p_law_rng "_law_rng" = true)
    (k2_p_law_rng : PySem.W.keepIn K (.ref a_p_law_rng) = true)
    (n_p_law_draw : PySem.W.nsIn K mainGlobals "_law_draw" = some (some (.ref a_p_law_draw)))
    (l_p_law_draw : K.lookup a_p_law_draw = some ⟨oc_p_law_draw, od_p_law_draw, .func (PySem.W.fnOf "_law_draw" "_law_draw" (defArgs s_p_law_draw) (defBody s_p_law_draw) (defScope s_p_law_draw) .none kV_p_law_draw dc_p_law_draw pm_p_law_draw an_p_law_draw cd_p_law_draw ct_p_law_draw), sl_p_law_draw⟩)
    (c2_p_law_draw : PySem.W.codeIn K cd_p_law_draw "_law_draw" = true)
    (k2_p_law_draw : PySem.W.keepIn K (.ref a_p_law_draw) = true)
    (n_p_law_pick : PySem.W.nsIn K mainGlobals "_law_pick" = some (some (.ref a_p_law_pick)))
    (l_p_law_pick : K.lookup a_p_law_pick = some ⟨oc_p_law_pick, od_p_law_pick, .func (PySem.W.fnOf "_law_pick" "_law_pick" (defArgs s_p_law_pick) (defBody s_p_law_pick) (defScope s_p_law_pick) .none kV_p_law_pick dc_p_law_pick pm_p_law_pick an_p_law_pick cd_p_law_pick ct_p_law_pick), sl_p_law_pick⟩)
    (c2_p_law_pick : PySem.W.codeIn K cd_p_law_pick "_law_pick" = true)
    (k2_p_law_pick : PySem.W.keepIn K (.ref a_p_law_pick) = true)
    (n_p_law_short : PySem.W.nsIn K mainGlobals "_law_short" = some (some (.ref a_p_law_short)))
    (l_p_law_short : K.lookup a_p_law_short = some ⟨oc_p_law_short, od_p_law_short, .func (PySem.W.fnOf "_law_short" "_law_short" (defArgs s_p_law_short) (defBody s_p_law_short) (defScope s_p_law_short) .none kV_p_law_short dc_p_law_short pm_p_law_short an_p_law_short cd_p_law_short ct_p_law_short), sl_p_law_short⟩)
    (c2_p_law_short : PySem.W.codeIn K cd_p_law_short "_law_short" = true)
    (k2_p_law_short : PySem.W.keepIn K (.ref a_p_law_short) = true)
    (n_p_law_near : PySem.W.nsIn K mainGlobals "_law_near" = some (some (.ref a_p_law_near)))
    (l_p_law_near : K.lookup a_p_law_near = some ⟨oc_p_law_near, od_p_law_near, .func (PySem.W.fnOf "_law_near" "_law_near" (defArgs s_p_law_near) (defBody s_p_law_near) (defScope s_p_law_near) .none kV_p_law_near dc_p_law_near pm_p_law_near an_p_law_near cd_p_law_near ct_p_law_near), sl_p_law_near⟩)
    (c2_p_law_near : PySem.W.codeIn K cd_p_law_near "_law_near" = true)
    (k2_p_law_near : PySem.W.keepIn K (.ref a_p_law_near) = true)
    (n_p_law_all : PySem.W.nsIn K mainGlobals "_law_all" = some (some (.ref a_p_law_all)))
    (l_p_law_all : K.lookup a_p_law_all = some ⟨oc_p_law_all, od_p_law_all, .func (PySem.W.fnOf "_law_all" "_law_all" (defArgs s_p_law_all) (defBody s_p_law_all) (defScope s_p_law_all) .none kV_p_law_all dc_p_law_all pm_p_law_all an_p_law_all cd_p_law_all ct_p_law_all), sl_p_law_all⟩)
    (c2_p_law_all : PySem.W.codeIn K cd_p_law_all "_law_all" = true)
    (k2_p_law_all : PySem.W.keepIn K (.ref a_p_law_all) = true)
    (n_p_law_can_begin : PySem.W.nsIn K mainGlobals "_law_can_begin" = some (some (.ref a_p_law_can_begin)))
    (l_p_law_can_begin : K.lookup a_p_law_can_begin = some ⟨oc_p_law_can_begin, od_p_law_can_begin, .func (PySem.W.fnOf "_law_can_begin" "_law_can_begin" (defArgs s_p_law_can_begin) (defBody s_p_law_can_begin) (defScope s_p_law_can_begin) .none kV_p_law_can_begin dc_p_law_can_begin pm_p_law_can_begin an_p_law_can_begin cd_p_law_can_begin ct_p_law_can_begin), sl_p_law_can_begin⟩)
    (c2_p_law_can_begin : PySem.W.codeIn K cd_p_law_can_begin "_law_can_begin" = true)
    (k2_p_law_can_begin : PySem.W.keepIn K (.ref a_p_law_can_begin) = true)
    (n_p_law_due : PySem.W.nsIn K mainGlobals "_law_due" = some (some (.ref a_p_law_due)))
    (l_p_law_due : K.lookup a_p_law_due = some ⟨oc_p_law_due, od_p_law_due, .func (PySem.W.fnOf "_law_due" "_law_due" (defArgs s_p_law_due) (defBody s_p_law_due) (defScope s_p_law_due) .none kV_p_law_due dc_p_law_due pm_p_law_due an_p_law_due cd_p_law_due ct_p_law_due), sl_p_law_due⟩)
    (c2_p_law_due : PySem.W.codeIn K cd_p_law_due "_law_due" = true)
    (k2_p_law_due : PySem.W.keepIn K (.ref a_p_law_due) = true)
    (n_law : PySem.W.nsIn K mainGlobals "law" = some (some (.ref a_law)))
    (l_law : K.lookup a_law = some ⟨oc_law, od_law, .func (PySem.W.fnOf "law" "law" (defArgs s_law) (defBody s_law) (defScope s_law) .none kV_law dc_law pm_law an_law cd_law ct_law), sl_law⟩)
    (c2_law : PySem.W.codeIn K cd_law "law" = true)
    (k2_law : PySem.W.keepIn K (.ref a_law) = true)
    (isi_n : PySem.W.specialIn K (.builtin "object.__class__") "__get__" = some (some (.builtin "getset_descriptor.__get__")))
    (isi_t : PySem.W.takesIn K (.builtin "object.__class__") = some true)
    (nk_GREATEST_BYTE : PySem.W.nsIn K mainGlobals "GREATEST_BYTE" = some (some u_GREATEST_BYTE))
    (rk_GREATEST_BYTE : RelV (.int (255)) u_GREATEST_BYTE)
    (nk_GREATEST_LAST : PySem.W.nsIn K mainGlobals "GREATEST_LAST" = some (some u_GREATEST_LAST))
    (rk_GREATEST_LAST : RelV (.int (254)) u_GREATEST_LAST)
    (nk_LONGEST_LABEL : PySem.W.nsIn K mainGlobals "LONGEST_LABEL" = some (some u_LONGEST_LABEL))
    (rk_LONGEST_LABEL : RelV (.int (1000)) u_LONGEST_LABEL)
    (nk_MOST_LABELS : PySem.W.nsIn K mainGlobals "MOST_LABELS" = some (some u_MOST_LABELS))
    (rk_MOST_LABELS : RelV (.int (200)) u_MOST_LABELS)
    (z_abs : PySem.W.nsIn K mainGlobals "abs" = some none)
    (z_all : PySem.W.nsIn K mainGlobals "all" = some none)
    (z_bool : PySem.W.nsIn K mainGlobals "bool" = some none)
    (z_bytes : PySem.W.nsIn K mainGlobals "bytes" = some none)
    (z_enumerate : PySem.W.nsIn K mainGlobals "enumerate" = some none)
    (z_int : PySem.W.nsIn K mainGlobals "int" = some none)
    (z_isinstance : PySem.W.nsIn K mainGlobals "isinstance" = some none)
    (z_len : PySem.W.nsIn K mainGlobals "len" = some none)
    (z_list : PySem.W.nsIn K mainGlobals "list" = some none)
    (z_range : PySem.W.nsIn K mainGlobals "range" = some none)
    (z_sorted : PySem.W.nsIn K mainGlobals "sorted" = some none)
    (z_tuple : PySem.W.nsIn K mainGlobals "tuple" = some none)
    (main : ∀ A : Ads, ∀ ns : List Int, ns.length ≤ 63 → dsp_law K A [.val (.lst (ns.map D.int))] (fun d _ => d = .bl true) (fun _ _ _ => False))
    : ∃ fd : FuncData, (∀ (s : Shared) (v : Value), BindsTo s fd ⟨[v], []⟩ [("_law_script", v)]) ∧ ∀ base : Heap, K.In base → base.Ns mainGlobals mg → FnOk (PySem.Challenge.rw_forestrows_k47_shortest_labels_tried_out).prog w K mg base CX0 5 fa fd ["_law_script"] (spTrue K) := by
  have e := hfa.symm.trans (PySem.W.mg_of X G n_law)
  cases e
  have F_is_integer := fun_mk (st := s_is_integer) l_is_integer c2_is_integer k2_is_integer
  have b_is_integer := F_is_integer.binds (ps := ["x"]) fun _ _ _ _ _ _ us hl => match us, hl with | [_], _ => rfl
  have F_is_sequence := fun_mk (st := s_is_sequence) l_is_sequence c2_is_sequence k2_is_sequence
  have b_is_sequence := F_is_sequence.binds (ps := ["x"]) fun _ _ _ _ _ _ us hl => match us, hl with | [_], _ => rfl
  have F_is_key := fun_mk (st := s_is_key) l_is_key c2_is_key k2_is_key
  have b_is_key := F_is_key.binds (ps := ["x"]) fun _ _ _ _ _ _ us hl => match us, hl with | [_], _ => rfl
  have F_bytes_of := fun_mk (st := s_bytes_of) l_bytes_of c2_bytes_of k2_bytes_of
  have b_bytes_of := F_bytes_of.binds (ps := ["numbers"]) fun _ _ _ _ _ _ us hl => match us, hl with | [_], _ => rfl
  have F_p_is_label := fun_mk (st := s_p_is_label) l_p_is_label c2_p_is_label k2_p_is_label
  have b_p_is_label := F_p_is_label.binds (ps := ["x"]) fun _ _ _ _ _ _ us hl => match us, hl with | [_], _ => rfl
  have F_p_wrong_word := fun_mk (st := s_p_wrong_word) l_p_wrong_word c2_p_wrong_word k2_p_wrong_word
  have b_p_wrong_word := F_p_wrong_word.binds (ps := ["low", "high", "count"]) fun _ _ _ _ _ _ us hl => match us, hl with | [_, _, _], _ => rfl
  have F_p_next_start := fun_mk (st := s_p_next_start) l_p_next_start c2_p_next_start k2_p_next_start
  have b_p_next_start := F_p_next_start.binds (ps := ["start"]) fun _ _ _ _ _ _ us hl => match us, hl with | [_], _ => rfl
  have F_p_next_label := fun_mk (st := s_p_next_label) l_p_next_label c2_p_next_label k2_p_next_label
  have b_p_next_label := F_p_next_label.binds (ps := ["low", "length"]) fun _ _ _ _ _ _ us hl => match us, hl with | [_, _], _ => rfl
  have F_first_labels := fun_mk (st := s_first_labels) l_first_labels c2_first_labels k2_first_labels
  have b_first_labels := F_first_labels.binds (ps := ["low", "high", "count"]) fun _ _ _ _ _ _ us hl => match us, hl with | [_, _, _], _ => rfl
  have F_labels_between := fun_mk (st := s_labels_between) l_labels_between c2_labels_between k2_labels_between
  have b_labels_between := F_labels_between.binds (ps := ["low", "high", "count"]) fun _ _ _ _ _ _ us hl => match us, hl with | [_, _, _], _ => rfl
  have F_p_law_rng := fun_mk (st := s_p_law_rng) l_p_law_rng c2_p_law_rng k2_p_law_rng
  have b_p_law_rng := F_p_law_rng.binds (ps := ["_law_cell"]) fun _ _ _ _ _ _ us hl => match us, hl with | [_], _ => rfl
  have F_p_law_draw := fun_mk (st := s_p_law_draw) l_p_law_draw c2_p_law_draw k2_p_law_draw
  have b_p_law_draw := F_p_law_draw.binds (ps := ["_law_rng_here", "_law_limit"]) fun _ _ _ _ _ _ us hl => match us, hl with | [_, _], _ => rfl
  have F_p_law_pick := fun_mk (st := s_p_law_pick) l_p_law_pick c2_p_law_pick k2_p_law_pick
  have b_p_law_pick := F_p_law_pick.binds (ps := ["_law_rng_here", "_law_items"]) fun _ _ _ _ _ _ us hl => match us, hl with | [_, _], _ => rfl
  have F_p_law_short := fun_mk (st := s_p_law_short) l_p_law_short c2_p_law_short k2_p_law_short
  have b_p_law_short := F_p_law_short.binds (ps := ["_law_rng_here"]) fun _ _ _ _ _ _ us hl => match us, hl with | [_], _ => rfl
  have F_p_law_near := fun_mk (st := s_p_law_near) l_p_law_near c2_p_law_near k2_p_law_near
  have b_p_law_near := F_p_law_near.binds (ps := ["_law_rng_here", "_law_label"]) fun _ _ _ _ _ _ us hl => match us, hl with | [_, _], _ => rfl
  have F_p_law_all := fun_mk (st := s_p_law_all) l_p_law_all c2_p_law_all k2_p_law_all
  have b_p_law_all := F_p_law_all.binds (ps := ["_law_ahead", "_law_low", "_law_high"]) fun _ _ _ _ _ _ us hl => match us, hl with | [_, _, _], _ => rfl
  have F_p_law_can_begin := fun_mk (st := s_p_law_can_begin) l_p_law_can_begin c2_p_law_can_begin k2_p_law_can_begin
  have b_p_law_can_begin := F_p_law_can_begin.binds (ps := ["_law_ahead", "_law_low", "_law_high"]) fun _ _ _ _ _ _ us hl => match us, hl with | [_, _, _], _ => rfl
  have F_p_law_due := fun_mk (st := s_p_law_due) l_p_law_due c2_p_law_due k2_p_law_due
  have b_p_law_due := F_p_law_due.binds (ps := ["_law_low", "_law_high", "_law_count"]) fun _ _ _ _ _ _ us hl => match us, hl with | [_, _, _], _ => rfl
  have F_law := fun_mk (st := s_law) l_law c2_law k2_law
  have b_law := F_law.binds (ps := ["_law_script"]) fun _ _ _ _ _ _ us hl => match us, hl with | [_], _ => rfl
  let A : Ads := { a_is_integer := a_is_integer, d_is_integer := (PySem.W.fnOf "is_integer" "is_integer" (defArgs s_is_integer) (defBody s_is_integer) (defScope s_is_integer) .none kV_is_integer dc_is_integer pm_is_integer an_is_integer cd_is_integer ct_is_integer), a_is_sequence := a_is_sequence, d_is_sequence := (PySem.W.fnOf "is_sequence" "is_sequence" (defArgs s_is_sequence) (defBody s_is_sequence) (defScope s_is_sequence) .none kV_is_sequence dc_is_sequence pm_is_sequence an_is_sequence cd_is_sequence ct_is_sequence), a_is_key := a_is_key, d_is_key := (PySem.W.fnOf "is_key" "is_key" (defArgs s_is_key) (defBody s_is_key) (defScope s_is_key) .none kV_is_key dc_is_key pm_is_key an_is_key cd_is_key ct_is_key), a_bytes_of := a_bytes_of, d_bytes_of := (PySem.W.fnOf "bytes_of" "bytes_of" (defArgs s_bytes_of) (defBody s_bytes_of) (defScope s_bytes_of) .none kV_bytes_of dc_bytes_of pm_bytes_of an_bytes_of cd_bytes_of ct_bytes_of), a_p_is_label := a_p_is_label, d_p_is_label := (PySem.W.fnOf "_is_label" "_is_label" (defArgs s_p_is_label) (defBody s_p_is_label) (defScope s_p_is_label) .none kV_p_is_label dc_p_is_label pm_p_is_label an_p_is_label cd_p_is_label ct_p_is_label), a_p_wrong_word := a_p_wrong_word, d_p_wrong_word := (PySem.W.fnOf "_wrong_word" "_wrong_word" (defArgs s_p_wrong_word) (defBody s_p_wrong_word) (defScope s_p_wrong_word) .none kV_p_wrong_word dc_p_wrong_word pm_p_wrong_word an_p_wrong_word cd_p_wrong_word ct_p_wrong_word), a_p_next_start := a_p_next_start, d_p_next_start := (PySem.W.fnOf "_next_start" "_next_start" (defArgs s_p_next_start) (defBody s_p_next_start) (defScope s_p_next_start) .none kV_p_next_start dc_p_next_start pm_p_next_start an_p_next_start cd_p_next_start ct_p_next_start), a_p_next_label := a_p_next_label, d_p_next_label := (PySem.W.fnOf "_next_label" "_next_label" (defArgs s_p_next_label) (defBody s_p_next_label) (defScope s_p_next_label) .none kV_p_next_label dc_p_next_label pm_p_next_label an_p_next_label cd_p_next_label ct_p_next_label), a_first_labels := a_first_labels, d_first_labels := (PySem.W.fnOf "first_labels" "first_labels" (defArgs s_first_labels) (defBody s_first_labels) (defScope s_first_labels) .none kV_first_labels dc_first_labels pm_first_labels an_first_labels cd_first_labels ct_first_labels), a_labels_between := a_labels_between, d_labels_between := (PySem.W.fnOf "labels_between" "labels_between" (defArgs s_labels_between) (defBody s_labels_between) (defScope s_labels_between) .none kV_labels_between dc_labels_between pm_labels_between an_labels_between cd_labels_between ct_labels_between), a_p_law_rng := a_p_law_rng, d_p_law_rng := (PySem.W.fnOf "_law_rng" "_law_rng" (defArgs s_p_law_rng) (defBody s_p_law_rng) (defScope s_p_law_rng) .none kV_p_law_rng dc_p_law_rng pm_p_law_rng an_p_law_rng cd_p_law_rng ct_p_law_rng), a_p_law_draw := a_p_law_draw, d_p_law_draw := (PySem.W.fnOf "_law_draw" "_law_draw" (defArgs s_p_law_draw) (defBody s_p_law_draw) (defScope s_p_law_draw) .none kV_p_law_draw dc_p_law_draw pm_p_law_draw an_p_law_draw cd_p_law_draw ct_p_law_draw), a_p_law_pick := a_p_law_pick, d_p_law_pick := (PySem.W.fnOf "_law_pick" "_law_pick" (defArgs s_p_law_pick) (defBody s_p_law_pick) (defScope s_p_law_pick) .none kV_p_law_pick dc_p_law_pick pm_p_law_pick an_p_law_pick cd_p_law_pick ct_p_law_pick), a_p_law_short := a_p_law_short, d_p_law_short := (PySem.W.fnOf "_law_short" "_law_short" (defArgs s_p_law_short) (defBody s_p_law_short) (defScope s_p_law_short) .none kV_p_law_short dc_p_law_short pm_p_law_short an_p_law_short cd_p_law_short ct_p_law_short), a_p_law_near := a_p_law_near, d_p_law_near := (PySem.W.fnOf "_law_near" "_law_near" (defArgs s_p_law_near) (defBody s_p_law_near) (defScope s_p_law_near) .none kV_p_law_near dc_p_law_near pm_p_law_near an_p_law_near cd_p_law_near ct_p_law_near), a_p_law_all := a_p_law_all, d_p_law_all := (PySem.W.fnOf "_law_all" "_law_all" (defArgs s_p_law_all) (defBody s_p_law_all) (defScope s_p_law_all) .none kV_p_law_all dc_p_law_all pm_p_law_all an_p_law_all cd_p_law_all ct_p_law_all), a_p_law_can_begin := a_p_law_can_begin, d_p_law_can_begin := (PySem.W.fnOf "_law_can_begin" "_law_can_begin" (defArgs s_p_law_can_begin) (defBody s_p_law_can_begin) (defScope s_p_law_can_begin) .none kV_p_law_can_begin dc_p_law_can_begin pm_p_law_can_begin an_p_law_can_begin cd_p_law_can_begin ct_p_law_can_begin), a_p_law_due := a_p_law_due, d_p_law_due := (PySem.W.fnOf "_law_due" "_law_due" (defArgs s_p_law_due) (defBody s_p_law_due) (defScope s_p_law_due) .none kV_p_law_due dc_p_law_due pm_p_law_due an_p_law_due cd_p_law_due ct_p_law_due), a_law := fa, d_law := (PySem.W.fnOf "law" "law" (defArgs s_law) (defBody s_law) (defScope s_law) .none kV_law dc_law pm_law an_law cd_law ct_law), u_GREATEST_BYTE := u_GREATEST_BYTE, u_GREATEST_LAST := u_GREATEST_LAST, u_LONGEST_LABEL := u_LONGEST_LABEL, u_MOST_LABELS := u_MOST_LABELS }
  have T : Txt K mg A := {
    F_is_integer := F_is_integer,
    b_is_integer := b_is_integer,
    g_is_integer := PySem.W.mg_of X G n_is_integer,
    F_is_sequence := F_is_sequence,
    b_is_sequence := b_is_sequence,
    g_is_sequence := PySem.W.mg_of X G n_is_sequence,
    F_is_key := F_is_key,
    b_is_key := b_is_key,
    g_is_key := PySem.W.mg_of X G n_is_key,
    F_bytes_of := F_bytes_of,
    b_bytes_of := b_bytes_of,
    g_bytes_of := PySem.W.mg_of X G n_bytes_of,
    F_p_is_label := F_p_is_label,
    b_p_is_label := b_p_is_label,
    g_p_is_label := PySem.W.mg_of X G n_p_is_label,
    F_p_wrong_word := F_p_wrong_word,
    b_p_wrong_word := b_p_wrong_word,
    g_p_wrong_word := PySem.W.mg_of X G n_p_wrong_word,
    F_p_next_start := F_p_next_start,
    b_p_next_start := b_p_next_start,
    g_p_next_start := PySem.W.mg_of X G n_p_next_start,
    F_p_next_label := F_p_next_label,
    b_p_next_label := b_p_next_label,
    g_p_next_label := PySem.W.mg_of X G n_p_next_label,
    F_first_labels := F_first_labels,
    b_first_labels := b_first_labels,
    g_first_labels := PySem.W.mg_of X G n_first_labels,
    F_labels_between := F_labels_between,
    b_labels_between := b_labels_between,
    g_labels_between := PySem.W.mg_of X G n_labels_between,
    F_p_law_rng := F_p_law_rng,
    b_p_law_rng := b_p_law_rng,
    g_p_law_rng := PySem.W.mg_of X G n_p_law_rng,
    F_p_law_draw := F_p_law_draw,
    b_p_law_draw := b_p_law_draw,
    g_p_law_draw := PySem.W.mg_of X G n_p_law_draw,
    F_p_law_pick := F_p_law_pick,
    b_p_law_pick := b_p_law_pick,
    g_p_law_pick := PySem.W.mg_of X G n_p_law_pick,
    F_p_law_short := F_p_law_short,
    b_p_law_short := b_p_law_short,
    g_p_law_short := PySem.W.mg_of X G n_p_law_short,
    F_p_law_near := F_p_law_near,
    b_p_law_near := b_p_law_near,
    g_p_law_near := PySem.W.mg_of X G n_p_law_near,
    F_p_law_all := F_p_law_all,
    b_p_law_all := b_p_law_all,
    g_p_law_all := PySem.W.mg_of X G n_p_law_all,
    F_p_law_can_begin := F_p_law_can_begin,
    b_p_law_can_begin := b_p_law_can_begin,
    g_p_law_can_begin := PySem.W.mg_of X G n_p_law_can_begin,
    F_p_law_due := F_p_law_due,
    b_p_law_due := b_p_law_due,
    g_p_law_due := PySem.W.mg_of X G n_p_law_due,
    F_law := F_law,
    b_law := b_law,
    g_law := PySem.W.mg_of X G n_law,
    ic := (fun C hC => by cases hC),
    isi := ⟨isi_n, isi_t⟩,
    k_GREATEST_BYTE := ⟨PySem.W.mg_of X G nk_GREATEST_BYTE, rk_GREATEST_BYTE⟩,
    k_GREATEST_LAST := ⟨PySem.W.mg_of X G nk_GREATEST_LAST, rk_GREATEST_LAST⟩,
    k_LONGEST_LABEL := ⟨PySem.W.mg_of X G nk_LONGEST_LABEL, rk_LONGEST_LABEL⟩,
    k_MOST_LABELS := ⟨PySem.W.mg_of X G nk_MOST_LABELS, rk_MOST_LABELS⟩,
    z_abs := PySem.W.mg_none_of X G z_abs,
    z_all := PySem.W.mg_none_of X G z_all,
    z_bool := PySem.W.mg_none_of X G z_bool,
    z_bytes := PySem.W.mg_none_of X G z_bytes,
    z_enumerate := PySem.W.mg_none_of X G z_enumerate,
    z_int := PySem.W.mg_none_of X G z_int,
    z_isinstance := PySem.W.mg_none_of X G z_isinstance,
    z_len := PySem.W.mg_none_of X G z_len,
    z_list := PySem.W.mg_none_of X G z_list,
    z_range := PySem.W.mg_none_of X G z_range,
    z_sorted := PySem.W.mg_none_of X G z_sorted,
    z_tuple := PySem.W.mg_none_of X G z_tuple }
  exact ⟨_, fun s v => .of_eq rfl, fun base _ _ => (ok_law (base := base) T).imp (spTrue_of (main A))⟩
end
section
variable {w : World} {K : PySem.W.Frag} {h : Heap} {mg : Str → Option Value}
theorem all_mk2 {fa : Addr} (X : K.In h) (G : h.Ns mainGlobals mg) (hfa : mg "law" = some (.ref fa)) (c : DH.SaysB factsL fnL K)
    (main : ∀ A : Ads, ∀ ns : List Int, ns.length ≤ 63 → dsp_law K A [.val (.lst (ns.map D.int))] (fun d _ => d = .bl true) (fun _ _ _ => False))
    : ∃ fd : FuncData, (∀ (s : Shared) (v : Value), BindsTo s fd ⟨[v], []⟩ [("_law_script", v)]) ∧ ∀ base : Heap, K.In base → base.Ns mainGlobals mg → FnOk (PySem.Challenge.rw_forestrows_k47_shortest_labels_tried_out).prog w K mg base CX0 5 fa fd ["_law_script"] (spTrue K) := by
  have g0 : (PySem.W.nsIn K mainGlobals "is_integer" = some (some (.ref (Z_a_is_integer K)))) ∧ (PySem.W.keepIn K (.ref (Z_a_is_integer K)) = true) ∧ (PySem.W.nsIn K mainGlobals "is_sequence" = some (some (.ref (Z_a_is_sequence K)))) ∧ (PySem.W.keepIn K (.ref (Z_a_is_sequence K)) = true) ∧ (PySem.W.nsIn K mainGlobals "is_key" = some (some (.ref (Z_a_is_key K)))) ∧ (PySem.W.keepIn K (.ref (Z_a_is_key K)) = true) ∧ (PySem.W.nsIn K mainGlobals "bytes_of" = some (some (.ref (Z_a_bytes_of K)))) ∧ (PySem.W.keepIn K (.ref (Z_a_bytes_of K)) = true) ∧ (PySem.W.nsIn K mainGlobals "_is_label" = some (some (.ref (Z_a_p_is_label K)))) ∧ (PySem.W.keepIn K (.ref (Z_a_p_is_label K)) = true) ∧ (PySem.W.nsIn K mainGlobals "_wrong_word" = some (some (.ref (Z_a_p_wrong_word K)))) ∧ (PySem.W.keepIn K (.ref (Z_a_p_wrong_word K)) = true) ∧ (PySem.W.nsIn K mainGlobals "_next_start" = some (some (.ref (Z_a_p_next_start K)))) ∧ (PySem.W.keepIn K (.ref (Z_a_p_next_start K)) = true) ∧ (PySem.W.nsIn K mainGlobals "_next_label" = some (some (.ref (Z_a_p_next_label K)))) := of_decide_eq_true (c.fact 0 rfl)
  have g1 : (PySem.W.keepIn K (.ref (Z_a_p_next_label K)) = true) ∧ (PySem.W.nsIn K mainGlobals "first_labels" = some (some (.ref (Z_a_first_labels K)))) ∧ (PySem.W.keepIn K (.ref (Z_a_first_labels K)) = true) ∧ (PySem.W.nsIn K mainGlobals "labels_between" = some (some (.ref (Z_a_labels_between K)))) ∧ (PySem.W.keepIn K (.ref (Z_a_labels_between K)) = true) ∧ (PySem.W.nsIn K mainGlobals "_law_rng" = some (some (.ref (Z_a_p_law_rng K)))) ∧ (PySem.W.keepIn K (.ref (Z_a_p_law_rng K)) = true) ∧ (PySem.W.nsIn K mainGlobals "_law_draw" = some (some (.ref (Z_a_p_law_draw K)))) ∧ (PySem.W.keepIn K (.ref (Z_a_p_law_draw K)) = true) ∧ (PySem.W.nsIn K mainGlobals "_law_pick" = some (some (.ref (Z_a_p_law_pick K)))) ∧ (PySem.W.keepIn K (.ref (Z_a_p_law_pick K)) = true) ∧ (PySem.W.nsIn K mainGlobals "_law_short" = some (some (.ref (Z_a_p_law_short K)))) ∧ (PySem.W.keepIn K (.ref (Z_a_p_law_short K)) = true) ∧ (PySem.W.nsIn K mainGlobals "_law_near" = some (some (.ref (Z_a_p_law_near K)))) ∧ (PySem.W.keepIn K (.ref (Z_a_p_law_near K)) = true) := of_decide_eq_true (c.fact 1 rfl)
  have g2 : (PySem.W.nsIn K mainGlobals "_law_all" = some (some (.ref (Z_a_p_law_all K)))) ∧ (PySem.W.keepIn K (.ref (Z_a_p_law_all K)) = true) ∧ (PySem.W.nsIn K mainGlobals "_law_can_begin" = some (some (.ref (Z_a_p_law_can_begin K)))) ∧ (PySem.W.keepIn K (.ref (Z_a_p_law_can_begin K)) = true) ∧ (PySem.W.nsIn K mainGlobals "_law_due" = some (some (.ref (Z_a_p_law_due K)))) ∧ (PySem.W.keepIn K (.ref (Z_a_p_law_due K)) = true) ∧ (PySem.W.nsIn K mainGlobals "law" = some (some (.ref (Z_a_law K)))) ∧ (PySem.W.keepIn K (.ref (Z_a_law K)) = true) ∧ (PySem.W.specialIn K (.builtin "object.__class__") "__get__" = some (some (.builtin "getset_descriptor.__get__"))) ∧ (PySem.W.takesIn K (.builtin "object.__class__") = some true) ∧ (DH.cstIn K "GREATEST_BYTE" ((.int (255))) = true) ∧ (DH.cstIn K "GREATEST_LAST" ((.int (254))) = true) ∧ (DH.cstIn K "LONGEST_LABEL" ((.int (1000))) = true) ∧ (DH.cstIn K "MOST_LABELS" ((.int (200))) = true) ∧ (PySem.W.nsIn K mainGlobals "abs" = some none) := of_decide_eq_true (c.fact 2 rfl)
  have g3 : (PySem.W.nsIn K mainGlobals "all" = some none) ∧ (PySem.W.nsIn K mainGlobals "bool" = some none) ∧ (PySem.W.nsIn K mainGlobals "bytes" = some none) ∧ (PySem.W.nsIn K mainGlobals "enumerate" = some none) ∧ (PySem.W.nsIn K mainGlobals "int" = some none) ∧ (PySem.W.nsIn K mainGlobals "isinstance" = some none) ∧ (PySem.W.nsIn K mainGlobals "len" = some none) ∧ (PySem.W.nsIn K mainGlobals "list" = some none) ∧ (PySem.W.nsIn K mainGlobals "range" = some none) ∧ (PySem.W.nsIn K mainGlobals "sorted" = some none) ∧ (PySem.W.nsIn K mainGlobals "tuple" = some none) := of_decide_eq_true (c.fact 3 rfl)
  obtain ⟨oc_is_integer, od_is_integer, sl_is_integer, kV_is_integer, dc_is_integer, pm_is_integer, an_is_integer, cd_is_integer, ct_is_integer, l_is_integer, c2_is_integer⟩ := c.def_ 0 (d := fnd_is_integer) rfl
  obtain ⟨oc_is_sequence, od_is_sequence, sl_is_sequence, kV_is_sequence, dc_is_sequence, pm_is_sequence, an_is_sequence, cd_is_sequence, ct_is_sequence, l_is_sequence, c2_is_sequence⟩ := c.def_ 1 (d := fnd_is_sequence) rfl
  obtain ⟨oc_is_key, od_is_key, sl_is_key, kV_is_key, dc_is_key, pm_is_key, an_is_key, cd_is_key, ct_is_key, l_is_key, c2_is_key⟩ := c.def_ 2 (d := fnd_is_key) rfl
  obtain ⟨oc_bytes_of, od_bytes_of, sl_bytes_of, kV_bytes_of, dc_bytes_of, pm_bytes_of, an_bytes_of, cd_bytes_of, ct_bytes_of, l_bytes_of, c2_bytes_of⟩ := c.def_ 3 (d := fnd_bytes_of) rfl
  obtain ⟨oc_p_is_label, od_p_is_label, sl_p_is_label, kV_p_is_label, dc_p_is_label, pm_p_is_label, an_p_is_label, cd_p_is_label, ct_p_is_label, l_p_is_label, c2_p_is_label⟩ := c.def_ 4 (d := fnd_p_is_label) rfl
  obtain ⟨oc_p_wrong_word, od_p_wrong_word, sl_p_wrong_word, kV_p_wrong_word, dc_p_wrong_word, pm_p_wrong_word, an_p_wrong_word, cd_p_wrong_word, ct_p_wrong_word, l_p_wrong_word, c2_p_wrong_word⟩ := c.def_ 5 (d := fnd_p_wrong_word) rfl
  obtain ⟨oc_p_next_start, od_p_next_start, sl_p_next_start, kV_p_next_start, dc_p_next_start, pm_p_next_start, an_p_next_start, cd_p_next_start, ct_p_next_start, l_p_next_start, c2_p_next_start⟩ := c.def_ 6 (d := fnd_p_next_start) rfl
  obtain ⟨oc_p_next_label, od_p_next_label, sl_p_next_label, kV_p_next_label, dc_p_next_label, pm_p_next_label, an_p_next_label, cd_p_next_label, ct_p_next_label, l_p_next_label, c2_p_next_label⟩ := c.def_ 7 (d := fnd_p_next_label) rfl
  obtain ⟨oc_first_labels, od_first_labels, sl_first_labels, kV_first_labels, dc_first_labels, pm_first_labels, an_first_labels, cd_first_labels, ct_first_labels, l_first_labels, c2_first_labels⟩ := c.def_ 8 (d := fnd_first_labels) rfl
  obtain ⟨oc_labels_between, od_labels_between, sl_labels_between, kV_labels_between, dc_labels_between, pm_labels_between, an_labels_between, cd_labels_between, ct_labels_between, l_labels_between, c2_labels_between⟩ := c.def_ 9 (d := fnd_labels_between) rfl
  obtain ⟨oc_p_law_rng, od_p_law_rng, sl_p_law_rng, kV_p_law_rng, dc_p_law_rng, pm_p_law_rng, an_p_law_rng, cd_p_law_rng, ct_p_law_rng, l_p_law_rng, c2_p_law_rng⟩ := c.def_ 10 (d := fnd_p_law_rng) rfl
  obtain ⟨oc_p_law_draw, od_p_law_draw, sl_p_law_draw, kV_p_law_draw, dc_p_law_draw, pm_p_law_draw, an_p_law_draw, cd_p_law_draw, ct_p_law_draw, l_p_law_draw, c2_p_law_draw⟩ := c.def_ 11 (d := fnd_p_law_draw) rfl
  obtain ⟨oc_p_law_pick, od_p_law_pick, sl_p_law_pick, kV_p_law_pick, dc_p_law_pick, pm_p_law_pick, an_p_law_pick, cd_p_law_pick, ct_p_law_pick, l_p_law_pick, c2_p_law_pick⟩ := c.def_ 12 (d := fnd_p_law_pick) rfl
  obtain ⟨oc_p_law_short, od_p_law_short, sl_p_law_short, kV_p_law_short, dc_p_law_short, pm_p_law_short, an_p_law_short, cd_p_law_short, ct_p_law_short, l_p_law_short, c2_p_law_short⟩ := c.def_ 13 (d := fnd_p_law_short) rfl
  obtain ⟨oc_p_law_near, od_p_law_near, sl_p_law_near, kV_p_law_near, dc_p_law_near, pm_p_law_near, an_p_law_near, cd_p_law_near, ct_p_law_near, l_p_law_near, c2_p_law_near⟩ := c.def_ 14 (d := fnd_p_law_near) rfl
  obtain ⟨oc_p_law_all, od_p_law_all, sl_p_law_all, kV_p_law_all, dc_p_law_all, pm_p_law_all, an_p_law_all, cd_p_law_all, ct_p_law_all, l_p_law_all, c2_p_law_all⟩ := c.def_ 15 (d := fnd_p_law_all) rfl
  obtain ⟨oc_p_law_can_begin, od_p_law_can_begin, sl_p_law_can_begin, kV_p_law_can_begin, dc_p_law_can_begin, pm_p_law_can_begin, an_p_law_can_begin, cd_p_law_can_begin, ct_p_law_can_begin, l_p_law_can_begin, c2_p_law_can_begin⟩ := c.def_ 16 (d := fnd_p_law_can_begin) rfl
  obtain ⟨oc_p_law_due, od_p_law_due, sl_p_law_due, kV_p_law_due, dc_p_law_due, pm_p_law_due, an_p_law_due, cd_p_law_due, ct_p_law_due, l_p_law_due, c2_p_law_due⟩ := c.def_ 17 (d := fnd_p_law_due) rfl
  obtain ⟨oc_law, od_law, sl_law, kV_law, dc_law, pm_law, an_law, cd_law, ct_law, l_law, c2_law⟩ := c.def_ 18 (d := fnd_law) rfl
  obtain ⟨u_GREATEST_BYTE, nk_GREATEST_BYTE, rk_GREATEST_BYTE⟩ := DH.cstIn_ok (g2.2.2.2.2.2.2.2.2.2.2.1)
  obtain ⟨u_GREATEST_LAST, nk_GREATEST_LAST, rk_GREATEST_LAST⟩ := DH.cstIn_ok (g2.2.2.2.2.2.2.2.2.2.2.2.1)
  obtain ⟨u_LONGEST_LABEL, nk_LONGEST_LABEL, rk_LONGEST_LABEL⟩ := DH.cstIn_ok (g2.2.2.2.2.2.2.2.2.2.2.2.2.1)
  obtain ⟨u_MOST_LABELS, nk_MOST_LABELS, rk_MOST_LABELS⟩ := DH.cstIn_ok (g2.2.2.2.2.2.2.2.2.2.2.2.2.2.1)
  exact all_mk X G hfa (a_is_integer := Z_a_is_integer K) (a_is_sequence := Z_a_is_sequence K) (a_is_key := Z_a_is_key K) (a_bytes_of := Z_a_bytes_of K) (a_p_is_label := Z_a_p_is_label K) (a_p_wrong_word := Z_a_p_wrong_word K) (a_p_next_start := Z_a_p_next_start K) (a_p_next_label := Z_a_p_next_label K) (a_first_labels := Z_a_first_labels K) (a_labels_between := Z_a_labels_between K) (a_p_law_rng := Z_a_p_law_rng K) (a_p_law_draw := Z_a_p_law_draw K) (a_p_law_pick := Z_a_p_law_pick K) (a_p_law_short := Z_a_p_law_short K) (a_p_law_near := Z_a_p_law_near K) (a_p_law_all := Z_a_p_law_all K) (a_p_law_can_begin := Z_a_p_law_can_begin K) (a_p_law_due := Z_a_p_law_due K) (a_law := Z_a_law K) (g0.1) l_is_integer c2_is_integer (g0.2.1) (g0.2.2.1) l_is_sequence c2_is_sequence (g0.2.2.2.1) (g0.2.2.2.2.1) l_is_key c2_is_key (g0.2.2.2.2.2.1) (g0.2.2.2.2.2.2.1) l_bytes_of c2_bytes_of (g0.2.2.2.2.2.2.2.1) (g0.2.2.2.2.2.2.2.2.1) l_p_is_label c2_p_is_label (g0.2.2.2.2.2.2.2.2.2.1) (g0.2.2.2.2.2.2.2.2.2.2.1) l_p_wrong_word c2_p_wrong_word (g0.2.2.2.2.2.2.2.2.2.2.2.1) (g0.2.2.2.2.2.2.2.2.2.2.2.2.1) l_p_next_start c2_p_next_start (g0.2.2.2.2.2.2.2.2.2.2.2.2.2.1) (g0.2.2.2.2.2.2.2.2.2.2.2.2.2.2) l_p_next_label c2_p_next_label (g1.1) (g1.2.1) l_first_labels c2_first_labels (g1.2.2.1) (g1.2.2.2.1) l_labels_between c2_labels_between (g1.2.2.2.2.1) (g1.2.2.2.2.2.1) l_p_law_rng c2_p_law_rng (g1.2.2.2.2.2.2.1) (g1.2.2.2.2.2.2.2.1) l_p_law_draw c2_p_law_draw (g1.2.2.2.2.2.2.2.2.1) (g1.2.2.2.2.2.2.2.2.2.1) l_p_law_pick c2_p_law_pick (g1.2.2.2.2.2.2.2.2.2.2.1) (g1.2.2.2.2.2.2.2.2.2.2.2.1) l_p_law_short c2_p_law_short (g1.2.2.2.2.2.2.2.2.2.2.2.2.1) (g1.2.2.2.2.2.2.2.2.2.2.2.2.2.1) l_p_law_near c2_p_law_near (g1.2.2.2.2.2.2.2.2.2.2.2.2.2.2) (g2.1) l_p_law_all c2_p_law_all (g2.2.1) (g2.2.2.1) l_p_law_can_begin c2_p_law_can_begin (g2.2.2.2.1) (g2.2.2.2.2.1) l_p_law_due c2_p_law_due (g2.2.2.2.2.2.1) (g2.2.2.2.2.2.2.1) l_law c2_law (g2.2.2.2.2.2.2.2.1) (g2.2.2.2.2.2.2.2.2.1) (g2.2.2.2.2.2.2.2.2.2.1) nk_GREATEST_BYTE rk_GREATEST_BYTE nk_GREATEST_LAST rk_GREATEST_LAST nk_LONGEST_LABEL rk_LONGEST_LABEL nk_MOST_LABELS rk_MOST_LABELS (g2.2.2.2.2.2.2.2.2.2.2.2.2.2.2) (g3.1) (g3.2.1) (g3.2.2.1) (g3.2.2.2.1) (g3.2.2.2.2.1) (g3.2.2.2.2.2.1) (g3.2.2.2.2.2.2.1) (g3.2.2.2.2.2.2.2.1) (g3.2.2.2.2.2.2.2.2.1) (g3.2.2.2.2.2.2.2.2.2.1) (g3.2.2.2.2.2.2.2.2.2.2) main
end
end My
open PySem PySem.W PySem.Calls PyProof.Rows in
set_option maxRecDepth 100000 in
set_option maxHeartbeats 0 in
theorem PySem.Challenge.cw_forestrows_k47_shortest_labels_tried_out_holds : PySem.Challenge.rw_forestrows_k47_shortest_labels_tried_out.Holds := by
  w_on; o_law
  refine HandSHeadRun.head_any (r := OpenLaw.row PySem.Challenge.rw_forestrows_k47_shortest_labels_tried_out) (q := view (OpenLaw.row PySem.Challenge.rw_forestrows_k47_shortest_labels_tried_out).prog [30]) (H := My.hk) (ob := My.ob) (M := 60000) (loose := My.looseL) (d := HandSHeadRun.topDef (OpenLaw.row PySem.Challenge.rw_forestrows_k47_shortest_labels_tried_out).prog 30) (kwd := []) My.ob_eq
    (by kernel_rfl) (fun s => by kernel_rfl) My.run (by kernel_rfl) (by kernel_rfl) (by kernel_rfl) (by rfl) (by first | assumption | decide +kernel) (by decide +kernel) ⟨rfl, rfl, rfl, rfl, rfl, by decide +kernel⟩ ?hw ?hc
  case hw => w_witness2
  case hc =>
    refine L2.walk_ofE (l  := PySem.Challenge.rw_forestrows_k47_shortest_labels_tried_out) (n := 63) (k := 5) (x := "_law_script") (CX := L2.CX0) rfl (by decide) (by kernel_rfl) ⟨rfl, by decide, by decide⟩ ?F (fun _ _ _ _ z => z)
    intro w mg fa h Y G hmg0
    obtain ⟨K, KX, c⟩ := Y
    have hmg : mg ("law" : PySem.Str) = some (.ref fa) := by
      have e : (HandSHeadRun.topDef (OpenLaw.row PySem.Challenge.rw_forestrows_k47_shortest_labels_tried_out).prog 30).name = ("law" : PySem.Str) := by kernel_rfl
      rw [← e]
      exact hmg0
    obtain ⟨fd, hb, hF⟩ := My.all_mk2 (w := w) KX G hmg c (fun A ns hl => My.law_true A ns hl)
    exact ⟨K, fd, DL.spTrue K, KX, hb, fun H a ns hl _ hS => ⟨a, ns, rfl, hS, hl, fun _ => rfl⟩, hF⟩
