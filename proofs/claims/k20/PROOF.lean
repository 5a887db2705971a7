import PyProof.Rows.All
import Wide.All
import OpenK.AllK
import Wide.FinOn
import HandS.Base
import HandS.Call
import HandS.List
import HandS.Comp
import HandS.Dict
import HandS.Iter
import HandS.Text
import HandS.Ends
import HandS.Words
import HandS.Evl
import HandS.Exc
import HandS.ExcInit
import HandS.ExcValue
import HandS.Head0
import HandS.Head1
import HandS.Head2
import HandS.HeadEnd
import HandS.HeadHook1
import HandS.HeadHook2
import PySem.Challenge.RW_forestrows_k20_key_rows_judged
import HandS.Lambda
import HandS.Wide
import HandS.TupAny
import HandS.IsInst
import HandS.Style
import HandS.ExcOwn
import HandS.Deep
import HandS.RevRange
import HandS.ClsMeth
import HandS.DictComp
import HandS.MakeKw
import HandS.MakeKwOnly
import KE.KMinKey
import HandS.SortKw
import HandS.Conv
import HandS.SlotsOwn
import HandS.More
import HandS.ExcField
import HandS.ExcIs
import HandS.WordsExc
import KE.KExcIs
import KE.KExcMore
import KE.KEqNest
import HandS.DeepEq
import PyProof.NeKinds
import PyProof.StrOps2
import HandS.TryOnly
import HandS.OwnEq
import PyProof.ReprRoads
import HandS.FStr
import KE.GoesEnumKw
import KE.GoesMore
import KE.KBytesWalk
import HandS.Star
import HandS.HeadHook3
import HandS.RaiseMore
import HandS.EndTab
import KE.KDflt
import HandS.Flt
import HandS.Bytes
import HandS.BytesMake
import HandS.SortInts
import KE.SortData
import HandS.Flow
import KE.DataCmp
import Wide.WTab
import KE.KBytesJoin
import PyProof.ReprLen
set_option autoImplicit false
set_option Elab.async false
set_option linter.all false
set_option maxRecDepth 100000
set_option maxHeartbeats 1000000
set_option maxHeartbeats 2000000
namespace DH
open PySem PySem.Spec PyProof.Rows L2 He
section
variable {K : PySem.W.Frag}
def cstIn (K : PySem.W.Frag) (x : Str) (v : V) : Bool := match PySem.W.nsIn K mainGlobals x with
  | some (some u) => relB v u
  | _ => false
theorem cstIn_ok {x : Str} {v : V} (h : cstIn K x v = true) : ∃ u, PySem.W.nsIn K mainGlobals x = some (some u) ∧ RelV v u := by
  unfold cstIn at h
  cases e : PySem.W.nsIn K mainGlobals x with
  | none => rw [e] at h; cases h
  | some o =>
    rw [e] at h
    cases o with
    | none => cases h
    | some u => exact ⟨u, rfl, relB_ok h⟩
def conIn (K : PySem.W.Frag) (C : Addr) (f : Str) (v : V) : Bool := match PySem.W.findCls K (.ref C) (.type "type") f with
  | some (.val u) => relB v u
  | _ => false
theorem conIn_ok {C : Addr} {f : Str} {v : V} (h : conIn K C f v = true) : ∃ u, PySem.W.findCls K (.ref C) (.type "type") f = some (.val u) ∧ RelV v u := by
  unfold conIn at h
  cases e : PySem.W.findCls K (.ref C) (.type "type") f with
  | none => rw [e] at h; cases h
  | some o =>
    rw [e] at h
    cases o with
    | val u => exact ⟨u, rfl, relB_ok h⟩
    | _ => cases h
end
def forceL {α β : Type} : List α → (List α → β) → β
  | [], k => k []
  | a :: r, k => forceL r fun r' => k (a :: r')
theorem forceL_eq {α β : Type} : ∀ (xs : List α) (k : List α → β), forceL xs k = k xs
  | [], _ => rfl
  | a :: r, k => forceL_eq r fun r' => k (a :: r')
abbrev AlB : Type := Bool × List FnV
def obsB (ex : PySem.W.Frag → List Bool) (fn : List FnD) (K : PySem.W.Frag) : AlB := ((ex K).all id && fn.all fun d => (Fa.code d.at_ d.qual).ok K, fn.map fun d => fnObs K d.at_)
def valB (fn : List FnD) : AlB := (true, fn.map FnD.val)
def SaysB (ex : PySem.W.Frag → List Bool) (fn : List FnD) (K : PySem.W.Frag) : Prop := obsB ex fn K = valB fn
def obsBG (as : List Addr) (ex : PySem.W.Frag → List Bool) (fn : List FnD) (g : Addr → Option Obj) : AlB := forceL (frG g as) fun K => obsB ex fn K
def hookB (as : List Addr) (ex : PySem.W.Frag → List Bool) (fn : List FnD) : PySem.W.Hook where
  α := AlB
  obs := fun s => obsBG as ex fn s.heap.get?
  val := fun _ => valB fn
  says := fun _ h => ∃ K : PySem.W.Frag, K.In h ∧ SaysB ex fn K
  of := fun _ s e => ⟨frG s.heap.get? as, frG_in, by
    have e : obsBG as ex fn s.heap.get? = valB fn := e
    unfold obsBG at e
    rw [forceL_eq] at e
    exact e⟩
  keeps := fun _ _ _ ⟨K, hK, c⟩ k => ⟨K, PySem.W.Frag.In.keeps hK k, c⟩
theorem obsBG_eq {as : List Addr} {ex : PySem.W.Frag → List Bool} {fn : List FnD} {g : Addr → Option Obj} {s : Shared} (h : ∀ a, g a = s.heap.get? a) : obsBG as ex fn g = (hookB as ex fn).obs s := by
  have e : g = s.heap.get? := funext h
  rw [e] <;> rfl
section
variable {ex : PySem.W.Frag → List Bool} {fn : List FnD} {K : PySem.W.Frag}
theorem SaysB.fact (c : SaysB ex fn K) (i : Nat) {b : Bool} (h : (ex K)[i]? = some b := by rfl) : b = true := by
  have c1 := (ba (show ((ex K).all id && fn.all fun d => (Fa.code d.at_ d.qual).ok K) = true from congrArg (fun z : AlB => z.1) c)).1
  exact List.all_eq_true.mp c1 b (List.mem_of_getElem? h)
theorem SaysB.def_ (c : SaysB ex fn K) (i : Nat) {d : FnD} (h : fn[i]? = some d := by rfl) :
    ∃ oc od osl kV doc pm an cdv ct, K.lookup (fAd K d.at_) = some ⟨oc, od, .func (PySem.W.fnOf d.name d.qual d.params d.body d.scope .none kV doc pm an cdv ct), osl⟩ ∧ PySem.W.codeIn K cdv d.qual = true := by
  have c2 := (ba (show ((ex K).all id && fn.all fun d => (Fa.code d.at_ d.qual).ok K) = true from congrArg (fun z : AlB => z.1) c)).2
  have e : fn.map (fun d => fnObs K d.at_) = fn.map FnD.val := congrArg (fun z : AlB => z.2) c
  have e2 : (fn.map fun d => fnObs K d.at_)[i]? = (fn.map FnD.val)[i]? := by rw [e]
  rw [List.getElem?_map, List.getElem?_map, h] at e2
  exact fn_ok (Option.some.inj e2) (List.all_eq_true.mp c2 d (List.mem_of_getElem? h))
end
end DH
set_option maxHeartbeats 2000000
namespace My
open PySem L2 Evl
def topS (i : Nat) : Stmt := PySem.Challenge.pw_forestrows_k20_key_rows_judged.main.body.getD i (.Pass ⟨0, 0, 0, 0⟩)
abbrev s_is_integer : Stmt := topS 11
abbrev s_is_sequence : Stmt := topS 12
abbrev s_is_name : Stmt := topS 13
abbrev s_is_value : Stmt := topS 14
abbrev s_split_key : Stmt := topS 21
abbrev s_is_key : Stmt := topS 22
abbrev s_bytes_of : Stmt := topS 23
abbrev s_Fault_init : Stmt := inClass (topS 25) 0
abbrev s_Fault_eq : Stmt := inClass (topS 25) 1
abbrev s_judge_keys : Stmt := topS 26
abbrev s_p_key_word : Stmt := topS 27
abbrev s_p_law_well : Stmt := topS 29
abbrev s_p_law_draw : Stmt := topS 30
abbrev s_p_law_one : Stmt := topS 31
abbrev s_p_law_names : Stmt := topS 32
abbrev s_p_law_value : Stmt := topS 33
abbrev s_p_law_levels : Stmt := topS 34
abbrev s_p_law_rows : Stmt := topS 35
abbrev s_p_law_mixed : Stmt := topS 36
abbrev s_p_law_is_whole : Stmt := topS 37
abbrev s_p_law_is_name : Stmt := topS 38
abbrev s_p_law_is_value : Stmt := topS 39
abbrev s_p_law_labels : Stmt := topS 40
abbrev s_p_law_cut : Stmt := topS 41
abbrev s_p_law_is_key : Stmt := topS 42
abbrev s_p_law_word : Stmt := topS 43
abbrev s_p_law_due : Stmt := topS 44
abbrev s_p_law_spoil : Stmt := topS 45
abbrev s_p_law_made : Stmt := topS 46
abbrev s_law : Stmt := topS 47
abbrev Z_c_Fault (K : PySem.W.Frag) : Addr := He.ga K "Fault"
abbrev Z_c_Forest (K : PySem.W.Frag) : Addr := He.ga K "Forest"
abbrev Z_a_is_integer (K : PySem.W.Frag) : Addr := He.fAd K ("is_integer", none)
abbrev Z_a_is_sequence (K : PySem.W.Frag) : Addr := He.fAd K ("is_sequence", none)
abbrev Z_a_is_name (K : PySem.W.Frag) : Addr := He.fAd K ("is_name", none)
abbrev Z_a_is_value (K : PySem.W.Frag) : Addr := He.fAd K ("is_value", none)
abbrev Z_a_split_key (K : PySem.W.Frag) : Addr := He.fAd K ("split_key", none)
abbrev Z_a_is_key (K : PySem.W.Frag) : Addr := He.fAd K ("is_key", none)
abbrev Z_a_bytes_of (K : PySem.W.Frag) : Addr := He.fAd K ("bytes_of", none)
abbrev Z_a_Fault_init (K : PySem.W.Frag) : Addr := He.fAd K ("Fault", some "__init__")
abbrev Z_a_Fault_eq (K : PySem.W.Frag) : Addr := He.fAd K ("Fault", some "__eq__")
abbrev Z_a_p_key_word (K : PySem.W.Frag) : Addr := He.fAd K ("_key_word", none)
abbrev Z_a_judge_keys (K : PySem.W.Frag) : Addr := He.fAd K ("judge_keys", none)
abbrev Z_a_p_law_well (K : PySem.W.Frag) : Addr := He.fAd K ("_law_well", none)
abbrev Z_a_p_law_draw (K : PySem.W.Frag) : Addr := He.fAd K ("_law_draw", none)
abbrev Z_a_p_law_one (K : PySem.W.Frag) : Addr := He.fAd K ("_law_one", none)
abbrev Z_a_p_law_names (K : PySem.W.Frag) : Addr := He.fAd K ("_law_names", none)
abbrev Z_a_p_law_value (K : PySem.W.Frag) : Addr := He.fAd K ("_law_value", none)
abbrev Z_a_p_law_levels (K : PySem.W.Frag) : Addr := He.fAd K ("_law_levels", none)
abbrev Z_a_p_law_rows (K : PySem.W.Frag) : Addr := He.fAd K ("_law_rows", none)
abbrev Z_a_p_law_mixed (K : PySem.W.Frag) : Addr := He.fAd K ("_law_mixed", none)
abbrev Z_a_p_law_is_whole (K : PySem.W.Frag) : Addr := He.fAd K ("_law_is_whole", none)
abbrev Z_a_p_law_is_name (K : PySem.W.Frag) : Addr := He.fAd K ("_law_is_name", none)
abbrev Z_a_p_law_is_value (K : PySem.W.Frag) : Addr := He.fAd K ("_law_is_value", none)
abbrev Z_a_p_law_labels (K : PySem.W.Frag) : Addr := He.fAd K ("_law_labels", none)
abbrev Z_a_p_law_cut (K : PySem.W.Frag) : Addr := He.fAd K ("_law_cut", none)
abbrev Z_a_p_law_is_key (K : PySem.W.Frag) : Addr := He.fAd K ("_law_is_key", none)
abbrev Z_a_p_law_word (K : PySem.W.Frag) : Addr := He.fAd K ("_law_word", none)
abbrev Z_a_p_law_due (K : PySem.W.Frag) : Addr := He.fAd K ("_law_due", none)
abbrev Z_a_p_law_spoil (K : PySem.W.Frag) : Addr := He.fAd K ("_law_spoil", none)
abbrev Z_a_p_law_made (K : PySem.W.Frag) : Addr := He.fAd K ("_law_made", none)
abbrev Z_a_law (K : PySem.W.Frag) : Addr := He.fAd K ("law", none)
def factsL (K : PySem.W.Frag) : List Bool := [
  decide ((PySem.W.nsIn K mainGlobals "Fault" = some (some (.ref (Z_c_Fault K)))) ∧ (PySem.W.nsIn K mainGlobals "Forest" = some (some (.ref (Z_c_Forest K)))) ∧ (PySem.W.nsIn K mainGlobals "is_integer" = some (some (.ref (Z_a_is_integer K)))) ∧ (PySem.W.keepIn K (.ref (Z_a_is_integer K)) = true) ∧ (PySem.W.nsIn K mainGlobals "is_sequence" = some (some (.ref (Z_a_is_sequence K)))) ∧ (PySem.W.keepIn K (.ref (Z_a_is_sequence K)) = true) ∧ (PySem.W.nsIn K mainGlobals "is_name" = some (some (.ref (Z_a_is_name K)))) ∧ (PySem.W.keepIn K (.ref (Z_a_is_name K)) = true) ∧ (PySem.W.nsIn K mainGlobals "is_value" = some (some (.ref (Z_a_is_value K)))) ∧ (PySem.W.keepIn K (.ref (Z_a_is_value K)) = true) ∧ (PySem.W.nsIn K mainGlobals "split_key" = some (some (.ref (Z_a_split_key K)))) ∧ (PySem.W.keepIn K (.ref (Z_a_split_key K)) = true) ∧ (PySem.W.nsIn K mainGlobals "is_key" = some (some (.ref (Z_a_is_key K)))) ∧ (PySem.W.keepIn K (.ref (Z_a_is_key K)) = true) ∧ (PySem.W.nsIn K mainGlobals "bytes_of" = some (some (.ref (Z_a_bytes_of K))))),
  decide ((PySem.W.keepIn K (.ref (Z_a_bytes_of K)) = true) ∧ (PySem.W.findIn K (.ref (Z_c_Fault K)) "__init__" = some (some (.ref (Z_a_Fault_init K)))) ∧ (PySem.W.isFn K (.ref (Z_a_Fault_init K)) = true) ∧ (PySem.W.keepIn K (.ref (Z_a_Fault_init K)) = true) ∧ (PySem.W.findIn K (.ref (Z_c_Fault K)) "__eq__" = some (some (.ref (Z_a_Fault_eq K)))) ∧ (PySem.W.isFn K (.ref (Z_a_Fault_eq K)) = true) ∧ (PySem.W.keepIn K (.ref (Z_a_Fault_eq K)) = true) ∧ (PySem.W.nsIn K mainGlobals "_key_word" = some (some (.ref (Z_a_p_key_word K)))) ∧ (PySem.W.keepIn K (.ref (Z_a_p_key_word K)) = true) ∧ (PySem.W.nsIn K mainGlobals "judge_keys" = some (some (.ref (Z_a_judge_keys K)))) ∧ (PySem.W.keepIn K (.ref (Z_a_judge_keys K)) = true) ∧ (PySem.W.nsIn K mainGlobals "_law_well" = some (some (.ref (Z_a_p_law_well K)))) ∧ (PySem.W.keepIn K (.ref (Z_a_p_law_well K)) = true) ∧ (PySem.W.nsIn K mainGlobals "_law_draw" = some (some (.ref (Z_a_p_law_draw K)))) ∧ (PySem.W.keepIn K (.ref (Z_a_p_law_draw K)) = true)),
  decide ((PySem.W.nsIn K mainGlobals "_law_one" = some (some (.ref (Z_a_p_law_one K)))) ∧ (PySem.W.keepIn K (.ref (Z_a_p_law_one K)) = true) ∧ (PySem.W.nsIn K mainGlobals "_law_names" = some (some (.ref (Z_a_p_law_names K)))) ∧ (PySem.W.keepIn K (.ref (Z_a_p_law_names K)) = true) ∧ (PySem.W.nsIn K mainGlobals "_law_value" = some (some (.ref (Z_a_p_law_value K)))) ∧ (PySem.W.keepIn K (.ref (Z_a_p_law_value K)) = true) ∧ (PySem.W.nsIn K mainGlobals "_law_levels" = some (some (.ref (Z_a_p_law_levels K)))) ∧ (PySem.W.keepIn K (.ref (Z_a_p_law_levels K)) = true) ∧ (PySem.W.nsIn K mainGlobals "_law_rows" = some (some (.ref (Z_a_p_law_rows K)))) ∧ (PySem.W.keepIn K (.ref (Z_a_p_law_rows K)) = true) ∧ (PySem.W.nsIn K mainGlobals "_law_mixed" = some (some (.ref (Z_a_p_law_mixed K)))) ∧ (PySem.W.keepIn K (.ref (Z_a_p_law_mixed K)) = true) ∧ (PySem.W.nsIn K mainGlobals "_law_is_whole" = some (some (.ref (Z_a_p_law_is_whole K)))) ∧ (PySem.W.keepIn K (.ref (Z_a_p_law_is_whole K)) = true) ∧ (PySem.W.nsIn K mainGlobals "_law_is_name" = some (some (.ref (Z_a_p_law_is_name K))))),
  decide ((PySem.W.keepIn K (.ref (Z_a_p_law_is_name K)) = true) ∧ (PySem.W.nsIn K mainGlobals "_law_is_value" = some (some (.ref (Z_a_p_law_is_value K)))) ∧ (PySem.W.keepIn K (.ref (Z_a_p_law_is_value K)) = true) ∧ (PySem.W.nsIn K mainGlobals "_law_labels" = some (some (.ref (Z_a_p_law_labels K)))) ∧ (PySem.W.keepIn K (.ref (Z_a_p_law_labels K)) = true) ∧ (PySem.W.nsIn K mainGlobals "_law_cut" = some (some (.ref (Z_a_p_law_cut K)))) ∧ (PySem.W.keepIn K (.ref (Z_a_p_law_cut K)) = true) ∧ (PySem.W.nsIn K mainGlobals "_law_is_key" = some (some (.ref (Z_a_p_law_is_key K)))) ∧ (PySem.W.keepIn K (.ref (Z_a_p_law_is_key K)) = true) ∧ (PySem.W.nsIn K mainGlobals "_law_word" = some (some (.ref (Z_a_p_law_word K)))) ∧ (PySem.W.keepIn K (.ref (Z_a_p_law_word K)) = true) ∧ (PySem.W.nsIn K mainGlobals "_law_due" = some (some (.ref (Z_a_p_law_due K)))) ∧ (PySem.W.keepIn K (.ref (Z_a_p_law_due K)) = true) ∧ (PySem.W.nsIn K mainGlobals "_law_spoil" = some (some (.ref (Z_a_p_law_spoil K)))) ∧ (PySem.W.keepIn K (.ref (Z_a_p_law_spoil K)) = true)),
  decide ((PySem.W.nsIn K mainGlobals "_law_made" = some (some (.ref (Z_a_p_law_made K)))) ∧ (PySem.W.keepIn K (.ref (Z_a_p_law_made K)) = true) ∧ (PySem.W.nsIn K mainGlobals "law" = some (some (.ref (Z_a_law K)))) ∧ (PySem.W.keepIn K (.ref (Z_a_law K)) = true) ∧ (PySem.W.plainGet K (Z_c_Fault K) Str.empty = true) ∧ (PySem.W.hasDictIn K (Z_c_Fault K) = true) ∧ (PySem.W.plainOver K (Z_c_Fault K) = true) ∧ (PySem.W.findIn K (.ref (Z_c_Fault K)) "__setattr__" = some (some (.builtin "object.__setattr__"))) ∧ (PySem.W.readsIn K (Z_c_Forest K) (.type "type") = true) ∧ (PySem.W.specialIn K (.ref (Z_c_Forest K)) "__getattribute__" = some (some (.builtin "type.__getattribute__"))) ∧ (DH.conIn K (Z_c_Forest K) "MOST" (.int (60)) = true) ∧ (PySem.W.findIn K (.ref (Z_c_Fault K)) "place" = some none) ∧ (PySem.W.findIn K (.ref (Z_c_Fault K)) "word" = some none) ∧ (PySem.W.findIn K (.ref (Z_c_Fault K)) "__class__" = some (some (.builtin "object.__class__"))) ∧ (PySem.W.mroIn K (Z_c_Fault K) (.type "object") = some true)),
  decide ((PySem.W.specialIn K (.builtin "object.__class__") "__get__" = some (some (.builtin "getset_descriptor.__get__"))) ∧ (PySem.W.takesIn K (.builtin "object.__class__") = some true) ∧ (DH.cstIn K "DIGITS" ((.str (PySem.Str.ofString "0123456789"))) = true) ∧ (DH.cstIn K "GREATEST_BYTE" ((.int (255))) = true) ∧ (DH.cstIn K "GREATEST_VALUE" ((.int (1000000000000000000000000000000))) = true) ∧ (DH.cstIn K "LETTERS" ((.str (PySem.Str.ofString "abcdefghijklmnopqrstuvwxyz"))) = true) ∧ (DH.cstIn K "LONGEST_NAME" ((.int (8))) = true) ∧ (PySem.W.makesIn K (Z_c_Fault K) = true) ∧ (PySem.W.keepIn K (.ref (Z_c_Fault K)) = true) ∧ (PySem.W.findIn K (.ref (Z_c_Fault K)) "__ne__" = some (some (.builtin "object.__ne__"))) ∧ (PySem.W.nsIn K mainGlobals "all" = some none) ∧ (PySem.W.nsIn K mainGlobals "bool" = some none) ∧ (PySem.W.nsIn K mainGlobals "bytes" = some none) ∧ (PySem.W.nsIn K mainGlobals "enumerate" = some none) ∧ (PySem.W.nsIn K mainGlobals "int" = some none)),
  decide ((PySem.W.nsIn K mainGlobals "isinstance" = some none) ∧ (PySem.W.nsIn K mainGlobals "len" = some none) ∧ (PySem.W.nsIn K mainGlobals "list" = some none) ∧ (PySem.W.nsIn K mainGlobals "range" = some none) ∧ (PySem.W.nsIn K mainGlobals "repr" = some none) ∧ (PySem.W.nsIn K mainGlobals "str" = some none) ∧ (PySem.W.nsIn K mainGlobals "tuple" = some none) ∧ (PySem.W.isClsIn K (Z_c_Fault K) = true) ∧ (PySem.W.typeIn K (.ref (Z_c_Fault K)) = some (.type "type")))]
def fnd_is_integer : He.FnD := ⟨("is_integer", none), "is_integer", "is_integer", defArgs s_is_integer, defBody s_is_integer, defScope s_is_integer⟩
def fnd_is_sequence : He.FnD := ⟨("is_sequence", none), "is_sequence", "is_sequence", defArgs s_is_sequence, defBody s_is_sequence, defScope s_is_sequence⟩
def fnd_is_name : He.FnD := ⟨("is_name", none), "is_name", "is_name", defArgs s_is_name, defBody s_is_name, defScope s_is_name⟩
def fnd_is_value : He.FnD := ⟨("is_value", none), "is_value", "is_value", defArgs s_is_value, defBody s_is_value, defScope s_is_value⟩
def fnd_split_key : He.FnD := ⟨("split_key", none), "split_key", "split_key", defArgs s_split_key, defBody s_split_key, defScope s_split_key⟩
def fnd_is_key : He.FnD := ⟨("is_key", none), "is_key", "is_key", defArgs s_is_key, defBody s_is_key, defScope s_is_key⟩
def fnd_bytes_of : He.FnD := ⟨("bytes_of", none), "bytes_of", "bytes_of", defArgs s_bytes_of, defBody s_bytes_of, defScope s_bytes_of⟩
def fnd_Fault_init : He.FnD := ⟨("Fault", some "__init__"), "__init__", "Fault.__init__", defArgs s_Fault_init, defBody s_Fault_init, defScope s_Fault_init⟩
def fnd_Fault_eq : He.FnD := ⟨("Fault", some "__eq__"), "__eq__", "Fault.__eq__", defArgs s_Fault_eq, defBody s_Fault_eq, defScope s_Fault_eq⟩
def fnd_p_key_word : He.FnD := ⟨("_key_word", none), "_key_word", "_key_word", defArgs s_p_key_word, defBody s_p_key_word, defScope s_p_key_word⟩
def fnd_judge_keys : He.FnD := ⟨("judge_keys", none), "judge_keys", "judge_keys", defArgs s_judge_keys, defBody s_judge_keys, defScope s_judge_keys⟩
def fnd_p_law_well : He.FnD := ⟨("_law_well", none), "_law_well", "_law_well", defArgs s_p_law_well, defBody s_p_law_well, defScope s_p_law_well⟩
def fnd_p_law_draw : He.FnD := ⟨("_law_draw", none), "_law_draw", "_law_draw", defArgs s_p_law_draw, defBody s_p_law_draw, defScope s_p_law_draw⟩
def fnd_p_law_one : He.FnD := ⟨("_law_one", none), "_law_one", "_law_one", defArgs s_p_law_one, defBody s_p_law_one, defScope s_p_law_one⟩
def fnd_p_law_names : He.FnD := ⟨("_law_names", none), "_law_names", "_law_names", defArgs s_p_law_names, defBody s_p_law_names, defScope s_p_law_names⟩
def fnd_p_law_value : He.FnD := ⟨("_law_value", none), "_law_value", "_law_value", defArgs s_p_law_value, defBody s_p_law_value, defScope s_p_law_value⟩
def fnd_p_law_levels : He.FnD := ⟨("_law_levels", none), "_law_levels", "_law_levels", defArgs s_p_law_levels, defBody s_p_law_levels, defScope s_p_law_levels⟩
def fnd_p_law_rows : He.FnD := ⟨("_law_rows", none), "_law_rows", "_law_rows", defArgs s_p_law_rows, defBody s_p_law_rows, defScope s_p_law_rows⟩
def fnd_p_law_mixed : He.FnD := ⟨("_law_mixed", none), "_law_mixed", "_law_mixed", defArgs s_p_law_mixed, defBody s_p_law_mixed, defScope s_p_law_mixed⟩
def fnd_p_law_is_whole : He.FnD := ⟨("_law_is_whole", none), "_law_is_whole", "_law_is_whole", defArgs s_p_law_is_whole, defBody s_p_law_is_whole, defScope s_p_law_is_whole⟩
def fnd_p_law_is_name : He.FnD := ⟨("_law_is_name", none), "_law_is_name", "_law_is_name", defArgs s_p_law_is_name, defBody s_p_law_is_name, defScope s_p_law_is_name⟩
def fnd_p_law_is_value : He.FnD := ⟨("_law_is_value", none), "_law_is_value", "_law_is_value", defArgs s_p_law_is_value, defBody s_p_law_is_value, defScope s_p_law_is_value⟩
def fnd_p_law_labels : He.FnD := ⟨("_law_labels", none), "_law_labels", "_law_labels", defArgs s_p_law_labels, defBody s_p_law_labels, defScope s_p_law_labels⟩
def fnd_p_law_cut : He.FnD := ⟨("_law_cut", none), "_law_cut", "_law_cut", defArgs s_p_law_cut, defBody s_p_law_cut, defScope s_p_law_cut⟩
def fnd_p_law_is_key : He.FnD := ⟨("_law_is_key", none), "_law_is_key", "_law_is_key", defArgs s_p_law_is_key, defBody s_p_law_is_key, defScope s_p_law_is_key⟩
def fnd_p_law_word : He.FnD := ⟨("_law_word", none), "_law_word", "_law_word", defArgs s_p_law_word, defBody s_p_law_word, defScope s_p_law_word⟩
def fnd_p_law_due : He.FnD := ⟨("_law_due", none), "_law_due", "_law_due", defArgs s_p_law_due, defBody s_p_law_due, defScope s_p_law_due⟩
def fnd_p_law_spoil : He.FnD := ⟨("_law_spoil", none), "_law_spoil", "_law_spoil", defArgs s_p_law_spoil, defBody s_p_law_spoil, defScope s_p_law_spoil⟩
def fnd_p_law_made : He.FnD := ⟨("_law_made", none), "_law_made", "_law_made", defArgs s_p_law_made, defBody s_p_law_made, defScope s_p_law_made⟩
def fnd_law : He.FnD := ⟨("law", none), "law", "law", defArgs s_law, defBody s_law, defScope s_law⟩
def fnL : List He.FnD := [fnd_is_integer, fnd_is_sequence, fnd_is_name, fnd_is_value, fnd_split_key, fnd_is_key, fnd_bytes_of, fnd_Fault_init, fnd_Fault_eq, fnd_p_key_word, fnd_judge_keys, fnd_p_law_well, fnd_p_law_draw, fnd_p_law_one, fnd_p_law_names, fnd_p_law_value, fnd_p_law_levels, fnd_p_law_rows, fnd_p_law_mixed, fnd_p_law_is_whole, fnd_p_law_is_name, fnd_p_law_is_value, fnd_p_law_labels, fnd_p_law_cut, fnd_p_law_is_key, fnd_p_law_word, fnd_p_law_due, fnd_p_law_spoil, fnd_p_law_made, fnd_law]
def looseL : List Str := (["_wall", "ForestError", "NoForest", "Twice", "NoKey", "LETTERS", "DIGITS", "LONGEST_NAME", "GREATEST_VALUE", "is_integer", "is_sequence", "is_name", "is_value", "_wrong_word", "_check_rows", "Forest", "GREATEST_BYTE", "split_key", "is_key", "bytes_of", "Fault", "judge_keys", "_key_word", "_law_well", "_law_draw", "_law_one", "_law_names", "_law_value", "_law_levels", "_law_rows"] : List Str) ++ (["_law_mixed", "_law_is_whole", "_law_is_name", "_law_is_value", "_law_labels", "_law_cut", "_law_is_key", "_law_word", "_law_due", "_law_spoil", "_law_made"] : List Str)
abbrev RR : PySem.W.OpenRow := PySem.W.OpenLaw.row PySem.Challenge.rw_forestrows_k20_key_rows_judged
def asL : List Addr := ([2, 3, 126, 133, 138, 145, 356, 367, 374, 381, 405, 414, 419, 426, 433, 440, 447, 454, 461, 466, 473, 480, 485, 492, 499, 504, 511, 516, 521, 528, 535, 540, 125, 132, 137, 144, 355, 366, 373, 380, 404, 413, 418, 425, 432, 439, 446, 453, 460, 465, 472, 479, 484, 491, 498, 503, 510, 515, 520, 527, 534, 539, 395, 402, 394, 401] : List Addr)
abbrev hk : PySem.W.Hook := DH.hookB asL factsL fnL
def ob (s : PySem.W.SharedT) : DH.AlB := DH.obsBG asL factsL fnL (HandSHeadRun.getT s)
theorem ob_eq (s : PySem.W.SharedT) : ob s = hk.obs s.abs := DH.obsBG_eq (HandSHeadRun.getT_eq s)
set_option maxHeartbeats 0 in
theorem run (w : World) : HandSHeadRun.RunEq RR (PySem.W.view RR.prog [47]) hk ob 60000 looseL w := by
  intro os
  kernel_rfl
end My
namespace DL
open PySem L2 Evl
abbrev RSt := L2.St
inductive D where
  | non | bl (b : Bool) | int (i : Int) | str (x : Str) | byt (b : Array UInt8)
  | lst (xs : List D) | tup (xs : List D) | dct (kvs : List (Key × D))
  | ins (C : Addr) (fs : List (Str × D)) | ptr (a : Addr) | ty (n : String) | exc (C : Addr) (fs : List (Str × D))
section
variable (K : PySem.W.Frag) (G : Hp)
mutual
inductive Rep : V → D → Prop
  | non : Rep .non .non
  | bl (b : Bool) : Rep (.bl b) (.bl b)
  | int (i : Int) : Rep (.int i) (.int i)
  | str (x : Str) : Rep (.str x) (.str x)
  | byt (x : Array UInt8) : Rep (.byt x) (.byt x)
  | ty (n : String) : Rep (.ty n) (.ty n)
  | ptr (a : Addr) : Rep (.ref a) (.ptr a)
  | lst {a : Addr} {vs : List V} {ds : List D} : SqL K G a vs → Reps vs ds → Rep (.ref a) (.lst ds)
  | tup {a : Addr} {vs : List V} {ds : List D} : SqT K G a vs → Reps vs ds → Rep (.ref a) (.tup ds)
  | dct {a : Addr} {vs : List (Key × V)} {ds : List (Key × D)} : G a = some (.dK vs) → RepK vs ds → Rep (.ref a) (.dct ds)
  | ins {a C dx : Addr} {vs : List (Str × V)} {ds : List (Str × D)} : G a = some (.ins C dx vs) → RepF vs ds → Rep (.ref a) (.ins C ds)
  | exc {a C d : Addr} {vs : List (Str × V)} {ds : List (Str × D)} : G a = some (exo a C (some d)) → G d = some (exd d vs) → RepF vs ds → Rep (.ref a) (.exc C ds)
  | exc0 {a C : Addr} : G a = some (ExO (.ref C) a) → Rep (.ref a) (.exc C [])
inductive Reps : List V → List D → Prop
  | nil : Reps [] []
  | cons {v : V} {d : D} {vs : List V} {ds : List D} : Rep v d → Reps vs ds → Reps (v :: vs) (d :: ds)
inductive RepK : List (Key × V) → List (Key × D) → Prop
  | nil : RepK [] []
  | cons {k : Key} {v : V} {d : D} {vs : List (Key × V)} {ds : List (Key × D)} : Rep v d → RepK vs ds → RepK ((k, v) :: vs) ((k, d) :: ds)
inductive RepF : List (Str × V) → List (Str × D) → Prop
  | nil : RepF [] []
  | cons {k : Str} {v : V} {d : D} {vs : List (Str × V)} {ds : List (Str × D)} : Rep v d → RepF vs ds → RepF ((k, v) :: vs) ((k, d) :: ds)
end
end
section
variable {K : PySem.W.Frag} {G G' H H' : Hp}
mutual
theorem Rep.mono (e : Ex G G') : ∀ {v : V} {d : D}, Rep K G v d → Rep K G' v d
  | _, _, .non => .non
  | _, _, .bl b => .bl b
  | _, _, .int i => .int i
  | _, _, .str i => .str i
  | _, _, .byt i => .byt i
  | _, _, .ty i => .ty i
  | _, _, .ptr i => .ptr i
  | _, _, .lst h r => .lst (ex_l e h) (Reps.mono e r)
  | _, _, .tup h r => .tup (ex_t e h) (Reps.mono e r)
  | _, _, .dct h r => .dct (e _ _ h) (RepK.mono e r)
  | _, _, .ins h r => .ins (e _ _ h) (RepF.mono e r)
  | _, _, .exc h k r => .exc (e _ _ h) (e _ _ k) (RepF.mono e r)
  | _, _, .exc0 h => .exc0 (e _ _ h)
theorem Reps.mono (e : Ex G G') : ∀ {v : List V} {d : List D}, Reps K G v d → Reps K G' v d
  | _, _, .nil => .nil
  | _, _, .cons h r => .cons (Rep.mono e h) (Reps.mono e r)
theorem RepK.mono (e : Ex G G') : ∀ {v : List (Key × V)} {d : List (Key × D)}, RepK K G v d → RepK K G' v d
  | _, _, .nil => .nil
  | _, _, .cons h r => .cons (Rep.mono e h) (RepK.mono e r)
theorem RepF.mono (e : Ex G G') : ∀ {v : List (Str × V)} {d : List (Str × D)}, RepF K G v d → RepF K G' v d
  | _, _, .nil => .nil
  | _, _, .cons h r => .cons (Rep.mono e h) (RepF.mono e r)
end
theorem Reps.length : ∀ {vs : List V} {ds : List D}, Reps K G vs ds → vs.length = ds.length
  | _, _, .nil => rfl
  | _, _, .cons _ r => by rw [List.length_cons, List.length_cons, Reps.length r]
theorem Reps.get : ∀ {vs : List V} {ds : List D} {i : Nat} {d : D}, Reps K G vs ds → ds[i]? = some d → ∃ v, vs[i]? = some v ∧ Rep K G v d
  | _, _, _, _, .nil, e => by simp at e
  | _, _, 0, _, .cons r _, e => by simp at e; subst e; exact ⟨_, rfl, r⟩
  | _, _, i + 1, _, .cons _ t, e => by
    obtain ⟨v, h1, h2⟩ := Reps.get (i := i) t (by simpa using e)
    exact ⟨v, by simpa using h1, h2⟩
theorem Reps.set {v : V} {d : D} (r : Rep K G v d) : ∀ {vs : List V} {ds : List D} (i : Nat), Reps K G vs ds → Reps K G (vs.set i v) (ds.set i d)
  | _, _, _, .nil => .nil
  | _, _, 0, .cons _ t => .cons r t
  | _, _, i + 1, .cons q t => .cons q (Reps.set r i t)
theorem Reps.append : ∀ {vs ws : List V} {ds es : List D}, Reps K G vs ds → Reps K G ws es → Reps K G (vs ++ ws) (ds ++ es)
  | _, _, _, _, .nil, s => s
  | _, _, _, _, .cons r t, s => .cons r (Reps.append t s)
theorem Reps.take : ∀ {vs : List V} {ds : List D} (n : Nat), Reps K G vs ds → Reps K G (vs.take n) (ds.take n)
  | _, _, 0, _ => by simp; exact .nil
  | _, _, _ + 1, .nil => .nil
  | _, _, n + 1, .cons r t => .cons r (Reps.take n t)
theorem Reps.drop : ∀ {vs : List V} {ds : List D} (n : Nat), Reps K G vs ds → Reps K G (vs.drop n) (ds.drop n)
  | _, _, 0, r => r
  | _, _, _ + 1, .nil => .nil
  | _, _, n + 1, .cons _ t => Reps.drop n t
theorem Reps.none_of {vs : List V} {ds : List D} {i : Nat} (r : Reps K G vs ds) (e : ds[i]? = none) : vs[i]? = none := by
  rw [List.getElem?_eq_none_iff] at e ⊢
  rw [r.length]; exact e
theorem Reps.dropLast {vs : List V} {ds : List D} (r : Reps K G vs ds) : Reps K G vs.dropLast ds.dropLast := by
  rw [List.dropLast_eq_take, List.dropLast_eq_take, r.length]; exact r.take _
theorem Reps.rep {vs : List V} {ds : List D} (r : Reps K G vs ds) : ∀ k : Nat, Reps K G (List.replicate k vs).flatten (List.replicate k ds).flatten
  | 0 => .nil
  | k + 1 => by
    rw [List.replicate_succ, List.replicate_succ, List.flatten_cons, List.flatten_cons]
    exact r.append (Reps.rep r k)
theorem Reps.ints : ∀ ns : List Int, Reps K G (ns.map V.int) (ns.map D.int)
  | [] => .nil
  | n :: ns => .cons (.int n) (Reps.ints ns)
end
inductive Sl where
  | no | val (d : D) | own (d : D) | par (d : D)
abbrev Ro := List Sl
def Sl.ownD : Sl → Option D
  | .own d => some d
  | .par d => some d
  | _ => none
inductive T where
  | val (d : D) | bor (i : Nat)
def rd (ρ : Ro) : T → Option D
  | .val d => some d
  | .bor i => (ρ[i]?).bind Sl.ownD
section
variable (K : PySem.W.Frag)
def OwnAt (G H : Hp) (p : Addr) : D → Prop
  | .lst ds => ∃ vs, H p = some (.lst vs) ∧ Reps K G vs ds
  | .dct es => ∃ kvs, H p = some (.dK kvs) ∧ RepK K G kvs es
  | .ins C es => ∃ dx fs, H p = some (.ins C dx fs) ∧ RepF K G fs es
  | _ => False
structure PaG where
  f : Nat → Addr
  g : Hp
  T : List (Addr × Str) := []
def NoCode (o : HO) : Prop := (∀ ps, o ≠ .tbl ps) ∧ ∀ c q, o ≠ LamX.CodeO c q
theorem noCode_lst {vs : List V} : NoCode (.lst vs) := ⟨fun _ z => (by cases z), fun _ _ z => (by unfold LamX.CodeO at z; cases z)⟩
theorem noCode_dK {vs : List (Key × V)} : NoCode (.dK vs) := ⟨fun _ z => (by cases z), fun _ _ z => (by unfold LamX.CodeO at z; cases z)⟩
theorem noCode_ins {C dx : Addr} {vs : List (Str × V)} : NoCode (.ins C dx vs) := ⟨fun _ z => (by cases z), fun _ _ z => (by unfold LamX.CodeO at z; cases z)⟩
theorem tabs_keep {T : List (Addr × Str)} {H H' : Hp} (t : LamX.Tabs T H) (k : ∀ b o, H b = some o → ¬ NoCode o → H' b = some o) : LamX.Tabs T H' := fun p hp => by
  obtain ⟨ps, h1, h2, h3⟩ := t p hp
  refine ⟨ps, k _ _ h1 fun z => z.1 _ rfl, h2, fun pos cv hc => ?_⟩
  obtain ⟨c, e1, e2⟩ := h3 pos cv hc
  exact ⟨c, e1, k _ _ e2 fun z => z.2 _ _ rfl⟩
structure DjT (T : List (Addr × Str)) (F G H : Hp) : Prop where
  of : ∀ (b : Addr) (o : HO), F b = some o → G b = none
  ft : ∀ p ∈ T, F p.1 = none ∧ G p.1 = none
  tb : LamX.Tabs T H
  nc : T ≠ [] → ∀ b c q, F b ≠ some (LamX.CodeO c q)
instance {T : List (Addr × Str)} {F G H : Hp} : CoeFun (DjT T F G H) (fun _ => ∀ (b : Addr) (o : HO), F b = some o → G b = none) := ⟨DjT.of⟩
section
variable {T : List (Addr × Str)} {F G H H' : Hp}
theorem DjT.hext (d : DjT T F G H) (e : Ex H H') : DjT T F G H' := ⟨d.of, d.ft, d.tb.ext e, d.nc⟩
theorem DjT.ne (d : DjT T F G H) {b : Addr} {u : HO} (h : H b = some u) (n : NoCode u) : ∀ p ∈ T, p.1 ≠ b := fun p hp z => by
  obtain ⟨ps, h1, _⟩ := d.tb p hp
  rw [z, h] at h1
  cases h1
  exact n.1 _ rfl
theorem DjT.new (d : DjT T F G H) {b : Addr} (h : H b = none) : ∀ p ∈ T, p.1 ≠ b := fun p hp z => by
  obtain ⟨ps, h1, _⟩ := d.tb p hp
  rw [z, h] at h1
  cases h1
theorem DjT.mut (d : DjT T F G H) {b : Addr} {u o : HO} (h : H b = some u) (n : NoCode u) : DjT T F G (upd H b o) := ⟨d.of, d.ft, tabs_keep d.tb fun c x hc nc => by
  rw [upd_ne (fun z => by rw [z, h] at hc; cases hc; exact nc n)]; exact hc, d.nc⟩
theorem DjT.gadd (d : DjT T F G H) {b : Addr} {o : HO} (f : F b = none) (h : ∀ p ∈ T, p.1 ≠ b) : DjT T F (upd G b o) H := ⟨fun c x hc => by rw [upd_ne (fun z => by rw [z, f] at hc; cases hc)]; exact d.of c x hc, fun p hp => ⟨(d.ft p hp).1, by rw [upd_ne (h p hp)]; exact (d.ft p hp).2⟩, d.tb, d.nc⟩
theorem DjT.fadd (d : DjT T F G H) {b : Addr} {o : HO} (n : NoCode o) (g : G b = none) (h : ∀ p ∈ T, p.1 ≠ b) : DjT T (upd F b o) G H := ⟨fun c x hc => by
  by_cases z : c = b
  · rw [z]; exact g
  · rw [upd_ne z] at hc; exact d.of c x hc, fun p hp => ⟨by rw [upd_ne (h p hp)]; exact (d.ft p hp).1, (d.ft p hp).2⟩, d.tb, fun ht c x q z => by
  by_cases e : c = b
  · rw [e, upd_same] at z; cases z; exact n.2 _ _ rfl
  · rw [upd_ne e] at z; exact d.nc ht c x q z⟩
theorem DjT.at_ (d : DjT T F G H) (t : LamX.Tabs T H') : DjT T F G H' := ⟨d.of, d.ft, t, d.nc⟩
theorem DjT.out (d : DjT T F G H) {b : Addr} {o : HO} (n : ∀ u, H b = some u → NoCode u) : DjT T F G (upd H b o) := by
  cases h : H b with
  | none => exact d.hext (Ex.new h)
  | some u => exact d.mut h (n u h)
theorem DjT.sub {F' : Hp} (d : DjT T F G H) (e : Ex F' F) : DjT T F' G H := ⟨fun b o q => d.of b o (e b o q), fun p hp => ⟨fresh_back e (d.ft p hp).1, (d.ft p hp).2⟩, d.tb, fun ht b c q z => d.nc ht b c q (e b _ z)⟩
theorem DjT.to {F' G' : Hp} (d : DjT T F G H) (of : ∀ (b : Addr) (o : HO), F' b = some o → G' b = none) (f : ∀ b, (∀ o, H b = some o → ¬ NoCode o) → F b = none → F' b = none) (g : ∀ b, (∀ o, H b = some o → ¬ NoCode o) → G b = none → G' b = none) (n : ∀ b o, F' b = some o → F b = some o ∨ NoCode o) : DjT T F' G' H := ⟨of, fun p hp => by
  obtain ⟨ps, h1, _⟩ := d.tb p hp
  have k : ∀ o, H p.1 = some o → ¬ NoCode o := fun o h n => by rw [h1] at h; cases h; exact n.1 _ rfl
  exact ⟨f _ k (d.ft p hp).1, g _ k (d.ft p hp).2⟩, d.tb, fun ht b c q z => (n b _ z).elim (d.nc ht b c q) (fun y => y.2 _ _ rfl)⟩
end
structure Sim (pa : PaG) (F G : Hp) (σ : RSt) (H : Hp) (ρ : Ro) : Prop where
  len : ρ.length = σ.length
  ex : Ex G H
  fx : Ex F H
  dj : DjT pa.T F G H
  val : ∀ (i : Nat) (d : D), ρ[i]? = some (.val d) → ∃ v, σ[i]? = some (some v) ∧ Rep K G v d
  own : ∀ (i : Nat) (s : Sl) (d : D), ρ[i]? = some s → s.ownD = some d → ∃ p, σ[i]? = some (some (.ref p)) ∧ G p = none ∧ OwnAt K G H p d
  ofr : ∀ (i : Nat) (s : Sl) (d : D) (p : Addr), ρ[i]? = some s → s.ownD = some d → σ[i]? = some (some (.ref p)) → F p = none
  par : ∀ (i : Nat) (d : D), ρ[i]? = some (.par d) → σ[i]? = some (some (.ref (pa.f i)))
  gx : Ex pa.g G
  dis : ∀ (i j : Nat) (s t : Sl) (d e : D) (p : Addr), i ≠ j → ρ[i]? = some s → s.ownD = some d → ρ[j]? = some t → t.ownD = some e → σ[i]? = some (some (.ref p)) → σ[j]? = some (some (.ref p)) → False
def TkR (G : Hp) (σ : RSt) (v : V) : T → Prop
  | .val d => Rep K G v d
  | .bor i => σ[i]? = some (some v)
def RepT (G H : Hp) (v : V) (d : D) : Prop := Rep K G v d ∨ ∃ p, v = .ref p ∧ G p = none ∧ OwnAt K G H p d
end
section
variable {K : PySem.W.Frag} {pa : PaG} {F G G' H H' : Hp} {σ : RSt} {ρ ρ' : Ro} {p : Addr} {d : D} {v : V} {t : T}
theorem TkR.mono (e : Ex G G') (h : TkR K G σ v t) : TkR K G' σ v t := by
  cases t with
  | val d => exact Rep.mono e h
  | bor i => exact h
theorem Sim.rdT (S : Sim K pa F G σ H ρ) (h : TkR K G σ v t) (e : rd ρ t = some d) : RepT K G H v d := by
  cases t with
  | val d' => cases e; exact .inl h
  | bor i =>
    replace e : (ρ[i]?).bind Sl.ownD = some d := e
    cases q : ρ[i]? with
    | none => rw [q] at e; cases e
    | some s =>
      rw [q] at e
      obtain ⟨p, h1, h2, h3⟩ := S.own i s d q e
      have h' : σ[i]? = some (some v) := h
      rw [h'] at h1
      cases h1
      exact .inr ⟨p, rfl, h2, h3⟩
theorem OwnAt.mono (e : Ex G G') (eh : H p = H' p) (h : OwnAt K G H p d) : OwnAt K G' H' p d := by
  cases d with
  | lst ds => obtain ⟨vs, h1, h2⟩ := h; exact ⟨vs, eh ▸ h1, h2.mono e⟩
  | dct ds => obtain ⟨vs, h1, h2⟩ := h; exact ⟨vs, eh ▸ h1, h2.mono e⟩
  | ins C ds => obtain ⟨dx, vs, h1, h2⟩ := h; exact ⟨dx, vs, eh ▸ h1, h2.mono e⟩
  | _ => exact h.elim
theorem OwnAt.code (h : OwnAt K G H p d) {o : HO} (e : H p = some o) : NoCode o := by
  cases d with
  | lst ds => obtain ⟨vs, h1, h2⟩ := h; rw [h1] at e; cases e; exact noCode_lst
  | dct ds => obtain ⟨vs, h1, h2⟩ := h; rw [h1] at e; cases e; exact noCode_dK
  | ins C ds => obtain ⟨dx, vs, h1, h2⟩ := h; rw [h1] at e; cases e; exact noCode_ins
  | _ => exact h.elim
theorem OwnAt.some (h : OwnAt K G H p d) : ∃ o, H p = some o := by
  cases d with
  | lst ds => obtain ⟨vs, h1, h2⟩ := h; exact ⟨_, h1⟩
  | dct ds => obtain ⟨vs, h1, h2⟩ := h; exact ⟨_, h1⟩
  | ins C ds => obtain ⟨dx, vs, h1, h2⟩ := h; exact ⟨_, h1⟩
  | _ => exact h.elim
theorem Sim.grow (S : Sim K pa F G σ H ρ) (e : Ex G G') (eh : Ex G' H') (ef : Ex F H') (ed : DjT pa.T F G' H') (k : ∀ (i : Nat) (s : Sl) (d : D) (p : Addr), ρ[i]? = some s → s.ownD = some d → σ[i]? = some (some (.ref p)) → G' p = none ∧ H' p = H p) : Sim K pa F G' σ H' ρ where
  len := S.len
  ex := eh
  fx := ef
  dj := ed
  val := fun i d h => let ⟨v, h1, h2⟩ := S.val i d h; ⟨v, h1, h2.mono e⟩
  own := fun i s d h hd => by
    obtain ⟨p, h1, h2, h3⟩ := S.own i s d h hd
    obtain ⟨k1, k2⟩ := k i s d p h hd h1
    exact ⟨p, h1, k1, h3.mono e k2.symm⟩
  ofr := S.ofr
  par := S.par
  gx := S.gx.trans e
  dis := S.dis
structure Al (G H G' H' : Hp) : Prop where
  g : Ex G G'
  h : Ex H H'
  gh : Ex G' H'
  n : ∀ b, G b = none → H b ≠ none → G' b = none
theorem Al.refl (e : Ex G H) : Al G H G H := ⟨Ex.refl G, Ex.refl H, e, fun _ h _ => h⟩
theorem Al.trans {G2 H2 : Hp} (a : Al G H G' H') (b : Al G' H' G2 H2) : Al G H G2 H2 := ⟨a.g.trans b.g, a.h.trans b.h, b.gh, fun x h1 h2 => b.n x (a.n x h1 h2) (by
  cases q : H x with
  | none => exact absurd q h2
  | some o => rw [a.h x o q]; simp)⟩
theorem Sim.al (S : Sim K pa F G σ H ρ) (a : Al G H G' H') : Sim K pa F G' σ H' ρ := S.grow a.g a.gh (S.fx.trans a.h) ⟨fun b o q => a.n b (S.dj b o q) (by rw [S.fx b o q]; simp), fun p hp => ⟨(S.dj.ft p hp).1, a.n _ (S.dj.ft p hp).2 (by obtain ⟨ps, h1, _⟩ := S.dj.tb p hp; rw [h1]; simp)⟩, S.dj.tb.ext a.h, S.dj.nc⟩ fun i s d p h1 h2 h3 => by
  obtain ⟨b, q1, q2, q3⟩ := S.own i s d h1 h2
  rw [h3] at q1
  cases q1
  obtain ⟨o, ho⟩ := q3.some
  exact ⟨a.n p q2 (by rw [ho]; simp), by rw [a.h p o ho, ho]⟩
theorem Sim.frame {F' : Hp} (S : Sim K pa F G σ H ρ) (e : Ex F' F) : Sim K pa F' G σ H ρ :=
  ⟨S.len, S.ex, e.trans S.fx, S.dj.sub e, S.val, S.own, fun i s d p h1 h2 h3 => fresh_back e (S.ofr i s d p h1 h2 h3), S.par, S.gx, S.dis⟩
theorem Al.one {o : HO} (e : Ex G H) (hp : H p = none) : Al G H (upd G p o) (upd H p o) := by
  have gp : G p = none := fresh_back e hp
  refine ⟨Ex.new gp, Ex.new hp, fun b u q => ?_, fun b h1 h2 => ?_⟩
  · by_cases hb : b = p
    · subst hb; rw [upd_same] at q ⊢; exact q
    · rw [upd_ne hb] at q ⊢; exact e b u q
  · rw [upd_ne (fun z => h2 (by rw [z]; exact hp))]; exact h1
end
section
variable {K : PySem.W.Frag} {G H : Hp} {v : V}
theorem RepT.int {i : Int} (h : RepT K G H v (.int i)) : v = .int i := by
  rcases h with h | ⟨p, _, _, h⟩
  · cases h; rfl
  · exact h.elim
theorem RepT.str {i : Str} (h : RepT K G H v (.str i)) : v = .str i := by
  rcases h with h | ⟨p, _, _, h⟩
  · cases h; rfl
  · exact h.elim
theorem RepT.bl {i : Bool} (h : RepT K G H v (.bl i)) : v = .bl i := by
  rcases h with h | ⟨p, _, _, h⟩
  · cases h; rfl
  · exact h.elim
theorem RepT.byt {i : Array UInt8} (h : RepT K G H v (.byt i)) : v = .byt i := by
  rcases h with h | ⟨p, _, _, h⟩
  · cases h; rfl
  · exact h.elim
theorem RepT.non (h : RepT K G H v .non) : v = .non := by
  rcases h with h | ⟨p, _, _, h⟩
  · cases h; rfl
  · exact h.elim
theorem RepT.ty {n : String} (h : RepT K G H v (.ty n)) : v = .ty n := by
  rcases h with h | ⟨p, _, _, h⟩
  · cases h; rfl
  · exact h.elim
theorem RepT.ptr {n : Addr} (h : RepT K G H v (.ptr n)) : v = .ref n := by
  rcases h with h | ⟨p, _, _, h⟩
  · cases h; rfl
  · exact h.elim
theorem RepT.lstR {ds : List D} (e : Ex G H) (h : RepT K G H v (.lst ds)) : ∃ p vs, v = .ref p ∧ SqL K H p vs ∧ Reps K G vs ds := by
  rcases h with h | ⟨p, hp, _, h⟩
  · cases h with | lst h r => exact ⟨_, _, rfl, ex_l e h, r⟩
  · obtain ⟨vs, h1, h2⟩ := h; exact ⟨p, vs, hp, SqL.of h1, h2⟩
theorem RepT.lst {ds : List D} (e : Ex G H) (h : RepT K G H v (.lst ds)) : ∃ p vs, v = .ref p ∧ SqL K H p vs ∧ Reps K G vs ds := by
  obtain ⟨p, vs, h1, h2, h3⟩ := h.lstR e
  exact ⟨p, vs, h1, h2, h3⟩
theorem RepT.tup {ds : List D} (e : Ex G H) (h : RepT K G H v (.tup ds)) : ∃ p vs, v = .ref p ∧ SqT K H p vs ∧ Reps K G vs ds := by
  rcases h with h | ⟨p, hp, _, h⟩
  · cases h with | tup h r => exact ⟨_, _, rfl, ex_t e h, r⟩
  · exact h.elim
theorem RepT.tupR {ds : List D} (h : RepT K G H v (.tup ds)) : Rep K G v (.tup ds) := by
  rcases h with h | ⟨p, hp, _, h⟩
  · exact h
  · exact h.elim
theorem RepT.dct {ds : List (Key × D)} (e : Ex G H) (h : RepT K G H v (.dct ds)) : ∃ p vs, v = .ref p ∧ H p = some (.dK vs) ∧ RepK K G vs ds := by
  rcases h with h | ⟨p, hp, _, h⟩
  · cases h with | dct h r => exact ⟨_, _, rfl, e _ _ h, r⟩
  · obtain ⟨vs, h1, h2⟩ := h; exact ⟨p, vs, hp, h1, h2⟩
theorem RepT.ins {C : Addr} {ds : List (Str × D)} (e : Ex G H) (h : RepT K G H v (.ins C ds)) : ∃ p dx vs, v = .ref p ∧ H p = some (.ins C dx vs) ∧ RepF K G vs ds := by
  rcases h with h | ⟨p, hp, _, h⟩
  · cases h with | ins h r => exact ⟨_, _, _, rfl, e _ _ h, r⟩
  · obtain ⟨dx, vs, h1, h2⟩ := h; exact ⟨p, dx, vs, hp, h1, h2⟩
end
def Opt {α : Type} (o : Option α) (k : α → Prop) : Prop := ∃ a, o = some a ∧ k a
theorem Opt_some {α : Type} {a : α} {k : α → Prop} : Opt (some a) k ↔ k a := by
  constructor
  · intro h
    obtain ⟨b, e, h⟩ := h
    cases e
    exact h
  · intro h
    exact ⟨a, rfl, h⟩
abbrev ER := Addr → List (Str × D) → Ro → Prop
abbrev E0 : ER := fun _ _ _ => False
abbrev DE := Ro → (T → Ro → Prop) → ER → Prop
abbrev DT := Ro → (Bool → Ro → Prop) → ER → Prop
abbrev DA := Ro → (List T → Ro → Prop) → ER → Prop
abbrev DF := Ro → (D → Ro → Prop) → ER → Prop
abbrev DI := Ro → (List D → Ro → Prop) → ER → Prop
structure Do where
  nx : Ro → Prop
  rt : T → Ro → Prop
  rf : D → Ro → Prop := fun _ _ => False
  bk : Ro → Prop := fun _ => False
  ct : Ro → Prop := fun _ => False
  er : ER := fun _ _ _ => False
abbrev DS := Do → Ro → Prop
abbrev DG := T → Ro → (Ro → Prop) → Prop
section
variable (K : PySem.W.Frag) (pa : PaG)
def XL (F G : Hp) (W : WX) (σ : RSt) (er : ER) : Prop := ∀ (G' H' : Hp) (ρ' : Ro) (C d : Addr) (vs : List (Str × V)) (fs : List (Str × D)), Ex G G' → Sim K pa F G' σ H' ρ' → er C fs ρ' → G' d = some (.xd vs) → RepF K G' vs fs → W (.ref C) (some d) σ H'
def SE (W : WX) (te : TE) (de : DE) : Prop := ∀ (F G : Hp) (σ : RSt) (H : Hp) (ρ : Ro) (Q : VK) (q : T → Ro → Prop) (er : ER), Sim K pa F G σ H ρ → de ρ q er →
  (∀ G' H' v t ρ', Ex G G' → Sim K pa F G' σ H' ρ' → TkR K G' σ v t → q t ρ' → Q v H') → XL K pa F G W σ er → te σ H Q
def SF (W : WX) (te : TE) (de : DF) : Prop := ∀ (F G : Hp) (σ : RSt) (H : Hp) (ρ : Ro) (Q : VK) (q : D → Ro → Prop) (er : ER), Sim K pa F G σ H ρ → de ρ q er →
  (∀ G' H' p d ρ', Ex G G' → Sim K pa F G' σ H' ρ' → G' p = none ∧ F p = none → OwnAt K G' H' p d → (∀ (i : Nat) (s : Sl) (d : D), ρ'[i]? = some s → s.ownD = some d → σ[i]? ≠ some (some (.ref p))) → q d ρ' → Q (.ref p) H') → XL K pa F G W σ er → te σ H Q
def ST (W : WX) (tt : TT) (dt : DT) : Prop := ∀ (F G : Hp) (σ : RSt) (H : Hp) (ρ : Ro) (Q : Bool → Hp → Prop) (q : Bool → Ro → Prop) (er : ER), Sim K pa F G σ H ρ → dt ρ q er →
  (∀ G' H' b ρ', Ex G G' → Sim K pa F G' σ H' ρ' → q b ρ' → Q b H') → XL K pa F G W σ er → tt σ H Q
inductive TkRs (G : Hp) (σ : RSt) : List V → List T → Prop
  | nil : TkRs G σ [] []
  | cons {v : V} {t : T} {vs : List V} {ts : List T} : TkR K G σ v t → TkRs G σ vs ts → TkRs G σ (v :: vs) (t :: ts)
def SA (W : WX) (ta : TA) (da : DA) : Prop := ∀ (F G : Hp) (σ : RSt) (H : Hp) (ρ : Ro) (Q : List V → Hp → Prop) (q : List T → Ro → Prop) (er : ER), Sim K pa F G σ H ρ → da ρ q er →
  (∀ G' H' vs ts ρ', Ex G G' → Sim K pa F G' σ H' ρ' → TkRs K G' σ vs ts → q ts ρ' → Q vs H') → XL K pa F G W σ er → ta σ H Q
def SG (ns : List Nat) (g : TG) (dg : DG) : Prop := ∀ (F G : Hp) (σ : RSt) (H : Hp) (ρ : Ro) (v : V) (t : T) (Q : RSt → Hp → Prop) (q : Ro → Prop), Sim K pa F G σ H ρ → TkR K G σ v t → dg t ρ q →
  (∀ G' σ' H' ρ', Ex G G' → Sim K pa F G' σ' H' ρ' → (∀ vs : List Nat, (∀ i ∈ ns, i ∈ vs) → wipe σ' vs = wipe σ vs) → q ρ' → Q σ' H') → g v σ H Q
structure Lk (F : Hp) (W : WX) (G : Hp) (D : Ends) (DD : Do) : Prop where
  nx : ∀ G' σ' H' ρ', Ex G G' → Sim K pa F G' σ' H' ρ' → DD.nx ρ' → D.nx σ' H'
  bk : ∀ G' σ' H' ρ', Ex G G' → Sim K pa F G' σ' H' ρ' → DD.bk ρ' → D.bk σ' H'
  ct : ∀ G' σ' H' ρ', Ex G G' → Sim K pa F G' σ' H' ρ' → DD.ct ρ' → D.ct σ' H'
  rt : ∀ G' σ' H' ρ' v t, Ex G G' → Sim K pa F G' σ' H' ρ' → TkR K G' σ' v t → DD.rt t ρ' → D.rt v H'
  rf : ∀ G' σ' H' ρ' p d, Ex G G' → Sim K pa F G' σ' H' ρ' → G' p = none ∧ F p = none → OwnAt K G' H' p d → (∀ (i : Nat) (s : Sl) (d : DL.D), ρ'[i]? = some s → s.ownD = some d → σ'[i]? ≠ some (some (.ref p))) → DD.rf d ρ' → D.rt (.ref p) H'
  er : ∀ G' σ' H' ρ' C d vs fs, Ex G G' → Sim K pa F G' σ' H' ρ' → DD.er C fs ρ' → G' d = some (.xd vs) → RepF K G' vs fs → W (.ref C) (some d) σ' H'
def SS (W : WX) (ts : TS) (ds : DS) : Prop := ∀ (F G : Hp) (σ : RSt) (H : Hp) (ρ : Ro) (D : Ends) (DD : Do), Sim K pa F G σ H ρ → ds DD ρ → Lk K pa F W G D DD → ts D σ H
structure ItOk (G : Hp) (J : It) (ds : List DL.D) : Prop where
  go : ∀ i H, Ex G H → i < ds.length → J.go i H
  stop : ∀ i H, Ex G H → ds.length ≤ i → J.stop i H
  yld : ∀ i H x H', J.yld i H x H' → ∀ G1, Ex G G1 → Ex G1 H → ∀ d, ds[i]? = some d → ∃ G2, Al G1 H G2 H' ∧ Rep K G2 x d
def SI (W : WX) (wi : TI) (di : DI) : Prop := ∀ (F G : Hp) (σ : RSt) (H : Hp) (ρ : Ro) (R : It → Hp → Prop) (q : List DL.D → Ro → Prop) (er : ER), Sim K pa F G σ H ρ → di ρ q er →
  (∀ G' H' J ds ρ', Ex G G' → Sim K pa F G' σ H' ρ' → ItOk K G' J ds → q ds ρ' → R J H') → XL K pa F G W σ er → wi σ H R
end
end DL
namespace DL
open PySem L2 Evl
def dC (d : D) : DE := fun ρ q _ => q (.val d) ρ
def dVar (i : Nat) : DE := fun ρ q _ => match ρ[i]? with
  | some (.val d) => q (.val d) ρ
  | some (.own _) => q (.bor i) ρ
  | some (.par _) => q (.bor i) ρ
  | _ => False
def dOp (f : D → D → Option D) (da db : DE) : DE := fun ρ q er => da ρ (fun s ρ1 => db ρ1 (fun t ρ2 => Opt (rd ρ2 s) fun x => Opt (rd ρ2 t) fun y => Opt (f x y) fun z => q (.val z) ρ2) er) er
def dUn (f : D → Option D) (da : DE) : DE := fun ρ q er => da ρ (fun s ρ1 => Opt (rd ρ1 s) fun x => Opt (f x) fun z => q (.val z) ρ1) er
def D.bool : D → Option Bool
  | .bl b => some b
  | _ => none
def dTest (da : DE) : DT := fun ρ q er => da ρ (fun s ρ1 => Opt (rd ρ1 s) fun x => Opt x.bool fun b => q b ρ1) er
def D.truth : D → Option Bool
  | .non => some false
  | .bl b => some b
  | .int i => some (i != 0)
  | .str y => if y.length ≤ sizeLine then some ((y.length : Int) != 0) else none
  | .lst xs => some (!xs.isEmpty)
  | .tup xs => some (!xs.isEmpty)
  | .dct xs => some (!xs.isEmpty)
  | _ => none
def dTruth (da : DE) : DT := fun ρ q er => da ρ (fun s ρ1 => Opt (rd ρ1 s) fun x => Opt x.truth fun b => q b ρ1) er
def dAnd (t u : DT) : DT := fun ρ q er => t ρ (fun c ρ1 => if c = true then u ρ1 q er else q false ρ1) er
def dOr (t u : DT) : DT := fun ρ q er => t ρ (fun c ρ1 => if c = true then q true ρ1 else u ρ1 q er) er
def dNot (t : DT) : DT := fun ρ q er => t ρ (fun c ρ1 => q (!c) ρ1) er
def dAndV (da db : DE) : DE := fun ρ q er => da ρ (fun s ρ1 => Opt (rd ρ1 s) fun x => Opt x.bool fun c => if c = true then db ρ1 q er else q (.val (.bl false)) ρ1) er
def dOrV (da db : DE) : DE := fun ρ q er => da ρ (fun s ρ1 => Opt (rd ρ1 s) fun x => Opt x.bool fun c => if c = true then q (.val (.bl true)) ρ1 else db ρ1 q er) er
def dNotV (da : DE) : DE := fun ρ q er => da ρ (fun s ρ1 => Opt (rd ρ1 s) fun x => Opt x.bool fun c => q (.val (.bl (!c))) ρ1) er
def dIf (t : DT) (da db : DE) : DE := fun ρ q er => t ρ (fun c ρ1 => if c = true then da ρ1 q er else db ρ1 q er) er
def dNil : DA := fun ρ q _ => q [] ρ
def dCons (da : DE) (dr : DA) : DA := fun ρ q er => da ρ (fun s ρ1 => dr ρ1 (fun ts ρ2 => q (s :: ts) ρ2) er) er
def rds (ρ : Ro) : List T → Option (List D)
  | [] => some []
  | t :: ts => (rd ρ t).bind fun d => (rds ρ ts).map fun ds => d :: ds
def vals : List T → Option (List D)
  | [] => some []
  | .val d :: ts => (vals ts).map fun ds => d :: ds
  | .bor _ :: _ => none
def dTup (da : DA) : DE := fun ρ q er => da ρ (fun ts ρ1 => Opt (vals ts) fun ds => ds.length ≤ sizeLine ∧ q (.val (.tup ds)) ρ1) er
def dLst (da : DA) : DF := fun ρ q er => da ρ (fun ts ρ1 => Opt (vals ts) fun ds => ds.length ≤ sizeLine ∧ q (.lst ds) ρ1) er
def dV (da : DF) : DE := fun ρ q er => da ρ (fun d ρ1 => q (.val d) ρ1) er
def dCB (f : List D → Option D) (da : DA) : DE := fun ρ q er => da ρ (fun ts ρ1 => Opt (rds ρ1 ts) fun ds => Opt (f ds) fun z => q (.val z) ρ1) er
def dChain (f g : D → D → Option D) (da db dc : DE) : DE := fun ρ q er => da ρ (fun s ρ1 => db ρ1 (fun t ρ2 => Opt (rd ρ2 s) fun x => Opt (rd ρ2 t) fun y => Opt (f x y) fun z => Opt z.bool fun k =>
  if k = true then dc ρ2 (fun u ρ3 => Opt (rd ρ3 t) fun y' => Opt (rd ρ3 u) fun w => Opt (g y' w) fun z' => q (.val z') ρ3) er else q (.val (.bl false)) ρ2) er) er
section
variable (K : PySem.W.Frag)
def SR (r : R2) (f : D → D → Option D) : Prop := ∀ (G H : Hp) (x y : V) (dx dy z : D) (Q : VK), Ex G H → RepT K G H x dx → RepT K G H y dy → f dx dy = some z → (∀ G' H' v, Al G H G' H' → Rep K G' v z → Q v H') → r x y H Q
def SU (r : V → Hp → VK → Prop) (f : D → Option D) : Prop := ∀ (G H : Hp) (x : V) (dx z : D) (Q : VK), Ex G H → RepT K G H x dx → f dx = some z → (∀ G' H' v, Al G H G' H' → Rep K G' v z → Q v H') → r x H Q
inductive RepTs (G H : Hp) : List V → List D → Prop
  | nil : RepTs G H [] []
  | cons {v : V} {d : D} {vs : List V} {ds : List D} : RepT K G H v d → RepTs G H vs ds → RepTs G H (v :: vs) (d :: ds)
def SC (r : List V → Hp → VK → Prop) (f : List D → Option D) : Prop := ∀ (G H : Hp) (xs : List V) (ds : List D) (z : D) (Q : VK), Ex G H → RepTs K G H xs ds → f ds = some z → (∀ G' H' v, Al G H G' H' → Rep K G' v z → Q v H') → r xs H Q
end
section
variable {K : PySem.W.Frag} {pa : PaG} {W : WX} {ta tb tc te : TE} {da db dc de : DE} {tt uu : TT} {dt du : DT} {r r' : R2} {f f' : D → D → Option D}
theorem XL.grow {F G G' : Hp} {σ : RSt} {er : ER} (e : Ex G G') (x : XL K pa F G W σ er) : XL K pa F G' W σ er := fun G2 H2 ρ2 C d vs fs e2 => x G2 H2 ρ2 C d vs fs (e.trans e2)
theorem se_c {v : V} {d : D} (h : ∀ G, Rep K G v d) : SE K pa W (tC v) (dC d) := fun F G σ H ρ Q q er S h1 k _ => k G H v (.val d) ρ (Ex.refl G) S (h G) h1
theorem se_var {i : Nat} : SE K pa W (tVar i) (dVar i) := fun F G σ H ρ Q q er S h1 k _ => by
  unfold dVar at h1
  cases e : ρ[i]? with
  | none => rw [e] at h1; exact h1.elim
  | some s =>
    rw [e] at h1
    cases s with
    | no => exact h1.elim
    | val d =>
      obtain ⟨v, hv, r⟩ := S.val i d e
      exact ⟨v, hv, k G H v (.val d) ρ (Ex.refl G) S r h1⟩
    | own d =>
      obtain ⟨p, hp, _⟩ := S.own i _ d e rfl
      exact ⟨_, hp, k G H _ (.bor i) ρ (Ex.refl G) S hp h1⟩
    | par d =>
      obtain ⟨p, hp, _⟩ := S.own i _ d e rfl
      exact ⟨_, hp, k G H _ (.bor i) ρ (Ex.refl G) S hp h1⟩
theorem se_op (hr : SR K r f) (ha : SE K pa W ta da) (hb : SE K pa W tb db) : SE K pa W (tOp r ta tb) (dOp f da db) := fun F G σ H ρ Q q er S h k x =>
  ha F G σ H ρ _ _ er S h (fun G1 H1 v s ρ1 e1 S1 r1 h1 => hb F G1 σ H1 ρ1 _ _ er S1 h1 (fun G2 H2 w t ρ2 e2 S2 r2 h2 => by
    obtain ⟨dx, ex, dy, ey, z, ez, h3⟩ := h2
    exact hr G2 H2 v w dx dy z _ S2.ex (S2.rdT (r1.mono e2) ex) (S2.rdT r2 ey) ez fun G3 H3 u a r3 => k G3 H3 u (.val z) ρ2 ((e1.trans e2).trans a.g) (S2.al a) r3 h3) (x.grow e1)) x
theorem se_un {r : V → Hp → VK → Prop} {f : D → Option D} (hr : SU K r f) (ha : SE K pa W ta da) : SE K pa W (tUn r ta) (dUn f da) := fun F G σ H ρ Q q er S h k x =>
  ha F G σ H ρ _ _ er S h (fun G1 H1 v s ρ1 e1 S1 r1 h1 => by
    obtain ⟨dx, ex, z, ez, h3⟩ := h1
    exact hr G1 H1 v dx z _ S1.ex (S1.rdT r1 ex) ez fun G3 H3 u a r3 => k G3 H3 u (.val z) ρ1 (e1.trans a.g) (S1.al a) r3 h3) x
theorem bool_of {d : D} {b : Bool} (h : d.bool = some b) : d = .bl b := by
  cases d <;> first | (cases h; rfl) | cases h
theorem st_test (ha : SE K pa W ta da) : ST K pa W (tTest ta) (dTest da) := fun F G σ H ρ Q q er S h k x =>
  ha F G σ H ρ _ _ er S h (fun G1 H1 v s ρ1 e1 S1 r1 h1 => by
    obtain ⟨dx, ex, b, eb, h3⟩ := h1
    cases bool_of eb
    exact ⟨b, (S1.rdT r1 ex).bl, k G1 H1 b ρ1 e1 S1 h3⟩) x
theorem tru_of {G H : Hp} {v : V} {d : D} {b : Bool} (e : Ex G H) (r : RepT K G H v d) (h : d.truth = some b) : TruV K v H b := by
  cases d with
  | non => cases h; rw [r.non]; rfl
  | bl c => cases h; rw [r.bl]; rfl
  | int i => cases h; rw [r.int]; rfl
  | str y =>
    rw [r.str]
    have h : (if y.length ≤ sizeLine then some ((y.length : Int) != 0) else none) = some b := h
    split at h
    · rename_i hl; cases h; exact ⟨hl, rfl⟩
    · cases h
  | lst xs =>
    cases h
    obtain ⟨p, vs, rfl, hs, hr⟩ := r.lst e
    refine .inl ⟨vs, hs, ?_⟩
    cases hr <;> rfl
  | tup xs =>
    cases h
    obtain ⟨p, vs, rfl, hs, hr⟩ := r.tup e
    refine .inr (.inl ⟨vs, hs, ?_⟩)
    cases hr <;> rfl
  | dct xs =>
    cases h
    obtain ⟨p, vs, rfl, hs, hr⟩ := r.dct e
    refine .inr (.inr ⟨vs, hs, ?_⟩)
    cases hr <;> rfl
  | byt _ => cases h
  | ins _ _ => cases h
  | ptr _ => cases h
  | ty _ => cases h
  | exc _ _ => cases h
theorem st_truth (ha : SE K pa W ta da) : ST K pa W (fun σ H Q => ta σ H fun x H' => ∃ k, TruV K x H' k ∧ Q k H') (dTruth da) := fun F G σ H ρ Q q er S h k x =>
  ha F G σ H ρ _ _ er S h (fun G1 H1 v s ρ1 e1 S1 r1 h1 => by
    obtain ⟨dx, ex, b, eb, h3⟩ := h1
    exact ⟨b, tru_of S1.ex (S1.rdT r1 ex) eb, k G1 H1 b ρ1 e1 S1 h3⟩) x
theorem st_and (ha : ST K pa W tt dt) (hb : ST K pa W uu du) : ST K pa W (tAnd tt uu) (dAnd dt du) := fun F G σ H ρ Q q er S h k x =>
  ha F G σ H ρ _ _ er S h (fun G1 H1 c ρ1 e1 S1 h1 => by
    cases c with
    | true => exact hb F G1 σ H1 ρ1 Q q er S1 h1 (fun G2 H2 b ρ2 e2 => k G2 H2 b ρ2 (e1.trans e2)) (x.grow e1)
    | false => exact k G1 H1 false ρ1 e1 S1 h1) x
theorem st_or (ha : ST K pa W tt dt) (hb : ST K pa W uu du) : ST K pa W (tOr tt uu) (dOr dt du) := fun F G σ H ρ Q q er S h k x =>
  ha F G σ H ρ _ _ er S h (fun G1 H1 c ρ1 e1 S1 h1 => by
    cases c with
    | false => exact hb F G1 σ H1 ρ1 Q q er S1 h1 (fun G2 H2 b ρ2 e2 => k G2 H2 b ρ2 (e1.trans e2)) (x.grow e1)
    | true => exact k G1 H1 true ρ1 e1 S1 h1) x
theorem st_not (ha : ST K pa W tt dt) : ST K pa W (tNot tt) (dNot dt) := fun F G σ H ρ Q q er S h k x =>
  ha F G σ H ρ _ _ er S h (fun G1 H1 c ρ1 e1 S1 h1 => k G1 H1 (!c) ρ1 e1 S1 h1) x
theorem st_yes : ST K pa W tYes (fun ρ q _ => q true ρ) := fun F G σ H ρ Q q er S h k x => k G H true ρ (Ex.refl G) S h
theorem se_andV (ha : SE K pa W ta da) (hb : SE K pa W tb db) : SE K pa W (tAndV ta tb) (dAndV da db) := fun F G σ H ρ Q q er S h k x =>
  ha F G σ H ρ _ _ er S h (fun G1 H1 v s ρ1 e1 S1 r1 h1 => by
    obtain ⟨dx, ex, c, eb, h3⟩ := h1
    cases bool_of eb
    refine ⟨c, (S1.rdT r1 ex).bl, ?_⟩
    cases c with
    | true => exact hb F G1 σ H1 ρ1 Q q er S1 h3 (fun G2 H2 v t ρ2 e2 => k G2 H2 v t ρ2 (e1.trans e2)) (x.grow e1)
    | false => exact k G1 H1 _ (.val (.bl false)) ρ1 e1 S1 (.bl false) h3) x
theorem se_notV (ha : SE K pa W ta da) : SE K pa W (tNotV ta) (dNotV da) := fun F G σ H ρ Q q er S h k x =>
  ha F G σ H ρ _ _ er S h (fun G1 H1 v s ρ1 e1 S1 r1 h1 => by
    obtain ⟨dx, ex, c, eb, h3⟩ := h1
    cases bool_of eb
    exact ⟨c, (S1.rdT r1 ex).bl, k G1 H1 _ (.val (.bl (!c))) ρ1 e1 S1 (.bl (!c)) h3⟩) x
theorem se_if (ht : ST K pa W tt dt) (ha : SE K pa W ta da) (hb : SE K pa W tb db) : SE K pa W (tIf tt ta tb) (dIf dt da db) := fun F G σ H ρ Q q er S h k x =>
  ht F G σ H ρ _ _ er S h (fun G1 H1 c ρ1 e1 S1 h1 => by
    cases c with
    | true => exact ha F G1 σ H1 ρ1 Q q er S1 h1 (fun G2 H2 v t ρ2 e2 => k G2 H2 v t ρ2 (e1.trans e2)) (x.grow e1)
    | false => exact hb F G1 σ H1 ρ1 Q q er S1 h1 (fun G2 H2 v t ρ2 e2 => k G2 H2 v t ρ2 (e1.trans e2)) (x.grow e1)) x
theorem sa_nil : SA K pa W tNil dNil := fun F G σ H ρ Q q er S h k x => k G H [] [] ρ (Ex.refl G) S .nil h
theorem TkRs.mono {G G' : Hp} {σ : RSt} (e : Ex G G') : ∀ {vs : List V} {ts : List T}, TkRs K G σ vs ts → TkRs K G' σ vs ts
  | _, _, .nil => .nil
  | _, _, .cons h r => .cons (h.mono e) (TkRs.mono e r)
theorem sa_cons {tr : TA} {dr : DA} (ha : SE K pa W ta da) (hr : SA K pa W tr dr) : SA K pa W (tCons ta tr) (dCons da dr) := fun F G σ H ρ Q q er S h k x =>
  ha F G σ H ρ _ _ er S h (fun G1 H1 v s ρ1 e1 S1 r1 h1 => hr F G1 σ H1 ρ1 _ _ er S1 h1 (fun G2 H2 vs ts ρ2 e2 S2 r2 h2 => k G2 H2 _ _ ρ2 (e1.trans e2) S2 (.cons (r1.mono e2) r2) h2) (x.grow e1)) x
theorem vals_reps {G : Hp} {σ : RSt} : ∀ {vs : List V} {ts : List T} {ds : List D}, TkRs K G σ vs ts → vals ts = some ds → Reps K G vs ds
  | _, _, _, .nil, e => by cases e; exact .nil
  | _, .val d :: ts, _, .cons h r, e => by
    have e : (vals ts).map (fun ds => d :: ds) = some _ := e
    cases q : vals ts with
    | none => rw [q] at e; cases e
    | some es => rw [q] at e; cases e; exact .cons h (vals_reps r q)
  | _, .bor _ :: ts, _, .cons h r, e => by cases e
theorem rds_reps {F G H : Hp} {σ : RSt} {ρ : Ro} (S : Sim K pa F G σ H ρ) : ∀ {vs : List V} {ts : List T} {ds : List D}, TkRs K G σ vs ts → rds ρ ts = some ds → RepTs K G H vs ds
  | _, _, _, .nil, e => by cases e; exact .nil
  | _, t :: ts, _, .cons h r, e => by
    have e : (rd ρ t).bind (fun d => (rds ρ ts).map fun ds => d :: ds) = some _ := e
    cases q1 : rd ρ t with
    | none => rw [q1] at e; cases e
    | some d =>
      rw [q1] at e
      have e : (rds ρ ts).map (fun ds => d :: ds) = some _ := e
      cases q : rds ρ ts with
      | none => rw [q] at e; cases e
      | some es => rw [q] at e; cases e; exact .cons (S.rdT h q1) (rds_reps S r q)
theorem se_tup {ta : TA} {da : DA} (ha : SA K pa W ta da) : SE K pa W (tTup ta) (dTup da) := fun F G σ H ρ Q q er S h k x =>
  ha F G σ H ρ _ _ er S h (fun G1 H1 vs ts ρ1 e1 S1 r1 h1 => by
    obtain ⟨ds, ed, hl, h2⟩ := h1
    have R := vals_reps r1 ed
    refine ⟨by rw [R.length]; exact hl, fun p hp => ?_⟩
    have a := Al.one (G := G1) (p := p) (o := .tup vs) S1.ex hp
    exact k _ _ _ (.val (.tup ds)) ρ1 (e1.trans a.g) (S1.al a) (.tup (SqT.of upd_same) (R.mono a.g)) h2) x
theorem Sim.new {F G H : Hp} {σ : RSt} {ρ : Ro} {p : Addr} {o : HO} (S : Sim K pa F G σ H ρ) (hp : H p = none) : Sim K pa F G σ (upd H p o) ρ :=
  S.grow (Ex.refl G) (S.ex.trans (Ex.new hp)) (S.fx.trans (Ex.new hp)) (S.dj.hext (Ex.new hp)) fun i s d b h1 h2 h3 => by
    obtain ⟨b', q1, q2, q3⟩ := S.own i s d h1 h2
    rw [h3] at q1
    cases q1
    obtain ⟨u, hu⟩ := q3.some
    exact ⟨q2, upd_ne fun z => by rw [z, hp] at hu; cases hu⟩
theorem sf_lst {ta : TA} {da : DA} (ha : SA K pa W ta da) : SF K pa W (tLst ta) (dLst da) := fun F G σ H ρ Q q er S h k x =>
  ha F G σ H ρ _ _ er S h (fun G1 H1 vs ts ρ1 e1 S1 r1 h1 => by
    obtain ⟨ds, ed, hl, h2⟩ := h1
    have R := vals_reps r1 ed
    refine ⟨by rw [R.length]; exact hl, fun p hp => ?_⟩
    have gp : G1 p = none := fresh_back S1.ex hp
    refine k G1 _ p (.lst ds) ρ1 e1 (S1.new hp) ⟨gp, fresh_back S1.fx hp⟩ ⟨vs, upd_same, R⟩ (fun i s d hs hd hσ => ?_) h2
    · obtain ⟨b, hb, _, ow⟩ := S1.own i s d hs hd
      rw [hσ] at hb
      cases hb
      obtain ⟨o, ho⟩ := ow.some
      rw [hp] at ho
      cases ho) x
theorem se_new {te : TE} {df : DF} (h : SF K pa W te df) : SE K pa W te (dV df) := fun F G σ H ρ Q q er S h0 k x =>
  h F G σ H ρ Q _ er S h0 (fun G1 H1 p d ρ1 e1 S1 gp ow fr h1 => by
    obtain ⟨o, ho⟩ := ow.some
    have e2 : Ex G1 (upd G1 p o) := Ex.new gp.1
    have S2 : Sim K pa F (upd G1 p o) σ H1 ρ1 := {
      len := S1.len
      ex := fun b u q => by
        by_cases hb : b = p
        · subst hb; rw [upd_same] at q; cases q; exact ho
        · rw [upd_ne hb] at q; exact S1.ex b u q
      fx := S1.fx
      dj := S1.dj.gadd gp.2 (S1.dj.ne ho (ow.code ho))
      val := fun i d h => let ⟨v, h1, h2⟩ := S1.val i d h; ⟨v, h1, h2.mono e2⟩
      own := fun i s d h hd => by
        obtain ⟨b, h1, h2, h3⟩ := S1.own i s d h hd
        exact ⟨b, h1, by rw [upd_ne (fun z => fr i s d h hd (by rw [h1, z]))]; exact h2, h3.mono e2 rfl⟩
      ofr := S1.ofr
      par := S1.par
      gx := S1.gx.trans e2
      dis := S1.dis }
    refine k (upd G1 p o) H1 _ (.val d) ρ1 (e1.trans e2) S2 ?_ h1
    cases d with
    | lst ds => obtain ⟨vs, h1, h2⟩ := ow; rw [ho] at h1; cases h1; exact Rep.lst (SqL.of upd_same) (h2.mono e2)
    | dct ds => obtain ⟨vs, h1, h2⟩ := ow; rw [ho] at h1; cases h1; exact Rep.dct upd_same (h2.mono e2)
    | ins C ds => obtain ⟨dx, vs, h1, h2⟩ := ow; rw [ho] at h1; cases h1; exact Rep.ins upd_same (h2.mono e2)
    | _ => exact ow.elim) x
theorem se_cb {r : List V → Hp → VK → Prop} {f : List D → Option D} {ta : TA} {da : DA} (hr : SC K r f) (ha : SA K pa W ta da) : SE K pa W (tCB r ta) (dCB f da) := fun F G σ H ρ Q q er S h k x =>
  ha F G σ H ρ _ _ er S h (fun G1 H1 vs ts ρ1 e1 S1 r1 h1 => by
    obtain ⟨ds, ed, z, ez, h2⟩ := h1
    exact hr G1 H1 vs ds z _ S1.ex (rds_reps S1 r1 ed) ez fun G2 H2 v a r2 => k G2 H2 v (.val z) ρ1 (e1.trans a.g) (S1.al a) r2 h2) x
theorem se_chain (hr : SR K r f) (hr' : SR K r' f') (ha : SE K pa W ta da) (hb : SE K pa W tb db) (hc : SE K pa W tc dc) : SE K pa W (tChain r r' ta tb tc) (dChain f f' da db dc) := fun F G σ H ρ Q q er S h k x =>
  ha F G σ H ρ _ _ er S h (fun G1 H1 v s ρ1 e1 S1 r1 h1 => hb F G1 σ H1 ρ1 _ _ er S1 h1 (fun G2 H2 w t ρ2 e2 S2 r2 h2 => by
    obtain ⟨dx, ex, dy, ey, z, ez, c, ec, h3⟩ := h2
    refine hr G2 H2 v w dx dy z _ S2.ex (S2.rdT (r1.mono e2) ex) (S2.rdT r2 ey) ez fun G3 H3 u a r3 => ?_
    cases bool_of ec
    cases r3
    refine ⟨c, rfl, ?_⟩
    cases c with
    | false => exact k G3 H3 _ (.val (.bl false)) ρ2 ((e1.trans e2).trans a.g) (S2.al a) (.bl false) h3
    | true =>
      refine hc F G3 σ H3 ρ2 _ _ er (S2.al a) h3 (fun G4 H4 y u ρ4 e4 S4 r4 h4 => ?_) (x.grow ((e1.trans e2).trans a.g))
      obtain ⟨dy', ey', dw, ew, z', ez', h5⟩ := h4
      exact hr' G4 H4 w y dy' dw z' _ S4.ex (S4.rdT ((r2.mono a.g).mono e4) ey') (S4.rdT r4 ew) ez' fun G5 H5 u5 a5 r5 => k G5 H5 u5 (.val z') ρ4 ((((e1.trans e2).trans a.g).trans e4).trans a5.g) (S4.al a5) r5 h5) (x.grow e1)) x
end
def dNext : DS := fun DD ρ => DD.nx ρ
def dNever : DS := fun _ _ => False
def dSeq (a b : DS) : DS := fun DD ρ => a { DD with nx := b DD } ρ
def dDrop (de : DE) : DS := fun DD ρ => de ρ (fun _ ρ1 => DD.nx ρ1) DD.er
def dRet (de : DE) : DS := fun DD ρ => de ρ DD.rt DD.er
def dRetF (de : DF) : DS := fun DD ρ => de ρ DD.rf DD.er
def dRetN : DS := fun DD ρ => DD.rt (.val .non) ρ
def dIfS (t : DT) (a b : DS) : DS := fun DD ρ => t ρ (fun c ρ1 => if c = true then a DD ρ1 else b DD ρ1) DD.er
def dBrk : DS := fun DD ρ => DD.bk ρ
def dCnt : DS := fun DD ρ => DD.ct ρ
def isPar (ρ : Ro) (i : Nat) : Bool := match ρ[i]? with
  | some (.par _) => true
  | _ => false
def dgName (i : Nat) : DG := fun t ρ q => match t with
  | .val d => isPar ρ i = false ∧ q (ρ.set i (.val d))
  | .bor _ => False
def dAsg (de : DE) (g : DG) : DS := fun DD ρ => de ρ (fun t ρ1 => g t ρ1 DD.nx) DD.er
def dOwn (df : DF) (i : Nat) : DS := fun DD ρ => df ρ (fun d ρ1 => (isPar ρ1 i = false ∧ i < ρ1.length) ∧ DD.nx (ρ1.set i (.own d))) DD.er
def dFrz (i : Nat) (s : DS) : DS := fun DD ρ => match ρ[i]? with
  | some (.own d) => s DD (ρ.set i (.val d))
  | _ => False
section
variable {K : PySem.W.Frag} {pa : PaG} {W : WX} {ts us : TS} {ds es : DS} {te : TE} {de : DE} {tt : TT} {dt : DT} {g : TG} {dg : DG}
theorem Lk.grow {F G G' : Hp} {D : Ends} {DD : Do} (e : Ex G G') (l : Lk K pa F W G D DD) : Lk K pa F W G' D DD :=
  ⟨fun a b c d x => l.nx a b c d (e.trans x), fun a b c d x => l.bk a b c d (e.trans x), fun a b c d x => l.ct a b c d (e.trans x), fun a b c d v t x => l.rt a b c d v t (e.trans x), fun a b c d v t x => l.rf a b c d v t (e.trans x), fun a b c d C y vs fs x => l.er a b c d C y vs fs (e.trans x)⟩
theorem Lk.xl {F G : Hp} {D : Ends} {DD : Do} (l : Lk K pa F W G D DD) (σ : RSt) : XL K pa F G W σ DD.er := fun G' H' ρ' C d vs fs e => l.er G' σ H' ρ' C d vs fs e
theorem ss_next : SS K pa W tNext dNext := fun F G σ H ρ D DD S h l => l.nx G σ H ρ (Ex.refl G) S h
theorem ss_never {ts : TS} : SS K pa W ts dNever := fun _ _ _ _ _ _ _ _ h _ => h.elim
theorem ss_seq (h1 : SS K pa W ts ds) (h2 : SS K pa W us es) : SS K pa W (tSeq ts us) (dSeq ds es) := fun F G σ H ρ D DD S h l =>
  h1 F G σ H ρ _ _ S h ⟨fun G' σ' H' ρ' e S' q => h2 F G' σ' H' ρ' D DD S' q (l.grow e), l.bk, l.ct, l.rt, l.rf, l.er⟩
theorem ss_drop (h1 : SE K pa W te de) : SS K pa W (tDrop te) (dDrop de) := fun F G σ H ρ D DD S h l =>
  h1 F G σ H ρ _ _ _ S h (fun G' H' v t ρ' e S' r q => l.nx G' σ H' ρ' e S' q) (l.xl σ)
theorem ss_ret (h1 : SE K pa W te de) : SS K pa W (tRet te) (dRet de) := fun F G σ H ρ D DD S h l =>
  h1 F G σ H ρ _ _ _ S h (fun G' H' v t ρ' e S' r q => l.rt G' σ H' ρ' v t e S' r q) (l.xl σ)
theorem ss_retF {df : DF} (h1 : SF K pa W te df) : SS K pa W (tRet te) (dRetF df) := fun F G σ H ρ D DD S h l =>
  h1 F G σ H ρ _ _ _ S h (fun G' H' p d ρ' e S' gp ow fr q => l.rf G' σ H' ρ' p d e S' gp ow fr q) (l.xl σ)
theorem ss_retN : SS K pa W tRetN dRetN := fun F G σ H ρ D DD S h l => l.rt G σ H ρ .non (.val .non) (Ex.refl G) S .non h
theorem ss_if (ht : ST K pa W tt dt) (h1 : SS K pa W ts ds) (h2 : SS K pa W us es) : SS K pa W (tIfS tt ts us) (dIfS dt ds es) := fun F G σ H ρ D DD S h l =>
  ht F G σ H ρ _ _ _ S h (fun G' H' b ρ' e S' q => by
    cases b with
    | true => exact h1 F G' σ H' ρ' D DD S' q (l.grow e)
    | false => exact h2 F G' σ H' ρ' D DD S' q (l.grow e)) (l.xl σ)
theorem Sim.store {F G H : Hp} {σ : RSt} {ρ : Ro} {i : Nat} {v : V} {d : D} (S : Sim K pa F G σ H ρ) (hp : isPar ρ i = false) (r : Rep K G v d) : Sim K pa F G (σ.set i (some v)) H (ρ.set i (.val d)) where
  len := by rw [List.length_set, List.length_set]; exact S.len
  ex := S.ex
  fx := S.fx
  dj := S.dj
  ofr := fun j s e p h hd hσ => by
    by_cases hj : i = j
    · subst hj
      rw [List.getElem?_set, if_pos rfl] at h
      split at h
      · cases h; cases hd
      · cases h
    · rw [List.getElem?_set_ne hj] at h hσ
      exact S.ofr j s e p h hd hσ
  val := fun j e h => by
    by_cases hj : i = j
    · subst hj
      rw [List.getElem?_set] at h ⊢
      rw [if_pos rfl] at h ⊢
      split at h
      · rename_i hl
        cases h
        rw [if_pos (by rw [← S.len]; exact hl)]
        exact ⟨v, rfl, r⟩
      · cases h
    · rw [List.getElem?_set_ne hj] at h ⊢
      exact S.val j e h
  own := fun j s e h hd => by
    by_cases hj : i = j
    · subst hj
      rw [List.getElem?_set, if_pos rfl] at h
      split at h
      · cases h; cases hd
      · cases h
    · rw [List.getElem?_set_ne hj] at h ⊢
      exact S.own j s e h hd
  par := fun j e h => by
    by_cases hj : i = j
    · subst hj
      rw [List.getElem?_set, if_pos rfl] at h
      split at h <;> cases h
    · rw [List.getElem?_set_ne hj] at h ⊢
      exact S.par j e h
  gx := S.gx
  dis := fun j k s t e f p hjk h1 h2 h3 h4 h5 h6 => by
    have nj : i ≠ j := fun z => by
      subst z
      rw [List.getElem?_set, if_pos rfl] at h1
      split at h1
      · cases h1; cases h2
      · cases h1
    have nk : i ≠ k := fun z => by
      subst z
      rw [List.getElem?_set, if_pos rfl] at h3
      split at h3
      · cases h3; cases h4
      · cases h3
    rw [List.getElem?_set_ne nj] at h1 h5
    rw [List.getElem?_set_ne nk] at h3 h6
    exact S.dis j k s t e f p hjk h1 h2 h3 h4 h5 h6
theorem Sim.storeOwn {F G H : Hp} {σ : RSt} {ρ : Ro} {i : Nat} {p : Addr} {d : D} (S : Sim K pa F G σ H ρ) (hp : isPar ρ i = false) (gp : G p = none ∧ F p = none) (ow : OwnAt K G H p d)
    (fr : ∀ (i : Nat) (s : Sl) (d : D), ρ[i]? = some s → s.ownD = some d → σ[i]? ≠ some (some (.ref p))) : Sim K pa F G (σ.set i (some (.ref p))) H (ρ.set i (.own d)) where
  len := by rw [List.length_set, List.length_set]; exact S.len
  ex := S.ex
  fx := S.fx
  dj := S.dj
  ofr := fun j s e b h hd hσ => by
    by_cases hj : i = j
    · subst hj
      rw [List.getElem?_set, if_pos rfl] at hσ
      split at hσ
      · cases hσ; exact gp.2
      · cases hσ
    · rw [List.getElem?_set_ne hj] at h hσ
      exact S.ofr j s e b h hd hσ
  val := fun j e h => by
    by_cases hj : i = j
    · subst hj
      rw [List.getElem?_set, if_pos rfl] at h
      split at h <;> cases h
    · rw [List.getElem?_set_ne hj] at h ⊢
      exact S.val j e h
  own := fun j s e h hd => by
    by_cases hj : i = j
    · subst hj
      rw [List.getElem?_set] at h ⊢
      rw [if_pos rfl] at h ⊢
      split at h
      · rename_i hl
        cases h
        cases hd
        rw [if_pos (by rw [← S.len]; exact hl)]
        exact ⟨p, rfl, gp.1, ow⟩
      · cases h
    · rw [List.getElem?_set_ne hj] at h ⊢
      exact S.own j s e h hd
  par := fun j e h => by
    by_cases hj : i = j
    · subst hj
      rw [List.getElem?_set, if_pos rfl] at h
      split at h <;> cases h
    · rw [List.getElem?_set_ne hj] at h ⊢
      exact S.par j e h
  gx := S.gx
  dis := fun j k s t e f b hjk h1 h2 h3 h4 h5 h6 => by
    by_cases nj : i = j
    · subst nj
      rw [List.getElem?_set_ne hjk] at h3 h6
      rw [List.getElem?_set, if_pos rfl] at h5
      split at h5
      · cases h5; exact fr k t f h3 h4 h6
      · cases h5
    · by_cases nk : i = k
      · subst nk
        rw [List.getElem?_set_ne nj] at h1 h5
        rw [List.getElem?_set, if_pos rfl] at h6
        split at h6
        · cases h6; exact fr j s e h1 h2 h5
        · cases h6
      · rw [List.getElem?_set_ne nj] at h1 h5
        rw [List.getElem?_set_ne nk] at h3 h6
        exact S.dis j k s t e f b hjk h1 h2 h3 h4 h5 h6
theorem wipe_get (σ : RSt) (j : Nat) : ∀ vs : List Nat, (wipe σ vs)[j]? = if j ∈ vs then (if j < σ.length then some none else none) else σ[j]?
  | [] => by simp [wipe]
  | v :: vs => by
    have ih := wipe_get σ j vs
    unfold wipe
    by_cases h : v = j
    · subst h
      rw [List.getElem?_set, if_pos rfl, wipe_length, if_pos (List.mem_cons_self)]
    · rw [List.getElem?_set_ne h, ih]
      by_cases h2 : j ∈ vs
      · rw [if_pos h2, if_pos (List.mem_cons_of_mem _ h2)]
      · rw [if_neg h2, if_neg (fun z => by rcases List.mem_cons.mp z with z | z; exact h z.symm; exact h2 z)]
theorem wipe_set {σ : RSt} {i : Nat} {x : Option V} {vs : List Nat} (h : i ∈ vs) : wipe (σ.set i x) vs = wipe σ vs := by
  apply List.ext_getElem?
  intro j
  rw [wipe_get, wipe_get, List.length_set]
  by_cases hj : j ∈ vs
  · rw [if_pos hj, if_pos hj]
  · rw [if_neg hj, if_neg hj, List.getElem?_set_ne (fun z => hj (by rw [← z]; exact h))]
theorem wipe_wipe {σ : RSt} {vs : List Nat} : wipe (wipe σ vs) vs = wipe σ vs := by
  apply List.ext_getElem?
  intro j
  rw [wipe_get, wipe_length, wipe_get]
  by_cases hj : j ∈ vs
  · rw [if_pos hj, if_pos hj]
  · rw [if_neg hj, if_neg hj]
theorem sg_name {i : Nat} : SG K pa [i] (gName i) (dgName i) := fun F G σ H ρ v t Q q S r h k => by
  cases t with
  | bor j => exact h.elim
  | val d => exact k G _ H _ (Ex.refl G) (S.store h.1 r) (fun vs hv => wipe_set (hv i List.mem_cons_self)) h.2
def dgNil : List D → Ro → (Ro → Prop) → Prop := fun ds ρ q => ds = [] ∧ q ρ
def dgCons (g : DG) (r : List D → Ro → (Ro → Prop) → Prop) : List D → Ro → (Ro → Prop) → Prop := fun ds ρ q => match ds with
  | d :: ds => g (.val d) ρ fun ρ1 => r ds ρ1 q
  | [] => False
def dgTup (n : Nat) (r : List D → Ro → (Ro → Prop) → Prop) : DG := fun t ρ q => match t with
  | .val (.tup ds) => ds.length = n ∧ r ds ρ q
  | _ => False
def SGs (K : PySem.W.Frag) (pa : PaG) (ns : List Nat) (g : TGs) (dg : List D → Ro → (Ro → Prop) → Prop) : Prop := ∀ (F G : Hp) (σ : RSt) (H : Hp) (ρ : Ro) (vs : List V) (ds : List D) (Q : RSt → Hp → Prop) (q : Ro → Prop), Sim K pa F G σ H ρ → Reps K G vs ds → dg ds ρ q →
  (∀ G' σ' H' ρ', Ex G G' → Sim K pa F G' σ' H' ρ' → (∀ vs : List Nat, (∀ i ∈ ns, i ∈ vs) → wipe σ' vs = wipe σ vs) → q ρ' → Q σ' H') → g vs σ H Q
theorem sgs_nil : SGs K pa [] gNil dgNil := fun F G σ H ρ vs ds Q q S r h k => by
  obtain ⟨rfl, h⟩ := h
  cases r
  exact ⟨rfl, k G σ H ρ (Ex.refl G) S (fun _ _ => rfl) h⟩
theorem sgs_cons {n1 n2 : List Nat} {g : TG} {dg : DG} {gs : TGs} {dr : List D → Ro → (Ro → Prop) → Prop} (h1 : SG K pa n1 g dg) (h2 : SGs K pa n2 gs dr) : SGs K pa (n1 ++ n2) (gCons g gs) (dgCons dg dr) := fun F G σ H ρ vs ds Q q S r h k => by
  cases r with
  | nil => exact h.elim
  | cons r rr =>
    refine ⟨_, _, rfl, h1 F G σ H ρ _ (.val _) _ _ S r h fun G1 σ1 H1 ρ1 e1 S1 w1 q1 => h2 F G1 σ1 H1 ρ1 _ _ _ _ S1 (rr.mono e1) q1 fun G2 σ2 H2 ρ2 e2 S2 w2 q2 => k G2 σ2 H2 ρ2 (e1.trans e2) S2 (fun vs hv => ?_) q2⟩
    rw [w2 vs fun i hi => hv i (List.mem_append_right _ hi), w1 vs fun i hi => hv i (List.mem_append_left _ hi)]
theorem sg_tup {ns : List Nat} {gs : TGs} {n : Nat} {dr : List D → Ro → (Ro → Prop) → Prop} (h : SGs K pa ns gs dr) : SG K pa ns (gTup K n gs) (dgTup n dr) := fun F G σ H ρ v t Q q S r h0 k => by
  cases t with
  | bor j => exact h0.elim
  | val d =>
    have r : Rep K G v d := r
    cases r with
    | tup hs rr => exact ⟨_, _, rfl, ex_t S.ex hs, by rw [rr.length]; exact h0.1, h F G σ H ρ _ _ _ _ S rr h0.2 k⟩
    | _ => exact h0.elim
theorem ss_asg {ns : List Nat} (he : SE K pa W te de) (hg : SG K pa ns g dg) : SS K pa W (tAsg te g) (dAsg de dg) := fun F G σ H ρ D DD S h l =>
  he F G σ H ρ _ _ _ S h (fun G' H' v t ρ' e S' r q => hg F G' σ H' ρ' v t _ _ S' r q fun G2 σ2 H2 ρ2 e2 S2 _ q2 => l.nx G2 σ2 H2 ρ2 (e.trans e2) S2 q2) (l.xl σ)
theorem ss_own {df : DF} {i : Nat} (he : SF K pa W te df) : SS K pa W (tAsg te (gName i)) (dOwn df i) := fun F G σ H ρ D DD S h l =>
  he F G σ H ρ _ _ _ S h (fun G' H' p d ρ' e S' gp ow fr q => l.nx G' _ H' _ e (S'.storeOwn q.1.1 gp ow fr) q.2) (l.xl σ)
theorem Sim.frz {F G H : Hp} {σ : RSt} {ρ : Ro} {i : Nat} {d : D} (S : Sim K pa F G σ H ρ) (h : ρ[i]? = some (.own d)) : ∃ G', Ex G G' ∧ Sim K pa F G' σ H (ρ.set i (.val d)) := by
  obtain ⟨p, hσ, gp, ow⟩ := S.own i _ d h rfl
  obtain ⟨o, ho⟩ := ow.some
  have e2 : Ex G (upd G p o) := Ex.new gp
  have hi : i < ρ.length := (List.getElem?_eq_some_iff.mp h).1
  refine ⟨upd G p o, e2, ?_⟩
  have S2 : Sim K pa F (upd G p o) σ H (ρ.set i .no) := {
    len := by rw [List.length_set]; exact S.len
    ex := fun b u q => by
      by_cases hb : b = p
      · subst hb; rw [upd_same] at q; cases q; exact ho
      · rw [upd_ne hb] at q; exact S.ex b u q
    fx := S.fx
    dj := S.dj.gadd (S.ofr i _ d p h rfl hσ) (S.dj.ne ho (ow.code ho))
    ofr := fun j s e b hj hd hs => by
      by_cases z : i = j
      · subst z; rw [List.getElem?_set_self hi] at hj; cases hj; cases hd
      · rw [List.getElem?_set_ne z] at hj; exact S.ofr j s e b hj hd hs
    val := fun j e hj => by
      by_cases z : i = j
      · subst z; rw [List.getElem?_set_self hi] at hj; cases hj
      · rw [List.getElem?_set_ne z] at hj
        obtain ⟨v, h1, h2⟩ := S.val j e hj
        exact ⟨v, h1, h2.mono e2⟩
    own := fun j s e hj hd => by
      by_cases z : i = j
      · subst z; rw [List.getElem?_set_self hi] at hj; cases hj; cases hd
      · rw [List.getElem?_set_ne z] at hj
        obtain ⟨b, h1, h2, h3⟩ := S.own j s e hj hd
        exact ⟨b, h1, by rw [upd_ne (fun y => S.dis i j _ s d e p z h rfl hj hd hσ (by rw [h1, y]))]; exact h2, h3.mono e2 rfl⟩
    par := fun j e hj => by
      by_cases z : i = j
      · subst z; rw [List.getElem?_set_self hi] at hj; cases hj
      · rw [List.getElem?_set_ne z] at hj; exact S.par j e hj
    gx := S.gx.trans (Ex.new gp)
    dis := fun j k s t e f b hjk h1 h2 h3 h4 h5 h6 => by
      have nj : i ≠ j := fun z => by subst z; rw [List.getElem?_set_self hi] at h1; cases h1; cases h2
      have nk : i ≠ k := fun z => by subst z; rw [List.getElem?_set_self hi] at h3; cases h3; cases h4
      rw [List.getElem?_set_ne nj] at h1
      rw [List.getElem?_set_ne nk] at h3
      exact S.dis j k s t e f b hjk h1 h2 h3 h4 h5 h6 }
  have r : Rep K (upd G p o) (.ref p) d := by
    cases d with
    | lst ds => obtain ⟨vs, h1, h2⟩ := ow; rw [ho] at h1; cases h1; exact Rep.lst (SqL.of upd_same) (h2.mono e2)
    | dct ds => obtain ⟨vs, h1, h2⟩ := ow; rw [ho] at h1; cases h1; exact Rep.dct upd_same (h2.mono e2)
    | ins C ds => obtain ⟨dx, vs, h1, h2⟩ := ow; rw [ho] at h1; cases h1; exact Rep.ins upd_same (h2.mono e2)
    | _ => exact ow.elim
  have S3 := S2.store (i := i) (v := .ref p) (d := d) (by unfold isPar; rw [List.getElem?_set_self hi]) r
  rw [List.set_set] at S3
  have es : σ.set i (some (.ref p)) = σ := by
    apply List.ext_getElem?
    intro j
    by_cases z : i = j
    · subst z; rw [hσ, List.getElem?_set_self (by rw [← S.len]; exact hi)]
    · rw [List.getElem?_set_ne z]
  rw [es] at S3
  exact S3
theorem ss_frz {i : Nat} (h1 : SS K pa W ts ds) : SS K pa W ts (dFrz i ds) := fun F G σ H ρ D DD S h l => by
  unfold dFrz at h
  cases e : ρ[i]? with
  | none => rw [e] at h; exact h.elim
  | some s =>
    rw [e] at h
    cases s with
    | own d =>
      obtain ⟨G', e', S'⟩ := S.frz e
      exact h1 F G' σ H _ D DD S' h (l.grow e')
    | _ => exact h.elim
end
end DL
namespace DL
open PySem L2 Evl
def D.add : D → D → Option D
  | .int i, .int j => some (.int (i + j))
  | .str x, .str y => if x.length + y.length ≤ sizeLine then some (.str (x ++ y)) else none
  | .lst xs, .lst ys => if xs.length + ys.length ≤ sizeLine then some (.lst (xs ++ ys)) else none
  | .tup xs, .tup ys => if xs.length + ys.length ≤ sizeLine then some (.tup (xs ++ ys)) else none
  | _, _ => none
def D.sub : D → D → Option D
  | .int i, .int j => some (.int (i - j))
  | _, _ => none
instance (i j : Int) : Decidable (CMul i j) := by unfold CMul; infer_instance
instance (i j : Int) : Decidable (CMulW i j) := by unfold CMulW; infer_instance
instance (i j : Int) : Decidable (CDivW i j) := by unfold CDivW; infer_instance
instance (i j : Int) : Decidable (CPow i j) := by unfold CPow; infer_instance
def D.mul : D → D → Option D
  | .int i, .int j => if CMul i j ∨ CMulW i j then some (.int (i * j)) else none
  | .lst xs, .int k => if 0 ≤ k ∧ k < 2 ^ 63 ∧ xs.length * k.toNat ≤ sizeLine then some (.lst (List.replicate k.toNat xs).flatten) else none
  | _, _ => none
def D.mod : D → D → Option D
  | .int i, .int j => if 0 < j then some (.int (i % j)) else none
  | _, _ => none
def D.fdiv : D → D → Option D
  | .int i, .int j => if CDivW i j then some (.int (i / j)) else none
  | _, _ => none
def D.pow : D → D → Option D
  | .int i, .int j => if CPow i j then some (.int (i ^ j.toNat)) else none
  | _, _ => none
def D.neg : D → Option D
  | .int i => some (.int (-i))
  | _ => none
def D.cmp (p : Int → Int → Bool) : D → D → Option D
  | .int i, .int j => some (.bl (p i j))
  | _, _ => none
abbrev D.lt := D.cmp fun i j => decide (i < j)
abbrev D.le := D.cmp fun i j => decide (i ≤ j)
abbrev D.gt := D.cmp fun i j => decide (j < i)
abbrev D.ge := D.cmp fun i j => decide (j ≤ i)
def D.isN : D → D → Option D
  | .non, .non => some (.bl true)
  | _, .non => some (.bl false)
  | _, _ => none
def D.isNotN : D → D → Option D
  | .non, .non => some (.bl false)
  | _, .non => some (.bl true)
  | _, _ => none
def D.ix : D → D → Option D
  | .lst xs, .int i => atI xs i
  | .tup xs, .int i => atI xs i
  | .str z, .int i => if z.length ≤ sizeLine then (atI z.cps.toList i).map fun c => .str ⟨#[c]⟩ else none
  | _, _ => none
def D.len : List D → Option D
  | [.str z] => if z.length ≤ sizeLine then some (.int z.length) else none
  | [.byt z] => if z.size ≤ sizeLine then some (.int z.size) else none
  | [.lst xs] => some (.int xs.length)
  | [.tup xs] => some (.int xs.length)
  | _ => none
def D.toInt : List D → Option D
  | [.int i] => some (.int i)
  | [.bl b] => some (.int (if b then 1 else 0))
  | _ => none
def D.toStr : List D → Option D
  | [.int i] => if i.natAbs.log2 < 1920 then some (.str (toString i)) else none
  | _ => none
def D.toTuple : List D → Option D
  | [.lst xs] => some (.tup xs)
  | [.tup xs] => some (.tup xs)
  | _ => none
section
variable {K : PySem.W.Frag} {X : Cx}
theorem SR.or {r r' : R2} {f g h : D → D → Option D} (h1 : SR K r f) (h2 : SR K r' g) (e : ∀ a b z, h a b = some z → f a b = some z ∨ g a b = some z) : SR K (fun x y H Q => r x y H Q ∨ r' x y H Q) h := fun G H x y dx dy z Q eg rx ry q k => by
  rcases e dx dy z q with q | q
  · exact .inl (h1 G H x y dx dy z Q eg rx ry q k)
  · exact .inr (h2 G H x y dx dy z Q eg rx ry q k)
def rCatL (K : PySem.W.Frag) : R2 := fun x y H Q => ∃ l b xs zs, x = .ref l ∧ y = .ref b ∧ SqL K H l xs ∧ SqL K H b zs ∧ xs.length + zs.length ≤ sizeLine ∧ ∀ p, H p = none → Q (.ref p) (upd H p (.lst (xs ++ zs)))
theorem op_catL : OpR X (binaryOp .Add) (rCatL X.K) := by
  rintro pins s σ H x y v u Q I rx ry ⟨l, b, xs, zs, rfl, rfl, hx, hz, hl, q⟩
  cases rx; cases ry
  obtain ⟨us, r1, ⟨⟨c1, d1, t1, s1⟩, n1, g1, p1, p2, p3⟩, z1⟩ := I.list hx
  obtain ⟨ws, r2, ⟨⟨c2, d2, t2, s2⟩, n2, g2, q1, q2, q3⟩, z2⟩ := I.list hz
  simp only at p1 p2 p3 q1 q2 q3
  subst p1 p2 p3 q1 q2 q3
  have hs : us.toArray.size + ws.toArray.size ≤ sizeLine := by rw [List.size_toArray, List.size_toArray, ← r1.length, ← r2.length]; exact hl
  refine concat_meets ⟨_, g1, rfl⟩ ⟨_, g2, rfl⟩ noFill_list_add seq_list_add PySem.F.slot_list_add PySem.F.entry_list_add (PySem.F.args_list_add_2 _ _) (PyProof.Rows.list_addW l b us.toArray ws.toArray n1 n2 none none s1 s2 hs) ⟨g1, g2, ?_⟩
  have ea : us.toArray ++ ws.toArray = (us ++ ws).toArray := by simp
  rw [ea]
  exact ⟨.ref _, _, I.lnew (t' := s.toks) (r1.append r2) (by rw [List.length_append]; omega), rfl, q _ I.fresh⟩
def rAddI : R2 := rI0 fun i j => .int (i + j)
def rAddS : R2 := fun x y H Q => ∃ i j, x = .str i ∧ y = .str j ∧ i.length + j.length ≤ sizeLine ∧ Q (.str (i ++ j)) H
def rAdd (K : PySem.W.Frag) : R2 := fun x y H Q => rAddI x y H Q ∨ rAddS x y H Q ∨ rCatL K x y H Q ∨ rCatA K x y H Q
theorem op_addX : OpR X (binaryOp .Add) (rAdd X.K) := OpR.or (r := rAddI) op_add (OpR.or (r := rAddS) op_add_str (OpR.or (r := rCatL X.K) op_catL op_catA))
theorem sr_add : SR K (rAdd K) D.add := fun G H x y dx dy z Q e rx ry q k => by
  unfold D.add at q
  split at q
  · cases q; rw [rx.int, ry.int]; exact .inl ⟨_, _, rfl, rfl, k G H _ (Al.refl e) (.int _)⟩
  · split at q
    · rename_i hl; cases q; rw [rx.str, ry.str]; exact .inr (.inl ⟨_, _, rfl, rfl, hl, k G H _ (Al.refl e) (.str _)⟩)
    · cases q
  · split at q
    · rename_i hl
      cases q
      obtain ⟨p, vs, rfl, h1, r1⟩ := rx.lstR e
      obtain ⟨p2, vs2, rfl, h2, r2⟩ := ry.lstR e
      refine .inr (.inr (.inl ⟨p, p2, vs, vs2, rfl, rfl, h1, h2, by rw [r1.length, r2.length]; exact hl, fun b hb => ?_⟩))
      have a := Al.one (G := G) (p := b) (o := .lst (vs ++ vs2)) e hb
      exact k _ _ _ a (.lst (SqL.of upd_same) ((r1.append r2).mono a.g))
    · cases q
  · split at q
    · rename_i xs ys hl
      cases q
      have gx := rx.tupR
      have gy := ry.tupR
      obtain ⟨p, vs, rfl, h1, r1⟩ := rx.tup e
      obtain ⟨p2, vs2, rfl, h2, r2⟩ := ry.tup e
      refine .inr (.inr (.inr ⟨p, p2, vs, vs2, rfl, rfl, h1, h2, by rw [r1.length, r2.length]; exact hl, fun z => ?_, fun _ z => ?_, fun _ _ b hb => ?_⟩))
      · subst z
        cases r1
        exact k G H _ (Al.refl e) gy
      · subst z
        cases r2
        rw [List.append_nil] at k
        exact k G H _ (Al.refl e) gx
      · have a := Al.one (G := G) (p := b) (o := .tup (vs ++ vs2)) e hb
        exact k _ _ _ a (.tup (SqT.of upd_same) ((r1.append r2).mono a.g))
    · cases q
  · cases q
def rSubI : R2 := rI0 fun i j => .int (i - j)
theorem op_subX : OpR X (binaryOp .Sub) rSubI := op_sub
theorem sr_sub : SR K rSubI D.sub := fun G H x y dx dy z Q e rx ry q k => by
  unfold D.sub at q
  split at q
  · cases q; rw [rx.int, ry.int]; exact ⟨_, _, rfl, rfl, k G H _ (Al.refl e) (.int _)⟩
  · cases q
def rRepL (K : PySem.W.Frag) : R2 := fun x y H Q => ∃ l k xs, x = .ref l ∧ y = .int k ∧ SqL K H l xs ∧ -(2 ^ 63) ≤ k ∧ k < 2 ^ 63 ∧ xs.length * k.toNat ≤ sizeLine ∧
  ∀ p, H p = none → Q (.ref p) (upd H p (.lst (List.replicate k.toNat xs).flatten))
open PySem.Spec PyProof.Rows PySem in
theorem op_repL : OpR X (binaryOp .Mult) (rRepL X.K) := by
  rintro pins s σ H x y v u Q I rx ry ⟨l, k, xs, rfl, rfl, hx, h1, h2, hz, q⟩
  obtain ⟨t, rfl⟩ := ry
  cases rx
  obtain ⟨us, r1, ⟨⟨c1, d1, t1, s1⟩, n1, g1, p1, p2, p3⟩, z1⟩ := I.list hx
  simp only at p1 p2 p3
  subst p1 p2 p3
  have tl : s.TypeIs (.ref l) "list" := ⟨_, g1, rfl⟩
  have hs : us.toArray.size * k.toNat ≤ sizeLine := by rw [List.size_toArray, ← r1.length]; exact hz
  have cap : ¬ us.toArray.size * k.toNat > (2 ^ 63 - 1) / 8 := by have : (sizeLine : Nat) ≤ (2 ^ 63 - 1) / 8 := by decide
                                                                  omega
  have fit : ¬ (!Builtin.List.listFitsIndex k) = true := by rw [fitsIndex_both h1 h2]; exact Bool.false_ne_true
  have lng : ¬ Builtin.List.listTooLong (us.toArray.size * k.toNat) = true := by rw [notLongL hs]; exact Bool.false_ne_true
  refine wpAny_binaryOp_repeat_ref (T := "list") (U := "int") (by decide) tl (fun s1 => typeIs_int s1 k t) noFill_list_mul F.fills_int_mul F.slot_int_rmul repeat_list F.slot_int_index.lookup (call_meets F.slot_int_rmul (typeIs_int s k t) F.entry_int_rmul (F.args_int_rmul_2 _ _) (lm_int_rmul_list_any k t l us.toArray n1 none s1) ⟨g1, rfl, tl, call_meets F.slot_list_mul tl F.entry_list_mul (F.args_list_mul_2 _ _) (lm_list_mul_any l us.toArray n1 none s1 k t fit cap lng) ⟨g1, ?_⟩⟩)
  rw [listMul_foldl_if]
  exact ⟨.ref _, _, I.lnew (t' := s.toks) (r1.rep k.toNat) (by rw [PyProof.Rows.lm_len_rep_flat, Nat.mul_comm]; exact hz), rfl, q _ I.fresh⟩
def rMulI : R2 := rI CMul fun i j => .int (i * j)
def rMulW : R2 := rI CMulW fun i j => .int (i * j)
def rMul (K : PySem.W.Frag) : R2 := fun x y H Q => rMulI x y H Q ∨ rMulW x y H Q ∨ rRepL K x y H Q
theorem op_mulX : OpR X (binaryOp .Mult) (rMul X.K) := OpR.or (r := rMulI) op_mul (OpR.or (r := rMulW) op_mulW op_repL)
theorem sr_mul : SR K (rMul K) D.mul := fun G H x y dx dy z Q e rx ry q k => by
  unfold D.mul at q
  split at q
  · split at q
    · rename_i hc
      cases q
      rw [rx.int, ry.int]
      rcases hc with hc | hc
      · exact .inl ⟨_, _, rfl, rfl, hc, k G H _ (Al.refl e) (.int _)⟩
      · exact .inr (.inl ⟨_, _, rfl, rfl, hc, k G H _ (Al.refl e) (.int _)⟩)
    · cases q
  · split at q
    · rename_i hc
      cases q
      obtain ⟨p, vs, rfl, h1, r1⟩ := rx.lstR e
      rw [ry.int]
      refine .inr (.inr ⟨p, _, vs, rfl, rfl, h1, Int.le_trans (by decide) hc.1, hc.2.1, by rw [r1.length]; exact hc.2.2, fun b hb => ?_⟩)
      exact k _ _ _ (Al.one (G := G) (p := b) e hb) (.lst (SqL.of upd_same) ((r1.rep _).mono (Al.one (G := G) (p := b) e hb).g))
    · cases q
  · cases q
def rModI : R2 := rI (fun _ j => 0 < j) fun i j => .int (i % j)
theorem op_modX : OpR X (binaryOp .Mod) rModI := op_mod
theorem sr_mod : SR K rModI D.mod := fun G H x y dx dy z Q e rx ry q k => by
  unfold D.mod at q
  split at q
  · split at q
    · rename_i hc; cases q; rw [rx.int, ry.int]; exact ⟨_, _, rfl, rfl, hc, k G H _ (Al.refl e) (.int _)⟩
    · cases q
  · cases q
def rDivI : R2 := rI CDivW fun i j => .int (i / j)
theorem op_divX : OpR X (binaryOp .FloorDiv) rDivI := op_fdivW
theorem sr_fdiv : SR K rDivI D.fdiv := fun G H x y dx dy z Q e rx ry q k => by
  unfold D.fdiv at q
  split at q
  · split at q
    · rename_i hc; cases q; rw [rx.int, ry.int]; exact ⟨_, _, rfl, rfl, hc, k G H _ (Al.refl e) (.int _)⟩
    · cases q
  · cases q
def rPowI : R2 := rI CPow fun i j => .int (i ^ j.toNat)
theorem op_powX : OpR X (binaryOp .Pow) rPowI := op_pow
theorem sr_pow : SR K rPowI D.pow := fun G H x y dx dy z Q e rx ry q k => by
  unfold D.pow at q
  split at q
  · split at q
    · rename_i hc; cases q; rw [rx.int, ry.int]; exact ⟨_, _, rfl, rfl, hc, k G H _ (Al.refl e) (.int _)⟩
    · cases q
  · cases q
def rCmpI (p : Int → Int → Bool) : R2 := rI0 fun i j => .bl (p i j)
theorem sr_cmp {p : Int → Int → Bool} : SR K (rCmpI p) (D.cmp p) := fun G H x y dx dy z Q e rx ry q k => by
  unfold D.cmp at q
  split at q
  · cases q; rw [rx.int, ry.int]; exact ⟨_, _, rfl, rfl, k G H _ (Al.refl e) (.bl _)⟩
  · cases q
abbrev rLeI := rCmpI fun i j => decide (i ≤ j)
abbrev rGtI := rCmpI fun i j => decide (j < i)
abbrev rGeI := rCmpI fun i j => decide (j ≤ i)
theorem op_leX : OpR X (compareOp .LtE) rLeI := op_le
theorem op_gtX : OpR X (compareOp .Gt) rGtI := op_gt
theorem op_geX : OpR X (compareOp .GtE) rGeI := op_ge
def rNegI : V → Hp → VK → Prop := rU fun i => .int (-i)
theorem un_negX : UnR X (unaryOp .USub) rNegI := un_neg
theorem su_neg : SU K rNegI D.neg := fun G H x dx z Q e rx q k => by
  unfold D.neg at q
  split at q
  · cases q; rw [rx.int]; exact ⟨_, rfl, k G H _ (Al.refl e) (.int _)⟩
  · cases q
def rIsNX : R2 := fun x y H Q => y = .non ∧ Q (.bl (decide (x = .non))) H
def rNotNX : R2 := fun x y H Q => y = .non ∧ Q (.bl (!decide (x = .non))) H
theorem op_isNX : OpR X (compareOp .Is) rIsNX := op_isN
theorem op_notNX : OpR X (compareOp .IsNot) rNotNX := op_notN
theorem isN_of {G H : Hp} {x : V} {d : D} (r : RepT K G H x d) : decide (x = .non) = (match d with | .non => true | _ => false) := by
  rcases r with r | ⟨p, rfl, _, r⟩
  · cases r <;> rfl
  · cases d <;> first | exact r.elim | rfl
theorem sr_isN : SR K rIsNX D.isN := fun G H x y dx dy z Q e rx ry q k => by
  have h := isN_of rx
  unfold D.isN at q
  split at q
  · cases q; rw [ry.non]; exact ⟨rfl, by rw [h]; exact k G H _ (Al.refl e) (.bl _)⟩
  · cases q
    rw [ry.non]
    refine ⟨rfl, ?_⟩
    have h2 : decide (x = .non) = false := by
      rw [h]
      cases dx <;> first | rfl | (rename_i hn; exact absurd rfl hn) | (rename_i hn; exact (hn rfl).elim)
    rw [h2]
    exact k G H _ (Al.refl e) (.bl _)
  · cases q
theorem sr_notN : SR K rNotNX D.isNotN := fun G H x y dx dy z Q e rx ry q k => by
  have h := isN_of rx
  unfold D.isNotN at q
  split at q
  · cases q; rw [ry.non]; exact ⟨rfl, by rw [h]; exact k G H _ (Al.refl e) (.bl _)⟩
  · cases q
    rw [ry.non]
    refine ⟨rfl, ?_⟩
    have h2 : decide (x = .non) = false := by
      rw [h]
      cases dx <;> first | rfl | (rename_i hn; exact absurd rfl hn) | (rename_i hn; exact (hn rfl).elim)
    rw [h2]
    exact k G H _ (Al.refl e) (.bl _)
  · cases q
theorem atI_rep {G : Hp} {vs : List V} {ds : List D} {i : Int} {d : D} (r : Reps K G vs ds) (h : atI ds i = some d) : ∃ v, atI vs i = some v ∧ Rep K G v d := by
  unfold atI at h ⊢
  rw [r.length]
  cases q : ixN ds.length i with
  | none => rw [q] at h; cases h
  | some j =>
    rw [q] at h
    exact r.get (i := j) h
theorem sr_ix : SR K (rIx K) D.ix := fun G H x y dx dy z Q e rx ry q k => by
  unfold D.ix at q
  split at q
  · obtain ⟨p, vs, rfl, h1, r1⟩ := rx.lst e
    rw [ry.int]
    obtain ⟨v, hv, rv⟩ := atI_rep r1 q
    exact .inl ⟨p, vs, _, v, rfl, rfl, h1, hv, k G H _ (Al.refl e) rv⟩
  · obtain ⟨p, vs, rfl, h1, r1⟩ := rx.tup e
    rw [ry.int]
    obtain ⟨v, hv, rv⟩ := atI_rep r1 q
    exact .inr (.inl ⟨p, vs, _, v, rfl, rfl, h1, hv, k G H _ (Al.refl e) rv⟩)
  · split at q
    · rename_i zz i hl
      rw [rx.str, ry.int]
      cases q2 : atI zz.cps.toList i with
      | none => rw [q2] at q; cases q
      | some c =>
        rw [q2] at q
        cases q
        exact .inr (.inr ⟨_, _, c, rfl, rfl, hl, q2, k G H _ (Al.refl e) (.str _)⟩)
    · cases q
  · cases q
theorem RepTs.one {G H : Hp} {xs : List V} {d : D} (h : RepTs K G H xs [d]) : ∃ x, xs = [x] ∧ RepT K G H x d := by
  cases h with
  | cons r t => cases t; exact ⟨_, rfl, r⟩
def rLenX (K : PySem.W.Frag) : List V → Hp → VK → Prop := fun xs H Q => ∃ x n, xs = [x] ∧ LenV K x H n ∧ Q (.int n) H
theorem call_lenX : CallR X (.builtin "len") (rLenX X.K) := call_len
theorem sc_len : SC K (rLenX K) D.len := fun G H xs ds z Q e rx q k => by
  unfold D.len at q
  split at q
  · split at q
    · rename_i hl
      cases q
      obtain ⟨x, rfl, r⟩ := rx.one
      rw [r.str]
      exact ⟨_, _, rfl, ⟨hl, rfl⟩, k G H _ (Al.refl e) (.int _)⟩
    · cases q
  · split at q
    · rename_i hl
      cases q
      obtain ⟨x, rfl, r⟩ := rx.one
      rw [r.byt]
      exact ⟨_, _, rfl, ⟨hl, rfl⟩, k G H _ (Al.refl e) (.int _)⟩
    · cases q
  · cases q
    obtain ⟨x, rfl, r⟩ := rx.one
    obtain ⟨p, vs, rfl, h1, r1⟩ := r.lst e
    exact ⟨_, _, rfl, .inl ⟨vs, h1, rfl⟩, by rw [r1.length]; exact k G H _ (Al.refl e) (.int _)⟩
  · cases q
    obtain ⟨x, rfl, r⟩ := rx.one
    obtain ⟨p, vs, rfl, h1, r1⟩ := r.tup e
    exact ⟨_, _, rfl, .inr ⟨vs, h1, rfl⟩, by rw [r1.length]; exact k G H _ (Al.refl e) (.int _)⟩
  · cases q
def rIntX : List V → Hp → VK → Prop := fun xs H Q => (∃ i, xs = [.int i] ∧ Q (.int i) H) ∨ ∃ k, xs = [.bl k] ∧ Q (.int (if k then 1 else 0)) H
theorem call_intX : CallR X (.type "int") rIntX := call_int1
theorem sc_int : SC K rIntX D.toInt := fun G H xs ds z Q e rx q k => by
  unfold D.toInt at q
  split at q
  · cases q
    obtain ⟨x, rfl, r⟩ := rx.one
    rw [r.int]
    exact .inl ⟨_, rfl, k G H _ (Al.refl e) (.int _)⟩
  · cases q
    obtain ⟨x, rfl, r⟩ := rx.one
    rw [r.bl]
    exact .inr ⟨_, rfl, k G H _ (Al.refl e) (.int _)⟩
  · cases q
def rStrX : List V → Hp → VK → Prop := fun xs H Q => ∃ i, xs = [.int i] ∧ i.natAbs.log2 < 1920 ∧ Q (.str (toString i)) H
theorem call_strX : CallR X (.type "str") rStrX := call_str_int
theorem sc_str : SC K rStrX D.toStr := fun G H xs ds z Q e rx q k => by
  unfold D.toStr at q
  split at q
  · split at q
    · rename_i hl
      cases q
      obtain ⟨x, rfl, r⟩ := rx.one
      rw [r.int]
      exact ⟨_, rfl, hl, k G H _ (Al.refl e) (.str _)⟩
    · cases q
  · cases q
def rTupX (K : PySem.W.Frag) : List V → Hp → VK → Prop := fun xs H Q => ∃ p ys, xs = [.ref p] ∧ ((SqL K H p ys ∧ ∀ l, H l = none → Q (.ref l) (upd H l (.tup ys))) ∨ (SqT K H p ys ∧ Q (.ref p) H))
theorem call_tupX : CallR X (.type "tuple") (rTupX X.K) := call_tuple_of
theorem sc_tuple : SC K (rTupX K) D.toTuple := fun G H xs ds z Q e rx q k => by
  unfold D.toTuple at q
  split at q
  · cases q
    obtain ⟨x, rfl, r⟩ := rx.one
    obtain ⟨p, vs, rfl, h1, r1⟩ := r.lst e
    refine ⟨p, vs, rfl, .inl ⟨h1, fun l hl => ?_⟩⟩
    have a := Al.one (G := G) (p := l) (o := .tup vs) e hl
    exact k _ _ _ a (.tup (SqT.of upd_same) (r1.mono a.g))
  · cases q
    obtain ⟨x, rfl, r⟩ := rx.one
    have g := r.tupR
    obtain ⟨p, vs, rfl, h1, r1⟩ := r.tup e
    exact ⟨p, vs, rfl, .inr ⟨h1, k G H _ (Al.refl e) g⟩⟩
  · cases q
def D.seq : D → Option (List D)
  | .lst xs => some xs
  | .tup xs => some xs
  | _ => none
def rListX (K : PySem.W.Frag) : List V → Hp → VK → Prop := fun xs H Q => ∃ p ys, xs = [.ref p] ∧ (SqL K H p ys ∨ SqT K H p ys) ∧ ∀ l, H l = none → Q (.ref l) (upd H l (.lst ys))
theorem call_listX : CallR X (.type "list") (rListX X.K) := call_list_of
def dList (da : DE) : DF := fun ρ q er => da ρ (fun t ρ1 => Opt (rd ρ1 t) fun d => Opt d.seq fun ds => q (.lst ds) ρ1) er
theorem RepT.seq {G H : Hp} {v : V} {d : D} {ds : List D} (e : Ex G H) (r : RepT K G H v d) (h : d.seq = some ds) : ∃ p vs, v = .ref p ∧ (SqL K H p vs ∨ SqT K H p vs) ∧ Reps K G vs ds := by
  cases d with
  | lst xs => cases h; obtain ⟨p, vs, h1, h2, h3⟩ := r.lst e; exact ⟨p, vs, h1, .inl h2, h3⟩
  | tup xs => cases h; obtain ⟨p, vs, h1, h2, h3⟩ := r.tup e; exact ⟨p, vs, h1, .inr h2, h3⟩
  | _ => cases h
theorem fresh_no {pa : PaG} {F G H : Hp} {σ : RSt} {ρ : Ro} {p : Addr} (S : Sim K pa F G σ H ρ) (hp : H p = none) : ∀ (i : Nat) (s : Sl) (d : D), ρ[i]? = some s → s.ownD = some d → σ[i]? ≠ some (some (.ref p)) := fun i s d hs hd hσ => by
  obtain ⟨b, hb, _, ow⟩ := S.own i s d hs hd
  rw [hσ] at hb
  cases hb
  obtain ⟨o, ho⟩ := ow.some
  rw [hp] at ho
  cases ho
theorem sf_list {pa : PaG} {W : WX} {ta : TE} {da : DE} (ha : SE K pa W ta da) : SF K pa W (tCB (rListX K) (tCons ta tNil)) (dList da) := fun F G σ H ρ Q q er S h k x =>
  ha F G σ H ρ _ _ er S h (fun G1 H1 v t ρ1 e1 S1 r1 h1 => by
    obtain ⟨d, ed, ds, es, h2⟩ := h1
    obtain ⟨p, vs, rfl, hs, hr⟩ := RepT.seq S1.ex (S1.rdT r1 ed) es
    refine ⟨p, vs, rfl, hs, fun l hl => ?_⟩
    exact k G1 _ l (.lst ds) ρ1 e1 (S1.new hl) ⟨fresh_back S1.ex hl, fresh_back S1.fx hl⟩ ⟨vs, upd_same, hr⟩ (fresh_no S1 hl) h2) x
end
end DL
namespace DL
open PySem L2 Evl
def iAny (K : PySem.W.Frag) (te : TE) : TI := fun σ H R => te σ H fun x H1 =>
  (∃ a, x = .ref a ∧ (∃ xs, SqL K H1 a xs) ∧ R (Itl K a) H1) ∨ (∃ a, x = .ref a ∧ (∃ xs, SqT K H1 a xs) ∧ R (Itt K a) H1) ∨ ∃ y, x = .str y ∧ R (Its y) H1
section
variable {X : Cx} {tg : Expr}
open PySem.Spec PyProof.Rows in
theorem pi_any {l : Expr} {tl : TE} (hl : PE X l tl) : PI X tg l (iAny X.K tl) := by
  refine ⟨fun pins s σ H R I h => ?_⟩
  refine thn (hl.run pins s σ H _ I h) fun v s1 ⟨x, H1, I1, r1, q1⟩ => ?_
  rcases q1 with ⟨a, e, ⟨xs, hq⟩, q⟩ | ⟨a, e, ⟨xs, hq⟩, q⟩ | ⟨y, e, q⟩
  · subst e
    cases r1
    obtain ⟨its, rv, p, hz⟩ := I1.list hq
    refine wpAny_pyIter_list p.isList ?_
    refine ⟨s1.heap.objs.size, [s1.heap.objs.size], _, _, H1, rfl, I1.kept (t' := s1.toks) fun b o e => Heap.get?_push_of_some _ e, turn_list a _, ⟨_, Heap.get?_push_size _ rfl, rfl, rfl⟩, fun b hb => ?_, q⟩
    have e : b = s1.heap.objs.size := by simpa using hb
    subst e
    exact I1.fpOk (Nat.le_refl _) (I1.hok.fresh (Nat.le_refl _))
  · subst e
    cases r1
    obtain ⟨its, rv, p, hz⟩ := I1.tuple hq
    refine wpAny_pyIter_tuple (show s1.heap.IsTuple a its.toArray from p) ?_
    refine ⟨s1.heap.objs.size, [s1.heap.objs.size], _, _, H1, rfl, I1.kept (t' := s1.toks) fun b o e => Heap.get?_push_of_some _ e, turn_tuple a _, ⟨_, Heap.get?_push_size _ rfl, rfl, rfl⟩, fun b hb => ?_, q⟩
    have e : b = s1.heap.objs.size := by simpa using hb
    subst e
    exact I1.fpOk (Nat.le_refl _) (I1.hok.fresh (Nat.le_refl _))
  · subst e
    obtain ⟨t, rfl⟩ := r1
    cases ha : y.cps.all (· < 128)
    · exact wpAny_pyIter_wide ha (pi_one (tk := s1.toks) I1 _ (turn_str _ y t "str_iterator" (.inr rfl)) ⟨_, Heap.get?_push_size _ rfl, rfl, rfl⟩ q)
    · exact wpAny_pyIter_ascii ha (pi_one (tk := s1.toks) I1 _ (turn_str _ y t "str_ascii_iterator" (.inl rfl)) ⟨_, Heap.get?_push_size _ rfl, rfl, rfl⟩ q)
end
def D.items : D → Option (List D)
  | .lst xs => some xs
  | .tup xs => some xs
  | .str y => some (y.cps.toList.map fun c => .str ⟨#[c]⟩)
  | _ => none
def diAny (de : DE) : DI := fun ρ q er => de ρ (fun t ρ1 => match t with
  | .val d => Opt d.items fun ds => q ds ρ1
  | .bor _ => False) er
def diRng1 (de : DE) : DI := fun ρ q er => de ρ (fun t ρ1 => Opt (rd ρ1 t) fun d => match d with
  | .int j => (-(2 ^ 62) ≤ j ∧ j < 2 ^ 62) ∧ q ((List.range j.toNat).map fun (k : Nat) => .int (k : Int)) ρ1
  | _ => False) er
def diRng2 (da db : DE) : DI := fun ρ q er => da ρ (fun s ρ1 => db ρ1 (fun t ρ2 => Opt (rd ρ2 s) fun d => Opt (rd ρ2 t) fun e => match d, e with
  | .int i, .int j => (-(2 ^ 62) ≤ i ∧ i < 2 ^ 62 ∧ -(2 ^ 62) ≤ j ∧ j < 2 ^ 62) ∧ q ((List.range (j - i).toNat).map fun (k : Nat) => .int (i + (k : Int))) ρ2
  | _, _ => False) er) er
def enumD (ds : List D) : List D := ds.zipIdx.map fun p => .tup [.int (p.2 : Int), p.1]
section
variable {K : PySem.W.Frag} {pa : PaG} {W : WX} {te ta tb : TE} {de da db : DE}
theorem ItOk.mk0 {G : Hp} {J : It} {ds : List D} (h1 : ∀ i H, Ex G H → i < ds.length → J.go i H) (h2 : ∀ i H, Ex G H → ds.length ≤ i → J.stop i H)
    (h3 : ∀ i H x H', Ex G H → J.yld i H x H' → ∀ d, ds[i]? = some d → H' = H ∧ Rep K G x d) : ItOk K G J ds where
  go := h1
  stop := h2
  yld := fun i H x H' y G1 e1 e2 d hd => by
    obtain ⟨e, r⟩ := h3 i H x H' (e1.trans e2) y d hd
    subst e
    exact ⟨G1, Al.refl e2, r.mono e1⟩
theorem itOk_list {G : Hp} {a : Addr} {vs : List V} {ds : List D} (h : SqL K G a vs) (r : Reps K G vs ds) : ItOk K G (Itl K a) ds :=
  .mk0 (fun i H e hi => ⟨vs, vs[i]'(by rw [r.length]; exact hi), ex_l e h, by simp⟩) (fun i H e hi => ⟨vs, ex_l e h, by rw [r.length]; exact hi⟩)
    fun i H x H' e y d hd => by
      obtain ⟨e1, y⟩ := y
      obtain ⟨v, hv, rv⟩ := r.get hd
      have := y vs (ex_l e h)
      rw [hv] at this
      cases this
      exact ⟨e1, rv⟩
theorem itOk_tup {G : Hp} {a : Addr} {vs : List V} {ds : List D} (h : SqT K G a vs) (r : Reps K G vs ds) : ItOk K G (Itt K a) ds :=
  .mk0 (fun i H e hi => ⟨vs, vs[i]'(by rw [r.length]; exact hi), ex_t e h, by simp⟩) (fun i H e hi => ⟨vs, ex_t e h, by rw [r.length]; exact hi⟩)
    fun i H x H' e y d hd => by
      obtain ⟨e1, y⟩ := y
      obtain ⟨v, hv, rv⟩ := r.get hd
      have := y vs (ex_t e h)
      rw [hv] at this
      cases this
      exact ⟨e1, rv⟩
theorem itOk_str {G : Hp} (y : Str) : ItOk K G (Its y) (y.cps.toList.map fun c => .str ⟨#[c]⟩) :=
  .mk0 (fun i H e hi => by show i < y.cps.size; simpa using hi) (fun i H e hi => by show y.cps.size ≤ i; simpa using hi)
    fun i H x H' e h d hd => by
      obtain ⟨e1, c, hc, rfl⟩ := h
      rw [List.getElem?_map, Array.getElem?_toList, hc] at hd
      cases hd
      exact ⟨e1, .str _⟩
theorem itOk_rng {G : Hp} (lo : Int) (n : Nat) : ItOk K G (Itr lo n) ((List.range n).map fun (k : Nat) => .int (lo + (k : Int))) :=
  .mk0 (fun i H e hi => by show i < n; simpa using hi) (fun i H e hi => by show n ≤ i; simpa using hi)
    fun i H x H' e h d hd => by
      obtain ⟨e1, rfl⟩ := h
      rw [List.getElem?_map] at hd
      by_cases hi : i < n
      · rw [List.getElem?_range hi] at hd
        cases hd
        exact ⟨e1, .int _⟩
      · rw [List.getElem?_eq_none (by simpa using hi)] at hd
        cases hd
theorem enumD_get {ds : List D} {i : Nat} {d : D} (h : (enumD ds)[i]? = some d) : ∃ e, ds[i]? = some e ∧ d = .tup [.int (i : Int), e] := by
  unfold enumD at h
  rw [List.getElem?_map, List.getElem?_zipIdx] at h
  cases q : ds[i]? with
  | none => rw [q] at h; cases h
  | some e =>
    rw [q] at h
    simp at h
    exact ⟨e, rfl, h.symm⟩
theorem enumD_length (ds : List D) : (enumD ds).length = ds.length := by unfold enumD; simp
theorem itOk_enum {G : Hp} {a : Addr} {vs : List V} {ds : List D} (h : SqL K G a vs) (r : Reps K G vs ds) : ItOk K G (Ite K a) (enumD ds) where
  go := fun i H e hi => ⟨vs, vs[i]'(by rw [r.length, ← enumD_length]; exact hi), ex_l e h, by simp⟩
  stop := fun i H e hi => ⟨vs, ex_l e h, by rw [r.length, ← enumD_length]; exact hi⟩
  yld := fun i H x H' y G1 e1 e2 d hd => by
    obtain ⟨T, z, rfl, hT, rfl, hz⟩ := y
    obtain ⟨e, he, rfl⟩ := enumD_get hd
    obtain ⟨v, hv, rv⟩ := r.get he
    have := hz vs (ex_l (e1.trans e2) h)
    rw [hv] at this
    obtain rfl : v = z := Option.some.inj this
    have a := Al.one (G := G1) (p := T) (o := .tup [.int (i : Int), v]) e2 hT
    exact ⟨_, a, .tup (SqT.of upd_same) (.cons (.int _) (.cons ((rv.mono e1).mono a.g) .nil))⟩
theorem si_any (he : SE K pa W te de) : SI K pa W (iAny K te) (diAny de) := fun F G σ H ρ R q er S h k x =>
  he F G σ H ρ _ _ er S h (fun G1 H1 v t ρ1 e1 S1 r1 h1 => by
    cases t with
    | bor i => exact h1.elim
    | val d =>
      obtain ⟨ds, es, h2⟩ := h1
      have r1 : Rep K G1 v d := r1
      cases r1 with
      | lst hr rr => cases es; exact .inl ⟨_, rfl, ⟨_, ex_l S1.ex hr⟩, k G1 H1 _ ds ρ1 e1 S1 (itOk_list hr rr) h2⟩
      | tup hr rr => cases es; exact .inr (.inl ⟨_, rfl, ⟨_, ex_t S1.ex hr⟩, k G1 H1 _ ds ρ1 e1 S1 (itOk_tup hr rr) h2⟩)
      | str y => cases es; exact .inr (.inr ⟨y, rfl, k G1 H1 _ _ ρ1 e1 S1 (itOk_str y) h2⟩)
      | _ => cases es) x
theorem si_rng1 (he : SE K pa W te de) : SI K pa W (iRng1 (tCons te tNil)) (diRng1 de) := fun F G σ H ρ R q er S h k x =>
  he F G σ H ρ _ _ er S h (fun G1 H1 v t ρ1 e1 S1 r1 h1 => by
    obtain ⟨d, ed, h2⟩ := h1
    cases d with
    | int j =>
      rw [(S1.rdT r1 ed).int]
      have := itOk_rng (K := K) (G := G1) 0 j.toNat
      simp only [Int.zero_add] at this
      exact ⟨j, rfl, h2.1.1, h2.1.2, k G1 H1 _ _ ρ1 e1 S1 this h2.2⟩
    | _ => exact h2.elim) x
end
def forL (g : DG) (db : DS) (DD : Do) : List D → Ro → Prop
  | [], ρ => DD.nx ρ
  | d :: ds, ρ => g (.val d) ρ fun ρ1 => db { DD with nx := forL g db DD ds, ct := forL g db DD ds, bk := DD.nx } ρ1
def dFor (di : DI) (g : DG) (db : DS) : DS := fun DD ρ => di ρ (fun ds ρ1 => forL g db DD ds ρ1) DD.er
section
variable {K : PySem.W.Frag} {pa : PaG} {W : WX} {wi : TI} {di : DI} {g : TG} {dg : DG} {tb : TS} {db : DS} {ns : List Nat}
theorem ss_for (hi : SI K pa W wi di) (hg : SG K pa ns g dg) (hb : SS K pa W tb db) : SS K pa W (tFor wi g tb) (dFor di dg db) := fun F G σ H ρ D DD S h l =>
  hi F G σ H ρ _ _ _ S h (fun G1 H1 J ds ρ1 e1 S1 ok h1 => by
    refine ⟨fun i m σ' H' => m = ds.length - i ∧ i ≤ ds.length ∧ ∃ G2 ρ2, Ex G1 G2 ∧ Sim K pa F G2 σ' H' ρ2 ∧ forL dg db DD (ds.drop i) ρ2, ⟨_, rfl, Nat.zero_le _, G1, ρ1, Ex.refl G1, S1, h1⟩, ?_⟩
    rintro i m σ' H' ⟨rfl, hi, G2, ρ2, e2, S2, h2⟩
    by_cases hlt : i < ds.length
    · rw [List.drop_eq_getElem_cons hlt] at h2
      refine .inr ⟨ok.go i H' (e2.trans S2.ex) hlt, fun σ' H' => ∃ G2 ρ2, Ex G1 G2 ∧ Sim K pa F G2 σ' H' ρ2 ∧ forL dg db DD (ds.drop (i + 1)) ρ2,
        fun σ3 H3 hN => ⟨ds.length - (i + 1), by omega, rfl, hlt, hN⟩, fun x H3 hy => ?_⟩
      obtain ⟨G3, a, r⟩ := ok.yld i H' x H3 hy G2 e2 S2.ex ds[i] (by simp [hlt])
      have S3 := S2.al a
      refine hg F G3 σ' H3 ρ2 x (.val ds[i]) _ _ S3 r h2 fun G4 σ4 H4 ρ4 e4 S4 _ h4 => ?_
      have eG : Ex G1 G4 := (e2.trans a.g).trans e4
      refine hb F G4 σ4 H4 ρ4 _ _ S4 h4 ⟨fun G5 σ5 H5 ρ5 e5 S5 h5 => ⟨G5, ρ5, eG.trans e5, S5, h5⟩, fun G5 σ5 H5 ρ5 e5 S5 h5 => l.nx G5 σ5 H5 ρ5 ((e1.trans eG).trans e5) S5 h5,
        fun G5 σ5 H5 ρ5 e5 S5 h5 => ⟨G5, ρ5, eG.trans e5, S5, h5⟩, fun G5 σ5 H5 ρ5 v t e5 => l.rt G5 σ5 H5 ρ5 v t ((e1.trans eG).trans e5), fun G5 σ5 H5 ρ5 v t e5 => l.rf G5 σ5 H5 ρ5 v t ((e1.trans eG).trans e5),
        fun G5 σ5 H5 ρ5 C y vs fs e5 => l.er G5 σ5 H5 ρ5 C y vs fs ((e1.trans eG).trans e5)⟩
    · have e : i = ds.length := by omega
      subst e
      rw [List.drop_length] at h2
      exact .inl ⟨ok.stop _ H' (e2.trans S2.ex) (Nat.le_refl _), l.nx G2 σ' H' ρ2 (e1.trans e2) S2 h2⟩) (l.xl σ)
end
def wipeD (ρ : Ro) : List Nat → Ro
  | [] => ρ
  | v :: vs => (wipeD ρ vs).set v .no
def lcL (g : DG) (t : DT) (de : DE) (vs : List Nat) (q : List D → Ro → Prop) : List D → List D → Ro → Prop
  | [], acc, ρ => q acc ρ
  | d :: ds, acc, ρ => g (.val d) (wipeD ρ vs) fun ρ1 => t ρ1 (fun b ρ2 => if b = true then de ρ2 (fun s ρ3 => match s with
      | .val y => acc.length < sizeLine ∧ lcL g t de vs q ds (acc ++ [y]) (wipeD ρ3 vs)
      | .bor _ => False) (fun _ _ _ => False) else lcL g t de vs q ds acc (wipeD ρ2 vs)) (fun _ _ _ => False)
def dLc (di : DI) (g : DG) (t : DT) (de : DE) (vs : List Nat) : DF := fun ρ q er => di ρ (fun ds ρ1 => lcL g t de vs (fun acc ρ2 => q (.lst acc) ρ2) ds [] ρ1) er
section
variable {K : PySem.W.Frag} {pa : PaG} {W : WX} {F G H : Hp} {σ : RSt} {ρ : Ro}
theorem wipeD_get (ρ : Ro) (j : Nat) : ∀ vs : List Nat, (wipeD ρ vs)[j]? = if j ∈ vs then (if j < ρ.length then some .no else none) else ρ[j]?
  | [] => by simp [wipeD]
  | v :: vs => by
    have ih := wipeD_get ρ j vs
    have hl : ∀ vs : List Nat, (wipeD ρ vs).length = ρ.length := by
      intro vs
      induction vs with
      | nil => rfl
      | cons a vs ih => unfold wipeD; rw [List.length_set, ih]
    unfold wipeD
    by_cases h : v = j
    · subst h
      rw [List.getElem?_set, if_pos rfl, hl, if_pos (List.mem_cons_self)]
    · rw [List.getElem?_set_ne h, ih]
      by_cases h2 : j ∈ vs
      · rw [if_pos h2, if_pos (List.mem_cons_of_mem _ h2)]
      · rw [if_neg h2, if_neg (fun z => by rcases List.mem_cons.mp z with z | z; exact h z.symm; exact h2 z)]
theorem wipeD_length (ρ : Ro) : ∀ vs : List Nat, (wipeD ρ vs).length = ρ.length
  | [] => rfl
  | v :: vs => by unfold wipeD; rw [List.length_set, wipeD_length ρ vs]
theorem wipeD_some {vs : List Nat} {j : Nat} {s : Sl} (h : (wipeD ρ vs)[j]? = some s) (hs : s ≠ .no) : j ∉ vs ∧ ρ[j]? = some s := by
  rw [wipeD_get] at h
  by_cases hj : j ∈ vs
  · rw [if_pos hj] at h
    split at h
    · cases h; exact absurd rfl hs
    · cases h
  · rw [if_neg hj] at h; exact ⟨hj, h⟩
theorem Sim.wipeTo {σ' : RSt} {vs : List Nat} (S : Sim K pa F G σ H ρ) (h : wipe σ vs = wipe σ' vs) : Sim K pa F G σ' H (wipeD ρ vs) := by
  have hl : σ.length = σ'.length := by rw [← wipe_length σ vs, h, wipe_length]
  have get : ∀ j, j ∉ vs → σ[j]? = σ'[j]? := fun j hj => by
    have := congrArg (fun l => l[j]?) h
    simp only [wipe_get, if_neg hj] at this
    exact this
  have ne : ∀ {s : Sl} {d : D}, s.ownD = some d → s ≠ .no := fun {s d} e z => by subst z; cases e
  exact {
    len := by rw [wipeD_length, S.len, hl]
    ex := S.ex
    fx := S.fx
    dj := S.dj
    ofr := fun i s d p e hd hs => by
      obtain ⟨hi, e⟩ := wipeD_some e (ne hd)
      rw [← get i hi] at hs; exact S.ofr i s d p e hd hs
    val := fun i d e => by
      obtain ⟨hi, e⟩ := wipeD_some e (fun z => by cases z)
      rw [← get i hi]; exact S.val i d e
    own := fun i s d e hd => by
      obtain ⟨hi, e⟩ := wipeD_some e (ne hd)
      rw [← get i hi]; exact S.own i s d e hd
    par := fun i d e => by
      obtain ⟨hi, e⟩ := wipeD_some e (fun z => by cases z)
      rw [← get i hi]; exact S.par i d e
    gx := S.gx
    dis := fun i j s t d e p hij h1 h2 h3 h4 h5 h6 => by
      obtain ⟨hi, h1⟩ := wipeD_some h1 (ne h2)
      obtain ⟨hj, h3⟩ := wipeD_some h3 (ne h4)
      rw [← get i hi] at h5
      rw [← get j hj] at h6
      exact S.dis i j s t d e p hij h1 h2 h3 h4 h5 h6 }
theorem Sim.frameIn {D : Addr} {o : HO} (S : Sim K pa F G σ H ρ) (gD : G D = none) (hD : H D = some o) (nc : NoCode o) (fr : ∀ (i : Nat) (s : Sl) (d : DL.D), ρ[i]? = some s → s.ownD = some d → σ[i]? ≠ some (some (.ref D))) : Sim K pa (upd F D o) G σ H ρ where
  len := S.len
  ex := S.ex
  fx := fun b u q => by
    by_cases hb : b = D
    · subst hb; rw [upd_same] at q; cases q; exact hD
    · rw [upd_ne hb] at q; exact S.fx b u q
  dj := S.dj.fadd nc gD (S.dj.ne hD nc)
  val := S.val
  own := S.own
  ofr := fun i s d p h1 h2 h3 => by rw [upd_ne (fun z => fr i s d h1 h2 (by rw [h3, z]))]; exact S.ofr i s d p h1 h2 h3
  par := S.par
  gx := S.gx
  dis := S.dis
theorem xl_none {W : WX} {σ : RSt} : XL K pa F G W σ (fun _ _ _ => False) := fun _ _ _ _ _ _ _ _ _ h => h.elim
theorem sf_lc {wi : TI} {di : DI} {g : TG} {dg : DG} {tt : TT} {dt : DT} {te : TE} {de : DE} {vs ns : List Nat} (hn : ∀ i ∈ ns, i ∈ vs) (hi : SI K pa W wi di) (hg : SG K pa ns g dg) (ht : ST K pa W tt dt) (he : SE K pa W te de) : SF K pa W (tLc wi g tt te vs) (dLc di dg dt de vs) := fun F G σ H ρ Q q er S h k x =>
  hi F G σ H ρ _ _ _ S h (fun G1 H1 J ds ρ1 e1 S1 ok h1 => by
    intro D hD
    have fF : F D = none := fresh_back S1.fx hD
    have S1' : Sim K pa F G1 σ (upd H1 D (.lst [])) ρ1 := S1.new hD
    refine ⟨fun i m H' => m = ds.length - i ∧ i ≤ ds.length ∧ ∃ G2 ρ2 acc av, Ex G1 G2 ∧ Sim K pa F G2 σ H' ρ2 ∧ G2 D = none ∧ H' D = some (.lst av) ∧ Reps K G2 av acc ∧ (∀ (i : Nat) (s : Sl) (d : DL.D), ρ2[i]? = some s → s.ownD = some d → σ[i]? ≠ some (some (.ref D))) ∧ lcL dg dt de vs (fun acc ρ2 => q (.lst acc) ρ2) (ds.drop i) acc ρ2,
      ⟨_, rfl, Nat.zero_le _, G1, ρ1, [], [], Ex.refl G1, S1', fresh_back S1.ex hD, upd_same, .nil, fresh_no S1 hD, h1⟩, ?_⟩
    rintro i m H' ⟨rfl, hi, G2, ρ2, acc, av, e2, S2, gD, hHD, ra, fr, h2⟩
    by_cases hlt : i < ds.length
    · rw [List.drop_eq_getElem_cons hlt] at h2
      refine .inr ⟨ok.go i H' (e2.trans S2.ex) hlt, fun H' => ∃ G2 ρ2 acc av, Ex G1 G2 ∧ Sim K pa F G2 σ H' ρ2 ∧ G2 D = none ∧ H' D = some (.lst av) ∧ Reps K G2 av acc ∧ (∀ (i : Nat) (s : Sl) (d : DL.D), ρ2[i]? = some s → s.ownD = some d → σ[i]? ≠ some (some (.ref D))) ∧ lcL dg dt de vs (fun acc ρ2 => q (.lst acc) ρ2) (ds.drop (i + 1)) acc ρ2,
        fun H3 hN => ⟨ds.length - (i + 1), by omega, rfl, hlt, hN⟩, fun x H3 hy => ?_⟩
      obtain ⟨G3, a, r⟩ := ok.yld i H' x H3 hy G2 e2 S2.ex ds[i] (by simp [hlt])
      have hD3 : H3 D = some (.lst av) := a.h D _ hHD
      have S3 : Sim K pa (upd F D (.lst av)) G3 (wipe σ vs) H3 (wipeD ρ2 vs) := ((S2.al a).frameIn (a.n D gD (by rw [hHD]; simp)) hD3 noCode_lst fr).wipeTo wipe_wipe.symm
      refine hg _ G3 _ H3 _ x (.val ds[i]) _ _ S3 r h2 fun G4 σ4 H4 ρ4 e4 S4 w4 h4 => ?_
      have ws : wipe σ4 vs = wipe σ vs := by rw [w4 vs hn, wipe_wipe]
      refine ⟨ws, ht _ G4 σ4 H4 ρ4 _ _ _ S4 h4 (fun G5 H5 b ρ5 e5 S5 h5 => ?_) xl_none⟩
      have back : ∀ {G6 H6 : Hp} {ρ6 : Ro}, Sim K pa (upd F D (.lst av)) G6 σ4 H6 ρ6 → H6 D = some (.lst av) ∧ G6 D = none ∧ Sim K pa F G6 σ H6 (wipeD ρ6 vs) ∧ (∀ (i : Nat) (s : Sl) (d : DL.D), (wipeD ρ6 vs)[i]? = some s → s.ownD = some d → σ[i]? ≠ some (some (.ref D))) := fun {G6 H6 ρ6} S6 => by
        have S7 := S6.wipeTo (σ' := σ) ws
        refine ⟨S6.fx D _ upd_same, S6.dj D _ upd_same, S7.frame (Ex.new fF), fun i s d h1 h2 h3 => ?_⟩
        have := S7.ofr i s d D h1 h2 h3
        rw [upd_same] at this
        cases this
      cases b with
      | false =>
        obtain ⟨b1, b2, b3, b4⟩ := back S5
        exact ⟨G5, _, acc, av, ((e2.trans a.g).trans e4).trans e5, b3, b2, b1, ra.mono ((a.g.trans e4).trans e5), b4, h5⟩
      | true =>
        refine he _ G5 σ4 H5 ρ5 _ _ _ S5 h5 (fun G6 H6 y s ρ6 e6 S6 r6 h6 => ?_) xl_none
        obtain ⟨b1, b2, b3, b4⟩ := back S6
        cases s with
        | bor _ => exact h6.elim
        | val dy =>
          have ra6 := ra.mono (((a.g.trans e4).trans e5).trans e6)
          refine ⟨av, b1, by rw [ra.length]; exact h6.1, G6, _, acc ++ [dy], av ++ [y], (((e2.trans a.g).trans e4).trans e5).trans e6, ?_, b2, upd_same, ra6.append (.cons r6 .nil), b4, h6.2⟩
          refine b3.grow (Ex.refl G6) (fun b o q => ?_) (fun b o q => ?_) (b3.dj.mut b1 noCode_lst) fun i s d p h1 h2 h3 => ⟨?_, ?_⟩
          · rw [upd_ne (fun z => by rw [z, b2] at q; cases q)]; exact b3.ex b o q
          · rw [upd_ne (fun z => by rw [z, fF] at q; cases q)]; exact b3.fx b o q
          · obtain ⟨b', q1, q2, _⟩ := b3.own i s d h1 h2
            rw [h3] at q1
            cases q1
            exact q2
          · exact upd_ne fun z => b4 i s d h1 h2 (by rw [h3, z])
    · have e : i = ds.length := by omega
      subst e
      rw [List.drop_length] at h2
      exact .inl ⟨ok.stop _ H' (e2.trans S2.ex) (Nat.le_refl _), k G2 H' D (.lst acc) ρ2 (e1.trans e2) S2 ⟨gD, fF⟩ ⟨av, hHD, ra⟩ fr h2⟩) x
end
end DL
namespace DL
open PySem L2 Evl
abbrev DSp := List Sl → (D → List D → Prop) → (Addr → List (Str × D) → List D → Prop) → Prop
def outs (ρ : Ro) : List Nat → Option (List D)
  | [] => some []
  | i :: is => match ρ[i]? with
    | some (.par d) => (outs ρ is).map fun ds => d :: ds
    | _ => none
def parIx : List Sl → Nat → List Nat
  | [], _ => []
  | .par _ :: r, i => i :: parIx r (i + 1)
  | _ :: r, i => parIx r (i + 1)
inductive Outs (K : PySem.W.Frag) (G H : Hp) : List V → List Sl → List D → Prop
  | nil : Outs K G H [] [] []
  | val {v : V} {d : D} {vs : List V} {av : List Sl} {os : List D} : Outs K G H vs av os → Outs K G H (v :: vs) (.val d :: av) os
  | par {p : Addr} {d e : D} {vs : List V} {av : List Sl} {os : List D} : G p = none → OwnAt K G H p e → Outs K G H vs av os → Outs K G H (.ref p :: vs) (.par d :: av) (e :: os)
inductive ArgsR (K : PySem.W.Frag) (F G H : Hp) : List V → List Sl → Prop
  | nil : ArgsR K F G H [] []
  | val {v : V} {d : D} {vs : List V} {av : List Sl} : Rep K G v d → ArgsR K F G H vs av → ArgsR K F G H (v :: vs) (.val d :: av)
  | par {p : Addr} {d : D} {vs : List V} {av : List Sl} : G p = none → F p = none → OwnAt K G H p d → ArgsR K F G H vs av → ArgsR K F G H (.ref p :: vs) (.par d :: av)
def parA : V → Sl → List Addr
  | .ref p, .par _ => [p]
  | _, _ => []
def parsOf : List V → List Sl → List Addr
  | v :: vs, a :: av => parA v a ++ parsOf vs av
  | _, _ => []
def SpV (K : PySem.W.Frag) (n : Nat) (dsp : DSp) : Sp := fun vs H Q E => ∃ T F G av, vs.length = n ∧ Ex G H ∧ Ex F H ∧ DjT T F G H ∧ ArgsR K F G H vs av ∧ (parsOf vs av).Nodup ∧ ∃ q er, dsp av q er ∧
  (∀ G' H' v d os, Ex G G' → Ex G' H' → Ex F H' → DjT T F G' H' → Outs K G' H' vs av os → Rep K G' v d → q d os → Q v H') ∧
  (∀ G' H' C y fv fs os, Ex G G' → Ex G' H' → Ex F H' → DjT T F G' H' → Outs K G' H' vs av os → G' y = some (.xd fv) → RepF K G' fv fs → er C fs os → E (.ref C) (some y) H')
def SpF (K : PySem.W.Frag) (n : Nat) (dsp : DSp) : Sp := fun vs H Q E => ∃ T F G av, vs.length = n ∧ Ex G H ∧ Ex F H ∧ DjT T F G H ∧ ArgsR K F G H vs av ∧ (parsOf vs av).Nodup ∧ ∃ q er, dsp av q er ∧
  (∀ G' H' p d os, Ex G G' → Ex G' H' → Ex F H' → DjT T F G' H' → Outs K G' H' vs av os → G' p = none → F p = none → p ∉ parsOf vs av → OwnAt K G' H' p d → q d os → Q (.ref p) H') ∧
  (∀ G' H' C y fv fs os, Ex G G' → Ex G' H' → Ex F H' → DjT T F G' H' → Outs K G' H' vs av os → G' y = some (.xd fv) → RepF K G' fv fs → er C fs os → E (.ref C) (some y) H')
def doV (av : List Sl) (q : D → List D → Prop) (er : Addr → List (Str × D) → List D → Prop) : Do where
  nx := fun ρ => Opt (outs ρ (parIx av 0)) fun os => q .non os
  rt := fun t ρ => match t with
    | .val d => Opt (outs ρ (parIx av 0)) fun os => q d os
    | .bor _ => False
  er := fun C fs ρ => Opt (outs ρ (parIx av 0)) fun os => er C fs os
def dBody (N : Nat) (body : DS) : DSp := fun av q er => body (doV av q er) (av ++ List.replicate (N - av.length) .no)
def doF (av : List Sl) (q : D → List D → Prop) (er : Addr → List (Str × D) → List D → Prop) : Do where
  nx := fun _ => False
  rt := fun t ρ => match t with
    | .val _ => False
    | .bor i => match ρ[i]? with
      | some (.own d) => Opt (outs ρ (parIx av 0)) fun os => q d os
      | _ => False
  rf := fun d ρ => Opt (outs ρ (parIx av 0)) fun os => q d os
  er := fun C fs ρ => Opt (outs ρ (parIx av 0)) fun os => er C fs os
def dBodyF (N : Nat) (body : DS) : DSp := fun av q er => body (doF av q er) (av ++ List.replicate (N - av.length) .no)
section
variable {K : PySem.W.Frag} {F G H : Hp}
def paF (vs : List V) (i : Nat) : Addr := match vs[i]? with
  | some (.ref p) => p
  | _ => 0
def paOf (vs : List V) (T : List (Addr × Str) := []) : PaG := ⟨paF vs, fun _ => none, T⟩
theorem ArgsR.length : ∀ {vs : List V} {av : List Sl}, ArgsR K F G H vs av → vs.length = av.length
  | _, _, .nil => rfl
  | _, _, .val _ r => by rw [List.length_cons, List.length_cons, r.length]
  | _, _, .par _ _ _ r => by rw [List.length_cons, List.length_cons, r.length]
theorem ArgsR.get : ∀ {vs : List V} {av : List Sl} {i : Nat} {s : Sl}, ArgsR K F G H vs av → av[i]? = some s → ∃ v, vs[i]? = some v ∧ ((∃ d, s = .val d ∧ Rep K G v d) ∨ ∃ d p, s = .par d ∧ v = .ref p ∧ G p = none ∧ F p = none ∧ OwnAt K G H p d)
  | _, _, _, _, .nil, e => by simp at e
  | _, _, 0, _, .val h _, e => by simp at e; subst e; exact ⟨_, rfl, .inl ⟨_, rfl, h⟩⟩
  | _, _, 0, _, .par h1 h2 h3 _, e => by simp at e; subst e; exact ⟨_, rfl, .inr ⟨_, _, rfl, rfl, h1, h2, h3⟩⟩
  | _, _, i + 1, _, .val _ r, e => by
    obtain ⟨v, h1, h2⟩ := ArgsR.get (i := i) r (by simpa using e)
    exact ⟨v, by simpa using h1, h2⟩
  | _, _, i + 1, _, .par _ _ _ r, e => by
    obtain ⟨v, h1, h2⟩ := ArgsR.get (i := i) r (by simpa using e)
    exact ⟨v, by simpa using h1, h2⟩
theorem parsOf_mem : ∀ {vs : List V} {av : List Sl} {i : Nat} {d : D} {p : Addr}, av[i]? = some (.par d) → vs[i]? = some (.ref p) → p ∈ parsOf vs av
  | [], _, _, _, _, _, h => by simp at h
  | _ :: _, [], _, _, _, h, _ => by simp at h
  | v :: vs, a :: av, 0, d, p, h1, h2 => by
    simp at h1 h2
    subst h1 h2
    exact List.mem_append_left _ List.mem_cons_self
  | v :: vs, a :: av, i + 1, d, p, h1, h2 => List.mem_append_right _ (parsOf_mem (vs := vs) (av := av) (i := i) (d := d) (p := p) (by simpa using h1) (by simpa using h2))
theorem parsOf_dis : ∀ {vs : List V} {av : List Sl} {i j : Nat} {d e : D} {p : Addr}, (parsOf vs av).Nodup → i ≠ j → av[i]? = some (.par d) → av[j]? = some (.par e) → vs[i]? = some (.ref p) → vs[j]? = some (.ref p) → False
  | [], _, _, _, _, _, _, _, _, _, _, h, _ => by simp at h
  | _ :: _, [], _, _, _, _, _, _, _, h, _, _, _ => by simp at h
  | v :: vs, a :: av, 0, 0, d, e, p, hn, h, _, _, _, _ => h rfl
  | v :: vs, a :: av, 0, j + 1, d, e, p, hn, _, h1, h2, h3, h4 => by
    simp at h1 h3
    subst h1 h3
    have := parsOf_mem (vs := vs) (av := av) (i := j) (d := e) (p := p) (by simpa using h2) (by simpa using h4)
    have hn : ([p] ++ parsOf vs av).Nodup := hn
    exact (List.nodup_cons.mp hn).1 this
  | v :: vs, a :: av, i + 1, 0, d, e, p, hn, _, h1, h2, h3, h4 => by
    simp at h2 h4
    subst h2 h4
    have := parsOf_mem (vs := vs) (av := av) (i := i) (d := d) (p := p) (by simpa using h1) (by simpa using h3)
    have hn : ([p] ++ parsOf vs av).Nodup := hn
    exact (List.nodup_cons.mp hn).1 this
  | v :: vs, a :: av, i + 1, j + 1, d, e, p, hn, hij, h1, h2, h3, h4 => by
    have hn : (parA v a ++ parsOf vs av).Nodup := hn
    exact parsOf_dis (vs := vs) (av := av) (i := i) (j := j) (List.nodup_append.mp hn).2.1 (fun z => hij (by rw [z])) (by simpa using h1) (by simpa using h2) (by simpa using h3) (by simpa using h4)
theorem start_get {N : List Str} {vs : List V} {i : Nat} {v : V} (h : vs[i]? = some v) : (L2.start N vs)[i]? = some (some v) := by
  unfold L2.start
  have hi : i < vs.length := (List.getElem?_eq_some_iff.mp h).1
  rw [List.getElem?_append_left (by simpa using hi), List.getElem?_map, h]
  rfl
theorem args_get {av : List Sl} {n i : Nat} {s : Sl} (h : (av ++ List.replicate n .no)[i]? = some s) (hs : s ≠ .no) : av[i]? = some s := by
  by_cases hi : i < av.length
  · rw [List.getElem?_append_left hi] at h; exact h
  · rw [List.getElem?_append_right (by omega)] at h
    rw [List.getElem?_replicate] at h
    split at h
    · cases h; exact absurd rfl hs
    · cases h
theorem sim_start {T : List (Addr × Str)} {N : List Str} {vs : List V} {av : List Sl} (eg : Ex G H) (ef : Ex F H) (dj : DjT T F G H) (r : ArgsR K F G H vs av) (nd : (parsOf vs av).Nodup) (hN : vs.length ≤ N.length) :
    Sim K (paOf vs T) F G (L2.start N vs) H (av ++ List.replicate (N.length - av.length) .no) := by
  have own : ∀ (i : Nat) (s : Sl) (d : D), (av ++ List.replicate (N.length - av.length) .no)[i]? = some s → s.ownD = some d → av[i]? = some (.par d) ∧ ∃ p, vs[i]? = some (.ref p) ∧ G p = none ∧ F p = none ∧ OwnAt K G H p d := fun i s d h hd => by
    have h := args_get h (fun z => by subst z; cases hd)
    obtain ⟨v, hv, q⟩ := r.get h
    rcases q with ⟨d', rfl, _⟩ | ⟨d', p, rfl, rfl, h1, h2, h3⟩
    · cases hd
    · cases hd; exact ⟨h, p, hv, h1, h2, h3⟩
  refine ⟨?_, eg, ef, dj, fun i d h => ?_, fun i s d h hd => ?_, fun i s d p h hd hp => ?_, fun i d h => ?_, fun _ _ q => (by cases q), fun i j s t d e p hij h1 h2 h3 h4 h5 h6 => ?_⟩
  · unfold L2.start
    rw [List.length_append, List.length_append, List.length_map, List.length_replicate, List.length_replicate, r.length]
  · have h := args_get h (fun z => by cases z)
    obtain ⟨v, hv, q⟩ := r.get h
    rcases q with ⟨d', e, hr⟩ | ⟨d', p, e, _⟩
    · cases e; exact ⟨v, start_get hv, hr⟩
    · cases e
  · obtain ⟨_, p, h1, h2, h3, h4⟩ := own i s d h hd
    exact ⟨p, start_get h1, h2, h4⟩
  · obtain ⟨_, p', h1, h2, h3, h4⟩ := own i s d h hd
    have := start_get (N := N) h1
    rw [hp] at this
    cases this
    exact h3
  · obtain ⟨_, p', h1, h2, h3, h4⟩ := own i _ d h rfl
    rw [start_get h1, show (paOf vs T).f i = paF vs i from rfl]
    unfold paF
    rw [h1]
  · obtain ⟨a1, p1, b1, _⟩ := own i s d h1 h2
    obtain ⟨a2, p2, b2, _⟩ := own j t e h3 h4
    have c1 := start_get (N := N) b1
    have c2 := start_get (N := N) b2
    rw [h5] at c1
    rw [h6] at c2
    cases c1
    cases c2
    exact parsOf_dis nd hij a1 a2 b1 b2
theorem outs_end {T : List (Addr × Str)} {G' H' : Hp} {σ' : RSt} {ρ' : Ro} {vs0 : List V} (S : Sim K (paOf vs0 T) F G' σ' H' ρ') : ∀ {vs : List V} {av : List Sl} {k : Nat} {os : List D}, ArgsR K F G H vs av → (∀ i v, vs[i]? = some v → vs0[i + k]? = some v) → outs ρ' (parIx av k) = some os → Outs K G' H' vs av os
  | _, _, _, _, .nil, _, e => by cases e; exact .nil
  | _, _, k, _, .val _ r, h0, e => .val (outs_end S (k := k + 1) r (fun i v h => by have := h0 (i + 1) v (by simpa using h); rw [Nat.add_assoc, Nat.add_comm 1 k] at this; exact this) e)
  | .ref p :: vs, .par d0 :: av, k, os, .par h1 h2 h3 r, h0, e => by
    unfold parIx outs at e
    cases q : ρ'[k]? with
    | none => rw [q] at e; cases e
    | some s =>
      rw [q] at e
      cases s with
      | par d =>
        have e : (outs ρ' (parIx av (k + 1))).map (fun ds => d :: ds) = some os := e
        cases q2 : outs ρ' (parIx av (k + 1)) with
        | none => rw [q2] at e; cases e
        | some os' =>
          rw [q2] at e
          cases e
          obtain ⟨b, b1, b2, b3⟩ := S.own k _ d q rfl
          have b4 := S.par k d q
          have h00 := h0 0 _ rfl
          rw [Nat.zero_add] at h00
          rw [b4] at b1
          cases b1
          have ep : (paOf vs0 T).f k = p := by rw [show (paOf vs0 T).f k = paF vs0 k from rfl]; unfold paF; rw [h00]
          rw [ep] at b2 b3
          exact .par b2 b3 (outs_end S (k := k + 1) r (fun i v h => by have := h0 (i + 1) v (by simpa using h); rw [Nat.add_assoc, Nat.add_comm 1 k] at this; exact this) q2)
      | _ => cases e
theorem bodyV {N : List Str} {n : Nat} {ts : TS} {ds : DS} {vs : List V} {Q : VK} {E : XK} (h : ∀ T, SS K (paOf vs T) (fun cls d _ H => E cls d H) ts ds) (hn : n ≤ N.length) (hs : SpV K n (dBody N.length ds) vs H Q E) :
    ts { nx := fun _ H' => Q .non H', rt := Q } (L2.start N vs) H := by
  obtain ⟨T, F, G, av, hl, eg, ef, dj, r, nd, q, er, hd, kq, ke⟩ := hs
  have S := sim_start (N := N) eg ef dj r nd (by omega)
  have fin : ∀ {G' H' : Hp} {σ' : RSt} {ρ' : Ro} {os : List D}, Sim K (paOf vs T) F G' σ' H' ρ' → outs ρ' (parIx av 0) = some os → Outs K G' H' vs av os := fun {G' H' σ' ρ' os} S' e => outs_end S' r (fun i v h => h) e
  refine h T F G _ H _ _ _ S hd ⟨fun G' σ' H' ρ' e S' q' => ?_, fun _ _ _ _ _ _ q' => q'.elim, fun _ _ _ _ _ _ q' => q'.elim, fun G' σ' H' ρ' v t e S' r' q' => ?_, fun _ _ _ _ _ _ _ _ _ _ _ q' => q'.elim, fun G' σ' H' ρ' C d vs' fs e S' q' h1 h2 => ?_⟩
  · obtain ⟨os, eo, q'⟩ := q'
    exact kq G' H' .non .non os e S'.ex S'.fx S'.dj (fin S' eo) .non q'
  · cases t with
    | bor i => exact q'.elim
    | val d =>
      obtain ⟨os, eo, q'⟩ := q'
      exact kq G' H' v d os e S'.ex S'.fx S'.dj (fin S' eo) r' q'
  · obtain ⟨os, eo, q'⟩ := q'
    exact ke G' H' C d vs' fs os e S'.ex S'.fx S'.dj (fin S' eo) h1 h2 q'
theorem par_in : ∀ {vs : List V} {av : List Sl} {p : Addr}, ArgsR K F G H vs av → p ∈ parsOf vs av → ∃ (i : Nat) (d : D), av[i]? = some (Sl.par d) ∧ vs[i]? = some (V.ref p)
  | _, _, p, .nil, h => by cases h
  | v :: vs, .val d :: av, p, .val _ r, h => by
    have e : parA v (.val d) = [] := by cases v <;> rfl
    unfold parsOf at h
    rw [e, List.nil_append] at h
    obtain ⟨i, d', h1, h2⟩ := par_in r h
    exact ⟨i + 1, d', by simpa using h1, by simpa using h2⟩
  | .ref b :: vs, .par d :: av, p, .par _ _ _ r, h => by
    have h : p ∈ [b] ++ parsOf vs av := h
    rcases List.mem_append.mp h with h | h
    · have : p = b := by simpa using h
      subst this
      exact ⟨0, d, rfl, rfl⟩
    · obtain ⟨i, d', h1, h2⟩ := par_in r h
      exact ⟨i + 1, d', by simpa using h1, by simpa using h2⟩
theorem outs_at {ρ : Ro} : ∀ {av : List Sl} {k i : Nat} {d : D} {os : List D}, outs ρ (parIx av k) = some os → av[i]? = some (.par d) → ∃ e, ρ[i + k]? = some (.par e)
  | [], _, _, _, _, _, h => by simp at h
  | a :: av, k, i, d, os, h, ha => by
    cases i with
    | zero =>
      simp at ha
      subst ha
      unfold parIx outs at h
      rw [Nat.zero_add]
      cases q : ρ[k]? with
      | none => rw [q] at h; cases h
      | some s =>
        rw [q] at h
        cases s with
        | par e => exact ⟨e, rfl⟩
        | _ => cases h
    | succ i =>
      have ha : av[i]? = some (.par d) := by simpa using ha
      have hk : ∃ os', outs ρ (parIx av (k + 1)) = some os' := by
        cases a with
        | par e =>
          unfold parIx outs at h
          cases q : ρ[k]? with
          | none => rw [q] at h; cases h
          | some s =>
            rw [q] at h
            cases s with
            | par e =>
              have h : (outs ρ (parIx av (k + 1))).map (fun ds => e :: ds) = some os := h
              cases q2 : outs ρ (parIx av (k + 1)) with
              | none => rw [q2] at h; cases h
              | some os' => exact ⟨os', rfl⟩
            | _ => cases h
        | _ => exact ⟨os, h⟩
      obtain ⟨os', h'⟩ := hk
      obtain ⟨e, he⟩ := outs_at h' ha
      exact ⟨e, by rw [Nat.add_assoc, Nat.add_comm 1 k]; exact he⟩
theorem bodyF {N : List Str} {n : Nat} {ts : TS} {ds : DS} {vs : List V} {Q : VK} {E : XK} (h : ∀ T, SS K (paOf vs T) (fun cls d _ H => E cls d H) ts ds) (hn : n ≤ N.length) (hs : SpF K n (dBodyF N.length ds) vs H Q E) :
    ts { nx := fun _ H' => Q .non H', rt := Q } (L2.start N vs) H := by
  obtain ⟨T, F, G, av, hl, eg, ef, dj, r, nd, q, er, hd, kq, ke⟩ := hs
  have S := sim_start (N := N) eg ef dj r nd (by omega)
  have fin : ∀ {G' H' : Hp} {σ' : RSt} {ρ' : Ro} {os : List D}, Sim K (paOf vs T) F G' σ' H' ρ' → outs ρ' (parIx av 0) = some os → Outs K G' H' vs av os := fun {G' H' σ' ρ' os} S' e => outs_end S' r (fun i v h => h) e
  have notin : ∀ {G' H' : Hp} {σ' : RSt} {ρ' : Ro} {os : List D} {p : Addr}, Sim K (paOf vs T) F G' σ' H' ρ' → outs ρ' (parIx av 0) = some os → (∀ (i : Nat) (e : D), ρ'[i]? = some (.par e) → σ'[i]? ≠ some (some (.ref p))) → p ∉ parsOf vs av := fun {G' H' σ' ρ' os p} S' eo hp hm => by
    obtain ⟨i, d, h1, h2⟩ := par_in r hm
    obtain ⟨e, he⟩ := outs_at eo h1
    rw [Nat.add_zero] at he
    refine hp i e he ?_
    rw [S'.par i e he, show (paOf vs T).f i = paF vs i from rfl]
    unfold paF
    rw [h2]
  refine h T F G _ H _ _ _ S hd ⟨fun _ _ _ _ _ _ q' => q'.elim, fun _ _ _ _ _ _ q' => q'.elim, fun _ _ _ _ _ _ q' => q'.elim, fun G' σ' H' ρ' v t e S' r' q' => ?_, fun G' σ' H' ρ' p d e S' gp ow fr q' => ?_, fun G' σ' H' ρ' C d vs' fs e S' q' h1 h2 => ?_⟩
  · cases t with
    | val d => exact q'.elim
    | bor i =>
      have q' : (match ρ'[i]? with | some (.own d) => Opt (outs ρ' (parIx av 0)) fun os => q d os | _ => False) := q'
      have r' : σ'[i]? = some (some v) := r'
      cases ei : ρ'[i]? with
      | none => rw [ei] at q'; exact q'.elim
      | some s =>
        rw [ei] at q'
        cases s with
        | own d =>
          obtain ⟨os, eo, q'⟩ := q'
          obtain ⟨p, h1, h2, h3⟩ := S'.own i _ d ei rfl
          rw [r'] at h1
          cases h1
          exact kq G' H' p d os e S'.ex S'.fx S'.dj (fin S' eo) h2 (S'.ofr i _ d p ei rfl r') (notin S' eo fun j e' hj hp => S'.dis i j _ _ d e' p (fun z => by subst z; rw [ei] at hj; cases hj) ei rfl hj rfl r' hp) h3 q'
        | _ => exact q'.elim
  · obtain ⟨os, eo, q'⟩ := q'
    exact kq G' H' p d os e S'.ex S'.fx S'.dj (fin S' eo) gp.1 gp.2 (notin S' eo fun j e' hj hp => fr j _ e' hj rfl hp) ow q'
  · obtain ⟨os, eo, q'⟩ := q'
    exact ke G' H' C d vs' fs os e S'.ex S'.fx S'.dj (fin S' eo) h1 h2 q'
end
end DL
namespace DL
open PySem L2 Evl
def argsOf (ρ : Ro) : List T → Option (List Sl)
  | [] => some []
  | .val d :: ts => (argsOf ρ ts).map fun a => .val d :: a
  | .bor i :: ts => (rd ρ (.bor i)).bind fun d => (argsOf ρ ts).map fun a => .par d :: a
def bors : List T → List Nat
  | [] => []
  | .val _ :: ts => bors ts
  | .bor i :: ts => i :: bors ts
def Sl.setD (e : D) : Sl → Sl
  | .own _ => .own e
  | .par _ => .par e
  | s => s
def setD (ρ : Ro) (i : Nat) (e : D) : Ro := match ρ[i]? with
  | some s => ρ.set i (s.setD e)
  | none => ρ
def putOuts : Ro → List Nat → List D → Ro
  | ρ, i :: is, e :: es => putOuts (setD ρ i e) is es
  | ρ, _, _ => ρ
def dCall (dsp : DSp) (da : DA) : DE := fun ρ q er => da ρ (fun ts ρ1 => Opt (argsOf ρ1 ts) fun av => (bors ts).Nodup ∧ dsp av (fun d os => q (.val d) (putOuts ρ1 (bors ts) os)) (fun C fs os => er C fs (putOuts ρ1 (bors ts) os))) er
def dCallF (dsp : DSp) (da : DA) : DF := fun ρ q er => da ρ (fun ts ρ1 => Opt (argsOf ρ1 ts) fun av => (bors ts).Nodup ∧ dsp av (fun d os => q d (putOuts ρ1 (bors ts) os)) (fun C fs os => er C fs (putOuts ρ1 (bors ts) os))) er
section
variable {K : PySem.W.Frag} {pa : PaG} {F G G' H H' : Hp} {σ : RSt} {ρ : Ro}
theorem setD_get (ρ : Ro) (i j : Nat) (e : D) : (setD ρ i e)[j]? = if i = j then (ρ[j]?).map (Sl.setD e) else ρ[j]? := by
  unfold setD
  cases q : ρ[i]? with
  | none =>
    by_cases h : i = j
    · subst h; rw [if_pos rfl, q]; rfl
    · rw [if_neg h]
  | some s =>
    have hi : i < ρ.length := (List.getElem?_eq_some_iff.mp q).1
    by_cases h : i = j
    · subst h; rw [if_pos rfl, q]; simp [List.getElem?_set_self hi]
    · rw [if_neg h]; simp [List.getElem?_set_ne h]
theorem setD_length (ρ : Ro) (i : Nat) (e : D) : (setD ρ i e).length = ρ.length := by
  unfold setD; split <;> simp
theorem putOuts_length : ∀ (is : List Nat) (es : List D) (ρ : Ro), (putOuts ρ is es).length = ρ.length
  | [], es, ρ => by unfold putOuts; rfl
  | i :: is, [], ρ => by unfold putOuts; rfl
  | i :: is, e :: es, ρ => by unfold putOuts; rw [putOuts_length is es, setD_length]
theorem ownD_setD {s : Sl} {d e : D} (h : (s.setD e).ownD = some d) : d = e ∧ ∃ d', s.ownD = some d' := by
  cases s with
  | own x => cases h; exact ⟨rfl, x, rfl⟩
  | par x => cases h; exact ⟨rfl, x, rfl⟩
  | val x => cases h
  | no => cases h
theorem putOuts_get (P : Nat → D → Prop) : ∀ (is : List Nat) (es : List D) (ρ : Ro) (j : Nat) (s : Sl), Paired P is es → (putOuts ρ is es)[j]? = some s → (j ∉ is ∧ ρ[j]? = some s) ∨ ∃ s' e, P j e ∧ s = s'.setD e ∧ ρ[j]? = some s' ∧ j ∈ is
  | [], es, ρ, j, s, _, h => .inl ⟨by simp, by unfold putOuts at h; exact h⟩
  | i :: is, _, ρ, j, s, .cons (b := e) (l₂ := es) p ps, h => by
    have h : (putOuts (setD ρ i e) is es)[j]? = some s := h
    rcases putOuts_get P is es _ j s ps h with ⟨h1, h2⟩ | ⟨s', e', h1, h2, h3, h4⟩
    · rw [setD_get] at h2
      by_cases hij : i = j
      · subst hij
        rw [if_pos rfl] at h2
        cases q : ρ[i]? with
        | none => rw [q] at h2; cases h2
        | some s0 => rw [q] at h2; cases h2; exact .inr ⟨s0, e, p, rfl, rfl, List.mem_cons_self⟩
      · rw [if_neg hij] at h2
        exact .inl ⟨fun z => by rcases List.mem_cons.mp z with z | z; exact hij z.symm; exact h1 z, h2⟩
    · rw [setD_get] at h3
      by_cases hij : i = j
      · subst hij
        rw [if_pos rfl] at h3
        cases q : ρ[i]? with
        | none => rw [q] at h3; cases h3
        | some s0 =>
          rw [q] at h3
          cases h3
          refine .inr ⟨s0, e', h1, ?_, rfl, List.mem_cons_self⟩
          rw [h2]
          cases s0 <;> rfl
      · rw [if_neg hij] at h3
        exact .inr ⟨s', e', h1, h2, h3, List.mem_cons_of_mem _ h4⟩
open Classical in
noncomputable def calF (F H : Hp) (σ : RSt) (ρ : Ro) (is : List Nat) : Hp := fun b => if ∃ (j : Nat) (s : Sl) (d : D), j ∉ is ∧ ρ[j]? = some s ∧ s.ownD = some d ∧ σ[j]? = some (some (.ref b)) then H b else F b
theorem calF_own {is : List Nat} {b : Addr} (h : ∃ (j : Nat) (s : Sl) (d : D), j ∉ is ∧ ρ[j]? = some s ∧ s.ownD = some d ∧ σ[j]? = some (some (.ref b))) : calF F H σ ρ is b = H b := by unfold calF; rw [if_pos h]
theorem calF_ne {is : List Nat} {b : Addr} (h : ¬ ∃ (j : Nat) (s : Sl) (d : D), j ∉ is ∧ ρ[j]? = some s ∧ s.ownD = some d ∧ σ[j]? = some (some (.ref b))) : calF F H σ ρ is b = F b := by unfold calF; rw [if_neg h]
theorem calF_in (S : Sim K pa F G σ H ρ) (is : List Nat) {j : Nat} {s : Sl} {d : D} {p : Addr} (hj : j ∈ is) (h1 : ρ[j]? = some s) (h2 : s.ownD = some d) (h3 : σ[j]? = some (some (.ref p))) : calF F H σ ρ is p = none := by
  rw [calF_ne ?_]
  · exact S.ofr j s d p h1 h2 h3
  · rintro ⟨k, t, e, hk, k1, k2, k3⟩
    exact S.dis j k s t d e p (fun z => hk (z ▸ hj)) h1 h2 k1 k2 h3 k3
theorem calF_ex (S : Sim K pa F G σ H ρ) (is : List Nat) : Ex (calF F H σ ρ is) H := fun b o h => by
  by_cases c : ∃ (j : Nat) (s : Sl) (d : D), j ∉ is ∧ ρ[j]? = some s ∧ s.ownD = some d ∧ σ[j]? = some (some (.ref b))
  · rw [calF_own c] at h; exact h
  · rw [calF_ne c] at h; exact S.fx b o h
theorem calF_dj0 (S : Sim K pa F G σ H ρ) (is : List Nat) : ∀ b o, calF F H σ ρ is b = some o → G b = none := fun b o h => by
  by_cases c : ∃ (j : Nat) (s : Sl) (d : D), j ∉ is ∧ ρ[j]? = some s ∧ s.ownD = some d ∧ σ[j]? = some (some (.ref b))
  · obtain ⟨j, s, d, _, h1, h2, h3⟩ := c
    obtain ⟨p, q1, q2, _⟩ := S.own j s d h1 h2
    rw [h3] at q1
    cases q1
    exact q2
  · rw [calF_ne c] at h; exact S.dj b o h
theorem calF_dj (S : Sim K pa F G σ H ρ) (is : List Nat) : DjT pa.T (calF F H σ ρ is) G H := S.dj.to (calF_dj0 S is) (fun b hb fb => by
  by_cases c : ∃ (j : Nat) (s : Sl) (d : D), j ∉ is ∧ ρ[j]? = some s ∧ s.ownD = some d ∧ σ[j]? = some (some (.ref b))
  · obtain ⟨j, s, d, _, h1, h2, h3⟩ := c
    obtain ⟨p, q1, q2, q3⟩ := S.own j s d h1 h2
    rw [h3] at q1
    cases q1
    obtain ⟨o, ho⟩ := q3.some
    exact absurd (q3.code ho) (hb o ho)
  · rw [calF_ne c]; exact fb) (fun _ _ h => h) (fun b o h => by
  by_cases c : ∃ (j : Nat) (s : Sl) (d : D), j ∉ is ∧ ρ[j]? = some s ∧ s.ownD = some d ∧ σ[j]? = some (some (.ref b))
  · rw [calF_own c] at h
    obtain ⟨j, s, d, _, h1, h2, h3⟩ := c
    obtain ⟨p, q1, q2, q3⟩ := S.own j s d h1 h2
    rw [h3] at q1
    cases q1
    exact .inr (q3.code h)
  · rw [calF_ne c] at h; exact .inl h)
theorem calF_of (S : Sim K pa F G σ H ρ) (is : List Nat) : Ex F (calF F H σ ρ is) := fun b o h => by
  by_cases c : ∃ (j : Nat) (s : Sl) (d : D), j ∉ is ∧ ρ[j]? = some s ∧ s.ownD = some d ∧ σ[j]? = some (some (.ref b))
  · rw [calF_own c]; exact S.fx b o h
  · rw [calF_ne c]; exact h
theorem args_rel (S : Sim K pa F G σ H ρ) (is : List Nat) : ∀ {vs : List V} {ts : List T} {av : List Sl}, TkRs K G σ vs ts → argsOf ρ ts = some av → (∀ i ∈ bors ts, i ∈ is) → (bors ts).Nodup → ArgsR K (calF F H σ ρ is) G H vs av ∧ (parsOf vs av).Nodup ∧ ∀ p ∈ parsOf vs av, ∃ i ∈ bors ts, σ[i]? = some (some (.ref p)) ∧ ∃ s d, ρ[i]? = some s ∧ s.ownD = some d
  | _, _, _, .nil, e, _, _ => by cases e; exact ⟨.nil, List.nodup_nil, fun p h => by cases h⟩
  | v :: vs, .val d :: ts, av, .cons h r, e, hb, nd => by
    have e : (argsOf ρ ts).map (fun a => .val d :: a) = some av := e
    cases q : argsOf ρ ts with
    | none => rw [q] at e; cases e
    | some a =>
      rw [q] at e
      cases e
      obtain ⟨h1, h2, h3⟩ := args_rel S is r q hb nd
      have e0 : parA v (.val d) = [] := by cases v <;> rfl
      refine ⟨.val h h1, ?_, ?_⟩
      · unfold parsOf; rw [e0]; exact h2
      · intro p hp
        unfold parsOf at hp
        rw [e0] at hp
        exact h3 p hp
  | v :: vs, .bor i :: ts, av, .cons h r, e, hb, nd => by
    have e : ((ρ[i]?).bind Sl.ownD).bind (fun d => (argsOf ρ ts).map fun a => .par d :: a) = some av := e
    have h : σ[i]? = some (some v) := h
    cases q1 : ρ[i]? with
    | none => rw [q1] at e; cases e
    | some s =>
      rw [q1] at e
      cases q2 : s.ownD with
      | none => simp [q2] at e
      | some d =>
        have e : (argsOf ρ ts).map (fun a => .par d :: a) = some av := by simpa [q2] using e
        cases q : argsOf ρ ts with
        | none => rw [q] at e; cases e
        | some a =>
          rw [q] at e
          cases e
          have nd : (i :: bors ts).Nodup := nd
          obtain ⟨h1, h2, h3⟩ := args_rel S is r q (fun j hj => hb j (List.mem_cons_of_mem _ hj)) (List.nodup_cons.mp nd).2
          obtain ⟨p, k1, k2, k3⟩ := S.own i s d q1 q2
          rw [h] at k1
          cases k1
          refine ⟨.par k2 (calF_in S is (hb i List.mem_cons_self) q1 q2 h) k3 h1, ?_, ?_⟩
          · show ([p] ++ parsOf vs a).Nodup
            refine List.nodup_cons.mpr ⟨fun hm => ?_, h2⟩
            obtain ⟨j, hj, j1, s', d', j2, j3⟩ := h3 p hm
            have hij : i ≠ j := fun z => (List.nodup_cons.mp nd).1 (z ▸ hj)
            exact S.dis i j s s' d d' p hij q1 q2 j2 j3 h j1
          · intro b hm
            rcases List.mem_cons.mp (show b ∈ p :: parsOf vs a from hm) with z | z
            · subst z; exact ⟨i, List.mem_cons_self, h, s, d, q1, q2⟩
            · obtain ⟨j, hj, k⟩ := h3 b z
              exact ⟨j, List.mem_cons_of_mem _ hj, k⟩
theorem outs_rel : ∀ {vs : List V} {ts : List T} {av : List Sl} {os : List D}, TkRs K G σ vs ts → argsOf ρ ts = some av → Outs K G' H' vs av os → Paired (fun i e => ∃ p, σ[i]? = some (some (.ref p)) ∧ G' p = none ∧ OwnAt K G' H' p e) (bors ts) os
  | _, _, _, _, .nil, e, o => by cases e; cases o; exact .nil
  | v :: vs, .val d :: ts, av, os, .cons h r, e, o => by
    have e : (argsOf ρ ts).map (fun a => .val d :: a) = some av := e
    cases q : argsOf ρ ts with
    | none => rw [q] at e; cases e
    | some a =>
      rw [q] at e
      cases e
      cases o with
      | val o =>
        show Paired _ (bors ts) _
        exact outs_rel r q o
  | v :: vs, .bor i :: ts, av, os, .cons h r, e, o => by
    have e : (rd ρ (.bor i)).bind (fun d => (argsOf ρ ts).map fun a => .par d :: a) = some av := e
    have h : σ[i]? = some (some v) := h
    cases q1 : rd ρ (.bor i) with
    | none => rw [q1] at e; cases e
    | some d =>
      rw [q1] at e
      have e : (argsOf ρ ts).map (fun a => .par d :: a) = some av := e
      cases q : argsOf ρ ts with
      | none => rw [q] at e; cases e
      | some a =>
        rw [q] at e
        cases e
        cases o with
        | par h1 h2 o => exact .cons ⟨_, h, h1, h2⟩ (outs_rel r q o)
theorem Sim.behind (S : Sim K pa F G σ H ρ) {is : List Nat} {os : List D} (e : Ex G G') (gh : Ex G' H') (fx : Ex (calF F H σ ρ is) H') (dj : DjT pa.T (calF F H σ ρ is) G' H')
    (po : Paired (fun i e => ∃ p, σ[i]? = some (some (.ref p)) ∧ G' p = none ∧ OwnAt K G' H' p e) is os) : Sim K pa F G' σ H' (putOuts ρ is os) := by
  have get := fun j s h => putOuts_get _ is os ρ j s po h
  have old : ∀ (j : Nat) (s : Sl) (d : D), (putOuts ρ is os)[j]? = some s → s.ownD = some d → ∃ s' d', ρ[j]? = some s' ∧ s'.ownD = some d' := fun j s d h hd => by
    rcases get j s h with ⟨_, h2⟩ | ⟨s', e', h1, h2, h3, _⟩
    · exact ⟨s, d, h2, hd⟩
    · subst h2
      obtain ⟨_, d', hd'⟩ := ownD_setD hd
      exact ⟨s', d', h3, hd'⟩
  refine ⟨by rw [putOuts_length, S.len], gh, (calF_of S is).trans fx, dj.sub (calF_of S is), fun i d h => ?_, fun i s d h hd => ?_, fun i s d p h hd hp => ?_, fun i d h => ?_, S.gx.trans e, fun i j s t d e p hij h1 h2 h3 h4 h5 h6 => ?_⟩
  · rcases get i _ h with ⟨_, h2⟩ | ⟨s', e', h1, h2, h3, _⟩
    · obtain ⟨v, k1, k2⟩ := S.val i d h2
      exact ⟨v, k1, k2.mono e⟩
    · cases s' with
      | val x => cases h2; obtain ⟨v, k1, k2⟩ := S.val i d h3; exact ⟨v, k1, k2.mono e⟩
      | _ => cases h2
  · rcases get i _ h with ⟨hn, h2⟩ | ⟨s', e', h1, h2, h3, _⟩
    · obtain ⟨p, k1, k2, k3⟩ := S.own i s d h2 hd
      obtain ⟨o, ho⟩ := k3.some
      have c : calF F H σ ρ is p = some o := by rw [calF_own ⟨i, s, d, hn, h2, hd, k1⟩]; exact ho
      exact ⟨p, k1, dj p o c, k3.mono e (by rw [ho, fx p o c])⟩
    · subst h2
      obtain ⟨rfl, d', hd'⟩ := ownD_setD hd
      obtain ⟨p, k1, k2, k3⟩ := h1
      exact ⟨p, k1, k2, k3⟩
  · obtain ⟨s', d', k1, k2⟩ := old i s d h hd
    exact S.ofr i s' d' p k1 k2 hp
  · rcases get i _ h with ⟨_, h2⟩ | ⟨s', e', h1, h2, h3, _⟩
    · exact S.par i d h2
    · cases s' with
      | par x => exact S.par i x h3
      | _ => cases h2
  · obtain ⟨s', d', k1, k2⟩ := old i s d h1 h2
    obtain ⟨t', e', k3, k4⟩ := old j t e h3 h4
    exact S.dis i j s' t' d' e' p hij k1 k2 k3 k4 h5 h6
end
section
variable {K : PySem.W.Frag} {pa : PaG} {W : WX} {ta : TA} {da : DA} {n : Nat} {dsp : DSp}
theorem call_core {F G : Hp} {σ : RSt} {H : Hp} {ρ : Ro} {vs : List V} {ts : List T} {av : List Sl} {Q : VK} {E : XK} {q : D → List D → Prop} {er : Addr → List (Str × D) → List D → Prop} (S : Sim K pa F G σ H ρ) (r : TkRs K G σ vs ts) (ea : argsOf ρ ts = some av) (nd : (bors ts).Nodup) (hn : vs.length = n)
    (hd : dsp av q er) (k : ∀ G' H' v d os, Ex G G' → Sim K pa F G' σ H' (putOuts ρ (bors ts) os) → Rep K G' v d → q d os → Q v H')
    (ke : ∀ G' H' C y fv fs os, Ex G G' → Sim K pa F G' σ H' (putOuts ρ (bors ts) os) → G' y = some (.xd fv) → RepF K G' fv fs → er C fs os → E (.ref C) (some y) H') : SpV K n dsp vs H Q E := by
  obtain ⟨a1, a2, a3⟩ := args_rel S (bors ts) r ea (fun i hi => hi) nd
  refine ⟨pa.T, calF F H σ ρ (bors ts), G, av, hn, S.ex, calF_ex S _, calF_dj S _, a1, a2, q, er, hd, fun G' H' v d os e gh fx dj o rv hq => ?_, fun G' H' C y fv fs os e gh fx dj o h1 h2 hq => ?_⟩
  · exact k G' H' v d os e (S.behind e gh fx dj (outs_rel r ea o)) rv hq
  · exact ke G' H' C y fv fs os e (S.behind e gh fx dj (outs_rel r ea o)) h1 h2 hq
theorem call_coreF {F G : Hp} {σ : RSt} {H : Hp} {ρ : Ro} {vs : List V} {ts : List T} {av : List Sl} {Q : VK} {E : XK} {q : D → List D → Prop} {er : Addr → List (Str × D) → List D → Prop} (S : Sim K pa F G σ H ρ) (r : TkRs K G σ vs ts) (ea : argsOf ρ ts = some av) (nd : (bors ts).Nodup) (hn : vs.length = n)
    (hd : dsp av q er) (k : ∀ G' H' p d os, Ex G G' → Sim K pa F G' σ H' (putOuts ρ (bors ts) os) → G' p = none ∧ F p = none → OwnAt K G' H' p d → (∀ (i : Nat) (s : Sl) (d : D), (putOuts ρ (bors ts) os)[i]? = some s → s.ownD = some d → σ[i]? ≠ some (some (.ref p))) → q d os → Q (.ref p) H')
    (ke : ∀ G' H' C y fv fs os, Ex G G' → Sim K pa F G' σ H' (putOuts ρ (bors ts) os) → G' y = some (.xd fv) → RepF K G' fv fs → er C fs os → E (.ref C) (some y) H') : SpF K n dsp vs H Q E := by
  obtain ⟨a1, a2, a3⟩ := args_rel S (bors ts) r ea (fun i hi => hi) nd
  refine ⟨pa.T, calF F H σ ρ (bors ts), G, av, hn, S.ex, calF_ex S _, calF_dj S _, a1, a2, q, er, hd, fun G' H' p d os e gh fx dj o gp fp np ow hq => ?_, fun G' H' C y fv fs os e gh fx dj o h1 h2 hq => ?_⟩
  · have po := outs_rel (σ := σ) r ea o
    have S' := S.behind e gh fx dj po
    refine k G' H' p d os e S' ⟨gp, fresh_back (calF_of S _) fp⟩ ow (fun i s d' hs hd' hp => ?_) hq
    rcases putOuts_get _ _ os ρ i s po hs with ⟨hi, h2⟩ | ⟨s', e', h1, h2, h3, h4⟩
    · obtain ⟨b, k1, _, k3⟩ := S.own i s d' h2 hd'
      rw [hp] at k1
      cases k1
      obtain ⟨o', ho⟩ := k3.some
      rw [calF_own ⟨i, s, d', hi, h2, hd', hp⟩, ho] at fp
      cases fp
    · refine np ?_
      have hlen : ∀ {vs : List V} {ts : List T} {av : List Sl}, TkRs K G σ vs ts → argsOf ρ ts = some av → i ∈ bors ts → p ∈ parsOf vs av := by
        intro vs ts
        induction ts generalizing vs with
        | nil => intro av _ _ h; cases h
        | cons t ts ih =>
          intro av r e hi
          cases r with
          | cons h r =>
            cases t with
            | val d =>
              have e : (argsOf ρ ts).map (fun a => .val d :: a) = some av := e
              cases q : argsOf ρ ts with
              | none => rw [q] at e; cases e
              | some a => rw [q] at e; cases e; exact List.mem_append_right _ (ih r q hi)
            | bor j =>
              have e : (rd ρ (.bor j)).bind (fun d => (argsOf ρ ts).map fun a => .par d :: a) = some av := e
              cases q1 : rd ρ (.bor j) with
              | none => rw [q1] at e; cases e
              | some d =>
                rw [q1] at e
                have e : (argsOf ρ ts).map (fun a => .par d :: a) = some av := e
                cases q : argsOf ρ ts with
                | none => rw [q] at e; cases e
                | some a =>
                  rw [q] at e
                  cases e
                  rcases List.mem_cons.mp (show i ∈ j :: bors ts from hi) with z | z
                  · subst z
                    have h : σ[i]? = some (some _) := h
                    rw [hp] at h
                    cases h
                    exact List.mem_append_left _ List.mem_cons_self
                  · exact List.mem_append_right _ (ih r q z)
      exact hlen r ea h4
  · exact ke G' H' C y fv fs os e (S.behind e gh fx dj (outs_rel r ea o)) h1 h2 hq
theorem TkRs.length {G : Hp} {σ : RSt} : ∀ {vs : List V} {ts : List T}, TkRs K G σ vs ts → vs.length = ts.length
  | _, _, .nil => rfl
  | _, _, .cons _ r => by rw [List.length_cons, List.length_cons, r.length]
def dN (n : Nat) (da : DA) : DA := fun ρ q er => da ρ (fun ts ρ1 => ts.length = n ∧ q ts ρ1) er
def noEr (dsp : DSp) : DSp := fun av q _ => dsp av q fun _ _ _ => False
theorem se_call (ha : SA K pa W ta da) : SE K pa W (tCall (SpV K n dsp) [] L2.E0 ta) (dCall (noEr dsp) (dN n da)) := fun F G σ H ρ Q q er S h k x =>
  ha F G σ H ρ _ _ er S h (fun G1 H1 vs ts ρ1 e1 S1 r1 h1 => by
    obtain ⟨hl, av, ea, nd, hd⟩ := h1
    show SpV K n dsp (vs ++ []) H1 _ _
    rw [List.append_nil]
    exact call_core S1 r1 ea nd (by rw [r1.length]; exact hl) hd (fun G' H' v d os e S' rv hq => k G' H' v (.val d) _ (e1.trans e) S' rv hq) (fun G' H' C y fv fs os e S' h1 h2 hq => hq.elim)) x
theorem sf_call (ha : SA K pa W ta da) : SF K pa W (tCall (SpF K n dsp) [] L2.E0 ta) (dCallF (noEr dsp) (dN n da)) := fun F G σ H ρ Q q er S h k x =>
  ha F G σ H ρ _ _ er S h (fun G1 H1 vs ts ρ1 e1 S1 r1 h1 => by
    obtain ⟨hl, av, ea, nd, hd⟩ := h1
    show SpF K n dsp (vs ++ []) H1 _ _
    rw [List.append_nil]
    exact call_coreF S1 r1 ea nd (by rw [r1.length]; exact hl) hd (fun G' H' p d os e S' gp ow fr hq => k G' H' p d _ (e1.trans e) S' gp ow fr hq) (fun G' H' C y fv fs os e S' h1 h2 hq => hq.elim)) x
end
end DL
namespace DL
open PySem L2 Evl
section
variable {K : PySem.W.Frag} {pa : PaG} {F G G' H H' : Hp} {σ : RSt} {ρ : Ro}
theorem Sim.mut (S : Sim K pa F G σ H ρ) {i : Nat} {s : Sl} {d e : D} {p : Addr} {o : HO} (h1 : ρ[i]? = some s) (h2 : s.ownD = some d) (h3 : σ[i]? = some (some (.ref p))) (ow : OwnAt K G (upd H p o) p e) : Sim K pa F G σ (upd H p o) (setD ρ i e) := by
  obtain ⟨b, q1, gp, ow0⟩ := S.own i s d h1 h2
  rw [h3] at q1
  cases q1
  obtain ⟨o0, ho0⟩ := ow0.some
  have fp := S.ofr i s d p h1 h2 h3
  refine ⟨by rw [setD_length, S.len], fun b o' q => ?_, fun b o' q => ?_, S.dj.mut ho0 (ow0.code ho0), fun j d' h => ?_, fun j t d' h hd => ?_, fun j t d' b h hd hb => ?_, fun j d' h => ?_, S.gx, fun j k t t' d' e' b hjk k1 k2 k3 k4 k5 k6 => ?_⟩
  · rw [upd_ne (fun z => by rw [z, gp] at q; cases q)]; exact S.ex b o' q
  · rw [upd_ne (fun z => by rw [z, fp] at q; cases q)]; exact S.fx b o' q
  · rw [setD_get] at h
    by_cases hij : i = j
    · subst hij
      rw [if_pos rfl, h1] at h
      have h : some (s.setD e) = some (Sl.val d') := h
      cases s <;> first | (cases h2; done) | cases h
    · rw [if_neg hij] at h; exact S.val j d' h
  · rw [setD_get] at h
    by_cases hij : i = j
    · subst hij
      rw [if_pos rfl, h1] at h
      cases h
      obtain ⟨rfl, _⟩ := ownD_setD hd
      exact ⟨p, h3, gp, ow⟩
    · rw [if_neg hij] at h
      obtain ⟨b, k1, k2, k3⟩ := S.own j t d' h hd
      exact ⟨b, k1, k2, k3.mono (Ex.refl G) (upd_ne fun z => S.dis i j s t d d' p hij h1 h2 h hd h3 (by rw [k1, z])).symm⟩
  · rw [setD_get] at h
    by_cases hij : i = j
    · subst hij
      rw [h3] at hb
      cases hb
      exact fp
    · rw [if_neg hij] at h; exact S.ofr j t d' b h hd hb
  · rw [setD_get] at h
    by_cases hij : i = j
    · subst hij
      rw [if_pos rfl, h1] at h
      cases s with
      | par x => exact S.par i x h1
      | _ => cases h
    · rw [if_neg hij] at h; exact S.par j d' h
  · have old : ∀ {j : Nat} {t : Sl} {d' : D}, (setD ρ i e)[j]? = some t → t.ownD = some d' → ∃ t' e', ρ[j]? = some t' ∧ t'.ownD = some e' := fun {j t d'} h hd => by
      rw [setD_get] at h
      by_cases hij : i = j
      · subst hij; exact ⟨s, d, h1, h2⟩
      · rw [if_neg hij] at h; exact ⟨t, d', h, hd⟩
    obtain ⟨t1, e1, m1, m2⟩ := old k1 k2
    obtain ⟨t2, e2, m3, m4⟩ := old k3 k4
    exact S.dis j k t1 t2 e1 e2 b hjk m1 m2 m3 m4 k5 k6
end
def ownAt (ρ : Ro) (i : Nat) : Option D := (ρ[i]?).bind Sl.ownD
theorem ownAt_some {ρ : Ro} {i : Nat} {d : D} (h : ownAt ρ i = some d) : ∃ s, ρ[i]? = some s ∧ s.ownD = some d := by
  unfold ownAt at h
  cases q : ρ[i]? with
  | none => rw [q] at h; cases h
  | some s => rw [q] at h; exact ⟨s, rfl, h⟩
def D.isLst : D → Bool
  | .lst _ => true
  | _ => false
def dAppend (i : Nat) (de : DE) : DE := fun ρ q er => Opt (ownAt ρ i) fun d0 => d0.isLst = true ∧ de ρ (fun t ρ1 => match t with
  | .val e => Opt (ownAt ρ1 i) fun d => (match d with
    | .lst ds => ds.length < sizeLine ∧ q (.val .non) (setD ρ1 i (.lst (ds ++ [e])))
    | _ => False)
  | .bor _ => False) er
def dSetIx (i : Nat) (dk de : DE) : DS := fun DD ρ => de ρ (fun t ρ1 => match t with
  | .val e => (ownAt ρ1 i).isSome = true ∧ dk ρ1 (fun u ρ2 => Opt (rd ρ2 u) fun k => Opt (ownAt ρ2 i) fun d => match d, k with
    | .lst ds, .int z => Opt (ixN ds.length z) fun j => DD.nx (setD ρ2 i (.lst (ds.set j e)))
    | _, _ => False) DD.er
  | .bor _ => False) DD.er
def dFld (Cs : List Addr) (f : Str) (de : DE) : DE := fun ρ q er => de ρ (fun t ρ1 => Opt (rd ρ1 t) fun d => match d with
  | .ins C es => C ∈ Cs ∧ Opt (es.lookup f) fun e => q (.val e) ρ1
  | _ => False) er
def putFD (f : Str) (e : D) : List (Str × D) → List (Str × D)
  | [] => [(f, e)]
  | (g, x) :: r => if g = f then (g, e) :: r else (g, x) :: putFD f e r
def dSetF (Cs : List Addr) (i : Nat) (f : Str) (de : DE) : DS := fun DD ρ => de ρ (fun t ρ1 => match t with
  | .val e => Opt (ownAt ρ1 i) fun d => (match d with
    | .ins C es => C ∈ Cs ∧ es.length < 1000 ∧ DD.nx (setD ρ1 i (.ins C (putFD f e es)))
    | _ => False)
  | .bor _ => False) DD.er
section
variable {K : PySem.W.Frag} {pa : PaG} {W : WX} {te ta : TE} {de da dk : DE}
theorem own_lst {G H : Hp} {p : Addr} {d : D} (h : OwnAt K G H p d) (e : d.isLst = true) : ∃ vs, H p = some (HO.lst vs) := by
  cases d with
  | lst ds => obtain ⟨vs, h1, _⟩ := h; exact ⟨vs, h1⟩
  | _ => cases e
theorem se_append {i : Nat} (he : SE K pa W te de) : SE K pa W (tBM K "list" rAppend (tVar i) (tCons te tNil)) (dAppend i de) := fun F G σ H ρ Q q er S h k x => by
  obtain ⟨d0, e0, hl, h⟩ := h
  obtain ⟨s, es, ed⟩ := ownAt_some e0
  obtain ⟨p, hp, gp, ow⟩ := S.own i s d0 es ed
  obtain ⟨vs0, hv0⟩ := own_lst ow hl
  refine ⟨.ref p, hp, .inl ⟨rfl, vs0, SqL.of hv0⟩, ?_⟩
  refine he F G σ H ρ _ _ er S h (fun G1 H1 v t ρ1 e1 S1 r1 h1 => ?_) x
  cases t with
  | bor j => exact h1.elim
  | val e =>
    obtain ⟨d, ed1, h2⟩ := h1
    obtain ⟨s1, es1, ed1⟩ := ownAt_some ed1
    obtain ⟨b, hb, gb, ow1⟩ := S1.own i s1 d es1 ed1
    rw [hp] at hb
    cases hb
    cases d with
    | lst ds =>
      obtain ⟨vs, hv, rr⟩ := ow1
      refine ⟨p, vs, v, rfl, rfl, hv, by rw [rr.length]; exact h2.1, ?_⟩
      exact k G1 _ .non (.val .non) _ e1 (S1.mut (e := .lst (ds ++ [e])) es1 ed1 hp ⟨_, upd_same, rr.append (.cons r1 .nil)⟩) .non h2.2
    | _ => exact h2.elim
theorem ss_setIx {i : Nat} {tk : TE} (hk : SE K pa W tk dk) (he : SE K pa W te de) : SS K pa W (tAsg te (gSub (tVar i) tk rSetL)) (dSetIx i dk de) := fun F G σ H ρ D DD S h l =>
  he F G σ H ρ _ _ _ S h (fun G1 H1 v t ρ1 e1 S1 r1 h1 => by
    cases t with
    | bor j => exact h1.elim
    | val e =>
      obtain ⟨hs, h1⟩ := h1
      cases q : ownAt ρ1 i with
      | none => rw [q] at hs; cases hs
      | some d0 =>
        obtain ⟨s, es, ed⟩ := ownAt_some q
        obtain ⟨p, hp, gp, ow⟩ := S1.own i s d0 es ed
        refine ⟨.ref p, hp, ?_⟩
        refine hk F G1 σ H1 ρ1 _ _ _ S1 h1 (fun G2 H2 w u ρ2 e2 S2 r2 h2 => ?_) ((l.xl σ).grow e1)
        obtain ⟨dk', ek, d, ed2, h3⟩ := h2
        obtain ⟨s2, es2, ed2⟩ := ownAt_some ed2
        obtain ⟨b, hb, gb, ow2⟩ := S2.own i s2 d es2 ed2
        rw [hp] at hb
        cases hb
        cases d with
        | lst ds =>
          cases dk' with
          | int z =>
            obtain ⟨j, ej, h4⟩ := h3
            obtain ⟨vs, hv, rr⟩ := ow2
            rw [(S2.rdT r2 ek).int]
            refine ⟨p, vs, z, j, rfl, rfl, hv, by rw [rr.length]; exact ej, ?_⟩
            have r1 : Rep K G1 v e := r1
            exact l.nx G2 σ _ _ (e1.trans e2) (S2.mut (e := .lst (ds.set j e)) es2 ed2 hp ⟨_, upd_same, rr.set (r1.mono e2) j⟩) h4
          | _ => exact h3.elim
        | _ => exact h3.elim) (l.xl σ)
theorem RepF.lookup {G : Hp} {f : Str} {e : D} : ∀ {vs : List (Str × V)} {ds : List (Str × D)}, RepF K G vs ds → ds.lookup f = some e → ∃ v, vs.lookup f = some v ∧ Rep K G v e
  | _, _, .nil, h => by cases h
  | _, _, .cons (k := k) (v := v) (d := d) (vs := vs) (ds := ds) r rr, h => by
    rw [List.lookup_cons] at h ⊢
    cases hk : (f == k) with
    | true => rw [hk] at h; cases h; exact ⟨v, rfl, r⟩
    | false => rw [hk] at h; exact RepF.lookup rr h
theorem RepF.length {G : Hp} : ∀ {vs : List (Str × V)} {ds : List (Str × D)}, RepF K G vs ds → vs.length = ds.length
  | _, _, .nil => rfl
  | _, _, .cons _ r => by rw [List.length_cons, List.length_cons, r.length]
theorem RepF.put {G : Hp} {f : Str} {v : V} {e : D} (r : Rep K G v e) : ∀ {vs : List (Str × V)} {ds : List (Str × D)}, RepF K G vs ds → RepF K G (putF f v vs) (putFD f e ds)
  | _, _, .nil => .cons r .nil
  | _, _, .cons (k := k) h rr => by
    unfold putF putFD
    split
    · exact .cons r rr
    · exact .cons h (RepF.put r rr)
theorem se_fld {Cs : List Addr} {f : Str} (hc : ∀ C ∈ Cs, Cls K C ∧ NoAttr K C f) (he : SE K pa W te de) : SE K pa W (tFld K te f) (dFld Cs f de) := fun F G σ H ρ Q q er S h k x =>
  he F G σ H ρ _ _ er S h (fun G1 H1 v t ρ1 e1 S1 r1 h1 => by
    obtain ⟨d, ed, h2⟩ := h1
    cases d with
    | ins C es =>
      obtain ⟨hC, e, ee, h3⟩ := h2
      obtain ⟨p, dx, vs, rfl, hp, rr⟩ := (S1.rdT r1 ed).ins S1.ex
      obtain ⟨w, hw, rw'⟩ := rr.lookup ee
      exact ⟨p, C, dx, vs, w, rfl, hp, (hc C hC).1, (hc C hC).2, hw, k G1 H1 w (.val e) ρ1 e1 S1 rw' h3⟩
    | _ => exact h2.elim) x
theorem ss_setF {Cs : List Addr} {f : Str} {i : Nat} (hc : ∀ C ∈ Cs, Cls K C ∧ NoAttr K C f) (he : SE K pa W te de) : SS K pa W (sFld K (tVar i) te f) (dSetF Cs i f de) := fun F G σ H ρ D DD S h l =>
  he F G σ H ρ _ _ _ S h (fun G1 H1 v t ρ1 e1 S1 r1 h1 => by
    cases t with
    | bor j => exact h1.elim
    | val e =>
      obtain ⟨d, ed, h2⟩ := h1
      obtain ⟨s, es, ed⟩ := ownAt_some ed
      obtain ⟨p, hp, gp, ow⟩ := S1.own i s d es ed
      cases d with
      | ins C fs =>
        obtain ⟨hC, hl, h3⟩ := h2
        obtain ⟨dx, vs, hv, rr⟩ := ow
        refine ⟨.ref p, hp, p, C, dx, vs, rfl, hv, (hc C hC).1, (hc C hC).2, by rw [rr.length]; exact hl, ?_⟩
        exact l.nx G1 σ _ _ e1 (S1.mut (e := .ins C (putFD f e fs)) es ed hp ⟨dx, _, upd_same, rr.put r1⟩) h3
      | _ => exact h2.elim) (l.xl σ)
end
section
variable {K : PySem.W.Frag} {pa : PaG} {F G G' H H' : Hp} {σ : RSt} {ρ : Ro}
theorem Sim.push (S : Sim K pa F G σ H ρ) {p : Addr} {d : D} (gp : G p = none ∧ F p = none) (ow : OwnAt K G H p d) (fr : ∀ (i : Nat) (s : Sl) (d : D), ρ[i]? = some s → s.ownD = some d → σ[i]? ≠ some (some (.ref p))) :
    Sim K pa F G (σ ++ [some (.ref p)]) H (ρ ++ [.own d]) := by
  have ind : ∀ {i : Nat} {s : Sl}, (ρ ++ [.own d])[i]? = some s → (ρ[i]? = some s ∧ (σ ++ [some (.ref p)])[i]? = σ[i]?) ∨ (i = ρ.length ∧ s = .own d ∧ (σ ++ [some (V.ref p)])[i]? = some (some (.ref p))) := fun {i s} h => by
    by_cases hi : i < ρ.length
    · rw [List.getElem?_append_left hi] at h
      exact .inl ⟨h, List.getElem?_append_left (by rw [← S.len]; exact hi)⟩
    · rw [List.getElem?_append_right (by omega)] at h
      by_cases hi2 : i - ρ.length = 0
      · have e : i = ρ.length := by omega
        subst e
        rw [Nat.sub_self] at h
        cases h
        exact .inr ⟨rfl, rfl, by rw [S.len, List.getElem?_append_right (Nat.le_refl _), Nat.sub_self]; rfl⟩
      · rw [List.getElem?_cons] at h
        rw [if_neg hi2] at h
        cases h
  refine ⟨by rw [List.length_append, List.length_append, S.len]; rfl, S.ex, S.fx, S.dj, fun i e h => ?_, fun i s e h hd => ?_, fun i s e b h hd hb => ?_, fun i e h => ?_, S.gx, fun i j s t e f b hij h1 h2 h3 h4 h5 h6 => ?_⟩
  · rcases ind h with ⟨h, eq⟩ | ⟨_, z, _⟩
    · rw [eq]; exact S.val i e h
    · cases z
  · rcases ind h with ⟨h, eq⟩ | ⟨_, z, eq⟩
    · rw [eq]; exact S.own i s e h hd
    · subst z; cases hd; exact ⟨p, eq, gp.1, ow⟩
  · rcases ind h with ⟨h, eq⟩ | ⟨_, z, eq⟩
    · rw [eq] at hb; exact S.ofr i s e b h hd hb
    · rw [eq] at hb; cases hb; exact gp.2
  · rcases ind h with ⟨h, eq⟩ | ⟨_, z, _⟩
    · rw [eq]; exact S.par i e h
    · cases z
  · rcases ind h1 with ⟨k1, eq1⟩ | ⟨k1, z1, eq1⟩
    · rcases ind h3 with ⟨k3, eq3⟩ | ⟨k3, z3, eq3⟩
      · rw [eq1] at h5; rw [eq3] at h6; exact S.dis i j s t e f b hij k1 h2 k3 h4 h5 h6
      · rw [eq1] at h5; rw [eq3] at h6; cases h6; exact fr i s e k1 h2 h5
    · rcases ind h3 with ⟨k3, eq3⟩ | ⟨k3, z3, eq3⟩
      · rw [eq1] at h5; cases h5; rw [eq3] at h6; exact fr j t f k3 h4 h6
      · exact hij (k1.trans k3.symm)
theorem Sim.pop {x : Option V} {s : Sl} (S : Sim K pa F G (σ ++ [x]) H (ρ ++ [s])) : Sim K pa F G σ H ρ := by
  have hl : ρ.length = σ.length := by
    have := S.len
    rw [List.length_append, List.length_append] at this
    simpa using this
  have up : ∀ {i : Nat} {s' : Sl}, ρ[i]? = some s' → (ρ ++ [s])[i]? = some s' ∧ (σ ++ [x])[i]? = σ[i]? := fun {i s'} h => by
    have hi : i < ρ.length := (List.getElem?_eq_some_iff.mp h).1
    exact ⟨by rw [List.getElem?_append_left hi]; exact h, List.getElem?_append_left (by rw [← hl]; exact hi)⟩
  refine ⟨hl, S.ex, S.fx, S.dj, fun i e h => ?_, fun i s e h hd => ?_, fun i s e b h hd hb => ?_, fun i e h => ?_, S.gx, fun i j s t e f b hij h1 h2 h3 h4 h5 h6 => ?_⟩
  · obtain ⟨h, eq⟩ := up h; rw [← eq]; exact S.val i e h
  · obtain ⟨h, eq⟩ := up h; rw [← eq]; exact S.own i s e h hd
  · obtain ⟨h, eq⟩ := up h; rw [← eq] at hb; exact S.ofr i s e b h hd hb
  · obtain ⟨h, eq⟩ := up h; rw [← eq]; exact S.par i e h
  · obtain ⟨h1, eq1⟩ := up h1
    obtain ⟨h3, eq3⟩ := up h3
    rw [← eq1] at h5
    rw [← eq3] at h6
    exact S.dis i j s t e f b hij h1 h2 h3 h4 h5 h6
theorem argsOf_push {s : Sl} : ∀ {ts : List T} {av : List Sl}, argsOf ρ ts = some av → argsOf (ρ ++ [s]) ts = some av
  | [], _, e => e
  | .val d :: ts, av, e => by
    have e : (argsOf ρ ts).map (fun a => .val d :: a) = some av := e
    cases q : argsOf ρ ts with
    | none => rw [q] at e; cases e
    | some a =>
      rw [q] at e
      show (argsOf (ρ ++ [s]) ts).map (fun a => .val d :: a) = some av
      rw [argsOf_push q]; exact e
  | .bor i :: ts, av, e => by
    have e : ((ρ[i]?).bind Sl.ownD).bind (fun d => (argsOf ρ ts).map fun a => .par d :: a) = some av := e
    cases q1 : ρ[i]? with
    | none => rw [q1] at e; cases e
    | some s' =>
      have hi : i < ρ.length := (List.getElem?_eq_some_iff.mp q1).1
      cases q : argsOf ρ ts with
      | none => rw [q1, q] at e; cases h : s'.ownD <;> simp [h] at e
      | some a =>
        show (((ρ ++ [s])[i]?).bind Sl.ownD).bind (fun d => (argsOf (ρ ++ [s]) ts).map fun a => .par d :: a) = some av
        rw [argsOf_push q, List.getElem?_append_left hi, q1]
        rw [q1, q] at e
        exact e
theorem bors_lt {ts : List T} {av : List Sl} : argsOf ρ ts = some av → ∀ i ∈ bors ts, i < ρ.length := by
  induction ts generalizing av with
  | nil => intro _ i h; cases h
  | cons t ts ih =>
    intro e i hi
    cases t with
    | val d =>
      have e : (argsOf ρ ts).map (fun a => .val d :: a) = some av := e
      cases q : argsOf ρ ts with
      | none => rw [q] at e; cases e
      | some a => exact ih q i hi
    | bor j =>
      have e : ((ρ[j]?).bind Sl.ownD).bind (fun d => (argsOf ρ ts).map fun a => .par d :: a) = some av := e
      cases q1 : ρ[j]? with
      | none => rw [q1] at e; cases e
      | some s =>
        rcases List.mem_cons.mp (show i ∈ j :: bors ts from hi) with z | z
        · subst z; exact (List.getElem?_eq_some_iff.mp q1).1
        · cases q : argsOf ρ ts with
          | none => rw [q1, q] at e; cases h : s.ownD <;> simp [h] at e
          | some a => exact ih q i z
theorem setD_app {s : Sl} {i : Nat} {e : D} (h : i < ρ.length) : setD (ρ ++ [s]) i e = setD ρ i e ++ [s] := by
  unfold setD
  rw [List.getElem?_append_left h]
  cases q : ρ[i]? with
  | none => rfl
  | some s' =>
    show (ρ ++ [s]).set i _ = ρ.set i _ ++ [s]
    rw [List.set_append_left _ _ h]
theorem putOuts_app {s : Sl} : ∀ {is : List Nat} {os : List D} {ρ : Ro}, (∀ i ∈ is, i < ρ.length) → putOuts (ρ ++ [s]) is os = putOuts ρ is os ++ [s]
  | [], os, ρ, _ => by unfold putOuts; rfl
  | i :: is, [], ρ, _ => by unfold putOuts; rfl
  | i :: is, o :: os, ρ, h => by
    show putOuts (setD (ρ ++ [s]) i o) is os = putOuts (setD ρ i o) is os ++ [s]
    rw [setD_app (h i List.mem_cons_self), putOuts_app fun j hj => by rw [setD_length]; exact h j (List.mem_cons_of_mem _ hj)]
end
def dMake (C : Addr) (dsp : DSp) (da : DA) : DF := fun ρ q er => da ρ (fun ts ρ1 => Opt (argsOf ρ1 ts) fun av => (bors ts).Nodup ∧ dsp (.par (.ins C []) :: av) (fun d os => match d, os with
    | .non, o :: os => q o (putOuts ρ1 (bors ts) os)
    | _, _ => False) (fun C' fs os => match os with
    | _ :: os => er C' fs (putOuts ρ1 (bors ts) os)
    | _ => False)) er
section
variable {K : PySem.W.Frag} {pa : PaG} {W : WX} {ta : TA} {da : DA} {n : Nat} {dsp : DSp} {C : Addr}
theorem make_core {F G : Hp} {σ : RSt} {H : Hp} {ρ : Ro} {vs : List V} {ts : List T} {av : List Sl} {x dx : Addr} {Q : VK} {E : XK} {q : D → List D → Prop} {er : Addr → List (Str × D) → List D → Prop} (S : Sim K pa F G σ H ρ) (r : TkRs K G σ vs ts) (ea : argsOf ρ ts = some av) (nd : (bors ts).Nodup) (hn : vs.length + 1 = n)
    (hx : H x = none) (hdx : H dx = none) (hne : dx ≠ x) (hd : dsp (.par (.ins C []) :: av) q er)
    (k : ∀ G' H' o os, Ex G G' → Sim K pa F G' σ H' (putOuts ρ (bors ts) os) → G' x = none ∧ F x = none → OwnAt K G' H' x o → (∀ (i : Nat) (s : Sl) (d : D), (putOuts ρ (bors ts) os)[i]? = some s → s.ownD = some d → σ[i]? ≠ some (some (.ref x))) → q .non (o :: os) → Q .non H')
    (k' : ∀ (d : D) (os : List D), q d os → (d = .non ∧ os ≠ [])) (ke : ∀ G' H' C y fv fs o os, Ex G G' → Sim K pa F G' σ H' (putOuts ρ (bors ts) os) → G' y = some (.xd fv) → RepF K G' fv fs → er C fs (o :: os) → E (.ref C) (some y) H') (ke' : ∀ C fs os, er C fs os → os ≠ []) :
    SpV K n dsp (.ref x :: vs) (upd (upd H dx (.own x)) x (.ins C dx [])) Q E := by
  have hx1 : (upd H dx (.own x)) x = none := by rw [upd_ne (Ne.symm hne)]; exact hx
  have S1 : Sim K pa F G σ (upd (upd H dx (.own x)) x (.ins C dx [])) ρ := (S.new hdx).new hx1
  have gx : G x = none := fresh_back S.ex hx
  have fx : F x = none := fresh_back S.fx hx
  have fr := fresh_no S hx
  have S2 := S1.push (p := x) (d := .ins C []) ⟨gx, fx⟩ ⟨dx, [], upd_same, .nil⟩ fr
  have lt := bors_lt ea
  have r2 : TkRs K G (σ ++ [some (.ref x)]) (.ref x :: vs) (.bor ρ.length :: ts) := by
    refine .cons (by show (σ ++ [some (V.ref x)])[ρ.length]? = _; rw [S.len, List.getElem?_append_right (Nat.le_refl _), Nat.sub_self]; rfl) ?_
    have go : ∀ {vs : List V} {ts : List T}, TkRs K G σ vs ts → (∀ i ∈ bors ts, i < ρ.length) → TkRs K G (σ ++ [some (.ref x)]) vs ts := by
      intro vs ts
      induction ts generalizing vs with
      | nil => intro r _; cases r; exact .nil
      | cons t ts ih =>
        intro r h
        cases r with
        | cons h1 r =>
          cases t with
          | val d => exact .cons h1 (ih r h)
          | bor i =>
            refine .cons ?_ (ih r fun j hj => h j (List.mem_cons_of_mem _ hj))
            have h1 : σ[i]? = some (some _) := h1
            show (σ ++ [some (V.ref x)])[i]? = _
            rw [List.getElem?_append_left (by rw [← S.len]; exact h i List.mem_cons_self)]
            exact h1
    exact go r lt
  have ea2 : argsOf (ρ ++ [.own (.ins C [])]) (.bor ρ.length :: ts) = some (.par (.ins C []) :: av) := by
    show (((ρ ++ [Sl.own (.ins C [])])[ρ.length]?).bind Sl.ownD).bind (fun d => (argsOf (ρ ++ [Sl.own (.ins C [])]) ts).map fun a => .par d :: a) = _
    rw [List.getElem?_append_right (Nat.le_refl _), Nat.sub_self, argsOf_push ea]
    rfl
  have nd2 : (bors (.bor ρ.length :: ts)).Nodup := List.nodup_cons.mpr ⟨fun h => absurd (lt _ h) (Nat.lt_irrefl _), nd⟩
  have po : ∀ (o : D) (os : List D), putOuts (ρ ++ [.own (.ins C [])]) (bors (.bor ρ.length :: ts)) (o :: os) = putOuts ρ (bors ts) os ++ [.own o] := fun o os => by
    show putOuts (setD (ρ ++ [.own (.ins C [])]) ρ.length o) (bors ts) os = _
    have e : setD (ρ ++ [.own (.ins C [])]) ρ.length o = ρ ++ [.own o] := by
      unfold setD
      rw [List.getElem?_append_right (Nat.le_refl _), Nat.sub_self]
      show (ρ ++ [Sl.own (.ins C [])]).set ρ.length _ = _
      rw [List.set_append_right _ _ (Nat.le_refl _), Nat.sub_self]
      rfl
    rw [e, putOuts_app lt]
  refine call_core S2 r2 ea2 nd2 (by rw [List.length_cons]; exact hn) hd (fun G' H' v d os e S' rv hq => ?_) (fun G' H' C' y fv fs os e S' h1 h2 hq => ?_)
  · obtain ⟨rfl, hos⟩ := k' d os hq
    cases rv
    cases os with
    | nil => exact absurd rfl hos
    | cons o os =>
      rw [po] at S'
      have hl : (putOuts ρ (bors ts) os).length = ρ.length := putOuts_length _ _ _
      have e1 : (putOuts ρ (bors ts) os ++ [Sl.own o])[ρ.length]? = some (.own o) := by rw [← hl, List.getElem?_append_right (Nat.le_refl _), Nat.sub_self]; rfl
      have e2 : (σ ++ [some (V.ref x)])[ρ.length]? = some (some (.ref x)) := by rw [S.len, List.getElem?_append_right (Nat.le_refl _), Nat.sub_self]; rfl
      obtain ⟨b, b1, b2, b3⟩ := S'.own ρ.length _ o e1 rfl
      rw [e2] at b1
      cases b1
      refine k G' H' o os e S'.pop ⟨b2, fx⟩ b3 (fun i s d hs hd' hp => ?_) hq
      have hi : i < ρ.length := by rw [← hl]; exact (List.getElem?_eq_some_iff.mp hs).1
      refine S'.dis i ρ.length s _ d o x (Nat.ne_of_lt hi) (by rw [List.getElem?_append_left (by rw [hl]; exact hi)]; exact hs) hd' e1 rfl (by rw [List.getElem?_append_left (by rw [← S.len]; exact hi)]; exact hp) e2
  · cases os with
    | nil => exact absurd rfl (ke' _ _ _ hq)
    | cons o os =>
      rw [po] at S'
      exact ke G' H' C' y fv fs o os e S'.pop h1 h2 hq
theorem sf_make (ha : SA K pa W ta da) : SF K pa W (tMake C (SpV K (n + 1) dsp) [] L2.E0 ta) (dMake C (noEr dsp) (dN n da)) := fun F G σ H ρ Q q er S h k x =>
  ha F G σ H ρ _ _ er S h (fun G1 H1 vs ts ρ1 e1 S1 r1 h1 => by
    obtain ⟨hl, av, ea, nd, hd⟩ := h1
    intro x' dx hx hdx hne
    rw [List.append_nil]
    refine make_core S1 r1 ea nd (by rw [r1.length, hl]) hx hdx hne hd (fun G' H' o os e S' gp ow fr hq => ⟨rfl, k G' H' x' o _ (e1.trans e) S' gp ow fr hq⟩) (fun d os hq => ?_) (fun G' H' C' y fv fs o os e S' h1 h2 hq => hq.elim) (fun C' fs os hq => hq.elim)
    cases os with
    | nil => cases d <;> exact hq.elim
    | cons o os => cases d <;> first | exact ⟨rfl, by simp⟩ | exact hq.elim) x
end
def D.noF (m : Str) (C : Addr) : D → Bool
  | .ins C' es => C' == C && (es.lookup m).isNone
  | _ => false
def dMeth (C : Addr) (m : Str) (dsp : DSp) (de : DE) (da : DA) : DE := fun ρ q er => de ρ (fun t ρ1 => Opt (rd ρ1 t) fun d => d.noF m C = true ∧ da ρ1 (fun ts ρ2 => Opt (argsOf ρ2 (t :: ts)) fun av => (bors (t :: ts)).Nodup ∧ dsp av (fun d os => q (.val d) (putOuts ρ2 (bors (t :: ts)) os)) (fun C' fs os => er C' fs (putOuts ρ2 (bors (t :: ts)) os))) er) er
end DL
namespace DL
open PySem L2 Evl
mutual
def D.toP : D → Option PyData
  | .non => some .none
  | .bl b => some (.bool b)
  | .int i => some (.int i)
  | .str x => some (.str x)
  | .lst xs => (D.toPs xs).map .list
  | .tup xs => (D.toPs xs).map .tuple
  | .byt _ => none
  | .dct _ => none
  | .ins _ _ => none
  | .ptr _ => none
  | .ty _ => none
  | .exc _ _ => none
def D.toPs : List D → Option (List PyData)
  | [] => some []
  | d :: ds => (D.toP d).bind fun p => (D.toPs ds).map fun ps => p :: ps
end
def D.eqB (a b : D) : Option Bool := a.toP.bind fun p => b.toP.bind fun q => if SeqAt.shaped p = true ∧ SeqAt.shaped q = true then some (PyData.eqv p q) else none
def D.eq (a b : D) : Option D := (D.eqB a b).map .bl
def D.ne (a b : D) : Option D := (D.eqB a b).map fun c => .bl (!c)
section
variable {K : PySem.W.Frag} {X : Cx}
mutual
theorem rep_dp {G H : Hp} (e : Ex G H) : ∀ {d : D} {v : V} {p : PyData}, Rep K G v d → d.toP = some p → Dp K H v p
  | .non, _, _, .non, h => by cases h; exact .non
  | .bl _, _, _, .bl _, h => by cases h; exact .bl _
  | .int _, _, _, .int _, h => by cases h; exact .int _
  | .str _, _, _, .str _, h => by cases h; exact .str _
  | .lst xs, _, p, .lst hr rr, h => by
    have h : (D.toPs xs).map PyData.list = some p := by rw [← h, D.toP]
    cases q : D.toPs xs with
    | none => rw [q] at h; cases h
    | some ps => rw [q] at h; cases h; exact .lst (ex_l e hr) (reps_dp e rr q)
  | .tup xs, _, p, .tup hr rr, h => by
    have h : (D.toPs xs).map PyData.tuple = some p := by rw [← h, D.toP]
    cases q : D.toPs xs with
    | none => rw [q] at h; cases h
    | some ps => rw [q] at h; cases h; exact .tup (ex_t e hr) (reps_dp e rr q)
  | .byt _, _, _, _, h => by rw [D.toP] at h; cases h
  | .dct _, _, _, _, h => by rw [D.toP] at h; cases h
  | .ins _ _, _, _, _, h => by rw [D.toP] at h; cases h
  | .ptr _, _, _, _, h => by rw [D.toP] at h; cases h
  | .ty _, _, _, _, h => by rw [D.toP] at h; cases h
  | .exc _ _, _, _, _, h => by rw [D.toP] at h; cases h
theorem reps_dp {G H : Hp} (e : Ex G H) : ∀ {ds : List D} {vs : List V} {ps : List PyData}, Reps K G vs ds → D.toPs ds = some ps → DpAll K H vs ps
  | [], _, _, .nil, h => by rw [D.toPs] at h; cases h; exact .nil
  | d :: ds, _, ps, .cons r rr, h => by
    rw [D.toPs] at h
    cases q : D.toP d with
    | none => rw [q] at h; cases h
    | some p =>
      rw [q] at h
      cases q2 : D.toPs ds with
      | none => rw [q2] at h; cases h
      | some ps => rw [q2] at h; cases h; exact .cons (rep_dp e r q) (reps_dp e rr q2)
end
theorem repT_dp {G H : Hp} {d : D} {v : V} {p : PyData} (e : Ex G H) (r : RepT K G H v d) (h : d.toP = some p) : Dp K H v p := by
  rcases r with r | ⟨b, rfl, _, r⟩
  · exact rep_dp e r h
  · cases d with
    | lst xs =>
      obtain ⟨vs, h1, rr⟩ := r
      rw [D.toP] at h
      cases q : D.toPs xs with
      | none => rw [q] at h; cases h
      | some ps => rw [q] at h; cases h; exact .lst (SqL.of h1) (reps_dp e rr q)
    | dct _ => rw [D.toP] at h; cases h
    | ins _ _ => rw [D.toP] at h; cases h
    | _ => exact r.elim
theorem eqB_some {a b : D} {c : Bool} (h : D.eqB a b = some c) : ∃ p q, a.toP = some p ∧ b.toP = some q ∧ SeqAt.shaped p = true ∧ SeqAt.shaped q = true ∧ c = PyData.eqv p q := by
  unfold D.eqB at h
  cases q1 : a.toP with
  | none => rw [q1] at h; cases h
  | some p =>
    cases q2 : b.toP with
    | none => rw [q1, q2] at h; cases h
    | some q =>
      rw [q1, q2] at h
      have h : (if SeqAt.shaped p = true ∧ SeqAt.shaped q = true then some (PyData.eqv p q) else none) = some c := h
      split at h
      · rename_i hs; cases h; exact ⟨p, q, rfl, rfl, hs.1, hs.2, rfl⟩
      · cases h
theorem sr_eq : SR K (rEqD K) D.eq := fun G H x y dx dy z Q e rx ry q k => by
  unfold D.eq at q
  cases qc : D.eqB dx dy with
  | none => rw [qc] at q; cases q
  | some c =>
    rw [qc] at q
    cases q
    obtain ⟨p1, p2, h1, h2, s1, s2, rfl⟩ := eqB_some qc
    exact ⟨p1, p2, repT_dp e rx h1, repT_dp e ry h2, s1, s2, k G H _ (Al.refl e) (.bl _)⟩
theorem sr_ne : SR K (rNeD K) D.ne := fun G H x y dx dy z Q e rx ry q k => by
  unfold D.ne at q
  cases qc : D.eqB dx dy with
  | none => rw [qc] at q; cases q
  | some c =>
    rw [qc] at q
    cases q
    obtain ⟨p1, p2, h1, h2, s1, s2, rfl⟩ := eqB_some qc
    exact ⟨p1, p2, repT_dp e rx h1, repT_dp e ry h2, s1, s2, k G H _ (Al.refl e) (.bl _)⟩
end
def D.inStr : D → D → Option Bool
  | .str x, .str y => some (!(Builtin.Str.occurrences y x 0 y.length 1).isEmpty)
  | _, _ => none
def D.inLst : D → D → Option Bool
  | d, .lst ds => d.toP.bind fun p => (D.toPs ds).bind fun ps => if SeqAt.shaped p = true ∧ SeqAt.shaped (.list ps) = true then some (ps.any fun z => PyData.eqv z p) else none
  | _, _ => none
def D.flat : D → Option V
  | .non => some .non
  | .bl b => some (.bl b)
  | .int i => some (.int i)
  | .str x => some (.str x)
  | _ => none
def D.flats : List D → Option (List V)
  | [] => some []
  | d :: ds => d.flat.bind fun v => (D.flats ds).map fun vs => v :: vs
def D.inTup : D → D → Option Bool
  | d, .tup ds => d.flat.bind fun v => (D.flats ds).bind fun vs => if flatV v = true ∧ vs.all flatV = true then some (inV v vs) else none
  | _, _ => none
def D.isIn (a b : D) : Option D := ((D.inStr a b).or ((D.inLst a b).or (D.inTup a b))).map .bl
def D.notIn (a b : D) : Option D := ((D.inStr a b).or ((D.inLst a b).or (D.inTup a b))).map fun c => .bl (!c)
section
variable {K : PySem.W.Frag} {X : Cx}
def rInS : R2 := fun x y H Q => ∃ i j, x = .str i ∧ y = .str j ∧ Q (.bl (!(Builtin.Str.occurrences j i 0 j.length 1).isEmpty)) H
def rNotInS : R2 := fun x y H Q => ∃ i j, x = .str i ∧ y = .str j ∧ Q (.bl (!(!(Builtin.Str.occurrences j i 0 j.length 1).isEmpty))) H
def rInX (K : PySem.W.Frag) : R2 := fun x y H Q => rInS x y H Q ∨ rInD K x y H Q ∨ rIn K false x y H Q
def rNotInX (K : PySem.W.Frag) : R2 := fun x y H Q => rNotInS x y H Q ∨ rNotInD K x y H Q ∨ rIn K true x y H Q
theorem op_inX (hu : X.A.units + 65 < cLine) : OpR X (compareOp .In) (rInX X.K) := OpR.or (r := rInS) op_in_str (OpR.or (op_inD hu) op_in_seq)
theorem op_notInX (hu : X.A.units + 65 < cLine) : OpR X (compareOp .NotIn) (rNotInX X.K) := OpR.or (r := rNotInS) op_notin_str (OpR.or (op_notInD hu) op_notIn_seq)
theorem flat_of {G H : Hp} {d : D} {v w : V} (r : RepT K G H v d) (h : d.flat = some w) : v = w := by
  rcases r with r | ⟨b, rfl, _, r⟩
  · cases r <;> first | (cases h; rfl) | cases h
  · cases d <;> first | exact r.elim | cases h
theorem flats_of {G : Hp} : ∀ {ds : List D} {vs ws : List V}, Reps K G vs ds → D.flats ds = some ws → vs = ws
  | [], _, _, .nil, h => by cases h; rfl
  | d :: ds, _, ws, .cons r rr, h => by
    have h : d.flat.bind (fun v => (D.flats ds).map fun vs => v :: vs) = some ws := h
    cases q : d.flat with
    | none => rw [q] at h; cases h
    | some v =>
      cases q2 : D.flats ds with
      | none => rw [q, q2] at h; cases h
      | some vs =>
        rw [q, q2] at h
        cases h
        rw [flat_of (H := G) (.inl r) q, flats_of rr q2]
theorem or_cases {α : Type} {a b : Option α} {c : α} (h : a.or b = some c) : a = some c ∨ b = some c := by
  cases a with
  | some x => exact .inl h
  | none => exact .inr h
theorem in_split {a b : D} {c : Bool} (h : ((D.inStr a b).or ((D.inLst a b).or (D.inTup a b))) = some c) : D.inStr a b = some c ∨ D.inLst a b = some c ∨ D.inTup a b = some c := by
  rcases or_cases h with h | h
  · exact .inl h
  · exact .inr (or_cases h)
theorem inLst_some {a b : D} {c : Bool} (h : D.inLst a b = some c) : ∃ ds p ps, b = .lst ds ∧ a.toP = some p ∧ D.toPs ds = some ps ∧ SeqAt.shaped p = true ∧ SeqAt.shaped (.list ps) = true ∧ c = ps.any fun z => PyData.eqv z p := by
  cases b with
  | lst ds =>
    have h : (a.toP.bind fun p => (D.toPs ds).bind fun ps => if SeqAt.shaped p = true ∧ SeqAt.shaped (.list ps) = true then some (ps.any fun z => PyData.eqv z p) else none) = some c := by
      cases a <;> exact h
    cases q1 : a.toP with
    | none => rw [q1] at h; cases h
    | some p =>
      cases q2 : D.toPs ds with
      | none => rw [q1, q2] at h; cases h
      | some ps =>
        rw [q1, q2] at h
        have h : (if SeqAt.shaped p = true ∧ SeqAt.shaped (.list ps) = true then some (ps.any fun z => PyData.eqv z p) else none) = some c := h
        split at h
        · rename_i hs; cases h; exact ⟨ds, p, ps, rfl, rfl, q2, hs.1, hs.2, rfl⟩
        · cases h
  | _ => cases a <;> cases h
theorem inTup_some {a b : D} {c : Bool} (h : D.inTup a b = some c) : ∃ ds v vs, b = .tup ds ∧ a.flat = some v ∧ D.flats ds = some vs ∧ flatV v = true ∧ vs.all flatV = true ∧ c = inV v vs := by
  cases b with
  | tup ds =>
    have h : (a.flat.bind fun v => (D.flats ds).bind fun vs => if flatV v = true ∧ vs.all flatV = true then some (inV v vs) else none) = some c := by
      cases a <;> exact h
    cases q1 : a.flat with
    | none => rw [q1] at h; cases h
    | some v =>
      cases q2 : D.flats ds with
      | none => rw [q1, q2] at h; cases h
      | some vs =>
        rw [q1, q2] at h
        have h : (if flatV v = true ∧ vs.all flatV = true then some (inV v vs) else none) = some c := h
        split at h
        · rename_i hs; cases h; exact ⟨ds, v, vs, rfl, rfl, q2, hs.1, hs.2, rfl⟩
        · cases h
  | _ => cases a <;> cases h
theorem inStr_some {a b : D} {c : Bool} (h : D.inStr a b = some c) : ∃ x y, a = .str x ∧ b = .str y ∧ c = (!(Builtin.Str.occurrences y x 0 y.length 1).isEmpty) := by
  cases a with
  | str x => cases b with
    | str y => cases h; exact ⟨x, y, rfl, rfl, rfl⟩
    | _ => cases h
  | _ => cases h
theorem lst_dp {G H : Hp} {ds : List D} {v : V} {ps : List PyData} (e : Ex G H) (r : RepT K G H v (.lst ds)) (h : D.toPs ds = some ps) : Dp K H v (.list ps) := repT_dp e r (by rw [D.toP, h]; rfl)
theorem sr_in : SR K (rInX K) D.isIn := fun G H x y dx dy z Q e rx ry q k => by
  unfold D.isIn at q
  cases qc : ((D.inStr dx dy).or ((D.inLst dx dy).or (D.inTup dx dy))) with
  | none => rw [qc] at q; cases q
  | some c =>
    rw [qc] at q
    cases q
    rcases in_split qc with h | h | h
    · obtain ⟨a, b, rfl, rfl, rfl⟩ := inStr_some h
      rw [rx.str, ry.str]
      exact .inl ⟨_, _, rfl, rfl, k G H _ (Al.refl e) (.bl _)⟩
    · obtain ⟨ds, p, ps, rfl, h1, h2, s1, s2, rfl⟩ := inLst_some h
      exact .inr (.inl ⟨p, ps, repT_dp e rx h1, lst_dp e ry h2, s1, s2, k G H _ (Al.refl e) (.bl _)⟩)
    · obtain ⟨ds, v, vs, rfl, h1, h2, s1, s2, rfl⟩ := inTup_some h
      obtain ⟨p, ws, rfl, hs, rr⟩ := ry.tup e
      have e1 := flat_of rx h1
      have e2 := flats_of rr h2
      subst e1 e2
      exact .inr (.inr ⟨p, _, rfl, .inr hs, s1, s2, k G H _ (Al.refl e) (.bl _)⟩)
theorem sr_notIn : SR K (rNotInX K) D.notIn := fun G H x y dx dy z Q e rx ry q k => by
  unfold D.notIn at q
  cases qc : ((D.inStr dx dy).or ((D.inLst dx dy).or (D.inTup dx dy))) with
  | none => rw [qc] at q; cases q
  | some c =>
    rw [qc] at q
    cases q
    rcases in_split qc with h | h | h
    · obtain ⟨a, b, rfl, rfl, rfl⟩ := inStr_some h
      rw [rx.str, ry.str]
      exact .inl ⟨_, _, rfl, rfl, k G H _ (Al.refl e) (.bl _)⟩
    · obtain ⟨ds, p, ps, rfl, h1, h2, s1, s2, rfl⟩ := inLst_some h
      exact .inr (.inl ⟨p, ps, repT_dp e rx h1, lst_dp e ry h2, s1, s2, k G H _ (Al.refl e) (.bl _)⟩)
    · obtain ⟨ds, v, vs, rfl, h1, h2, s1, s2, rfl⟩ := inTup_some h
      obtain ⟨p, ws, rfl, hs, rr⟩ := ry.tup e
      have e1 := flat_of rx h1
      have e2 := flats_of rr h2
      subst e1 e2
      exact .inr (.inr ⟨p, _, rfl, .inr hs, s1, s2, k G H _ (Al.refl e) (.bl _)⟩)
end
def dCut (xs : List D) (lo hi : Option Int) : List D := (xs.drop (HT.sIx xs.length 0 lo)).take (HT.sIx xs.length xs.length hi - HT.sIx xs.length 0 lo)
def D.cut : D → Option Int → Option Int → Option D
  | .lst xs, lo, hi => some (.lst (dCut xs lo hi))
  | .tup xs, lo, hi => some (.tup (dCut xs lo hi))
  | .str z, lo, hi => if z.length ≤ sizeLine then some (.str (cutS z lo hi)) else none
  | _, _, _ => none
abbrev DO := Ro → (Option Int → Ro → Prop) → ER → Prop
def dNoP : DO := fun ρ q _ => q none ρ
def dPart (de : DE) : DO := fun ρ q er => de ρ (fun t ρ1 => Opt (rd ρ1 t) fun d => match d with
  | .int i => q (some i) ρ1
  | _ => False) er
def dSl (de : DE) (dl dh : DO) : DE := fun ρ q er => de ρ (fun t ρ1 => dl ρ1 (fun l ρ2 => dh ρ2 (fun u ρ3 => Opt (rd ρ3 t) fun d => Opt (d.cut l u) fun z => q (.val z) ρ3) er) er) er
def SO (K : PySem.W.Frag) (pa : PaG) (W : WX) (to : TO) (d : DO) : Prop := ∀ (F G : Hp) (σ : RSt) (H : Hp) (ρ : Ro) (Q : Option Int → Hp → Prop) (q : Option Int → Ro → Prop) (er : ER), Sim K pa F G σ H ρ → d ρ q er →
  (∀ G' H' o ρ', Ex G G' → Sim K pa F G' σ H' ρ' → q o ρ' → Q o H') → XL K pa F G W σ er → to σ H Q
def rSlX (K : PySem.W.Frag) : V → Option Int → Option Int → Hp → VK → Prop := fun x lo hi H Q => rSlL K x lo hi H Q ∨ rSlA K x lo hi H Q ∨ rSlS x lo hi H Q
section
variable {K : PySem.W.Frag} {pa : PaG} {W : WX} {te : TE} {de : DE} {tl th : TO} {dl dh : DO} {X : Cx}
theorem sl_any : SlR X (rSlX X.K) := SlR.or sl_list (SlR.or sl_tupA sl_str)
theorem so_none : SO K pa W tNoPart dNoP := fun F G σ H ρ Q q er S h k x => k G H none ρ (Ex.refl G) S h
theorem so_some (he : SE K pa W te de) : SO K pa W (tPart te) (dPart de) := fun F G σ H ρ Q q er S h k x =>
  he F G σ H ρ _ _ er S h (fun G1 H1 v t ρ1 e1 S1 r1 h1 => by
    obtain ⟨d, ed, h2⟩ := h1
    cases d with
    | int i => rw [(S1.rdT r1 ed).int]; exact ⟨i, rfl, k G1 H1 (some i) ρ1 e1 S1 h2⟩
    | _ => exact h2.elim) x
theorem reps_cut {G : Hp} {vs : List V} {ds : List D} (r : Reps K G vs ds) (lo hi : Option Int) : Reps K G (cutV vs lo hi) (dCut ds lo hi) := by
  unfold cutV dCut
  rw [r.length]
  exact (r.drop _).take _
theorem se_sl (he : SE K pa W te de) (hl : SO K pa W tl dl) (hh : SO K pa W th dh) : SE K pa W (tSl (rSlX K) te tl th) (dSl de dl dh) := fun F G σ H ρ Q q er S h k x =>
  he F G σ H ρ _ _ er S h (fun G1 H1 v t ρ1 e1 S1 r1 h1 => hl F G1 σ H1 ρ1 _ _ er S1 h1 (fun G2 H2 lo ρ2 e2 S2 h2 => hh F G2 σ H2 ρ2 _ _ er S2 h2 (fun G3 H3 hi ρ3 e3 S3 h3 => by
    obtain ⟨d, ed, z, ez, h4⟩ := h3
    have r := S3.rdT ((r1.mono e2).mono e3) ed
    have eG := (e1.trans e2).trans e3
    cases d with
    | lst ds =>
      cases ez
      obtain ⟨p, vs, rfl, hs, rr⟩ := r.lst S3.ex
      refine .inl ⟨p, vs, rfl, hs, fun b hb => ?_⟩
      have a := Al.one (G := G3) (p := b) (o := .lst (cutV vs lo hi)) S3.ex hb
      exact k _ _ _ (.val _) ρ3 (eG.trans a.g) (S3.al a) (.lst (SqL.of upd_same) ((reps_cut rr lo hi).mono a.g)) h4
    | tup ds =>
      cases ez
      have g := r.tupR
      obtain ⟨p, vs, rfl, hs, rr⟩ := r.tup S3.ex
      refine .inr (.inl ⟨p, vs, rfl, hs, fun hw => ?_, fun _ b hb => ?_⟩)
      · have ec : dCut ds lo hi = ds := by
          unfold dCut
          rw [← rr.length, hw.1, hw.2, List.drop_zero, Nat.sub_zero, rr.length, List.take_length]
        rw [ec] at h4
        exact k G3 H3 _ (.val _) ρ3 eG S3 g h4
      · have a := Al.one (G := G3) (p := b) (o := .tup (cutV vs lo hi)) S3.ex hb
        exact k _ _ _ (.val _) ρ3 (eG.trans a.g) (S3.al a) (.tup (SqT.of upd_same) ((reps_cut rr lo hi).mono a.g)) h4
    | str y =>
      have ez : (if y.length ≤ sizeLine then some (D.str (cutS y lo hi)) else none) = some z := ez
      split at ez
      · rename_i hy
        cases ez
        rw [r.str]
        exact .inr (.inr ⟨y, rfl, hy, k G3 H3 _ (.val _) ρ3 eG S3 (.str _) h4⟩)
      · cases ez
    | _ => cases ez) (x.grow (e1.trans e2))) (x.grow e1)) x
end
def D.key : D → Option Key
  | .int i => some (.inl i)
  | .str x => some (.inr x)
  | _ => none
def valD (kvs : List (Key × D)) (k : Key) : Option D := (kvs.find? fun kv => decide (kv.1 = k)).map (·.2)
def putKD (kvs : List (Key × D)) (k : Key) (v : D) : List (Key × D) :=
  if (kvs.find? fun kv => decide (kv.1 = k)).isSome then kvs.map fun kv => if kv.1 = k then (kv.1, v) else kv else kvs ++ [(k, v)]
def dDNew : DF := fun ρ q _ => q (.dct []) ρ
def dDGet (dd dk : DE) : DE := fun ρ q er => dd ρ (fun s ρ1 => dk ρ1 (fun t ρ2 => Opt (rd ρ2 s) fun d => Opt (rd ρ2 t) fun e => Opt e.key fun k => match d with
  | .dct kvs => Opt (valD kvs k) fun z => q (.val z) ρ2
  | _ => False) er) er
def dDIn (neg : Bool) (dk dd : DE) : DE := fun ρ q er => dk ρ (fun t ρ1 => dd ρ1 (fun s ρ2 => Opt (rd ρ2 s) fun d => Opt (rd ρ2 t) fun e => Opt e.key fun k => match d with
  | .dct kvs => q (.val (.bl (if neg then !(valD kvs k).isSome else (valD kvs k).isSome))) ρ2
  | _ => False) er) er
def dDPut (i : Nat) (dk de : DE) : DS := fun DD ρ => de ρ (fun t ρ1 => match t with
  | .val e => (ownAt ρ1 i).isSome = true ∧ dk ρ1 (fun u ρ2 => Opt (rd ρ2 u) fun kd => Opt kd.key fun k => Opt (ownAt ρ2 i) fun d => (match d with
    | .dct kvs => kvs.length < sizeLine ∧ DD.nx (setD ρ2 i (.dct (putKD kvs k e)))
    | _ => False)) DD.er
  | .bor _ => False) DD.er
section
variable {K : PySem.W.Frag} {pa : PaG} {W : WX} {te td tk : TE} {de dd dk : DE}
theorem RepK.find {G : Hp} {k : Key} : ∀ {vs : List (Key × V)} {ds : List (Key × D)}, RepK K G vs ds → (∀ z, valD ds k = some z → ∃ v, valV vs k = some v ∧ Rep K G v z) ∧ (valD ds k).isSome = (valV vs k).isSome
  | _, _, .nil => ⟨(fun z h => by cases h), rfl⟩
  | _, _, .cons (k := k') (v := v) (d := d) (vs := vs) (ds := ds) r rr => by
    obtain ⟨h1, h2⟩ := RepK.find (k := k) rr
    unfold valD valV at *
    by_cases e : k' = k
    · rw [List.find?_cons_of_pos (by simpa using e), List.find?_cons_of_pos (by simpa using e)]
      exact ⟨fun z hz => by cases hz; exact ⟨v, rfl, r⟩, rfl⟩
    · rw [List.find?_cons_of_neg (by simpa using e), List.find?_cons_of_neg (by simpa using e)]
      exact ⟨h1, h2⟩
theorem RepK.length {G : Hp} : ∀ {vs : List (Key × V)} {ds : List (Key × D)}, RepK K G vs ds → vs.length = ds.length
  | _, _, .nil => rfl
  | _, _, .cons _ r => by rw [List.length_cons, List.length_cons, r.length]
theorem RepK.app {G : Hp} : ∀ {vs ws : List (Key × V)} {ds es : List (Key × D)}, RepK K G vs ds → RepK K G ws es → RepK K G (vs ++ ws) (ds ++ es)
  | _, _, _, _, .nil, s => s
  | _, _, _, _, .cons r t, s => .cons r (RepK.app t s)
theorem RepK.mapPut {G : Hp} {k : Key} {v : V} {d : D} (r : Rep K G v d) : ∀ {vs : List (Key × V)} {ds : List (Key × D)}, RepK K G vs ds → RepK K G (vs.map fun kv => if kv.1 = k then (kv.1, v) else kv) (ds.map fun kv => if kv.1 = k then (kv.1, d) else kv)
  | _, _, .nil => .nil
  | _, _, .cons (k := k') h rr => by
    rw [List.map_cons, List.map_cons]
    by_cases e : k' = k
    · rw [if_pos e, if_pos e]; exact .cons r (RepK.mapPut r rr)
    · rw [if_neg e, if_neg e]; exact .cons h (RepK.mapPut r rr)
theorem RepK.put {G : Hp} {k : Key} {v : V} {d : D} (r : Rep K G v d) {vs : List (Key × V)} {ds : List (Key × D)} (h : RepK K G vs ds) : RepK K G (putK vs k v) (putKD ds k d) := by
  have e := (h.find (k := k)).2
  have e2 := valV_any k vs
  have e3 : (ds.find? fun kv => decide (kv.1 = k)).isSome = (valD ds k).isSome := by unfold valD; rw [Option.isSome_map]
  unfold putKD putK
  rw [e2, ← e, e3]
  split
  · exact RepK.mapPut r h
  · exact h.app (.cons r .nil)
theorem sf_dnew : SF K pa W tDNewK dDNew := fun F G σ H ρ Q q er S h k x => fun p hp =>
  k G _ p (.dct []) ρ (Ex.refl G) (S.new hp) ⟨fresh_back S.ex hp, fresh_back S.fx hp⟩ ⟨[], upd_same, .nil⟩ (fresh_no S hp) h
end
end DL
namespace DL
open PySem L2 Evl
theorem SpV.len {K : PySem.W.Frag} {n : Nat} {dsp : DSp} {vs : List V} {H : Hp} {Q : VK} {E : XK} (h : SpV K n dsp vs H Q E) : vs.length = n := by
  obtain ⟨_, _, _, _, h, _⟩ := h
  exact h
theorem SpF.len {K : PySem.W.Frag} {n : Nat} {dsp : DSp} {vs : List V} {H : Hp} {Q : VK} {E : XK} (h : SpF K n dsp vs H Q E) : vs.length = n := by
  obtain ⟨_, _, _, _, h, _⟩ := h
  exact h
theorem hu65 {A : Around} {k : Nat} (hr : Room k A) : A.units + 65 < cLine := by have := hr.un; omega
def dPar (i j : Nat) (da : DA) : DS := fun DD ρ => da ρ (fun ts ρ1 => match ts with
  | [.val a, .val b] => (isPar ρ1 i = false ∧ isPar ρ1 j = false) ∧ DD.nx ((ρ1.set i (.val a)).set j (.val b))
  | _ => False) DD.er
def dPar3 (i j l : Nat) (da : DA) : DS := fun DD ρ => da ρ (fun ts ρ1 => match ts with
  | [.val a, .val b, .val c] => (isPar ρ1 i = false ∧ isPar ρ1 j = false ∧ isPar ρ1 l = false) ∧ DD.nx (((ρ1.set i (.val a)).set j (.val b)).set l (.val c))
  | _ => False) DD.er
def dParVO (i j : Nat) (da : DE) (db : DF) : DS := fun DD ρ => da ρ (fun t ρ1 => match t with
  | .val a => db ρ1 (fun b ρ2 => (isPar ρ2 i = false ∧ isPar ρ2 j = false) ∧ DD.nx ((ρ2.set i (.val a)).set j (.own b))) DD.er
  | .bor _ => False) DD.er
def dParOV (i j : Nat) (da : DF) (db : DE) : DS := fun DD ρ => da ρ (fun a ρ1 => db ρ1 (fun t ρ2 => match t with
  | .val b => (isPar ρ2 i = false ∧ isPar ρ2 j = false) ∧ DD.nx ((ρ2.set i (.own a)).set j (.val b))
  | .bor _ => False) DD.er) DD.er
def dParOO (i j : Nat) (da db : DF) : DS := fun DD ρ => da ρ (fun a ρ1 => db ρ1 (fun b ρ2 => (isPar ρ2 i = false ∧ isPar ρ2 j = false) ∧ DD.nx ((ρ2.set i (.own a)).set j (.own b))) DD.er) DD.er
section
variable {K : PySem.W.Frag} {pa : PaG} {W : WX} {ta : TA} {da : DA} {te tf : TE} {de : DE} {df dg : DF} {i j : Nat}
theorem isPar_set {ρ : Ro} {i j : Nat} {d : D} (h : isPar ρ j = false) : isPar (ρ.set i (.val d)) j = false := by
  unfold isPar at *
  by_cases hij : i = j
  · subst hij
    rw [List.getElem?_set, if_pos rfl]
    split <;> simp_all
  · rw [List.getElem?_set_ne hij]; exact h
theorem isPar_setO {ρ : Ro} {i j : Nat} {d : D} (h : isPar ρ j = false) : isPar (ρ.set i (.own d)) j = false := by
  unfold isPar at *
  by_cases hij : i = j
  · subst hij
    rw [List.getElem?_set, if_pos rfl]
    split <;> simp_all
  · rw [List.getElem?_set_ne hij]; exact h
theorem ss_par (ha : SA K pa W ta da) : SS K pa W (tPar i j ta) (dPar i j da) := fun F G σ H ρ D DD S h l =>
  ha F G σ H ρ _ _ _ S h (fun G1 H1 vs ts ρ1 e1 S1 r1 h1 => by
    match ts, h1, r1 with
    | [.val a, .val b], h1, .cons ra (.cons rb .nil) =>
      exact ⟨_, _, rfl, l.nx G1 _ H1 _ e1 ((S1.store h1.1.1 ra).store (isPar_set h1.1.2) rb) h1.2⟩
    | [], h1, _ => exact h1.elim
    | [t], h1, _ => cases t <;> exact h1.elim
    | [.bor _, _], h1, _ => exact h1.elim
    | [.val _, .bor _], h1, _ => exact h1.elim
    | t :: u :: v :: w, h1, _ => cases t <;> cases u <;> exact h1.elim) (l.xl σ)
theorem fr_set {F G H : Hp} {σ : RSt} {ρ : Ro} {v : V} {d : D} {p : Addr} (fr : ∀ (i : Nat) (s : Sl) (d : D), ρ[i]? = some s → s.ownD = some d → σ[i]? ≠ some (some (.ref p))) :
    ∀ (k : Nat) (s : Sl) (e : D), (ρ.set i (.val d))[k]? = some s → s.ownD = some e → (σ.set i (some v))[k]? ≠ some (some (.ref p)) := fun k s e h hd => by
  by_cases hk : i = k
  · subst hk
    rw [List.getElem?_set, if_pos rfl] at h
    split at h
    · cases h; cases hd
    · cases h
  · rw [List.getElem?_set_ne hk] at h ⊢
    exact fr k s e h hd
theorem ss_parVO (ha : SE K pa W te de) (hb : SF K pa W tf df) : SS K pa W (tPar i j (tCons te (tCons tf tNil))) (dParVO i j de df) := fun F G σ H ρ D DD S h l =>
  ha F G σ H ρ _ _ _ S h (fun G1 H1 v t ρ1 e1 S1 r1 h1 => by
    cases t with
    | bor k => exact h1.elim
    | val a =>
      refine hb F G1 σ H1 ρ1 _ _ _ S1 h1 (fun G2 H2 p b ρ2 e2 S2 gp ow fr h2 => ?_) ((l.xl σ).grow e1)
      have r1 : Rep K G1 v a := r1
      exact ⟨_, _, rfl, l.nx G2 _ H2 _ (e1.trans e2) ((S2.store h2.1.1 (r1.mono e2)).storeOwn (isPar_set h2.1.2) gp ow (fr_set (F := F) (G := G2) (H := H2) fr)) h2.2⟩) (l.xl σ)
theorem aside {F G H : Hp} {σ : RSt} {ρ : Ro} {p : Addr} {a : D} (S : Sim K pa F G σ H ρ) (gp : G p = none ∧ F p = none) (ow : OwnAt K G H p a) (fr : ∀ (i : Nat) (s : Sl) (d : D), ρ[i]? = some s → s.ownD = some d → σ[i]? ≠ some (some (.ref p))) :
    ∃ F', (Ex F F' ∧ F' p ≠ none) ∧ Sim K pa F' G σ H ρ ∧ ∀ G' H' ρ', Ex G G' → Sim K pa F' G' σ H' ρ' → Sim K pa F G' σ H' ρ' ∧ (G' p = none ∧ F p = none) ∧ OwnAt K G' H' p a ∧ (∀ (i : Nat) (s : Sl) (d : D), ρ'[i]? = some s → s.ownD = some d → σ[i]? ≠ some (some (.ref p))) := by
  obtain ⟨o, ho⟩ := ow.some
  refine ⟨upd F p o, ⟨Ex.new gp.2, by rw [upd_same]; simp⟩, S.frameIn gp.1 ho (ow.code ho) fr, fun G' H' ρ' e S' => ?_⟩
  refine ⟨S'.frame (Ex.new gp.2), ⟨S'.dj p o upd_same, gp.2⟩, ow.mono e (by rw [ho, S'.fx p o upd_same]), fun i s d h1 h2 h3 => ?_⟩
  have := S'.ofr i s d p h1 h2 h3
  rw [upd_same] at this
  cases this
theorem XL.frame {F F' G : Hp} {σ : RSt} {er : ER} (e : Ex F F') (x : XL K pa F G W σ er) : XL K pa F' G W σ er := fun G' H' ρ' C d vs fs e1 S' => x G' H' ρ' C d vs fs e1 (S'.frame e)
theorem ss_parOV (ha : SF K pa W tf df) (hb : SE K pa W te de) : SS K pa W (tPar i j (tCons tf (tCons te tNil))) (dParOV i j df de) := fun F G σ H ρ D DD S h l =>
  ha F G σ H ρ _ _ _ S h (fun G1 H1 p a ρ1 e1 S1 gp ow fr h1 => by
    obtain ⟨F', ⟨ef, np⟩, S1', back⟩ := aside S1 gp ow fr
    refine hb F' G1 σ H1 ρ1 _ _ _ S1' h1 (fun G2 H2 v t ρ2 e2 S2 r2 h2 => ?_) (((l.xl σ).grow e1).frame ef)
    cases t with
    | bor k => exact h2.elim
    | val b =>
      obtain ⟨S3, gp3, ow3, fr3⟩ := back G2 H2 ρ2 e2 S2
      exact ⟨_, _, rfl, l.nx G2 _ H2 _ (e1.trans e2) ((S3.storeOwn h2.1.1 gp3 ow3 fr3).store (isPar_setO h2.1.2) r2) h2.2⟩) (l.xl σ)
theorem ss_parOO (ha : SF K pa W tf df) (hb : SF K pa W te dg) (hij : i ≠ j) : SS K pa W (tPar i j (tCons tf (tCons te tNil))) (dParOO i j df dg) := fun F G σ H ρ D DD S h l =>
  ha F G σ H ρ _ _ _ S h (fun G1 H1 p a ρ1 e1 S1 gp ow fr h1 => by
    obtain ⟨F', ⟨ef, np⟩, S1', back⟩ := aside S1 gp ow fr
    refine hb F' G1 σ H1 ρ1 _ _ _ S1' h1 (fun G2 H2 b' b ρ2 e2 S2 gp2 ow2 fr2 h2 => ?_) (((l.xl σ).grow e1).frame ef)
    obtain ⟨S3, gp3, ow3, fr3⟩ := back G2 H2 ρ2 e2 S2
    have hF : F b' = none := fresh_back ef gp2.2
    refine ⟨_, _, rfl, l.nx G2 _ H2 _ (e1.trans e2) ((S3.storeOwn h2.1.1 gp3 ow3 fr3).storeOwn (isPar_setO h2.1.2) ⟨gp2.1, hF⟩ ow2 fun k s e hk hd hs => ?_) h2.2⟩
    by_cases hik : i = k
    · subst hik
      rw [List.getElem?_set, if_pos rfl] at hs
      split at hs
      · cases hs
        exact np gp2.2
      · cases hs
    · rw [List.getElem?_set_ne hik] at hk hs
      exact fr2 k s e hk hd hs) (l.xl σ)
end
def D.tyV : D → Option Value
  | .non => some (.type "NoneType")
  | .bl _ => some (.type "bool")
  | .int _ => some (.type "int")
  | .str _ => some (.type "str")
  | .byt _ => some (.type "bytes")
  | .lst _ => some (.type "list")
  | .tup _ => some (.type "tuple")
  | .dct _ => some (.type "dict")
  | .ins C _ => some (.ref C)
  | _ => none
def D.clV : D → Option Value
  | .ptr C => some (.ref C)
  | .ty n => some (.type n)
  | _ => none
def D.clVs : List D → Option (List Value)
  | [] => some []
  | d :: ds => d.clV.bind fun v => (D.clVs ds).map fun vs => v :: vs
def D.isi (K : PySem.W.Frag) : List D → Option D
  | [x, .tup cs] => x.tyV.bind fun t => (D.clVs cs).bind fun us => (PySem.W.kitAny K t us).map .bl
  | [x, c] => x.tyV.bind fun t => c.clV.bind fun u => (PySem.W.kitOne K t u).map .bl
  | _ => none
structure IsiC (K : PySem.W.Frag) (C : Addr) : Prop where
  cl : Cls K C
  ha : PySem.W.findIn K (.ref C) "__class__" = some (some (.builtin "object.__class__"))
  hm : PySem.W.mroIn K C (.type "object") = some true
structure IsiK (K : PySem.W.Frag) : Prop where
  hn : PySem.W.specialIn K (.builtin "object.__class__") "__get__" = some (some (.builtin "getset_descriptor.__get__"))
  htk : PySem.W.takesIn K (.builtin "object.__class__") = some true
def rIsiX (K : PySem.W.Frag) : List V → Hp → VK → Prop := fun xs H Q => rIsi K xs H Q ∨ rIsiT K xs H Q
section
variable {K : PySem.W.Frag} {X : Cx}
theorem call_isiX : CallR X (.builtin "isinstance") (rIsiX X.K) := CallR.or call_isi call_isiT
theorem tyX_of {G H : Hp} {v : V} {d : D} {t : Value} (hK : IsiK K) (hC : ∀ C es, d = .ins C es → IsiC K C) (e : Ex G H) (r : RepT K G H v d) (h : d.tyV = some t) : TyX K H v t := by
  cases d with
  | non => cases h; rw [r.non]; exact .base .non
  | bl b => cases h; rw [r.bl]; exact .base (.bl _)
  | int b => cases h; rw [r.int]; exact .base (.int _)
  | str b => cases h; rw [r.str]; exact .base (.str _)
  | byt b => cases h; rw [r.byt]; exact .byt _
  | lst ds =>
    cases h
    obtain ⟨p, vs, rfl, hs, _⟩ := r.lstR e
    rcases hs with (hs | ⟨o, hs⟩) | ⟨o, its, n, h1, h2, _⟩
    · exact .base (.lst hs)
    · exact .base (.frz hs)
    · exact .kList h1 h2
  | tup ds =>
    cases h
    obtain ⟨p, vs, rfl, hs, _⟩ := r.tup e
    rcases hs with (hs | ⟨o, hs⟩) | ⟨o, its, n, h1, h2, _⟩
    · exact .base (.tup hs)
    · exact .fTuple hs
    · exact .kTuple h1 h2
  | dct ds =>
    cases h
    obtain ⟨p, vs, rfl, hs, _⟩ := r.dct e
    exact .base (.dK hs)
  | ins C ds =>
    cases h
    obtain ⟨p, dx, vs, rfl, hs, _⟩ := r.ins e
    have q := hC C ds rfl
    exact .base (.ins hs q.cl q.ha hK.hn hK.htk q.hm)
  | _ => cases h
theorem clV_of {G H : Hp} {v : V} {d : D} {u : Value} (r : RepT K G H v d) (h : d.clV = some u) : ClsV v u := by
  cases d with
  | ptr C => cases h; rw [r.ptr]; exact .own C
  | ty n => cases h; rw [r.ty]; exact .ty n
  | _ => cases h
end
end DL
namespace PySem.W
open PySem PySem.Calls PyProof.Rows
end PySem.W
namespace DL
open PySem L2 Evl
section
variable {X : Cx} {CX : CXT} {k : Nat} {f C : Addr} {fd : FuncData} {ps : List Str} {sp : Sp} {E : XK}
theorem run_sub {A : Around} {pins : List (Addr × Obj)} {σ : RSt} {H : Hp} {s : Shared} {Q : VK} {us : List Value} {vs : List V} (F : FnOk X.prog X.w X.K X.mg X.base CX k f fd ps sp) (hr : Room k A) (hA : A.frames = X.A.frames) (hb : Binds X.K fd ps []) (hx : Passes CX X E)
    (I : Inv X pins σ H s) (r : Vals vs us) (h : sp vs H Q E) : wpAny (model X.prog X.w) A (call (.ref f) us) (EP X pins σ Q) X.xe s := by
  have hl : us.length = ps.length := by rw [← r.length]; exact F.len _ _ _ _ h
  have e0 : Env0 X.prog X.w X.K X.mg X.base A X.stack s H := by
    have e := I.env0
    exact ⟨by rw [hA]; exact e.frames, e.mod, e.bs, e.bsz, e.funs, e.frf, e.hok, e.bare⟩
  refine wpAny_call (codeAny_mono (F.run A X.stack s H ⟨us, []⟩ us vs Q E hr e0 (by have z := hb s us I.kIn (by simpa using hl); simpa using z) r h) fun r s' hq => ?_)
  cases r with
  | error e => exact hx pins σ H s e s' I hq
  | ok fl =>
    cases fl with
    | ret u => exact I.after hq
    | next => exact False.elim hq
    | brk => exact False.elim hq
    | cont => exact False.elim hq
end
end DL
namespace DL
open PySem L2 Evl
def clVT : List T → Option (List Value)
  | [] => some []
  | .val d :: ts => d.clV.bind fun u => (clVT ts).map fun us => u :: us
  | .bor _ :: _ => none
def D.kno (Cs : List Addr) : D → Bool
  | .ins C _ => Cs.contains C
  | _ => true
def dIsi (K : PySem.W.Frag) (Cs : List Addr) (de dc : DE) : DE := fun ρ q er => de ρ (fun t ρ1 => dc ρ1 (fun u ρ2 => Opt (rd ρ2 t) fun x => Opt (rd ρ2 u) fun c => x.kno Cs = true ∧ Opt x.tyV fun ty => Opt c.clV fun cv => Opt (PySem.W.kitOne K ty cv) fun b => q (.val (.bl b)) ρ2) er) er
def dIsiT (K : PySem.W.Frag) (Cs : List Addr) (de : DE) (dc : DA) : DE := fun ρ q er => de ρ (fun t ρ1 => dc ρ1 (fun us ρ2 => Opt (rd ρ2 t) fun x => us.length ≤ sizeLine ∧ x.kno Cs = true ∧ Opt x.tyV fun ty => Opt (clVT us) fun cs => Opt (PySem.W.kitAny K ty cs) fun b => q (.val (.bl b)) ρ2) er) er
section
variable {K : PySem.W.Frag} {pa : PaG} {W : WX} {te tc : TE} {ta : TA} {de dc : DE} {da : DA} {Cs : List Addr}
theorem clVT_of {G : Hp} {σ : RSt} : ∀ {ts : List T} {vs : List V} {us : List Value}, TkRs K G σ vs ts → clVT ts = some us → Paired ClsV vs us
  | _, _, _, .nil, h => by cases h; exact .nil
  | .val d :: ts, _, us, .cons r rr, h => by
    have h : d.clV.bind (fun v => (clVT ts).map fun vs => v :: vs) = some us := h
    cases q : d.clV with
    | none => rw [q] at h; cases h
    | some v =>
      cases q2 : clVT ts with
      | none => rw [q, q2] at h; cases h
      | some ws => rw [q, q2] at h; cases h; exact .cons (clV_of (H := G) (.inl r) q) (clVT_of rr q2)
  | .bor _ :: _, _, _, .cons _ _, h => by cases h
theorem kno_of (hC : ∀ C ∈ Cs, IsiC K C) {x : D} (h : x.kno Cs = true) : ∀ C es, x = .ins C es → IsiC K C := fun C es e => by
  subst e
  exact hC C (by simpa [D.kno] using h)
theorem se_isi (hK : IsiK K) (hC : ∀ C ∈ Cs, IsiC K C) (he : SE K pa W te de) (hc : SE K pa W tc dc) : SE K pa W (tCB (rIsiX K) (tCons te (tCons tc tNil))) (dIsi K Cs de dc) := fun F G σ H ρ Q q er S h k x =>
  he F G σ H ρ _ _ er S h (fun G1 H1 v t ρ1 e1 S1 r1 h1 => hc F G1 σ H1 ρ1 _ _ er S1 h1 (fun G2 H2 w u ρ2 e2 S2 r2 h2 => by
    obtain ⟨dx, ex, c, ec, hk, ty, ety, cv, ecv, b, eb, h3⟩ := h2
    exact .inl ⟨v, w, ty, cv, b, rfl, clV_of (S2.rdT r2 ec) ecv, tyX_of hK (kno_of hC hk) S2.ex (S2.rdT (r1.mono e2) ex) ety, eb, k G2 H2 _ (.val _) ρ2 (e1.trans e2) S2 (.bl b) h3⟩) (x.grow e1)) x
theorem se_isiT (hK : IsiK K) (hC : ∀ C ∈ Cs, IsiC K C) (he : SE K pa W te de) (hc : SA K pa W ta da) : SE K pa W (tCB (rIsiX K) (tCons te (tCons (tTup ta) tNil))) (dIsiT K Cs de da) := fun F G σ H ρ Q q er S h k x =>
  he F G σ H ρ _ _ er S h (fun G1 H1 v t ρ1 e1 S1 r1 h1 => hc F G1 σ H1 ρ1 _ _ er S1 h1 (fun G2 H2 ws us ρ2 e2 S2 r2 h2 => by
    obtain ⟨dx, ex, hl, hk, ty, ety, cs, ecs, b, eb, h3⟩ := h2
    have hlen : ws.length = us.length := r2.length
    refine ⟨by rw [hlen]; exact hl, fun p hp => ?_⟩
    have a := Al.one (G := G2) (p := p) (o := .tup ws) S2.ex hp
    have S3 := S2.al a
    exact .inr ⟨v, p, ws, ty, cs, b, rfl, upd_same, clVT_of r2 ecs, tyX_of hK (kno_of hC hk) S3.ex (S3.rdT ((r1.mono e2).mono a.g) ex) ety, eb, k _ _ _ (.val _) ρ2 ((e1.trans e2).trans a.g) S3 (.bl b) h3⟩) (x.grow e1)) x
end
def D.insOf (C : Addr) : D → Bool
  | .ins C2 _ => C2 == C
  | _ => false
def dInO (g : Bool → Bool) (C : Addr) (dsp : DSp) (dx dc : DE) : DE := fun ρ q er => dx ρ (fun t ρ1 => dc ρ1 (fun u ρ2 => Opt (rd ρ2 u) fun d => d.insOf C = true ∧ Opt (argsOf ρ2 [u, t]) fun av => (bors [u, t]).Nodup ∧
  dsp av (fun r os => match r with
    | .bl b => q (.val (.bl (g b))) (putOuts ρ2 (bors [u, t]) os)
      | _ => False) (fun _ _ _ => False)) er) er
def dLenO (C : Addr) (dsp : DSp) (dc : DE) : DE := fun ρ q er => dc ρ (fun u ρ2 => Opt (rd ρ2 u) fun d => d.insOf C = true ∧ Opt (argsOf ρ2 [u]) fun av => (bors [u]).Nodup ∧
  dsp av (fun r os => match r with
    | .int n => (0 ≤ n ∧ n < 2 ^ 63) ∧ q (.val (.int n)) (putOuts ρ2 (bors [u]) os)
    | _ => False) (fun _ _ _ => False)) er
section
variable {K : PySem.W.Frag} {pa : PaG} {W : WX} {te tc : TE} {dx dc : DE} {C : Addr} {dsp : DSp} {g : Bool → Bool}
theorem insOf_at {G H : Hp} {v : V} {d : D} (e : Ex G H) (r : RepT K G H v d) (h : d.insOf C = true) : ∃ a dx fs, v = .ref a ∧ H a = some (.ins C dx fs) := by
  cases d with
  | ins C2 es =>
    obtain ⟨p, dx, vs, rfl, hp, rr⟩ := r.ins e
    have ec : C2 = C := by simpa [D.insOf] using h
    subst ec
    exact ⟨p, dx, vs, rfl, hp⟩
  | _ => cases h
end
section
variable {K : PySem.W.Frag} {pa : PaG} {W : WX} {te ta tb : TE} {de da db : DE}
def revR (i j : Int) : List D := (List.range (j - i).toNat).map fun (k : Nat) => .int (j - 1 - (k : Int))
def diRevR1 (da : DE) : DI := fun ρ q er => da ρ (fun t ρ1 => Opt (rd ρ1 t) fun d => match d with
  | .int j => (-(2 ^ 62) ≤ j ∧ j < 2 ^ 62) ∧ q (revR 0 j) ρ1
  | _ => False) er
end
def dcL (g : DG) (t : DT) (dk de : DE) (vs : List Nat) (q : List (Key × D) → Ro → Prop) : List D → List (Key × D) → Ro → Prop
  | [], acc, ρ => q acc ρ
  | d :: ds, acc, ρ => g (.val d) (wipeD ρ vs) fun ρ1 => t ρ1 (fun b ρ2 => if b = true then dk ρ2 (fun u ρ3 => match u with
      | .val y => Opt y.key fun kk => de ρ3 (fun s ρ4 => match s with
        | .val z => acc.length < sizeLine ∧ dcL g t dk de vs q ds (putKD acc kk z) (wipeD ρ4 vs)
        | .bor _ => False) (fun _ _ _ => False)
      | .bor _ => False) (fun _ _ _ => False) else dcL g t dk de vs q ds acc (wipeD ρ2 vs)) (fun _ _ _ => False)
def dDc (di : DI) (g : DG) (t : DT) (dk de : DE) (vs : List Nat) : DF := fun ρ q er => di ρ (fun ds ρ1 => dcL g t dk de vs (fun acc ρ2 => q (.dct acc) ρ2) ds [] ρ1) er
end DL
namespace PySem
open Sem (wp)
open AutoSeq1 (wpAny_loadPart')
theorem dl_enumNewT (l : Addr) (us : Array Value) (k : Nat) (dc : Option Addr) (sls : Array (Option Value)) :
    Meets (Builtin.«enumerate.__new__» ⟨[.type "enumerate", .ref l], []⟩) (fun _ R s => s.heap.get? l = some { cls := .type "tuple", dict := dc, data := .seq us k, slots := sls } ∧
      R (.ok (.ret (.ref (s.heap.push { cls := .type "tuple_iterator", data := .fields #[.ref l, .int 0 0] }).objs.size)))
        { s with heap := (s.heap.push { cls := .type "tuple_iterator", data := .fields #[.ref l, .int 0 0] }).push { cls := .type "enumerate", data := .fields #[.none, .bool false, .ref s.heap.objs.size, rawInt 0, .none, .none] } }) :=
  .of_wp fun prog w A R s h => by
    obtain ⟨hp, g, d, tk, os⟩ := s; obtain ⟨hl, h⟩ := h
    have hsub := sub_enumerate
    have hT : Heap.IsTuple (Shared.heap ⟨hp, g, d, tk, os⟩) l us := ⟨_, hl, rfl, k, rfl⟩
    wp_walk using wpAny_loadPart' hl
    refine wpAny_stack_any fun st => wpAny_pure ?_
    split
    · rename_i c _ _ _ _ _
      cases (c == Value.type "enumerate") <;>
        (wp_walk using wpAny_loadPart' hl, wpAny_pyIter_tuple hT; exact ⟨_, rfl, h⟩)
    · wp_walk using wpAny_loadPart' hl, wpAny_pyIter_tuple hT
      exact ⟨_, rfl, h⟩
section
variable {prog : Program} {w : World} {A : Around} {E : Value → Shared → Prop} {s : Shared}
theorem dl_call_enumT {l : Addr} {us : Array Value} {Q : Value → Shared → Prop} (hL : s.heap.IsTuple l us)
    (h : ∀ h', IsEnum h' (s.heap.objs.size + 1) s.heap.objs.size 0 .none → h'.IsTupleIter s.heap.objs.size l 0 → (∀ b o, s.heap.get? b = some o → h'.get? b = some o) → Q (.ref (s.heap.objs.size + 1)) { s with heap := h' }) :
    wpAny (model prog w) A (call (.type "enumerate") [.ref l]) Q E s := by
  obtain ⟨⟨c, dc, dt, sls⟩, hl, hc, k, hd⟩ := hL
  replace hc : c = .type "tuple" := hc
  replace hd : dt = .seq us k := hd
  subst hc hd
  refine callType_new F.called_enumerate (by decide) (F.typeCall_enumerate_1 _) (F.newCall_enumerate_1 _) (fun obj => F.args_object_init_2 obj _) F.entry_enumerate_new (dl_enumNewT l us k dc sls) ⟨hl, ?_⟩
  generalize ho1 : ({ cls := .type "tuple_iterator", data := .fields #[.ref l, .int 0 0] } : Obj) = o1
  have hz : (s.heap.push o1).objs.size = s.heap.objs.size + 1 := Heap.size_push ..
  show _ ∧ _
  rw [hz]
  have he : IsEnum ((s.heap.push o1).push { cls := .type "enumerate", data := .fields #[.none, .bool false, .ref s.heap.objs.size, rawInt 0, .none, .none] }) (s.heap.objs.size + 1) s.heap.objs.size 0 .none := by
    have q := Heap.get?_push_size (s.heap.push o1) (o := { cls := .type "enumerate", data := .fields #[.none, .bool false, .ref s.heap.objs.size, rawInt 0, .none, .none] }) rfl
    rw [hz] at q; exact q
  refine ⟨⟨_, he, rfl⟩, h _ he ⟨o1, Heap.get?_push_of_some _ (Heap.get?_push_size _ (by subst ho1; rfl)), by subst ho1; rfl, by subst ho1; rfl⟩ fun b o x => Heap.get?_push_of_some _ (Heap.get?_push_of_some _ x)⟩
theorem dl_nextT {it t : Addr} {i : Nat} {us : Array Value} {x : Value} {Q : Value → Shared → Prop} (hit : s.heap.IsTupleIter it t i) (ht : s.heap.IsTuple t us) (hx : us[i]? = some x)
    (hQ : ∀ h', h'.IsTupleIter it t (i + 1) → Heap.SameBut it s.heap h' → Q x { s with heap := h' }) : wpAny (model prog w) A (Builtin.SmallTypes.nextOf (.ref it)) Q E s := by
  obtain ⟨o, ho, hc, hd⟩ := id hit; obtain ⟨ol, hol, _, nl, hdl⟩ := ht
  unfold Builtin.SmallTypes.nextOf; refine wpAny_bind (wpAny_callSpecial?_slot (name := Str.ofString "__next__") hit.typeIs F.slot_tuple_iterator_next (wpAny_call_entry F.slot_tuple_iterator_next hit.typeIs F.entry_tuple_iterator_next ?_ (F.args_tuple_iterator_next_1 _)))
  show wpAny _ _ (field (.ref it) 0 >>= _) _ _ s; refine wpAny_bind (wpAny_field ho hd (x := .ref t) rfl ?_)
  show wpAny _ _ (if (Value.ref t == Value.none) = true then _ else _) _ _ s; rw [if_neg (by exact fun z => Bool.false_ne_true z)]
  show wpAny _ _ (field (.ref it) 1 >>= _) _ _ s; refine wpAny_bind (wpAny_field ho hd (x := .int i 0) rfl ?_)
  show wpAny _ _ (seqItems? (.ref t) >>= _) _ _ s; refine wpAny_bind (wpAny_seqItems hol hdl ?_)
  simp only [Int.toNat_natCast, hx]; refine wpAny_bind (wpAny_setField ho hd (by simp) (wpAny_pure ⟨x, rfl, wpAny_pure (hQ _ ?_ (Heap.SameBut.update ..))⟩))
  exact ⟨_, Heap.get?_update_self _ ho (Obj.isFreed_of_fields (Obj.data_mapFields hd _)), (Obj.cls_mapFields ..).trans hc, by rw [Obj.data_mapFields hd]; simp [rawInt]⟩
theorem dl_nextTend {it t : Addr} {i : Nat} {us : Array Value} {Q : Value → Shared → Prop} (hh : A.handled = none) (hit : s.heap.IsTupleIter it t i) (ht : s.heap.IsTuple t us) (hx : us[i]? = none)
    (hE : ∀ h' e, Heap.ExtBut it s.heap h' → (∃ o, h'.get? e = some o ∧ o.cls = .type "StopIteration") → E (.ref e) { s with heap := h' }) : wpAny (model prog w) A (Builtin.SmallTypes.nextOf (.ref it)) Q E s := by
  obtain ⟨o, ho, hc, hd⟩ := id hit; obtain ⟨ol, hol, _, nl, hdl⟩ := ht
  unfold Builtin.SmallTypes.nextOf; refine wpAny_bind (wpAny_callSpecial?_slot (name := Str.ofString "__next__") hit.typeIs F.slot_tuple_iterator_next (wpAny_call_entry F.slot_tuple_iterator_next hit.typeIs F.entry_tuple_iterator_next ?_ (F.args_tuple_iterator_next_1 _)))
  show wpAny _ _ (field (.ref it) 0 >>= _) _ _ s; refine wpAny_bind (wpAny_field ho hd (x := .ref t) rfl ?_)
  show wpAny _ _ (if (Value.ref t == Value.none) = true then _ else _) _ _ s; rw [if_neg (by exact fun z => Bool.false_ne_true z)]
  show wpAny _ _ (field (.ref it) 1 >>= _) _ _ s; refine wpAny_bind (wpAny_field ho hd (x := .int i 0) rfl ?_)
  show wpAny _ _ (seqItems? (.ref t) >>= _) _ _ s; refine wpAny_bind (wpAny_seqItems hol hdl ?_)
  simp only [Int.toNat_natCast, hx]; refine wpAny_bind (wpAny_rule (wpAny_bind (wpAny_setField ho hd (by simp) ?_)))
  show wpAny _ _ (newExc (.type "StopIteration") [] >>= _) _ _ _; refine wpAny_bind ?_
  simp only [newExc, newTuple]; refine wpAny_bind (wpAny_newObj_type ?_ (by size_fits))
  refine wpAny_bind (m := firstArgMember _ _) (wpAny_of_eq (a := Value.none) (by first | rfl | (simp only [firstArgMember]; rfl)) (wpAny_newObj_type ?_ (by size_fits)))
  simp only [raiseNew]; refine wpAny_bind (wpAny_handled ?_)
  first | rw [show A.in1.handled = none from hh] | rw [hh]
  exact wpAny_bind (wpAny_pure (wpAny_throw (hE _ _ (((Heap.SameBut.update ..).extBut.push _).push _) ⟨_, Heap.get?_push_size _ rfl, rfl⟩)))
theorem dl_draws (hh : A.handled = none) (it l : Addr) (hne : l ≠ it) (us : Array Value) : Draws prog w A it [it, l] us.size (fun i v => us[i]? = some v) (fun i h => h.IsTupleIter it l i ∧ h.IsTuple l us) where
  live := fun _ _ ⟨⟨o, ho, _⟩, _⟩ => ⟨o, ho⟩
  frame := fun _ _ _ ⟨⟨o, ho, r⟩, ⟨o2, ho2, r2⟩⟩ hk => ⟨⟨o, hk it (by simp) o ho, r⟩, ⟨o2, hk l (by simp) o2 ho2, r2⟩⟩
  item := fun i s Q E hi st hQ => dl_nextT st.1 st.2 (x := us[i]) (by simp [hi]) fun h' hit' hs' => hQ _ h' s.toks (by simp [hi]) ⟨hit', st.2.extBut hs'.extBut hne⟩ hs'
  done := fun s Q E st hE => dl_nextTend hh st.1 st.2 (by simp) hE
theorem dl_enumTend {e it t : Addr} {i : Nat} {j : Int} {us : Array Value} {old : Value} {Q : Option Value → Shared → Prop} (hh : A.handled = none) (he : IsEnum s.heap e it j old) (hit : s.heap.IsTupleIter it t i) (ht : s.heap.IsTuple t us) (hx : us[i]? = none)
    (hQ : ∀ h', Heap.ExtBut it s.heap h' → Q none { s with heap := h' }) : wpAny (model prog w) A (pyNext (.ref e)) Q E s := by
  have tE : s.TypeIs (.ref e) "enumerate" := ⟨_, he, rfl⟩
  unfold pyNext; refine wpAny_bind (wpAny_attempt (wpAny_callSpecial?_slot (name := Str.ofString "__next__") tE F.slot_enumerate_next (wpAny_call_entry F.slot_enumerate_next tE F.entry_enumerate_next ?_ (F.args_enumerate_next_1 _))))
  show wpAny _ _ (field (.ref e) 2 >>= _) _ _ _; refine wpAny_bind (wpAny_field he rfl (x := .ref it) rfl ?_)
  refine wpAny_bind (dl_nextTend hh hit ht hx fun h' x he' ⟨o, ho, hc⟩ => ?_)
  exact wpAny_bind (wpAny_isInstance (T := "StopIteration") (b := true) ⟨o, ho, hc⟩ isSubtype_stop (wpAny_pure (hQ _ he')))
end
end PySem
namespace DL
open PySem L2 Evl
def Itt (K : PySem.W.Frag) (a : Addr) : It :=
  ⟨fun i H => ∃ (xs : List V) (x : V), SqT K H a xs ∧ xs[i]? = some x, fun i H v H' => ∃ T x, v = .ref T ∧ H T = none ∧ H' = upd H T (.tup [.int (i : Nat), x]) ∧ ∀ xs, SqT K H a xs → xs[i]? = some x, fun i H => ∃ xs : List V, SqT K H a xs ∧ xs.length ≤ i⟩
theorem tupIter_ne {h : Heap} {a b : Addr} {us : Array Value} {i : Nat} (x : h.IsTuple a us) (y : h.IsTupleIter b a i) : a ≠ b := fun z => by
  subst z
  obtain ⟨o, h1, h2, _⟩ := x
  obtain ⟨u, k1, k2, _⟩ := y
  rw [h1] at k1
  cases k1
  rw [h2] at k2
  exact absurd k2 (by simp)
theorem turn_enumT {P : Program} {w : World} {K : PySem.W.Frag} {elts : List Expr} {kk : Nat} {tpos : Pos} (a e it : Addr) :
    Turn P w K (.Tuple elts kk tpos) (Itt K a) [e, it] e (fun i h => (∃ old, IsEnum h e it ((i : Nat) : Int) old) ∧ h.IsTupleIter it a i ∧ e ≠ it) where
  mem := by simp
  obj := fun i h st b hb => by
    obtain ⟨⟨old, he⟩, ⟨o, ho, hc, hd⟩, _⟩ := st
    rcases (show b = e ∨ b = it by simpa using hb) with z | z
    · rw [z]; exact ⟨_, he, fun v q => nomatch q⟩
    · rw [z]; exact ⟨o, ho, fun v q => by rw [hd] at q; cases q⟩
  keep := fun i h h' ⟨⟨old, he⟩, ⟨o, ho, r⟩, hne⟩ k => ⟨⟨old, k e (by simp) _ he⟩, ⟨o, k it (by simp) o ho, r⟩, hne⟩
  item := by
    intro X hP hw hK hc i pins s σ H E I hf st hg
    subst hP hw hK
    obtain ⟨⟨old, he⟩, hit, hne⟩ := st
    obtain ⟨xs, x, hq, hx⟩ := hg
    obtain ⟨its, rv, p, hz⟩ := I.tuple hq
    obtain ⟨u, hu, ru⟩ := rv.get hx
    have p : s.heap.IsTuple a its.toArray := p
    have hel : e < s.heap.objs.size := Heap.lt_size he
    have hil : it < s.heap.objs.size := by obtain ⟨_, q, _⟩ := hit; exact Heap.lt_size q
    have hai : a ≠ it := tupIter_ne p hit
    have hae : e ≠ a := fun z => by
      obtain ⟨o, h1, h2, _⟩ := p
      have he2 : s.heap.get? e = _ := he
      rw [z, h1] at he2
      cases he2
      exact absurd h2 (by simp)
    have hlt : i < its.toArray.size := by
      have := (List.getElem?_eq_some_iff.mp hu).1
      simpa using this
    refine wpAny_pyNext_enum_itemD (fp := [it, a]) (dl_draws (A := X.A.in1) (show X.A.in1.handled = none from I.ok.hd hc) it a hai its.toArray) he ⟨hit, p⟩ hlt hne (by simp; exact ⟨hne, hae⟩) fun x' h' tk px ho hit' hT hsz hk => ?_
    have ex : x' = u := by
      have q : its[i]? = some x' := by simpa using px
      rw [hu] at q
      exact (Option.some.inj q).symm
    subst ex
    refine ⟨_, rfl, wpAny_letOwnedTupleGo_enum (s := { s with heap := h', toks := tk + 1 }) ho fun h'' he' sb => ?_⟩
    have hT2 : h''.get? s.heap.objs.size = some { cls := .type "tuple", data := .seq #[.int i tk, x'] } := (sb.2 _ (Nat.ne_of_gt hel)).trans hT
    have new : ObjOk X.prog X.w (upd H s.heap.objs.size (.tup [.int (i : Nat), x])) h'' s.heap.objs.size (.tup [.int (i : Nat), x]) :=
      ⟨by show 2 ≤ sizeLine; decide, [.int i tk, x'], .cons ⟨_, rfl⟩ (.cons ru .nil), ⟨_, hT2, rfl, _, rfl⟩⟩
    have I1 : Inv X pins σ (upd H s.heap.objs.size (.tup [.int (i : Nat), x])) { s with heap := h'', toks := tk + 1 } :=
      I.turnedNew (ch := [e, it]) (fun b ob hb q => (sb.2 b (fun z => hb (by simp [z]))).trans (hk b ob (fun z => hb (by simp [z])) (fun z => hb (by simp [z])) q)) hf (Nat.le_refl _) new
    refine ⟨.ref s.heap.objs.size, _, I1, rfl, ⟨_, x, rfl, I.hok.fresh (Nat.le_refl _), rfl, fun ys hy => by rw [I.tuple_inj hy hq]; exact hx⟩, ⟨⟨x', ?_⟩, ?_, hne⟩, fun b hb => ?_⟩
    · rw [show ((i + 1 : Nat) : Int) = (i : Int) + 1 by omega]; exact he'
    · obtain ⟨o, q1, r⟩ := hit'.1
      exact ⟨o, (sb.2 it (Ne.symm hne)).trans q1, r⟩
    · have hb' : b < s.heap.objs.size := by
        rcases (show b = e ∨ b = it by simpa using hb) with z | z
        · rw [z]; exact hel
        · rw [z]; exact hil
      rw [upd_ne (Nat.ne_of_lt hb')]
      exact (hf b hb).1
  done := by
    intro X hP hw hK hc i pins s σ H E I hf st hg
    subst hP hw hK
    obtain ⟨⟨old, he⟩, hit, hne⟩ := st
    obtain ⟨xs, hq, hx⟩ := hg
    obtain ⟨its, rv, p, hz⟩ := I.tuple hq
    have p : s.heap.IsTuple a its.toArray := p
    obtain ⟨f0, f1, f2, f3, f4, f5⟩ := hf it (by simp)
    have hl := rv.length
    exact dl_enumTend (I.ok.hd hc) he hit p (by simp; omega) fun h' eb => ⟨rfl, I.turned (t' := s.toks) (fun b o hb q => eb b o hb q) f0 f1 f3 f4 f5⟩
  self := fun A i s Q E ⟨⟨_, he⟩, _⟩ h => wpAny_pyIter_enum he h
section
open PySem.Spec PyProof.Rows
def iEnumX (K : PySem.W.Frag) (ta : TA) : TI := fun σ H R => ta σ H fun vs H1 => ∃ a xs, vs = [.ref a] ∧ ((SqL K H1 a xs ∧ R (Ite K a) H1) ∨ (SqT K H1 a xs ∧ R (Itt K a) H1))
theorem pi_enumX {X : Cx} {e : Expr} {ta : TA} {p pos tpos : Pos} {elts : List Expr} {kk : Nat} (hg : Gl X "enumerate") (hm : X.mg "enumerate" = none) (ha : PA X [e] ta) (hs : starEach [e] X.env = [(false, eval e X.env)] := by rfl) :
    PI X (.Tuple elts kk tpos) (.Call (.Name "enumerate" p) [e] [] pos) (iEnumX X.K ta) := by
  refine ⟨fun pins s σ H R I h => ?_⟩
  refine Call_ (ld_blt I hg hm boot_enumerate (PyProof.Rows.callWith_type1 (thn (ha.run pos pins s σ H _ I h) fun us s1 ⟨vs, H1, I1, r1, q1⟩ => ?_) hs rfl))
  obtain ⟨a, xs, ex, q1⟩ := q1; subst ex
  cases r1 with
  | cons r rr =>
    cases rr; cases r
    have fin : ∀ {h' : Heap}, (∀ b o, s1.heap.get? b = some o → h'.get? b = some o) → Inv X pins σ H1 { s1 with heap := h' } ∧ ∀ b ∈ [s1.heap.objs.size + 1, s1.heap.objs.size], FpOk X pins H1 b := fun {h'} hk => by
      refine ⟨I1.kept (t' := s1.toks) hk, fun b hb => ?_⟩
      have hle : s1.heap.objs.size ≤ b := by
        rcases (show b = s1.heap.objs.size + 1 ∨ b = s1.heap.objs.size by simpa using hb) with z | z <;> omega
      exact I1.fpOk hle (I1.hok.fresh hle)
    rcases q1 with ⟨hq, q⟩ | ⟨hq, q⟩
    · obtain ⟨its, rv, p', hz⟩ := I1.list hq
      refine call_enumerate_list p'.isList fun h' he hit hsz hk => wpAny_pyIter_enum he ?_
      obtain ⟨I2, hf⟩ := fin hk
      exact ⟨s1.heap.objs.size + 1, [s1.heap.objs.size + 1, s1.heap.objs.size], _, _, H1, rfl, I2, turn_enum a (s1.heap.objs.size + 1) s1.heap.objs.size, ⟨⟨.none, he⟩, hit, Nat.succ_ne_self _⟩, hf, q⟩
    · obtain ⟨its, rv, p', hz⟩ := I1.tuple hq
      refine dl_call_enumT p' fun h' he hit hk => wpAny_pyIter_enum he ?_
      obtain ⟨I2, hf⟩ := fin hk
      exact ⟨s1.heap.objs.size + 1, [s1.heap.objs.size + 1, s1.heap.objs.size], _, _, H1, rfl, I2, turn_enumT a (s1.heap.objs.size + 1) s1.heap.objs.size, ⟨⟨.none, he⟩, hit, Nat.succ_ne_self _⟩, hf, q⟩
end
def diEnumX (de : DE) : DI := fun ρ q er => de ρ (fun t ρ1 => match t with
  | .val (.lst ds) => q (enumD ds) ρ1
  | .val (.tup ds) => q (enumD ds) ρ1
  | _ => False) er
section
variable {K : PySem.W.Frag} {pa : PaG} {W : WX} {te : TE} {de : DE}
theorem itOk_enumT {G : Hp} {a : Addr} {vs : List V} {ds : List D} (h : SqT K G a vs) (r : Reps K G vs ds) : ItOk K G (Itt K a) (enumD ds) where
  go := fun i H e hi => ⟨vs, vs[i]'(by rw [r.length, ← enumD_length]; exact hi), ex_t e h, by simp⟩
  stop := fun i H e hi => ⟨vs, ex_t e h, by rw [r.length, ← enumD_length]; exact hi⟩
  yld := fun i H x H' y G1 e1 e2 d hd => by
    obtain ⟨T, z, rfl, hT, rfl, hz⟩ := y
    obtain ⟨e, he, rfl⟩ := enumD_get hd
    obtain ⟨v, hv, rv⟩ := r.get he
    have q := hz vs (ex_t (e1.trans e2) h)
    rw [hv] at q
    obtain rfl : v = z := Option.some.inj q
    have a := Al.one (G := G1) (p := T) (o := .tup [.int (i : Int), v]) e2 hT
    exact ⟨_, a, .tup (SqT.of upd_same) (.cons (.int _) (.cons ((rv.mono e1).mono a.g) .nil))⟩
theorem si_enumX (he : SE K pa W te de) : SI K pa W (iEnumX K (tCons te tNil)) (diEnumX de) := fun F G σ H ρ R q er S h k x =>
  he F G σ H ρ _ _ er S h (fun G1 H1 v t ρ1 e1 S1 r1 h1 => by
    cases t with
    | bor i => exact h1.elim
    | val d =>
      have r1 : Rep K G1 v d := r1
      cases r1 with
      | lst hr rr => exact ⟨_, _, rfl, .inl ⟨ex_l S1.ex hr, k G1 H1 _ _ ρ1 e1 S1 (itOk_enum hr rr) h1⟩⟩
      | tup hr rr => exact ⟨_, _, rfl, .inr ⟨ex_t S1.ex hr, k G1 H1 _ _ ρ1 e1 S1 (itOk_enumT hr rr) h1⟩⟩
      | _ => exact h1.elim) x
end
end DL
namespace DL
open PySem L2 Evl ClX
section
variable {K : PySem.W.Frag} {pa : PaG} {W : WX} {C : Addr} {f : Str} {d : D}
structure CCon (K : PySem.W.Frag) (C : Addr) (f : Str) (d : D) : Prop where
  ex : ∃ mc v u, CRead K C mc ∧ CVal K C mc f v u ∧ ∀ G, Rep K G v d
theorem se_cval (h : CCon K C f d) : SE K pa W (tCVal K (tC (.ref C)) f) (dC d) := fun F G σ H ρ Q q er S h0 k x => by
  obtain ⟨mc, v, u, h1, h2, h3⟩ := h.ex
  exact ⟨C, mc, v, u, rfl, h1, h2, k G H v (.val d) ρ (Ex.refl G) S (h3 G) h0⟩
end
def D.bls : List D → Option (List Bool)
  | [] => some []
  | .bl b :: ds => (D.bls ds).map fun bs => b :: bs
  | _ :: _ => none
def D.ints : List D → Option (List Int)
  | [] => some []
  | .int b :: ds => (D.ints ds).map fun bs => b :: bs
  | _ :: _ => none
def D.all : List D → Option D
  | [.lst ds] => (D.bls ds).map fun bs => .bl (bs.all id)
  | _ => none
def D.any : List D → Option D
  | [.lst ds] => (D.bls ds).map fun bs => .bl (bs.any id)
  | _ => none
def D.sum : List D → Option D
  | [.lst ds] => (D.ints ds).map fun bs => .int bs.sum
  | _ => none
def maxI : Int → List Int → Int
  | m, [] => m
  | m, n :: ns => maxI (if n > m then n else m) ns
def D.max : List D → Option D
  | [.lst ds] => (D.ints ds).bind fun
    | [] => none
    | n :: ns => some (.int (maxI n ns))
  | _ => none
def D.abs : List D → Option D
  | [.int i] => some (.int (if i < 0 then -i else i))
  | _ => none
section
variable {K : PySem.W.Frag} {G : Hp}
theorem reps_bls : ∀ {ds : List D} {vs : List V} {bs : List Bool}, Reps K G vs ds → D.bls ds = some bs → vs = bs.map V.bl
  | _, _, _, .nil, h => by cases h; rfl
  | .bl b :: ds, _, bs, .cons r rr, h => by
    have h : (D.bls ds).map (fun bs => b :: bs) = some bs := h
    cases q : D.bls ds with
    | none => rw [q] at h; cases h
    | some cs => rw [q] at h; cases h; cases r; rw [reps_bls rr q]; rfl
theorem reps_ints : ∀ {ds : List D} {vs : List V} {bs : List Int}, Reps K G vs ds → D.ints ds = some bs → vs = bs.map V.int
  | _, _, _, .nil, h => by cases h; rfl
  | .int b :: ds, _, bs, .cons r rr, h => by
    have h : (D.ints ds).map (fun bs => b :: bs) = some bs := h
    cases q : D.ints ds with
    | none => rw [q] at h; cases h
    | some cs => rw [q] at h; cases h; cases r; rw [reps_ints rr q]; rfl
theorem lst_one {H : Hp} {xs : List V} {ds : List D} (e : Ex G H) (rx : RepTs K G H xs [.lst ds]) : ∃ p vs, xs = [.ref p] ∧ SqL K H p vs ∧ Reps K G vs ds := by
  obtain ⟨x, rfl, r⟩ := rx.one
  obtain ⟨p, vs, rfl, hs, rr⟩ := r.lst e
  exact ⟨p, vs, rfl, hs, rr⟩
theorem sc_all : SC K (rAll K) D.all := fun G H xs ds z Q e rx q k => by
  match ds, q, rx with
  | [.lst ds], q, rx =>
    have q : (D.bls ds).map (fun bs => D.bl (bs.all id)) = some z := q
    obtain ⟨p, vs, rfl, hs, rr⟩ := lst_one e rx
    cases q2 : D.bls ds with
    | none => rw [q2] at q; cases q
    | some bs => rw [q2] at q; cases q; exact ⟨p, bs, rfl, reps_bls rr q2 ▸ hs, k G H _ (Al.refl e) (.bl _)⟩
end
def kwPerm {α : Type} (is : List Nat) (us ws : List α) : List α := us ++ is.filterMap fun i => ws[i]?
section
variable {K : PySem.W.Frag} {G : Hp} {σ : RSt}
theorem paired_get {vs : List V} {us : List Value} (r : Vals vs us) (i : Nat) : (vs[i]? = none ∧ us[i]? = none) ∨ ∃ v u, vs[i]? = some v ∧ us[i]? = some u ∧ RelV v u := by
  cases h : vs[i]? with
  | none =>
    refine .inl ⟨rfl, ?_⟩
    rw [List.getElem?_eq_none_iff] at h ⊢
    rw [← r.length]; exact h
  | some v =>
    obtain ⟨u, h1, h2⟩ := r.get h
    exact .inr ⟨v, u, rfl, h1, h2⟩
theorem kwPerm_vals {vs zs : List V} {us ws : List Value} (r : Vals vs us) (rz : Vals zs ws) : ∀ is : List Nat, Vals (kwPerm is vs zs) (kwPerm is us ws) := fun is => by
  refine r.append ?_
  induction is with
  | nil => exact .nil
  | cons i is ih =>
    rw [List.filterMap_cons, List.filterMap_cons]
    rcases paired_get rz i with ⟨h1, h2⟩ | ⟨v, u, h1, h2, h3⟩
    · rw [h1, h2]; exact ih
    · rw [h1, h2]; exact .cons h3 ih
theorem TkRs.get : ∀ {vs : List V} {ts : List T} (i : Nat), TkRs K G σ vs ts → (vs[i]? = none ∧ ts[i]? = none) ∨ ∃ v t, vs[i]? = some v ∧ ts[i]? = some t ∧ TkR K G σ v t
  | _, _, _, .nil => .inl ⟨by simp, by simp⟩
  | _, _, 0, .cons h _ => .inr ⟨_, _, rfl, rfl, h⟩
  | _, _, i + 1, .cons _ r => by
    rcases TkRs.get i r with ⟨h1, h2⟩ | ⟨v, t, h1, h2, h3⟩
    · exact .inl ⟨by simpa using h1, by simpa using h2⟩
    · exact .inr ⟨v, t, by simpa using h1, by simpa using h2, h3⟩
theorem TkRs.append : ∀ {vs ws : List V} {ts us : List T}, TkRs K G σ vs ts → TkRs K G σ ws us → TkRs K G σ (vs ++ ws) (ts ++ us)
  | _, _, _, _, .nil, r => r
  | _, _, _, _, .cons h t, r => .cons h (TkRs.append t r)
theorem kwPerm_tk {vs zs : List V} {us ws : List T} (r : TkRs K G σ vs us) (rz : TkRs K G σ zs ws) : ∀ is : List Nat, TkRs K G σ (kwPerm is vs zs) (kwPerm is us ws) := fun is => by
  refine r.append ?_
  induction is with
  | nil => exact .nil
  | cons i is ih =>
    rw [List.filterMap_cons, List.filterMap_cons]
    rcases TkRs.get i rz with ⟨h1, h2⟩ | ⟨v, u, h1, h2, h3⟩
    · rw [h1, h2]; exact ih
    · rw [h1, h2]; exact .cons h3 ih
end
def KwOk (K : PySem.W.Frag) (fd : FuncData) (ps : List Str) (n : Nat) (ks : List Str) (is : List Nat) : Prop := ∀ (s : Shared) (us ws : List Value), K.In s.heap → us.length = n → ws.length = ks.length → BindsTo s fd ⟨us, ks.zip ws⟩ (ps.zip (kwPerm is us ws))
def tKw (n m : Nat) (is : List Nat) (t tk : TA) : TA := fun σ H Q => t σ H fun vs H1 => tk σ H1 fun zs H2 => (vs.length = n ∧ zs.length = m) ∧ Q (kwPerm is vs zs) H2
def dKw (n m : Nat) (is : List Nat) (da dk : DA) : DA := fun ρ q er => da ρ (fun ts ρ1 => dk ρ1 (fun us ρ2 => (ts.length = n ∧ us.length = m) ∧ q (kwPerm is ts us) ρ2) er) er
section
variable {K : PySem.W.Frag} {pa : PaG} {W : WX} {ta tk : TA} {da dk : DA} {n m k : Nat} {is : List Nat} {te : TE} {de : DE} {C : Addr} {dsp : DSp} {f : Str}
theorem sa_kw (ha : SA K pa W ta da) (hk : SA K pa W tk dk) : SA K pa W (tKw n m is ta tk) (dKw n m is da dk) := fun F G σ H ρ Q q er S h k x =>
  ha F G σ H ρ _ _ er S h (fun G1 H1 vs ts ρ1 e1 S1 r1 h1 => hk F G1 σ H1 ρ1 _ _ er S1 h1 (fun G2 H2 zs us ρ2 e2 S2 r2 h2 =>
    ⟨⟨by rw [r1.length]; exact h2.1.1, by rw [r2.length]; exact h2.1.2⟩, k G2 H2 _ _ ρ2 (e1.trans e2) S2 (kwPerm_tk (r1.mono e2) r2 is) h2.2⟩) (x.grow e1)) x
end
section
variable {X : Cx} {CX : CXT} {k n : Nat} {f C : Addr} {fd : FuncData} {ps ks : List Str} {is : List Nat} {sp : Sp} {E : XK} {x m : Str} {p pos apos : Pos} {e o : Expr} {es : List Expr} {kws : List Keyword} {ta : TE} {t tk : TA}
theorem run_kw {pins : List (Addr × Obj)} {σ : RSt} {H : Hp} {s : Shared} {Q : VK} {us ws : List Value} {vs zs : List V} (F : FnOk X.prog X.w X.K X.mg X.base CX k f fd ps sp) (hr : Room k X.A) (hb : KwOk X.K fd ps n ks is) (hx : Passes CX X E) (I : Inv X pins σ H s) (r : Vals vs us) (rz : Vals zs ws)
    (l1 : vs.length = n) (l2 : zs.length = ks.length) (h : sp (kwPerm is vs zs) H Q E) : wpAny (model X.prog X.w) X.A (call (.ref f) us (ks.zip ws)) (EP X pins σ Q) X.xe s := by
  refine wpAny_call (codeAny_mono (F.run X.A X.stack s H ⟨us, ks.zip ws⟩ (kwPerm is us ws) (kwPerm is vs zs) Q E hr I.env0 (hb s us ws I.kIn (by rw [← r.length]; exact l1) (by rw [← rz.length]; exact l2)) (kwPerm_vals r rz is) h) fun r' s' hq => ?_)
  cases r' with
  | error e => exact hx pins σ H s e s' I hq
  | ok fl =>
    cases fl with
    | ret u => exact I.after hq
    | next => exact False.elim hq
    | brk => exact False.elim hq
    | cont => exact False.elim hq
end
end DL
namespace DL
open PySem L2 Evl
def dMethF (C : Addr) (m : Str) (dsp : DSp) (de : DE) (da : DA) : DF := fun ρ q er => de ρ (fun t ρ1 => Opt (rd ρ1 t) fun d => d.noF m C = true ∧ da ρ1 (fun ts ρ2 => Opt (argsOf ρ2 (t :: ts)) fun av => (bors (t :: ts)).Nodup ∧ dsp av (fun d os => q d (putOuts ρ2 (bors (t :: ts)) os)) (fun C' fs os => er C' fs (putOuts ρ2 (bors (t :: ts)) os))) er) er
end DL
namespace DL
open PySem L2 Evl
def spTrue (K : PySem.W.Frag) : Sp := fun vs H Q _ => ∃ (a : Addr) (ns : List Int), vs = [.ref a] ∧ SqL K H a (ns.map V.int) ∧ ns.length ≤ 63 ∧ ∀ H', Q (.bl true) H'
theorem spTrue_of {K : PySem.W.Frag} {dsp : DSp} (h : ∀ ns : List Int, ns.length ≤ 63 → dsp [.val (.lst (ns.map D.int))] (fun d _ => d = .bl true) (fun _ _ _ => False)) : ∀ (vs : List V) (H : Hp) (Q : VK) (E : XK), spTrue K vs H Q E → SpV K 1 dsp vs H Q E := by
  rintro vs H Q E ⟨a, ns, rfl, hs, hl, k⟩
  refine ⟨[], fun _ => none, H, [.val (.lst (ns.map D.int))], rfl, Ex.refl H, (fun b o q => by cases q), ⟨fun b o q => (by cases q), fun p hp => (by cases hp), fun p hp => (by cases hp), fun z => absurd rfl z⟩, .val (.lst hs (Reps.ints ns)) .nil, List.nodup_nil, _, _, h ns hl, fun G' H' v d os _ _ _ _ _ r e => ?_, fun _ _ _ _ _ _ _ _ _ _ _ _ _ _ q => q.elim⟩
  subst e
  cases r
  exact k H'
end DL
namespace DL
open PySem L2 Evl PyProof.Rows
section
variable {X : Cx} {K : PySem.W.Frag}
def dCKw (f : List D → List D → Option D) (da dk : DA) : DE := fun ρ q er => da ρ (fun ts ρ1 => dk ρ1 (fun us ρ2 => Opt (rds ρ2 ts) fun ds => Opt (rds ρ2 us) fun es => Opt (f ds es) fun z => q (.val z) ρ2) er) er
theorem TkRs.grow {K : PySem.W.Frag} {G G' : Hp} {σ : RSt} (e : Ex G G') {vs : List V} {ts : List T} (h : TkRs K G σ vs ts) : TkRs K G' σ vs ts := h.mono e
end
end DL
namespace DL
open PySem L2 Evl PyProof.Rows
section
variable {K : PySem.W.Frag} {pa : PaG} {W : WX} {te tf : TE} {de df : DE} {tk : TA} {dk : DA}
def dListRg1 (da : DE) : DF := fun ρ q er => da ρ (fun t ρ1 => Opt (rd ρ1 t) fun d => match d with
  | .int j => RgOk 0 j ∧ q (.lst ((List.range j.toNat).map fun (k : Nat) => .int (k : Int))) ρ1
  | _ => False) er
def D.index (a b : D) : Option D := match a.toP, b.toP with
  | some (.list ps), some p => if SeqAt.shaped (.list ps) = true ∧ SeqAt.shaped p = true then (ps.findIdx? fun z => PyData.eqv z p).map fun j => .int (j : Int) else none
  | _, _ => none
def dIndex (de df : DE) : DE := fun ρ q er => de ρ (fun s ρ1 => Opt (rd ρ1 s) fun a0 => a0.isLst = true ∧ df ρ1 (fun t ρ2 => Opt (rd ρ2 s) fun a => Opt (rd ρ2 t) fun b => Opt (D.index a b) fun z => q (.val z) ρ2) er) er
end
end DL
namespace DL
open PySem L2 Evl
theorem D_add (i j : Int) : D.add (.int i) (.int j) = some (.int (i + j)) := rfl
theorem D_sub (i j : Int) : D.sub (.int i) (.int j) = some (.int (i - j)) := rfl
theorem D_mod {i j : Int} (h : 0 < j) : D.mod (.int i) (.int j) = some (.int (i % j)) := by unfold D.mod; simp [h]
theorem D_div {i j : Int} (h : CDivW i j) : D.fdiv (.int i) (.int j) = some (.int (i / j)) := by unfold D.fdiv; simp [h]
theorem D_pow {i j : Int} (h : CPow i j) : D.pow (.int i) (.int j) = some (.int (i ^ j.toNat)) := by unfold D.pow; simp [h]
theorem D_mul {i j : Int} (h : CMul i j) : D.mul (.int i) (.int j) = some (.int (i * j)) := by unfold D.mul; simp [h]
theorem D_addS {x y : Str} (h : x.length + y.length ≤ sizeLine) : D.add (.str x) (.str y) = some (.str (x ++ y)) := by unfold D.add; simp [h]
theorem D_addL {x y : List D} (h : x.length + y.length ≤ sizeLine) : D.add (.lst x) (.lst y) = some (.lst (x ++ y)) := by unfold D.add; simp [h]
theorem ixn {xs : List D} {n : Nat} {i : Int} (e : i = (n : Int)) (h : n < xs.length) : D.ix (.lst xs) (.int i) = xs[n]? := by
  subst e
  show (ixN xs.length (n : Int)).bind (fun j => xs[j]?) = _
  unfold ixN
  rw [if_pos (by omega), if_pos (by omega)]
  rfl
theorem ix_last {xs : List D} {x : D} : D.ix (.lst (xs ++ [x])) (.int (-1)) = some x := by
  show (ixN (xs ++ [x]).length (-1)).bind (fun j => (xs ++ [x])[j]?) = _
  have e : ixN (xs ++ [x]).length (-1) = some xs.length := by
    unfold ixN
    rw [if_neg (by omega), if_pos (by simp; omega)]
    simp
    omega
  rw [e]
  simp
theorem ix0 (x : D) (xs : List D) : D.ix (.lst (x :: xs)) (.int 0) = some x := ixn (n := 0) rfl (by simp)
theorem ix1 (x y : D) (xs : List D) : D.ix (.lst (x :: y :: xs)) (.int 1) = some y := ixn (n := 1) rfl (by simp)
theorem ix2 (x y z : D) (xs : List D) : D.ix (.lst (x :: y :: z :: xs)) (.int 2) = some z := ixn (n := 2) rfl (by simp)
theorem ix3 (x y z u : D) (xs : List D) : D.ix (.lst (x :: y :: z :: u :: xs)) (.int 3) = some u := ixn (n := 3) rfl (by simp)
theorem ix4 (x y z u v : D) (xs : List D) : D.ix (.lst (x :: y :: z :: u :: v :: xs)) (.int 4) = some v := ixn (n := 4) rfl (by simp)
theorem tx0 (x : D) (xs : List D) : D.ix (.tup (x :: xs)) (.int 0) = some x := ixn (n := 0) rfl (by simp)
theorem tx1 (x y : D) (xs : List D) : D.ix (.tup (x :: y :: xs)) (.int 1) = some y := ixn (n := 1) rfl (by simp)
theorem tx2 (x y z : D) (xs : List D) : D.ix (.tup (x :: y :: z :: xs)) (.int 2) = some z := ixn (n := 2) rfl (by simp)
theorem sx0 : ixN 3 0 = some 0 := rfl
theorem sx1 : ixN 3 1 = some 1 := rfl
theorem sx2 : ixN 3 2 = some 2 := rfl
mutual
def D.nice : Nat → D → Bool
  | _, .non => true
  | _, .bl _ => true
  | _, .int _ => true
  | _, .str x => PyData.strOk x
  | 0, .lst _ => false
  | 0, .tup _ => false
  | n + 1, .lst xs => D.nices n xs
  | n + 1, .tup xs => D.nices n xs
  | _, _ => false
def D.nices : Nat → List D → Bool
  | _, [] => true
  | n, x :: xs => D.nice n x && D.nices n xs
end
mutual
theorem nice_p : ∀ {d : D} {n : Nat}, d.nice n = true → ∃ p, d.toP = some p ∧ p.canLay0 = true ∧ p.depth ≤ n
  | .non, n, _ => ⟨.none, rfl, rfl, Nat.zero_le _⟩
  | .bl b, n, _ => ⟨.bool b, rfl, rfl, Nat.zero_le _⟩
  | .int b, n, _ => ⟨.int b, rfl, rfl, Nat.zero_le _⟩
  | .str x, n, h => ⟨.str x, rfl, by cases n <;> exact h, Nat.zero_le _⟩
  | .lst xs, 0, h => by cases h
  | .lst xs, n + 1, h => by
    obtain ⟨ps, h1, h2, h3⟩ := nices_p (d := xs) (n := n) h
    exact ⟨.list ps, by rw [D.toP, h1]; rfl, h2, by rw [PyData.depth]; omega⟩
  | .tup xs, 0, h => by cases h
  | .tup xs, n + 1, h => by
    obtain ⟨ps, h1, h2, h3⟩ := nices_p (d := xs) (n := n) h
    exact ⟨.tuple ps, by rw [D.toP, h1]; rfl, h2, by rw [PyData.depth]; omega⟩
  | .byt _, n, h => by cases n <;> cases h
  | .dct _, n, h => by cases n <;> cases h
  | .ins _ _, n, h => by cases n <;> cases h
  | .ptr _, n, h => by cases n <;> cases h
  | .ty _, n, h => by cases n <;> cases h
theorem nices_p : ∀ {d : List D} {n : Nat}, D.nices n d = true → ∃ ps, D.toPs d = some ps ∧ PyData.canLayAll0 ps = true ∧ PyData.depthAll ps ≤ n
  | [], n, _ => ⟨[], rfl, rfl, Nat.zero_le _⟩
  | x :: xs, n, h => by
    have h : (D.nice n x && D.nices n xs) = true := by cases n <;> exact h
    rw [Bool.and_eq_true] at h
    obtain ⟨p, a1, a2, a3⟩ := nice_p h.1
    obtain ⟨ps, b1, b2, b3⟩ := nices_p h.2
    exact ⟨p :: ps, by rw [D.toPs, a1, b1]; rfl, by rw [PyData.canLayAll0, a2, b2]; rfl, by rw [PyData.depthAll]; omega⟩
end
theorem nice_sh {d : D} {n : Nat} (h : d.nice n = true) (hn : n ≤ 64) : ∃ p, d.toP = some p ∧ SeqAt.shaped p = true := by
  obtain ⟨p, h1, h2, h3⟩ := nice_p h
  exact ⟨p, h1, by unfold SeqAt.shaped; rw [h2]; simpa using Nat.le_trans h3 hn⟩
mutual
theorem eqv_refl : ∀ p : PyData, p.canLay0 = true → PyData.eqv p p = true
  | .none, _ => rfl
  | .bool b, _ => by simp [PyData.eqv]
  | .int b, _ => by simp [PyData.eqv]
  | .str b, _ => by simp [PyData.eqv]
  | .list xs, h => eqvAll_refl xs h
  | .tuple xs, h => eqvAll_refl xs h
  | .dict _, h => by cases h
theorem eqvAll_refl : ∀ p : List PyData, PyData.canLayAll0 p = true → PyData.eqvAll p p = true
  | [], _ => rfl
  | x :: xs, h => by
    rw [PyData.canLayAll0, Bool.and_eq_true] at h
    rw [PyData.eqvAll, eqv_refl x h.1, eqvAll_refl xs h.2]; rfl
end
theorem eqB_nice {a b : D} {n m : Nat} (ha : a.nice n = true) (hb : b.nice m = true) (hn : n ≤ 64) (hm : m ≤ 64) : ∃ p q, a.toP = some p ∧ b.toP = some q ∧ D.eqB a b = some (PyData.eqv p q) := by
  obtain ⟨p, h1, h2⟩ := nice_sh ha hn
  obtain ⟨q, k1, k2⟩ := nice_sh hb hm
  exact ⟨p, q, h1, k1, by unfold D.eqB; rw [h1, k1]; simp [h2, k2]⟩
theorem eq_self {a : D} {n : Nat} (ha : a.nice n = true) (hn : n ≤ 64) : D.eq a a = some (.bl true) ∧ D.ne a a = some (.bl false) := by
  obtain ⟨p, q, h1, h2, h3⟩ := eqB_nice ha ha hn hn
  rw [h1] at h2
  cases h2
  obtain ⟨p', k1, k2, _⟩ := nice_p ha
  rw [h1] at k1
  cases k1
  unfold D.eq D.ne
  rw [h3, eqv_refl p k2]
  exact ⟨rfl, rfl⟩
theorem eq_int (i j : Int) : D.eq (.int i) (.int j) = some (.bl (i == j)) := rfl
theorem ne_int (i j : Int) : D.ne (.int i) (.int j) = some (.bl (!(i == j))) := rfl
theorem ne_nil {xs : List D} {n : Nat} (h : D.nices n xs = true) (hn : n ≤ 63) : D.ne (.lst xs) (.lst []) = some (.bl (!xs.isEmpty)) ∧ D.eq (.lst xs) (.lst []) = some (.bl xs.isEmpty) := by
  obtain ⟨p, q, h1, h2, h3⟩ := eqB_nice (a := .lst xs) (b := .lst []) (n := n + 1) (m := 1) h rfl (by omega) (by decide)
  cases h2
  cases xs with
  | nil => cases h1; unfold D.ne D.eq; rw [h3]; exact ⟨rfl, rfl⟩
  | cons x xs =>
    have h1 : (D.toPs (x :: xs)).map PyData.list = some p := by rw [← h1, D.toP]
    cases e : D.toPs (x :: xs) with
    | none => rw [e] at h1; cases h1
    | some ps =>
      rw [e] at h1
      cases h1
      have : ∃ y ys, ps = y :: ys := by
        rw [D.toPs] at e
        cases e1 : D.toP x with
        | none => rw [e1] at e; cases e
        | some y =>
          cases e2 : D.toPs xs with
          | none => rw [e1, e2] at e; cases e
          | some ys => rw [e1, e2] at e; cases e; exact ⟨_, _, rfl⟩
      obtain ⟨y, ys, rfl⟩ := this
      unfold D.ne D.eq
      rw [h3]
      exact ⟨rfl, rfl⟩
theorem nices_map {α : Type} {f : α → D} {n : Nat} (h : ∀ a, (f a).nice n = true) : ∀ xs : List α, D.nices n (xs.map f) = true
  | [] => by cases n <;> rfl
  | x :: xs => by
    have : D.nices n (f x :: xs.map f) = (D.nice n (f x) && D.nices n (xs.map f)) := by cases n <;> rfl
    rw [List.map_cons, this, h x, nices_map h xs]; rfl
theorem nices_all {n : Nat} : ∀ {xs : List D}, (∀ x ∈ xs, x.nice n = true) → D.nices n xs = true
  | [], _ => by cases n <;> rfl
  | x :: xs, h => by
    have e : D.nices n (x :: xs) = (D.nice n x && D.nices n xs) := by cases n <;> rfl
    rw [e, h x (List.mem_cons_self ..), nices_all fun y hy => h y (List.mem_cons_of_mem _ hy)]; rfl
theorem inLst_nice {x : D} {xs : List D} {n m : Nat} (hx : x.nice n = true) (hs : D.nices m xs = true) (hn : n ≤ 64) (hm : m ≤ 63) : ∃ p ps, x.toP = some p ∧ D.toPs xs = some ps ∧ D.inLst x (.lst xs) = some (ps.any fun z => PyData.eqv z p) := by
  obtain ⟨p, h1, h2⟩ := nice_sh hx hn
  obtain ⟨q, k1, k2⟩ := nice_sh (d := .lst xs) (n := m + 1) hs (by omega)
  rw [D.toP] at k1
  cases e : D.toPs xs with
  | none => rw [e] at k1; cases k1
  | some ps =>
    rw [e] at k1
    cases k1
    refine ⟨p, ps, h1, rfl, ?_⟩
    show ((x.toP).bind fun p => (D.toPs xs).bind fun ps => if SeqAt.shaped p = true ∧ SeqAt.shaped (.list ps) = true then some (ps.any fun z => PyData.eqv z p) else none) = _
    rw [h1, e]
    simp [h2, k2]
theorem toPs_map {α : Type} {f : α → D} {g : α → PyData} (h : ∀ a, (f a).toP = some (g a)) : ∀ xs : List α, D.toPs (xs.map f) = some (xs.map g)
  | [] => rfl
  | x :: xs => by rw [List.map_cons, D.toPs, h x, toPs_map h xs]; rfl
theorem in_strs {x : Str} {xs : List Str} (hx : PyData.strOk x = true) (hs : ∀ y ∈ xs, PyData.strOk y = true) : D.isIn (.str x) (.lst (xs.map .str)) = some (.bl (decide (x ∈ xs))) ∧ D.notIn (.str x) (.lst (xs.map .str)) = some (.bl (!decide (x ∈ xs))) := by
  obtain ⟨p, ps, h1, h2, h3⟩ := inLst_nice (x := .str x) (xs := xs.map .str) (n := 0) (m := 0) hx (nices_all fun d hd => by obtain ⟨y, hy, rfl⟩ := List.mem_map.mp hd; exact hs y hy) (by decide) (by decide)
  cases h1
  rw [toPs_map (g := PyData.str) (fun _ => rfl)] at h2
  cases h2
  have e : ((xs.map PyData.str).any fun z => PyData.eqv z (.str x)) = decide (x ∈ xs) := by
    rw [List.any_map, Bool.eq_iff_iff, List.any_eq_true, decide_eq_true_iff]
    constructor
    · rintro ⟨y, hy, e⟩
      have e : (y == x) = true := e
      rw [← beq_iff_eq.mp e]; exact hy
    · intro h; exact ⟨x, h, by show (x == x) = true; simp⟩
  unfold D.isIn D.notIn
  rw [show D.inStr (.str x) (.lst (xs.map .str)) = none from rfl, h3, e]
  exact ⟨rfl, rfl⟩
theorem in_ints (x : Int) (xs : List Int) : D.isIn (.int x) (.lst (xs.map .int)) = some (.bl (decide (x ∈ xs))) ∧ D.notIn (.int x) (.lst (xs.map .int)) = some (.bl (!decide (x ∈ xs))) := by
  obtain ⟨p, ps, h1, h2, h3⟩ := inLst_nice (x := .int x) (xs := xs.map .int) (n := 0) (m := 0) rfl (nices_map (fun _ => rfl) xs) (by decide) (by decide)
  cases h1
  rw [toPs_map (g := PyData.int) (fun _ => rfl)] at h2
  cases h2
  have e : ((xs.map PyData.int).any fun z => PyData.eqv z (.int x)) = decide (x ∈ xs) := by
    rw [List.any_map, Bool.eq_iff_iff, List.any_eq_true, decide_eq_true_iff]
    constructor
    · rintro ⟨y, hy, e⟩
      have e : (y == x) = true := e
      rw [← beq_iff_eq.mp e]; exact hy
    · intro h; exact ⟨x, h, by show (x == x) = true; simp⟩
  unfold D.isIn D.notIn
  rw [show D.inStr (.int x) (.lst (xs.map .int)) = none from rfl, h3, e]
  exact ⟨rfl, rfl⟩
end DL
namespace DL
open PySem L2 Evl
/-! ### where simp goes: into what is asked, not into what comes behind.
The last argument's type names what comes behind: so simp takes that for fixed. -/
def idd {α : Sort _} (a : α) : α := a
theorem idd_eq {α : Sort _} (a : α) : idd a = a := rfl
def Ph {α : Sort _} (_ : α) : Type := Unit
def OptF {α : Type} (o : Option α) (k : α → Prop) (_ : Ph k := ()) : Prop := Opt o k
theorem opt_f {α : Type} (o : Option α) (k : α → Prop) : Opt o k = OptF o k := rfl
theorem optF_some {α : Type} (a : α) (k : α → Prop) : OptF (some a) k = k a := propext Opt_some
def CdF (c : Bool) (a b : Prop) (_ : Ph a := ()) (_ : Ph b := ()) : Prop := if c = true then a else b
theorem ite_cd (c : Bool) (a b : Prop) : (if c = true then a else b) = CdF c a b := rfl
theorem cd_true (a b : Prop) : CdF true a b = a := rfl
theorem cd_false (a b : Prop) : CdF false a b = b := rfl
def forLF (g : DG) (db : DS) (DD : Do) (ds : List D) (ρ : Ro) (_ : Ph g := ()) (_ : Ph db := ()) (_ : Ph DD := ()) : Prop := forL g db DD ds ρ
theorem forL_f (g : DG) (db : DS) (DD : Do) (ds : List D) (ρ : Ro) : forL g db DD ds ρ = forLF g db DD ds ρ := rfl
def lcLF (g : DG) (t : DT) (de : DE) (vs : List Nat) (q : List D → Ro → Prop) (ds acc : List D) (ρ : Ro) (_ : Ph g := ()) (_ : Ph t := ()) (_ : Ph de := ()) (_ : Ph q := ()) : Prop := lcL g t de vs q ds acc ρ
theorem lcL_f (g : DG) (t : DT) (de : DE) (vs : List Nat) (q : List D → Ro → Prop) (ds acc : List D) (ρ : Ro) : lcL g t de vs q ds acc ρ = lcLF g t de vs q ds acc ρ := rfl
def dcLF (g : DG) (t : DT) (dk de : DE) (vs : List Nat) (q : List (Key × D) → Ro → Prop) (ds : List D) (acc : List (Key × D)) (ρ : Ro) (_ : Ph g := ()) (_ : Ph t := ()) (_ : Ph dk := ()) (_ : Ph de := ()) (_ : Ph q := ()) : Prop := dcL g t dk de vs q ds acc ρ
theorem dcL_f (g : DG) (t : DT) (dk de : DE) (vs : List Nat) (q : List (Key × D) → Ro → Prop) (ds : List D) (acc : List (Key × D)) (ρ : Ro) : dcL g t dk de vs q ds acc ρ = dcLF g t dk de vs q ds acc ρ := rfl
def Run (dsp : DSp) (av : List Sl) (q : D → List D → Prop) (er : Addr → List (Str × D) → List D → Prop) (_ : Ph dsp := ()) (_ : Ph q := ()) (_ : Ph er := ()) : Prop := dsp av q er
theorem noEr_run (dsp : DSp) (av : List Sl) (q : D → List D → Prop) (er : Addr → List (Str × D) → List D → Prop) : noEr dsp av q er = Run dsp av q (fun _ _ _ => False) := rfl
def getS (o : Option Sl) (f : D → Prop) (b : Prop) (_ : Ph f := ()) (_ : Ph b := ()) : Prop := match o with
  | some (.val d) => f d
  | some (.own _) => b
  | some (.par _) => b
  | _ => False
theorem getS_val (d : D) (f : D → Prop) (b : Prop) : getS (some (.val d)) f b = f d := rfl
theorem getS_own (d : D) (f : D → Prop) (b : Prop) : getS (some (.own d)) f b = b := rfl
theorem getS_par (d : D) (f : D → Prop) (b : Prop) : getS (some (.par d)) f b = b := rfl
theorem w_var {i : Nat} {ρ : Ro} {q : T → Ro → Prop} {er : ER} : dVar i ρ q er = getS ρ[i]? (fun d => q (.val d) ρ) (q (.bor i) ρ) := by
  unfold dVar getS
  cases ρ[i]? with
  | none => rfl
  | some s => cases s <;> rfl
section
variable {ρ : Ro} {d : D} {i : Nat} {is : List Nat} {t : T} {ts : List T} {n m : Int} {b : Bool} {xs : List D}
theorem rd_val : rd ρ (.val d) = some d := rfl
theorem rd_bor : rd ρ (.bor i) = (ρ[i]?).bind Sl.ownD := rfl
theorem ownD_own : (Sl.own d).ownD = some d := rfl
theorem ownD_par : (Sl.par d).ownD = some d := rfl
theorem rds_nil : rds ρ [] = some [] := rfl
theorem rds_cons : rds ρ (t :: ts) = (rd ρ t).bind fun d => (rds ρ ts).map fun ds => d :: ds := rfl
theorem vals_nil : vals [] = some [] := rfl
theorem vals_val : vals (.val d :: ts) = (vals ts).map fun ds => d :: ds := rfl
theorem argsOf_nil : argsOf ρ [] = some [] := rfl
theorem argsOf_val : argsOf ρ (.val d :: ts) = (argsOf ρ ts).map fun a => .val d :: a := rfl
theorem argsOf_bor : argsOf ρ (.bor i :: ts) = (rd ρ (.bor i)).bind fun d => (argsOf ρ ts).map fun a => .par d :: a := rfl
theorem ownAt_def : ownAt ρ i = (ρ[i]?).bind Sl.ownD := rfl
def Sl.parD : Sl → Option D
  | .par d => some d
  | _ => none
theorem parD_par : (Sl.par d).parD = some d := rfl
theorem outs_nil : outs ρ [] = some [] := rfl
theorem outs_cons : outs ρ (i :: is) = ((ρ[i]?).bind Sl.parD).bind fun d => (outs ρ is).map fun ds => d :: ds := by
  rw [outs]
  cases ρ[i]? with
  | none => rfl
  | some s => cases s <;> rfl
theorem bool_bl : (D.bl b).bool = some b := rfl
theorem toInt_int : D.toInt [.int n] = some (.int n) := rfl
theorem toInt_bl : D.toInt [.bl b] = some (.int (if b = true then 1 else 0)) := rfl
theorem truth_bl : (D.bl b).truth = some b := rfl
theorem truth_int : (D.int n).truth = some (n != 0) := rfl
theorem truth_non : D.non.truth = some false := rfl
theorem cmp_int {p : Int → Int → Bool} : D.cmp p (.int n) (.int m) = some (.bl (p n m)) := rfl
theorem neg_int : D.neg (.int n) = some (.int (-n)) := rfl
theorem len_lst : D.len [.lst xs] = some (.int xs.length) := rfl
theorem len_tup : D.len [.tup xs] = some (.int xs.length) := rfl
theorem items_lst : (D.lst xs).items = some xs := rfl
theorem items_tup : (D.tup xs).items = some xs := rfl
end
theorem forL_inv {g : DG} {db : DS} {nx0 : Ro → Prop} {rt : T → Ro → Prop} {rf : D → Ro → Prop} {bk ct : Ro → Prop} {er : ER} {ds : List D} {ρ : Ro} (I : Nat → Ro → Prop) (h0 : I 0 ρ)
    (step : ∀ (i : Nat) (d : D) (ρ : Ro) (nx : Ro → Prop), ds[i]? = some d → I i ρ → (∀ ρ', I (i + 1) ρ' → nx ρ') → g (.val d) ρ fun ρ1 => db ⟨nx, rt, rf, nx0, nx, er⟩ ρ1)
    (fin : ∀ ρ, I ds.length ρ → nx0 ρ) : forL g db ⟨nx0, rt, rf, bk, ct, er⟩ ds ρ := by
  have go : ∀ (n i : Nat) (ρ : Ro), ds.length - i = n → i ≤ ds.length → I i ρ → forL g db ⟨nx0, rt, rf, bk, ct, er⟩ (ds.drop i) ρ := by
    intro n
    induction n with
    | zero =>
      intro i ρ e hi h
      have ei : i = ds.length := by omega
      subst ei
      rw [List.drop_length]
      exact fin ρ h
    | succ n ih =>
      intro i ρ e hi h
      have hlt : i < ds.length := by omega
      rw [List.drop_eq_getElem_cons hlt]
      exact step i ds[i] ρ _ (by simp [hlt]) h fun ρ' h' => ih (i + 1) ρ' (by omega) hlt h'
  exact go _ 0 ρ rfl (Nat.zero_le _) h0
theorem lcL_inv {g : DG} {t : DT} {de : DE} {vs : List Nat} {q : List D → Ro → Prop} {ds : List D} {ρ : Ro} (I : Nat → List D → Ro → Prop) (h0 : I 0 [] ρ)
    (step : ∀ (i : Nat) (d : D) (acc : List D) (ρ : Ro) (nx : List D → Ro → Prop), ds[i]? = some d → I i acc ρ → (∀ acc' ρ', I (i + 1) acc' ρ' → nx acc' ρ') →
      g (.val d) (wipeD ρ vs) fun ρ1 => t ρ1 (fun b ρ2 => if b = true then de ρ2 (fun s ρ3 => match s with
        | .val y => acc.length < sizeLine ∧ nx (acc ++ [y]) (wipeD ρ3 vs)
        | .bor _ => False) (fun _ _ _ => False) else nx acc (wipeD ρ2 vs)) (fun _ _ _ => False))
    (fin : ∀ acc ρ, I ds.length acc ρ → q acc ρ) : lcL g t de vs q ds [] ρ := by
  have go : ∀ (n i : Nat) (acc : List D) (ρ : Ro), ds.length - i = n → i ≤ ds.length → I i acc ρ → lcL g t de vs q (ds.drop i) acc ρ := by
    intro n
    induction n with
    | zero =>
      intro i acc ρ e hi h
      have ei : i = ds.length := by omega
      subst ei
      rw [List.drop_length]
      exact fin acc ρ h
    | succ n ih =>
      intro i acc ρ e hi h
      have hlt : i < ds.length := by omega
      rw [List.drop_eq_getElem_cons hlt]
      exact step i ds[i] acc ρ (fun acc' ρ' => lcL g t de vs q (ds.drop (i + 1)) acc' ρ') (by simp [hlt]) h fun acc' ρ' h' => ih (i + 1) acc' ρ' (by omega) hlt h'
  exact go _ 0 [] ρ rfl (Nat.zero_le _) h0
def Sl.isP : Sl → Bool
  | .par _ => true
  | _ => false
theorem isPar0 (a : Sl) (l : Ro) : isPar (a :: l) 0 = a.isP := by cases a <;> rfl
theorem isParS (a : Sl) (l : Ro) (n : Nat) : isPar (a :: l) (n + 1) = isPar l n := rfl
theorem isPN (l : Ro) : isPar [] 0 = false := rfl
section
variable {nx : Ro → Prop} {rt : T → Ro → Prop} {rf : D → Ro → Prop} {bk ct : Ro → Prop} {er : ER} {a b : DS} {ρ : Ro} {t : DT} {de dk : DE} {df dh : DF} {da : DA} {di : DI} {g : DG} {i j l : Nat} {f : Str} {Cs : List Addr} {N : Nat} {av : List Sl} {q : D → List D → Prop} {er0 : Addr → List (Str × D) → List D → Prop}
theorem w_seq : dSeq a b ⟨nx, rt, rf, bk, ct, er⟩ ρ = a ⟨b ⟨nx, rt, rf, bk, ct, er⟩, rt, rf, bk, ct, er⟩ ρ := rfl
theorem w_next : dNext ⟨nx, rt, rf, bk, ct, er⟩ ρ = nx ρ := rfl
theorem w_brk : dBrk ⟨nx, rt, rf, bk, ct, er⟩ ρ = bk ρ := rfl
theorem w_cnt : dCnt ⟨nx, rt, rf, bk, ct, er⟩ ρ = ct ρ := rfl
theorem w_drop : dDrop de ⟨nx, rt, rf, bk, ct, er⟩ ρ = de ρ (fun _ ρ1 => nx ρ1) er := rfl
theorem w_ret : dRet de ⟨nx, rt, rf, bk, ct, er⟩ ρ = de ρ rt er := rfl
theorem w_retF : dRetF df ⟨nx, rt, rf, bk, ct, er⟩ ρ = df ρ rf er := rfl
theorem w_retN : dRetN ⟨nx, rt, rf, bk, ct, er⟩ ρ = rt (.val .non) ρ := rfl
theorem w_if : dIfS t a b ⟨nx, rt, rf, bk, ct, er⟩ ρ = t ρ (fun c ρ1 => if c = true then a ⟨nx, rt, rf, bk, ct, er⟩ ρ1 else b ⟨nx, rt, rf, bk, ct, er⟩ ρ1) er := rfl
theorem w_asg : dAsg de g ⟨nx, rt, rf, bk, ct, er⟩ ρ = de ρ (fun t ρ1 => g t ρ1 nx) er := rfl
theorem w_own : dOwn df i ⟨nx, rt, rf, bk, ct, er⟩ ρ = df ρ (fun d ρ1 => (isPar ρ1 i = false ∧ i < ρ1.length) ∧ nx (ρ1.set i (.own d))) er := rfl
theorem w_for : dFor di g b ⟨nx, rt, rf, bk, ct, er⟩ ρ = di ρ (fun ds ρ1 => forL g b ⟨nx, rt, rf, bk, ct, er⟩ ds ρ1) er := rfl
theorem w_setIx : dSetIx i dk de ⟨nx, rt, rf, bk, ct, er⟩ ρ = de ρ (fun t ρ1 => match t with
  | .val e => (ownAt ρ1 i).isSome = true ∧ dk ρ1 (fun u ρ2 => Opt (rd ρ2 u) fun k => Opt (ownAt ρ2 i) fun d => match d, k with
    | .lst ds, .int z => Opt (ixN ds.length z) fun j => nx (setD ρ2 i (.lst (ds.set j e)))
    | _, _ => False) er
  | .bor _ => False) er := rfl
theorem w_setF : dSetF Cs i f de ⟨nx, rt, rf, bk, ct, er⟩ ρ = de ρ (fun t ρ1 => match t with
  | .val e => Opt (ownAt ρ1 i) fun d => (match d with
    | .ins C es => C ∈ Cs ∧ es.length < 1000 ∧ nx (setD ρ1 i (.ins C (putFD f e es)))
    | _ => False)
  | .bor _ => False) er := rfl
theorem w_dput : dDPut i dk de ⟨nx, rt, rf, bk, ct, er⟩ ρ = de ρ (fun t ρ1 => match t with
  | .val e => (ownAt ρ1 i).isSome = true ∧ dk ρ1 (fun u ρ2 => Opt (rd ρ2 u) fun kd => Opt kd.key fun k => Opt (ownAt ρ2 i) fun d => (match d with
    | .dct kvs => kvs.length < sizeLine ∧ nx (setD ρ2 i (.dct (putKD kvs k e)))
    | _ => False)) er
  | .bor _ => False) er := rfl
theorem w_par : dPar i j da ⟨nx, rt, rf, bk, ct, er⟩ ρ = da ρ (fun ts ρ1 => match ts with
  | [.val a, .val b] => (isPar ρ1 i = false ∧ isPar ρ1 j = false) ∧ nx ((ρ1.set i (.val a)).set j (.val b))
  | _ => False) er := rfl
theorem w_par3 : dPar3 i j l da ⟨nx, rt, rf, bk, ct, er⟩ ρ = da ρ (fun ts ρ1 => match ts with
  | [.val a, .val b, .val c] => (isPar ρ1 i = false ∧ isPar ρ1 j = false ∧ isPar ρ1 l = false) ∧ nx (((ρ1.set i (.val a)).set j (.val b)).set l (.val c))
  | _ => False) er := rfl
theorem w_parVO : dParVO i j de df ⟨nx, rt, rf, bk, ct, er⟩ ρ = de ρ (fun t ρ1 => match t with
  | .val a => df ρ1 (fun b ρ2 => (isPar ρ2 i = false ∧ isPar ρ2 j = false) ∧ nx ((ρ2.set i (.val a)).set j (.own b))) er
  | .bor _ => False) er := rfl
theorem w_parOV : dParOV i j df de ⟨nx, rt, rf, bk, ct, er⟩ ρ = df ρ (fun a ρ1 => de ρ1 (fun t ρ2 => match t with
  | .val b => (isPar ρ2 i = false ∧ isPar ρ2 j = false) ∧ nx ((ρ2.set i (.own a)).set j (.val b))
  | .bor _ => False) er) er := rfl
theorem w_parOO : dParOO i j df dh ⟨nx, rt, rf, bk, ct, er⟩ ρ = df ρ (fun a ρ1 => dh ρ1 (fun b ρ2 => (isPar ρ2 i = false ∧ isPar ρ2 j = false) ∧ nx ((ρ2.set i (.own a)).set j (.own b))) er) er := rfl
theorem w_body : dBody N a av q er0 = a ⟨fun ρ => Opt (outs ρ (parIx av 0)) fun os => q .non os, fun t ρ => match t with
    | .val d => Opt (outs ρ (parIx av 0)) fun os => q d os
    | .bor _ => False, fun _ _ => False, fun _ => False, fun _ => False, fun C fs ρ => Opt (outs ρ (parIx av 0)) fun os => er0 C fs os⟩ (av ++ List.replicate (N - av.length) .no) := rfl
end
theorem isP_val (d : D) : (Sl.val d).isP = false := rfl
theorem isP_own (d : D) : (Sl.own d).isP = false := rfl
theorem isP_no : Sl.no.isP = false := rfl
theorem isP_par (d : D) : (Sl.par d).isP = true := rfl
def mk (l : List Nat) : Str := ⟨l.toArray⟩
theorem mk_len (l : List Nat) : (mk l).length = l.length := by simp [mk, Str.length]
theorem mk_of (x : Str) : x = mk x.cps.toList := by simp [mk]
theorem mk_app (a b : List Nat) : mk a ++ mk b = mk (a ++ b) := by
  show (⟨a.toArray ++ b.toArray⟩ : Str) = _
  simp [mk]
theorem mk_inj {a b : List Nat} (h : mk a = mk b) : a = b := by
  have := congrArg (fun s : Str => s.cps.toList) h
  simpa [mk] using this
theorem ixs {l : List Nat} {n : Nat} {i : Int} (e : i = (n : Int)) (h : n < l.length) (hl : l.length ≤ sizeLine) : D.ix (.str (mk l)) (.int i) = some (.str (mk [l[n]])) := by
  subst e
  show (if (mk l).length ≤ sizeLine then (atI (mk l).cps.toList (n : Int)).map fun c => D.str ⟨#[c]⟩ else none) = _
  rw [if_pos (by rw [mk_len]; exact hl)]
  have e2 : (mk l).cps.toList = l := by simp [mk]
  have e3 : atI l (n : Int) = some l[n] := by
    show (ixN l.length (n : Int)).bind (fun j => l[j]?) = _
    unfold ixN
    rw [if_pos (by omega), if_pos (by omega)]
    simp [h]
  rw [e2, e3]
  rfl
theorem len_mk {l : List Nat} (h : l.length ≤ sizeLine) : D.len [.str (mk l)] = some (.int (l.length : Int)) := by
  show (if (mk l).length ≤ sizeLine then some (D.int (mk l).length) else none) = _
  rw [mk_len, if_pos h]
theorem strOk_mk {l : List Nat} (h : ∀ c ∈ l, c < 0x110000) : PyData.strOk (mk l) = true := by
  unfold PyData.strOk mk
  simp
  exact h
theorem cutS_eq (l : List Nat) (lo hi : Option Int) : cutS (mk l) lo hi = mk ((l.drop (HT.sIx l.length 0 lo)).take (HT.sIx l.length l.length hi - HT.sIx l.length 0 lo)) := by
  unfold cutS
  rw [mk_len]
  rfl
theorem cut_lo {l : List Nat} {n : Nat} (h : n ≤ l.length) (hl : l.length ≤ sizeLine) : D.cut (.str (mk l)) none (some (n : Int)) = some (.str (mk (l.take n))) := by
  show (if (mk l).length ≤ sizeLine then some (D.str (cutS (mk l) none (some (n : Int)))) else none) = _
  rw [mk_len, if_pos hl, cutS_eq, HT.sIx_nat, HT.sIx_none, Nat.min_eq_left h]
  simp
theorem cut_hi {l : List Nat} {n : Nat} (h : n ≤ l.length) (hl : l.length ≤ sizeLine) : D.cut (.str (mk l)) (some (n : Int)) none = some (.str (mk (l.drop n))) := by
  show (if (mk l).length ≤ sizeLine then some (D.str (cutS (mk l) (some (n : Int)) none)) else none) = _
  rw [mk_len, if_pos hl, cutS_eq, HT.sIx_nat, HT.sIx_none, Nat.min_eq_left h]
  rw [List.take_of_length_le (by simp)]
theorem cutL {l : List D} (lo hi : Option Int) : D.cut (.lst l) lo hi = some (.lst ((l.drop (HT.sIx l.length 0 lo)).take (HT.sIx l.length l.length hi - HT.sIx l.length 0 lo))) := rfl
theorem cutL_lo {l : List D} {n : Nat} : D.cut (.lst l) none (some (n : Int)) = some (.lst (l.take n)) := by
  rw [cutL, HT.sIx_nat, HT.sIx_none, List.drop_zero, Nat.sub_zero]
  congr 2
  rcases Nat.le_total n l.length with h | h
  · rw [Nat.min_eq_left h]
  · rw [Nat.min_eq_right h, List.take_of_length_le (Nat.le_refl _), List.take_of_length_le h]
theorem cutL_hi {l : List D} {n : Nat} (h : n ≤ l.length) : D.cut (.lst l) (some (n : Int)) none = some (.lst (l.drop n)) := by
  rw [cutL, HT.sIx_nat, HT.sIx_none, Nat.min_eq_left h, List.take_of_length_le (by simp)]
end DL
namespace DL
open PySem L2 Evl
def isAz (c : Nat) : Prop := 97 ≤ c ∧ c ≤ 122
def isDg (c : Nat) : Prop := 48 ≤ c ∧ c ≤ 57
def isAn (c : Nat) : Prop := isAz c ∨ isDg c
instance (c : Nat) : Decidable (isAz c) := by unfold isAz; infer_instance
instance (c : Nat) : Decidable (isDg c) := by unfold isDg; infer_instance
instance (c : Nat) : Decidable (isAn c) := by unfold isAn; infer_instance
def IsNm (l : List Nat) : Prop := ∃ c cs, l = c :: cs ∧ isAz c ∧ (∀ d ∈ cs, isAn d) ∧ cs.length ≤ 7
theorem IsNm.ok {l : List Nat} (h : IsNm l) : PyData.strOk (mk l) = true ∧ 0 < l.length ∧ l.length ≤ 8 := by
  obtain ⟨c, cs, rfl, h1, h2, h3⟩ := h
  refine ⟨strOk_mk fun d hd => ?_, by simp, by simp; omega⟩
  rcases List.mem_cons.mp hd with e | hd
  · subst e; obtain ⟨a, b⟩ := h1; omega
  · rcases h2 d hd with ⟨a, b⟩ | ⟨a, b⟩ <;> omega
def L25 : List Nat := [97, 98, 99, 100, 101, 102, 103, 104, 105, 106, 107, 108, 109, 110, 111, 112, 114, 115, 116, 117, 118, 119, 120, 121, 122]
def L11 : List Nat := [113, 48, 49, 50, 51, 52, 53, 54, 55, 56, 57]
theorem str25 : PySem.Str.ofString "abcdefghijklmnoprstuvwxyz" = mk L25 := by decide +kernel
theorem str11 : PySem.Str.ofString "q0123456789" = mk L11 := by decide +kernel
theorem strq : PySem.Str.ofString "q" = mk [113] := by decide +kernel
theorem in25 : ∀ c ∈ L25, isAz c ∧ c ≠ 113 ∧ ¬ isDg c := by decide
theorem in36 : ∀ c ∈ L25 ++ L11, isAn c := by decide
def qn (j : Nat) : List Nat := if j < 10 then [113, 48 + j] else [113, 48 + j / 10, 48 + j % 10]
theorem qn_str : ∀ j : Fin 60, (toString ((j.val : Nat) : Int) : Str) = mk (qn j.val).tail := by decide +kernel
theorem qn_ok : ∀ j : Fin 60, (qn j.val).head? = some 113 ∧ (∀ d ∈ (qn j.val).tail, isDg d) ∧ (qn j.val).length ≤ 3 ∧ 113 :: (qn j.val).tail = qn j.val := by decide +kernel
theorem qn_inj : ∀ i j : Fin 60, qn i.val = qn j.val → i = j := by decide +kernel
theorem toStr_small : ∀ j : Fin 60, D.toStr [.int ((j.val : Nat) : Int)] = some (.str (mk (qn j.val).tail)) := fun j => by
  rw [← qn_str j]
  show (if _ then _ else _) = _
  rw [if_pos]
  have := j.isLt
  rw [Int.natAbs_natCast]
  rcases Nat.eq_zero_or_pos j.val with e | e
  · rw [e]; decide
  · have := (Nat.log2_lt (n := j.val) (k := 64) (by omega)).mpr (by omega)
    omega
def NotQ (l : List Nat) : Prop := l.head? ≠ some 113 ∨ ∃ d ∈ l.tail, ¬ isDg d
theorem notq_ne {l : List Nat} (h : NotQ l) (j : Fin 60) : l ≠ qn j.val := fun e => by
  obtain ⟨a, b, _⟩ := qn_ok j
  rcases h with h | ⟨d, hd, h⟩
  · exact h (by rw [e]; exact a)
  · rw [e] at hd; exact h (b d hd)
structure Nms (k : Nat) (fs : List (List Nat)) : Prop where
  nd : fs.Nodup
  nm : ∀ l ∈ fs, IsNm l
  kd : ∀ l ∈ fs, NotQ l ∨ ∃ j : Fin 60, j.val < k ∧ l = qn j.val
theorem Nms.nil : Nms 0 [] := ⟨List.nodup_nil, (fun l h => by cases h), (fun l h => by cases h)⟩
theorem Nms.snoc {k : Nat} {fs : List (List Nat)} (N : Nms k fs) {l : List Nat} (h1 : IsNm l) (h2 : l ∉ fs) (h3 : NotQ l ∨ ∃ j : Fin 60, j.val = k ∧ l = qn j.val) : Nms (k + 1) (fs ++ [l]) where
  nd := by
    rw [List.nodup_append]
    exact ⟨N.nd, by simp, fun a ha b hb e => by rw [List.mem_singleton] at hb; subst hb; subst e; exact h2 ha⟩
  nm := fun a ha => by
    rcases List.mem_append.mp ha with h | h
    · exact N.nm a h
    · rw [List.mem_singleton] at h; subst h; exact h1
  kd := fun a ha => by
    rcases List.mem_append.mp ha with h | h
    · rcases N.kd a h with h | ⟨j, h, e⟩
      · exact .inl h
      · exact .inr ⟨j, by omega, e⟩
    · rw [List.mem_singleton] at h
      subst h
      rcases h3 with h | ⟨j, h, e⟩
      · exact .inl h
      · exact .inr ⟨j, by omega, e⟩
theorem Nms.q {k : Fin 60} {fs : List (List Nat)} (N : Nms k.val fs) : IsNm (qn k.val) ∧ qn k.val ∉ fs := by
  obtain ⟨a, b, c, d⟩ := qn_ok k
  refine ⟨⟨113, (qn k.val).tail, d.symm, by decide, fun x hx => .inr (b x hx), by rw [List.length_tail]; omega⟩, fun h => ?_⟩
  rcases N.kd _ h with h | ⟨j, h, e⟩
  · exact notq_ne h k rfl
  · have := qn_inj _ _ e
    rw [← this] at h
    omega
end DL
namespace DL
open PySem L2 Evl
section
variable {K : PySem.W.Frag} {Cs : List Addr} {n : Int} {x : Str} {xs : List D} {b : Bool} {s : String} {d : D} {ts : List T}
theorem kno_int : (D.int n).kno Cs = true := rfl
theorem kno_str : (D.str x).kno Cs = true := rfl
theorem kno_lst : (D.lst xs).kno Cs = true := rfl
theorem kno_tup : (D.tup xs).kno Cs = true := rfl
theorem kno_bl : (D.bl b).kno Cs = true := rfl
theorem kno_non : D.non.kno Cs = true := rfl
theorem tyV_int : (D.int n).tyV = some (.type "int") := rfl
theorem tyV_bl : (D.bl b).tyV = some (.type "bool") := rfl
theorem tyV_str : (D.str x).tyV = some (.type "str") := rfl
theorem tyV_lst : (D.lst xs).tyV = some (.type "list") := rfl
theorem tyV_tup : (D.tup xs).tyV = some (.type "tuple") := rfl
theorem tyV_non : D.non.tyV = some (.type "NoneType") := rfl
theorem clV_ty : (D.ty s).clV = some (.type s) := rfl
theorem clVT_nil : clVT [] = some [] := rfl
theorem clVT_val : clVT (.val d :: ts) = d.clV.bind fun u => (clVT ts).map fun us => u :: us := rfl
theorem kit_same (s : String) : PySem.W.kitOne K (.type s) (.type s) = some true := by unfold PySem.W.kitOne; rw [if_pos (by simp)]
theorem kit_int_bool : PySem.W.kitOne K (.type "int") (.type "bool") = some false := by rfl
theorem kit_bool_int : PySem.W.kitOne K (.type "bool") (.type "int") = some true := by rfl
theorem kit_tuple_list : PySem.W.kitOne K (.type "tuple") (.type "list") = some false := by rfl
theorem kits_list : PySem.W.kitAny K (.type "list") [.type "list", .type "tuple"] = some true := by unfold PySem.W.kitAny; rw [kit_same]
theorem kits_tuple : PySem.W.kitAny K (.type "tuple") [.type "list", .type "tuple"] = some true := by
  unfold PySem.W.kitAny
  rw [kit_tuple_list]
  show PySem.W.kitAny K (.type "tuple") [.type "tuple"] = some true
  unfold PySem.W.kitAny
  rw [kit_same]
end
def L26 : List Nat := [97, 98, 99, 100, 101, 102, 103, 104, 105, 106, 107, 108, 109, 110, 111, 112, 113, 114, 115, 116, 117, 118, 119, 120, 121, 122]
def L10 : List Nat := [48, 49, 50, 51, 52, 53, 54, 55, 56, 57]
theorem str26 : PySem.Str.ofString "abcdefghijklmnopqrstuvwxyz" = mk L26 := by decide +kernel
theorem str10 : PySem.Str.ofString "0123456789" = mk L10 := by decide +kernel
theorem add36 : D.add (.str (mk L26)) (.str (mk L10)) = some (.str (mk (L26 ++ L10))) := by
  rw [D_addS (by rw [mk_len, mk_len]; decide), mk_app]
theorem items_str (l : List Nat) : (D.str (mk l)).items = some (l.map fun c => .str (mk [c])) := by
  show some ((mk l).cps.toList.map fun c => D.str ⟨#[c]⟩) = _
  simp [mk]
end DL
namespace DL
open PySem L2 Evl
def kvs {α : Type} (f : α → List Nat) (g : α → D) (xs : List α) : List (Key × D) := xs.map fun a => (.inr (mk (f a)), g a)
theorem isN_non : D.isN .non .non = some (.bl true) := rfl
theorem isNN_non : D.isNotN .non .non = some (.bl false) := rfl
theorem key_str (x : Str) : (D.str x).key = some (.inr x) := rfl
theorem key_int (x : Int) : (D.int x).key = some (.inl x) := rfl
end DL
namespace DL
open PySem L2 Evl
theorem lk_self (k : Str) (a : D) (r : List (Str × D)) : List.lookup k ((k, a) :: r) = some a := by simp
theorem lk_ne {k k' : Str} (h : (k == k') = false) (a : D) (r : List (Str × D)) : List.lookup k ((k', a) :: r) = List.lookup k r := by rw [List.lookup_cons, h]
theorem pf_nil (f : Str) (e : D) : putFD f e [] = [(f, e)] := rfl
theorem pf_ne {f g : Str} (h : ¬ g = f) (e x : D) (r : List (Str × D)) : putFD f e ((g, x) :: r) = (g, x) :: putFD f e r := by rw [putFD, if_neg h]
theorem toTup_lst (xs : List D) : D.toTuple [.lst xs] = some (.tup xs) := rfl
theorem toTup_tup (xs : List D) : D.toTuple [.tup xs] = some (.tup xs) := rfl
theorem insOf_ins (C : Addr) (fs : List (Str × D)) : (D.ins C fs).insOf C = true := by unfold D.insOf; simp
end DL
namespace DL
def lv (ls : List Int) (i : Nat) : Int := ls.getD i 0
def lastB (ls : List Int) (v : Int) : Nat → Option Nat
  | 0 => none
  | k + 1 => if lv ls k < v then some k else lastB ls v k
theorem lastB_some {ls : List Int} {v : Int} : ∀ {k p : Nat}, lastB ls v k = some p → p < k ∧ lv ls p < v ∧ ∀ j, p < j → j < k → v ≤ lv ls j
  | 0, p, h => by cases h
  | k + 1, p, h => by
    unfold lastB at h
    split at h
    · rename_i hk
      cases h
      exact ⟨Nat.lt_succ_self _, hk, fun j h1 h2 => by omega⟩
    · rename_i hk
      obtain ⟨a, b, c⟩ := lastB_some h
      refine ⟨Nat.lt_succ_of_lt a, b, fun j h1 h2 => ?_⟩
      by_cases e : j = k
      · subst e; omega
      · exact c j h1 (by omega)
def linF (ls : List Int) : Nat → Nat → List Nat
  | 0, _ => []
  | f + 1, i => i :: (match lastB ls (lv ls i) i with
    | none => []
    | some p => linF ls f p)
def lin (ls : List Int) (i : Nat) : List Nat := linF ls (i + 1) i
structure PreO (ls : List Int) : Prop where
  nn : ∀ i, i < ls.length → 0 ≤ lv ls i
  zero : 0 < ls.length → lv ls 0 = 0
  step : ∀ i, i + 1 < ls.length → lv ls (i + 1) ≤ lv ls i + 1
theorem PreO.par {ls : List Int} (P : PreO ls) {i p : Nat} (hi : i < ls.length) (e : lastB ls (lv ls i) i = some p) : lv ls p = lv ls i - 1 := by
  obtain ⟨a, b, c⟩ := lastB_some e
  have h1 := P.step p (by omega)
  by_cases ep : p + 1 = i
  · subst ep; omega
  · have := c (p + 1) (by omega) (by omega); omega
end DL
namespace DL
open PySem L2 Evl
theorem lcL_fm {g : DG} {t : DT} {de : DE} {vs : List Nat} {q : List D → Ro → Prop} {ds : List D} {ρ : Ro} (f : D → Option D) (P : Ro → Prop) (h0 : P ρ) (hz : ds.length ≤ sizeLine)
    (step : ∀ (i : Nat) (d : D) (ρ : Ro) (nx : D → Ro → Prop) (el : Ro → Prop) (small : Nat → Prop), ds[i]? = some d → P ρ → (∀ y, f d = some y → ∀ ρ', P ρ' → nx y ρ') → (f d = none → ∀ ρ', P ρ' → el ρ') →
      g (.val d) (wipeD ρ vs) fun ρ1 => t ρ1 (fun b ρ2 => if b = true then de ρ2 (fun s ρ3 => match s with
        | .val y => nx y (wipeD ρ3 vs)
        | .bor _ => False) (fun _ _ _ => False) else el (wipeD ρ2 vs)) (fun _ _ _ => False))
    (fin : ∀ ρ, P ρ → q (ds.filterMap f) ρ) : lcL g t de vs q ds [] ρ := by
  refine lcL_inv (fun i acc ρ => acc = (ds.take i).filterMap f ∧ P ρ) ⟨rfl, h0⟩ ?_ ?_
  · rintro i d acc ρ nx hd ⟨rfl, hP⟩ hnx
    obtain ⟨hi, hr⟩ := List.getElem?_eq_some_iff.mp hd
    have hlen : ((ds.take i).filterMap f).length < sizeLine := by
      refine Nat.lt_of_le_of_lt (List.length_filterMap_le _ _) ?_
      rw [List.length_take]; omega
    have e : (ds.take (i + 1)).filterMap f = (ds.take i).filterMap f ++ (f d).toList := by
      rw [List.take_succ_eq_append_getElem hi, hr, List.filterMap_append]
      cases h : f d with
      | none => simp [h]
      | some y => simp [h]
    refine step i d ρ (fun y ρ' => ((ds.take i).filterMap f).length < sizeLine ∧ nx ((ds.take i).filterMap f ++ [y]) ρ') (fun ρ' => nx ((ds.take i).filterMap f) ρ') (fun _ => True) hd hP (fun y hy ρ' hP' => ⟨hlen, ?_⟩) (fun hn ρ' hP' => ?_)
    · exact hnx _ _ ⟨by rw [e, hy]; rfl, hP'⟩
    · exact hnx _ _ ⟨by rw [e, hn]; simp, hP'⟩
  · rintro acc ρ ⟨rfl, hP⟩
    rw [List.take_length]
    exact fin ρ hP
theorem cutT {l : List D} (lo hi : Option Int) : D.cut (.tup l) lo hi = some (.tup ((l.drop (HT.sIx l.length 0 lo)).take (HT.sIx l.length l.length hi - HT.sIx l.length 0 lo))) := rfl
theorem ints_map {α : Type} {f : α → Int} : ∀ xs : List α, D.ints (xs.map fun x => D.int (f x)) = some (xs.map f)
  | [] => rfl
  | x :: xs => by
    have e : D.ints (D.int (f x) :: xs.map fun x => D.int (f x)) = (D.ints (xs.map fun x => D.int (f x))).map fun bs => f x :: bs := rfl
    rw [List.map_cons, e, ints_map xs]; rfl
structure IsEnd (ls : List Int) (n i e : Nat) : Prop where
  lt : i < e
  le : e ≤ n
  ab : ∀ j, i < j → j < e → lv ls i < lv ls j
  at' : e = n ∨ lv ls e ≤ lv ls i
theorem IsEnd.uniq {ls : List Int} {n i e e' : Nat} (h : IsEnd ls n i e) (h' : IsEnd ls n i e') : e = e' := by
  rcases Nat.lt_trichotomy e e' with hl | hl | hl
  · rcases h.at' with z | z
    · have := h'.le; omega
    · have := h'.ab e h.lt hl; omega
  · exact hl
  · rcases h'.at' with z | z
    · have := h.le; omega
    · have := h.ab e' h'.lt hl; omega
theorem isEnd_ex (ls : List Int) (n i : Nat) (hi : i < n) : ∃ e, IsEnd ls n i e := by
  have go : ∀ k j, n - j = k → i < j → j ≤ n → (∀ x, i < x → x < j → lv ls i < lv ls x) → ∃ e, IsEnd ls n i e := by
    intro k
    induction k with
    | zero => intro j hk h1 h2 h3; exact ⟨j, h1, h2, h3, .inl (by omega)⟩
    | succ k ih =>
      intro j hk h1 h2 h3
      by_cases h : lv ls j ≤ lv ls i
      · exact ⟨j, h1, h2, h3, .inr h⟩
      · exact ih (j + 1) (by omega) (by omega) (by omega) fun x a b => by
          by_cases e : x = j
          · subst e; omega
          · exact h3 x a (by omega)
  exact go _ (i + 1) rfl (by omega) (by omega) fun x a b => by omega
noncomputable def en (ls : List Int) (n i : Nat) : Nat := if h : i < n then (isEnd_ex ls n i h).choose else 0
def getW (o : Option Sl) (f : D → Prop) (_ : Ph f := ()) : Prop := match o with
  | some (.own d) => f d
  | _ => False
theorem getW_own (d : D) (f : D → Prop) : getW (some (.own d)) f = f d := rfl
theorem w_frz {i : Nat} {s : DS} {DD : Do} {ρ : Ro} : dFrz i s DD ρ = getW ρ[i]? fun d => s DD (ρ.set i (.val d)) := by
  unfold dFrz getW
  cases ρ[i]? with
  | none => rfl
  | some z => cases z <;> rfl
theorem kwP1 (x : T) : kwPerm [0] [] [x] = [x] := rfl
theorem kwP10 (x y : T) : kwPerm [1, 0] [] [x, y] = [y, x] := rfl
theorem seq_lst {xs : List D} : (D.lst xs).seq = some xs := rfl
theorem seq_tup {xs : List D} : (D.tup xs).seq = some xs := rfl
end DL
namespace DLN
open PySem PySem.Calls PyProof.Rows Builtin PySem.W
section
variable {prog : Program} {w : World} {A : Around} {E : Value → Shared → Prop} {s : Shared} {K : Frag} {x C f : Addr} {ox : Obj} {od : Option Obj} {b tb : Value}
theorem ne_entry {Q : PySem.Fin → Shared → Prop} (hu : A.units < cLine) (X : K.In s.heap) (I : InstAt s.heap x ox C od) (hs : findIn K (.ref C) "__eq__" = some (some (.ref f))) (hf : isFn K (.ref f) = true)
    (h : wpAny (model prog w) A (call (.ref f) [.ref x, b]) (fun v s' => ∃ c, v = .bool c ∧ Q (.done (.ret (.bool (!c)))) s') E s) : wpAny (model prog w) A (Builtin.«object.__ne__» ⟨[.ref x, b], []⟩) Q E s := by
  unfold Builtin.«object.__ne__»
  repeat (first
    | with_reducible refine wpAny_cRoomFor hu ?_
    | (refine wpAny_bind (m := callSpecialIfBound? (.ref x) (Str.ofString "__eq__") [b]) (ifBound_K X I hs hf (wpAny_mono h (fun r s' hr => by
        obtain ⟨c, rfl, q⟩ := hr
        repeat (first | exact q | exact wpAny_pure q | exact wpAny_truthy_bool q | (refine wpAny_bind (m := truthy (.bool _)) (wpAny_truthy_bool ?_)) | wp_step)) fun _ _ e => e)))
    | wp_step)
theorem ne_call {Q : Value → Shared → Prop} (hu : A.units + 1 < cLine) (X : K.In s.heap) (I : InstAt s.heap x ox C od) (hm : mroIn K C (.type "object") = some true) (hs : findIn K (.ref C) "__eq__" = some (some (.ref f))) (hf : isFn K (.ref f) = true)
    (h : wpAny (model prog w) A.in1 (call (.ref f) [.ref x, b]) (fun v s' => ∃ c, v = .bool c ∧ Q (.bool (!c)) s') E s) : wpAny (model prog w) A (call (.builtin "object.__ne__") [.ref x, b]) Q E s := by
  refine wpAny_call (codeAny_call_builtin F.cmp_object.ne.plain F.cmpEntry_ne ?_)
  exact check_slot F.cmpKind_ne F.cmpSplit_ne (I.type.andThen (looks_mroIn X hm)) (F.cmpArgs_ne _ _) (ne_entry (A := A.in1) hu X I hs hf (wpAny_mono h (fun v s' z => z) fun _ _ e => e))
theorem ne_bound {args : List Value} {Q : Option Value → Shared → Prop} (X : K.In s.heap) (I : InstAt s.heap x ox C od) (hne : findIn K (.ref C) "__ne__" = some (some (.builtin "object.__ne__")))
    (h : wpAny (model prog w) A (call (.builtin "object.__ne__") (.ref x :: args)) (fun v => Q (some v)) E s) : wpAny (model prog w) A (callSpecialIfBound? (.ref x) "__ne__" args) Q E s := by
  unfold callSpecialIfBound? bindSpecialIfBound?
  have fin : wpAny (model prog w) A (do let v ← call (.builtin "object.__ne__") ([.ref x] ++ args); pure (some v)) Q E s := wpAny_bind (wpAny_mono h (fun v s' z => wpAny_pure z) fun _ _ e => e)
  refine wpAny_holding (wpAny_bind (wpAny_bind (wpAny_bind (I.type.here ((looks_findIn X hne).here (wpAny_bind (wpAny_askSetting (wpAny_ite ?_))))))))
  split
  · exact wpAny_bind (wpAny_of_eq (F.cmp_object.ne.bind _) (wpAny_pure (by exact fin)))
  · exact wpAny_tryCatch (wpAny_bind (wpAny_of_eq (F.cmp_object.ne.bind _) (wpAny_pure (by exact fin))))
theorem ne_K {Q : Value → Shared → Prop} (hu : A.units + 1 < cLine) (X : K.In s.heap) (I : InstAt s.heap x ox C od) (hb : Looks (model prog w) s.heap (typeOf b) tb) (hn : notFirst K C tb = true) (hm : mroIn K C (.type "object") = some true)
    (hne : findIn K (.ref C) "__ne__" = some (some (.builtin "object.__ne__"))) (hs : findIn K (.ref C) "__eq__" = some (some (.ref f))) (hf : isFn K (.ref f) = true)
    (h : wpAny (model prog w) A.in1 (call (.ref f) [.ref x, b]) (fun v s' => ∃ c, v = .bool c ∧ Q (.bool (!c)) s') E s) : wpAny (model prog w) A (richCompare .NotEq (.ref x) b) Q E s := by
  have one : wpAny (model prog w) A (tryCompare (.ref x) (cmpInfo .NotEq).2.1 b) (fun r s' => ∃ c, r = some (.bool (!c)) ∧ Q (.bool (!c)) s') E s := by
    unfold tryCompare
    refine wpAny_bind (ne_bound X I hne (ne_call hu X I hm hs hf (wpAny_mono h (fun v s' z => ?_) fun _ _ e => e)))
    obtain ⟨c, rfl, q⟩ := z
    exact ⟨c, rfl, wpAny_pure ⟨c, rfl, q⟩⟩
  have last : wpAny (model prog w) A (tryCompare (.ref x) (cmpInfo .NotEq).2.1 b) (fun r s' => match r with
    | some v => Q v s'
    | none => False) E s := wpAny_mono one (fun r s' z => by obtain ⟨c, rfl, q⟩ := z; exact q) fun _ _ e => e
  unfold richCompare
  simp only [oneThing_ref]
  refine wpAny_holding (wpAny_bind (wpAny_cRoomFor (Nat.lt_of_succ_lt hu) (I.type.here (wpAny_bind (hb.here ?_)) |> wpAny_bind)))
  split
  · rename_i q
    have e : subIn K tb (.ref C) = some false := by
      rcases Bool.or_eq_true_iff.mp hn with z | z
      · exact absurd q (by rw [beq_iff_eq.mp z]; simp)
      · exact beq_iff_eq.mp z
    refine wpAny_bind ((looks_subIn X e).here ?_)
    simp only [Bool.false_eq_true, if_false]
    refine wpAny_bind (wpAny_mono one (fun r s' z => ?_) fun _ _ y => y)
    obtain ⟨c, rfl, q2⟩ := z
    exact wpAny_pure q2
  · refine wpAny_bind (wpAny_pure ?_)
    simp only [Bool.false_eq_true, if_false]
    refine wpAny_bind (wpAny_mono one (fun r s' z => ?_) fun _ _ y => y)
    obtain ⟨c, rfl, q2⟩ := z
    exact wpAny_pure q2
end
end DLN
namespace DL
open PySem L2 Evl
structure CmpC (K : PySem.W.Frag) (C f : Addr) : Prop where
  hs : PySem.W.findIn K (.ref C) "__eq__" = some (some (.ref f))
  hf : PySem.W.isFn K (.ref f) = true
  hne : PySem.W.findIn K (.ref C) "__ne__" = some (some (.builtin "object.__ne__"))
  hm : PySem.W.mroIn K C (.type "object") = some true
def rEqO (K : PySem.W.Frag) (g : Bool → Bool) (C : Addr) (sp : Sp) (E : XK) : R2 := fun x y H Q => ∃ a dx fs tb, x = .ref a ∧ H a = some (.ins C dx fs) ∧ TyX K H y tb ∧ PySem.W.notFirst K C tb = true ∧ sp [x, y] H (fun v H1 => ∃ b, v = .bl b ∧ Q (.bl (g b)) H1) E
section
variable {X : Cx} {CX : CXT} {k : Nat} {f C : Addr} {fd : FuncData} {ps : List Str} {sp : Sp} {E : XK}
theorem op_neO (M : CmpC X.K C f) (F : FnOk X.prog X.w X.K X.mg X.base CX k f fd ps sp) (hr : Room (k + 1) X.A) (hb : Binds X.K fd ps []) (hx : Passes CX X E) : OpR X (compareOp .NotEq) (rEqO X.K (fun b => !b) C sp E) := by
  intro pins s σ H x y v u Q I rx ry h
  obtain ⟨a, dx, fs, tb, rfl, ha, ty, hn, h⟩ := h
  have hv : v = Value.ref a := rx
  subst hv
  obtain ⟨P, kx, hP, _⟩ := kit_of I ry ty
  obtain ⟨mA, J, _⟩ := ins_get I.hok ha
  obtain ⟨od, J, _⟩ := J.look
  have hu : X.A.units + 1 < cLine := by have := hr.un; omega
  show wpAny (model X.prog X.w) X.A (richCompare .NotEq (.ref a) u) (EP X pins σ Q) X.xe s
  refine DLN.ne_K hu I.kIn J (kx.ty _ _ I.kIn hP) hn M.hm M.hne M.hs M.hf ?_
  refine wpAny_mono (run_sub F hr.in1 rfl hb hx I (vs := [V.ref a, y]) (.cons (show RelV (V.ref a) (Value.ref a) from rfl) (.cons ry .nil)) h) (fun r s1 q => ?_) fun _ _ z => z
  obtain ⟨w, H1, I1, rw1, b, ew, q⟩ := q
  subst ew
  exact ⟨b, rw1, V.bl (!b), H1, I1, rfl, q⟩
end
def dEqO (K : PySem.W.Frag) (g : Bool → Bool) (Cs : List Addr) (C : Addr) (dsp : DSp) (da db : DE) : DE := fun ρ q er => da ρ (fun t ρ1 => db ρ1 (fun u ρ2 => Opt (rd ρ2 t) fun d => d.insOf C = true ∧ Opt (rd ρ2 u) fun y => y.kno Cs = true ∧ Opt y.tyV fun ty => PySem.W.notFirst K C ty = true ∧ Opt (argsOf ρ2 [t, u]) fun av => (bors [t, u]).Nodup ∧
  noEr dsp av (fun r os => Opt r.bool fun b => q (.val (.bl (g b))) (putOuts ρ2 (bors [t, u]) os)) (fun _ _ _ => False)) er) er
def dBinO (C : Addr) (dsp : DSp) (da db : DE) : DE := fun ρ q er => da ρ (fun t ρ1 => db ρ1 (fun u ρ2 => Opt (rd ρ2 t) fun d => d.insOf C = true ∧ Opt (rd ρ2 u) fun y => y.insOf C = true ∧ Opt (argsOf ρ2 [t, u]) fun av => (bors [t, u]).Nodup ∧
  noEr dsp av (fun r os => q (.val r) (putOuts ρ2 (bors [t, u]) os)) (fun _ _ _ => False)) er) er
section
variable {K : PySem.W.Frag} {pa : PaG} {W : WX} {te tc : TE} {dx dc : DE} {C : Addr} {dsp : DSp} {g : Bool → Bool} {Cs : List Addr}
theorem se_eqO (hK : IsiK K) (hC : ∀ C ∈ Cs, IsiC K C) (hx : SE K pa W te dx) (hc : SE K pa W tc dc) : SE K pa W (tOp (rEqO K g C (SpV K 2 dsp) L2.E0) te tc) (dEqO K g Cs C dsp dx dc) := fun F G σ H ρ Q q er S h k x =>
  hx F G σ H ρ _ _ er S h (fun G1 H1 v t ρ1 e1 S1 r1 h1 => hc F G1 σ H1 ρ1 _ _ er S1 h1 (fun G2 H2 w u ρ2 e2 S2 r2 h2 => by
    obtain ⟨d, ed, hi, y, ey, hk, ty, ety, hn, av, ea, nd, hd⟩ := h2
    obtain ⟨a, dx, fs, rfl, ha⟩ := insOf_at S2.ex (S2.rdT (r1.mono e2) ed) hi
    refine ⟨a, dx, fs, ty, rfl, ha, tyX_of hK (kno_of hC hk) S2.ex (S2.rdT r2 ey) ety, hn, ?_⟩
    exact call_core S2 (.cons (r1.mono e2) (.cons r2 .nil)) ea nd rfl hd (fun G3 H3 v3 d3 os e3 S3 rv hq => by
      obtain ⟨b, eb, hq⟩ := hq
      cases bool_of eb
      cases rv
      exact ⟨b, rfl, k G3 H3 _ (.val _) _ ((e1.trans e2).trans e3) S3 (.bl _) hq⟩) (fun _ _ _ _ _ _ _ _ _ _ _ hq => hq.elim)) (x.grow e1)) x
end
end DL
namespace DL
open PySem L2 Evl
def dNev : DE := fun _ _ _ => False
theorem nf_same (K : PySem.W.Frag) (C : Addr) : PySem.W.notFirst K C (.ref C) = true := by unfold PySem.W.notFirst; simp
theorem nf_ty {K : PySem.W.Frag} {C : Addr} {n : String} {l : List String} (h : fastBuiltinMro n = some (l.map Value.type)) : PySem.W.notFirst K C (.type n) = true := by
  have e : PySem.W.subIn K (.type n) (.ref C) = some false := by
    show (fastBuiltinMro n).map (·.contains (.ref C)) = some false
    rw [h]
    have : (l.map Value.type).contains (Value.ref C) = false := by
      rw [Bool.eq_false_iff]
      intro z
      rw [List.contains_iff_mem] at z
      obtain ⟨x, -, hx⟩ := List.mem_map.mp z
      cases hx
    simp [this]
  unfold PySem.W.notFirst
  rw [e]
  simp
theorem nf_none (K : PySem.W.Frag) (C : Addr) : PySem.W.notFirst K C (.type "NoneType") = true := nf_ty (l := ["NoneType", "object"]) (by decide +kernel)
theorem nf_int (K : PySem.W.Frag) (C : Addr) : PySem.W.notFirst K C (.type "int") = true := nf_ty (l := ["int", "object"]) (by decide +kernel)
theorem nf_bool (K : PySem.W.Frag) (C : Addr) : PySem.W.notFirst K C (.type "bool") = true := nf_ty (l := ["bool", "int", "object"]) (by decide +kernel)
theorem nf_str (K : PySem.W.Frag) (C : Addr) : PySem.W.notFirst K C (.type "str") = true := nf_ty (l := ["str", "object"]) (by decide +kernel)
theorem nf_lst (K : PySem.W.Frag) (C : Addr) : PySem.W.notFirst K C (.type "list") = true := nf_ty (l := ["list", "object"]) (by decide +kernel)
theorem nf_tup (K : PySem.W.Frag) (C : Addr) : PySem.W.notFirst K C (.type "tuple") = true := nf_ty (l := ["tuple", "object"]) (by decide +kernel)
theorem nf_dct (K : PySem.W.Frag) (C : Addr) : PySem.W.notFirst K C (.type "dict") = true := nf_ty (l := ["dict", "object"]) (by decide +kernel)
theorem ne_bl (a b : Bool) : D.ne (.bl a) (.bl b) = some (.bl (!(a == b))) := by cases a <;> cases b <;> rfl
theorem eq_bl (a b : Bool) : D.eq (.bl a) (.bl b) = some (.bl (a == b)) := by cases a <;> cases b <;> rfl
theorem tyV_dct {x : List (Key × D)} : (D.dct x).tyV = some (.type "dict") := rfl
theorem tyV_ins {C : Addr} {x : List (Str × D)} : (D.ins C x).tyV = some (.ref C) := rfl
theorem kno_dct {Cs : List Addr} {x : List (Key × D)} : (D.dct x).kno Cs = true := rfl
theorem kit_sameR (K : PySem.W.Frag) (C : Addr) : PySem.W.kitOne K (.ref C) (.ref C) = some true := by unfold PySem.W.kitOne; rw [if_pos (by simp)]
theorem clV_ptr {C : Addr} : (D.ptr C).clV = some (.ref C) := rfl
structure KitB (K : PySem.W.Frag) (C : Addr) : Prop where
  non : PySem.W.kitOne K (.type "NoneType") (.ref C) = some false
  bl : PySem.W.kitOne K (.type "bool") (.ref C) = some false
  int : PySem.W.kitOne K (.type "int") (.ref C) = some false
  str : PySem.W.kitOne K (.type "str") (.ref C) = some false
  byt : PySem.W.kitOne K (.type "bytes") (.ref C) = some false
  lst : PySem.W.kitOne K (.type "list") (.ref C) = some false
  tup : PySem.W.kitOne K (.type "tuple") (.ref C) = some false
  dct : PySem.W.kitOne K (.type "dict") (.ref C) = some false
theorem sub_ty {K : PySem.W.Frag} {C : Addr} {n : String} {l : List String} (h : fastBuiltinMro n = some (l.map Value.type)) : PySem.W.subIn K (.type n) (.ref C) = some false := by
  show (fastBuiltinMro n).map (·.contains (.ref C)) = some false
  rw [h]
  have : (l.map Value.type).contains (Value.ref C) = false := by
    rw [Bool.eq_false_iff]
    intro z
    rw [List.contains_iff_mem] at z
    obtain ⟨x, -, hx⟩ := List.mem_map.mp z
    cases hx
  simp [this]
theorem kit_sub {K : PySem.W.Frag} {C : Addr} {t : Value} (h1 : PySem.W.isClsIn K C = true) (h2 : PySem.W.typeIn K (.ref C) = some (.type "type")) (hn : t ≠ .ref C) (hs : PySem.W.subIn K t (.ref C) = some false) : PySem.W.kitOne K t (.ref C) = some false := by
  have hc : (PySem.W.clsIn K C).isSome = true := h1
  unfold PySem.W.kitOne
  rw [if_neg (by simpa using hn)]
  show (if ((PySem.W.clsIn K C).isSome && PySem.W.typeIn K (.ref C) == some (.type "type")) = true then PySem.W.subIn K t (.ref C) else none) = some false
  rw [hc, h2, hs]
  simp
theorem kitB_of {K : PySem.W.Frag} {C : Addr} (h1 : PySem.W.isClsIn K C = true) (h2 : PySem.W.typeIn K (.ref C) = some (.type "type")) : KitB K C where
  non := kit_sub h1 h2 (by simp) (sub_ty (l := ["NoneType", "object"]) (by decide +kernel))
  bl := kit_sub h1 h2 (by simp) (sub_ty (l := ["bool", "int", "object"]) (by decide +kernel))
  int := kit_sub h1 h2 (by simp) (sub_ty (l := ["int", "object"]) (by decide +kernel))
  str := kit_sub h1 h2 (by simp) (sub_ty (l := ["str", "object"]) (by decide +kernel))
  byt := kit_sub h1 h2 (by simp) (sub_ty (l := ["bytes", "object"]) (by decide +kernel))
  lst := kit_sub h1 h2 (by simp) (sub_ty (l := ["list", "object"]) (by decide +kernel))
  tup := kit_sub h1 h2 (by simp) (sub_ty (l := ["tuple", "object"]) (by decide +kernel))
  dct := kit_sub h1 h2 (by simp) (sub_ty (l := ["dict", "object"]) (by decide +kernel))
end DL
namespace DL
open PySem L2 Evl
def x1 (f : Str) : List D → Option (List (Str × D))
  | [y] => some [(f, y)]
  | _ => none
def x2 (f g : Str) : List D → Option (List (Str × D))
  | [y, z] => some [(g, z), (f, y)]
  | _ => none
def dRz (C : Addr) (mk : List D → Option (List (Str × D))) (da : DA) : DS := fun DD ρ => da ρ (fun ts ρ1 => Opt (vals ts) fun ds => Opt (mk ds) fun fs => DD.er C fs ρ1) DD.er
end DL
namespace DL
open PySem L2 Evl PySem.Spec PyProof.Rows
end DL
namespace DL
open PySem L2 Evl
abbrev DSui := Addr → Addr → List (Str × D) → DS
def shutD (i : Nat) (DD : Do) : Do := ⟨fun ρ => DD.nx (ρ.set i .no), DD.rt, DD.rf, fun ρ => DD.bk (ρ.set i .no), fun ρ => DD.ct (ρ.set i .no), fun _ _ _ => False⟩
def erH (K : PySem.W.Frag) (DD : Do) : List (Value × Nat × DSui) → ER
  | [] => DD.er
  | h :: r => fun C fs ρ => Opt (PySem.W.exmOne K (.ref C) h.1) fun b => if b = true then isPar ρ h.2.1 = false ∧ ∀ a, h.2.2 a C fs (shutD h.2.1 DD) (ρ.set h.2.1 (.val (.ptr a))) else erH K DD r C fs ρ
def dTry (K : PySem.W.Frag) (b : DS) (hs : List (Value × Nat × DSui)) : DS := fun DD ρ => b { DD with er := erH K DD hs } ρ
def dTry0 (K : PySem.W.Frag) (b : DS) (hs : List (Value × Nat × DSui)) : DS := fun DD ρ => b { DD with er := erH K { DD with er := fun _ _ _ => False } hs } ρ
section
variable {K : PySem.W.Frag} {pa : PaG} {W : WX} {F G G' H H' : Hp} {σ : RSt} {ρ : Ro} {D : Ends} {DD : Do}
theorem Sim.clear (S : Sim K pa F G σ H ρ) (i : Nat) : Sim K pa F G (σ.set i none) H (ρ.set i .no) := S.wipeTo (vs := [i]) (wipe_set List.mem_cons_self).symm
end
def dXf (C0 a C : Addr) (fs : List (Str × D)) (f : Str) (de : DE) : DE := fun ρ q er => de ρ (fun t ρ1 => Opt (rd ρ1 t) fun x => x = .ptr a ∧ C = C0 ∧ Opt (fs.lookup f) fun z => q (.val z) ρ1) er
def dIsX (K : PySem.W.Frag) (Cs : List Addr) (a C : Addr) (de dc : DE) : DE := fun ρ q er => de ρ (fun t ρ1 => dc ρ1 (fun u ρ2 => Opt (rd ρ2 t) fun x => Opt (rd ρ2 u) fun c => x = .ptr a ∧ C ∈ Cs ∧ Opt c.clV fun cv => Opt (PySem.W.kitOne K (.ref C) cv) fun b => q (.val (.bl b)) ρ2) er) er
def hot (dsp : DSp) : DSp := dsp
def dBinS (C : Addr) (dsp : DSp) (da db : DE) : DE := fun ρ q er => da ρ (fun t ρ1 => db ρ1 (fun u ρ2 => Opt (rd ρ2 t) fun d => d.insOf C = true ∧ Opt (rd ρ2 u) fun y => y.insOf C = true ∧ Opt (argsOf ρ2 [t, u]) fun av => (bors [t, u]).Nodup ∧
  hot dsp av (fun r os => q (.val r) (putOuts ρ2 (bors [t, u]) os)) (fun C' fs os => er C' fs (putOuts ρ2 (bors [t, u]) os))) er) er
section
variable {K : PySem.W.Frag} {b : DS} {hs : List (Value × Nat × DSui)} {nx bk ct : Ro → Prop} {rt : T → Ro → Prop} {rf : D → Ro → Prop} {er : ER} {ρ : Ro} {c : Value} {i : Nat} {s : DSui} {C : Addr} {fs : List (Str × D)}
theorem w_try : dTry K b hs ⟨nx, rt, rf, bk, ct, er⟩ ρ = b ⟨nx, rt, rf, bk, ct, erH K ⟨nx, rt, rf, bk, ct, er⟩ hs⟩ ρ := rfl
theorem w_try0 : dTry0 K b hs ⟨nx, rt, rf, bk, ct, er⟩ ρ = b ⟨nx, rt, rf, bk, ct, erH K ⟨nx, rt, rf, bk, ct, fun _ _ _ => False⟩ hs⟩ ρ := rfl
theorem erH_nil : erH K ⟨nx, rt, rf, bk, ct, er⟩ [] C fs ρ = er C fs ρ := rfl
theorem erH_cons : erH K ⟨nx, rt, rf, bk, ct, er⟩ ((c, i, s) :: hs) C fs ρ = Opt (PySem.W.exmOne K (.ref C) c) fun b => if b = true then isPar ρ i = false ∧ ∀ a, s a C fs (shutD i ⟨nx, rt, rf, bk, ct, er⟩) (ρ.set i (.val (.ptr a))) else erH K ⟨nx, rt, rf, bk, ct, er⟩ hs C fs ρ := rfl
theorem shutD_mk : shutD i ⟨nx, rt, rf, bk, ct, er⟩ = ⟨fun ρ => nx (ρ.set i .no), rt, rf, fun ρ => bk (ρ.set i .no), fun ρ => ct (ρ.set i .no), fun _ _ _ => False⟩ := rfl
theorem hot_run (dsp : DSp) (av : List Sl) (q : D → List D → Prop) (er : Addr → List (Str × D) → List D → Prop) : hot dsp av q er = Run dsp av q er := rfl
theorem x1_mk {f : Str} {y : D} : x1 f [y] = some [(f, y)] := rfl
theorem x2_mk {f g : Str} {y z : D} : x2 f g [y, z] = some [(g, z), (f, y)] := rfl
theorem w_rz {mk : List D → Option (List (Str × D))} {da : DA} : dRz C mk da ⟨nx, rt, rf, bk, ct, er⟩ ρ = da ρ (fun ts ρ1 => Opt (vals ts) fun ds => Opt (mk ds) fun fs => er C fs ρ1) er := rfl
end
end DL
set_option maxHeartbeats 2000000
namespace DL
open PySem L2 Evl PySem.Spec PyProof.Rows
end DL
namespace DL
open PySem L2 Evl
section
variable {K : PySem.W.Frag} {pa : PaG} {F G G' H H' : Hp} {σ σ' : RSt} {ρ ρ' : Ro}
theorem Sim.out (S : Sim K pa F G σ H ρ) {p : Addr} {o : HO} (nc : ∀ u, H p = some u → NoCode u) (gp : G p = none) (fp : F p = none) (fr : ∀ (i : Nat) (s : Sl) (d : D), ρ[i]? = some s → s.ownD = some d → σ[i]? ≠ some (some (.ref p))) : Sim K pa F G σ (upd H p o) ρ where
  len := S.len
  ex := fun b u q => by
    rw [upd_ne (fun z => by rw [z, gp] at q; cases q)]; exact S.ex b u q
  fx := fun b u q => by
    rw [upd_ne (fun z => by rw [z, fp] at q; cases q)]; exact S.fx b u q
  dj := S.dj.out nc
  val := S.val
  own := fun i s d h hd => by
    obtain ⟨b, h1, h2, h3⟩ := S.own i s d h hd
    exact ⟨b, h1, h2, h3.mono (Ex.refl G) (upd_ne (fun z => fr i s d h hd (by rw [h1, z]))).symm⟩
  ofr := S.ofr
  par := S.par
  gx := S.gx
  dis := S.dis
theorem Sim.sub (S : Sim K pa F G σ H ρ) (hl : ρ'.length = ρ.length) (h : ∀ (j : Nat) (s : Sl), ρ'[j]? = some s → s = .no ∨ ρ[j]? = some s ∨ ∃ d v, s = .val d ∧ σ[j]? = some (some v) ∧ Rep K G v d) : Sim K pa F G σ H ρ' := by
  have old : ∀ (j : Nat) (s : Sl) (d : D), ρ'[j]? = some s → s.ownD = some d → ρ[j]? = some s := fun j s d q hd => by
    rcases h j s q with e | e | ⟨d', v, e, _⟩
    · subst e; cases hd
    · exact e
    · subst e; cases hd
  refine ⟨hl.trans S.len, S.ex, S.fx, S.dj, fun i d q => ?_, fun i s d q hd => S.own i s d (old i s d q hd) hd, fun i s d p q hd hp => S.ofr i s d p (old i s d q hd) hd hp, fun i d q => S.par i d (old i _ d q rfl), S.gx, fun i j s t d e p hij h1 h2 h3 h4 h5 h6 => S.dis i j s t d e p hij (old i s d h1 h2) h2 (old j t e h3 h4) h4 h5 h6⟩
  rcases h i _ q with e | e | ⟨d', v, e, hv, r⟩
  · cases e
  · exact S.val i d e
  · cases e; exact ⟨v, hv, r⟩
end
def oL : Option Nat → List Nat
  | none => []
  | some j => [j]
theorem oL_none : oL none = [] := rfl
theorem oL_some {j : Nat} : oL (some j) = [j] := rfl
def ltO : Option Nat → Ro → Prop
  | none, _ => True
  | some j, ρ => j < ρ.length
theorem ltO_none {ρ : Ro} : ltO none ρ = True := rfl
theorem ltO_some {j : Nat} {ρ : Ro} : ltO (some j) ρ = (j < ρ.length) := rfl
def FN (F : Hp) : List (Addr × HO) → Hp
  | [] => F
  | x :: L => FN (upd F x.1 x.2) L
inductive NOk (K : PySem.W.Frag) : Hp → Hp → List (Addr × HO) → List D → Prop
  | nil {F G : Hp} : NOk K F G [] []
  | cons {F G : Hp} {p : Addr} {vs : List V} {es : List D} {L : List (Addr × HO)} {ds : List D} : F p = none → Reps K G vs es → es.length < sizeLine → NOk K (upd F p (.lst vs)) G L ds → NOk K F G ((p, .lst vs) :: L) (.lst es :: ds)
section
variable {K : PySem.W.Frag} {pa : PaG} {F G G' H H' : Hp} {σ σ' : RSt} {ρ ρ' : Ro} {L : List (Addr × HO)} {ds : List D}
theorem NOk.mono (e : Ex G G') (h : NOk K F G L ds) : NOk K F G' L ds := by
  induction h with
  | nil => exact .nil
  | cons h1 h2 h3 _ ih => exact .cons h1 (h2.mono e) h3 (ih e)
theorem NOk.ex (h : NOk K F G L ds) : Ex F (FN F L) := by
  induction h with
  | nil => exact Ex.refl _
  | cons h1 _ _ _ ih => exact (Ex.new h1).trans ih
theorem NOk.at_ (h : NOk K F G L ds) : ∀ x ∈ L, FN F L x.1 = some x.2 ∧ F x.1 = none := by
  induction h with
  | nil => intro x hx; cases hx
  | @cons F G p vs es L ds h1 _ _ hN ih =>
    intro x hx
    rcases List.mem_cons.mp hx with e | hx
    · subst e
      exact ⟨hN.ex _ _ upd_same, h1⟩
    · obtain ⟨k1, k2⟩ := ih x hx
      have hne : x.1 ≠ p := fun z => by rw [z, upd_same] at k2; cases k2
      exact ⟨k1, by rw [upd_ne hne] at k2; exact k2⟩
theorem NOk.length (h : NOk K F G L ds) : L.length = ds.length := by
  induction h with
  | nil => rfl
  | cons _ _ _ _ ih => rw [List.length_cons, List.length_cons, ih]
theorem NOk.lists (h : NOk K F G L ds) : ∀ x ∈ L, ∃ vs, x.2 = .lst vs ∧ vs.length < sizeLine := by
  induction h with
  | nil => intro x hx; cases hx
  | cons h1 h2 h3 _ ih =>
    intro x hx
    rcases List.mem_cons.mp hx with e | hx
    · subst e; exact ⟨_, rfl, by rw [h2.length]; exact h3⟩
    · exact ih x hx
end
abbrev DN := Ro → (List D → Ro → Prop) → Prop
def dnNil : DN := fun ρ q => q [] ρ
def dnCons (df : DF) (dn : DN) : DN := fun ρ q => df ρ (fun d ρ1 => match d with
  | .lst es => es.length < sizeLine ∧ dn ρ1 (fun ds ρ2 => q (.lst es :: ds) ρ2)
  | _ => False) (fun _ _ _ => False)
def Sl.hid : Sl → Sl
  | .val d => .val d
  | _ => .no
theorem hid_val {d : D} : (Sl.val d).hid = .val d := rfl
theorem hid_own {d : D} : (Sl.own d).hid = .no := rfl
theorem hid_par {d : D} : (Sl.par d).hid = .no := rfl
theorem hid_no : Sl.no.hid = .no := rfl
def hidL (ρ : Ro) : Ro := ρ.map Sl.hid
theorem hidL_nil : hidL [] = [] := rfl
theorem hidL_cons {a : Sl} {l : Ro} : hidL (a :: l) = a.hid :: hidL l := rfl
def hideR (ρ : Ro) (i : Nat) (d : D) : Ro := (hidL ρ).set i (.val d)
abbrev DNS := List D → Addr → DS
def dnSeq (i : Nat) (ds : DS) (dn : DNS) : DNS := fun es p DD ρ => ds { nx := fun ρ1 => ρ1[i]? = some (.val (.ptr p)) ∧ dn es p DD ρ1, rt := fun _ _ => False } ρ
def dnT (i n : Nat) (jo : Option Nat) (dt : DT) : DNS := fun es _ DD ρ => es.length = n ∧ dt (hideR ρ i (.lst es)) (fun b _ => if b = true then DD.rt (.val (.bl false)) ρ else ltO jo ρ ∧ DD.nx (wipeD ρ (i :: oL jo))) (fun _ _ _ => False)
def dNest (i : Nat) (dn : DN) (s : DNS) : DS := fun DD ρ => dn ρ (fun es ρ1 => (isPar ρ1 i = false ∧ i < ρ1.length ∧ es.length ≤ sizeLine) ∧ ∀ p, s es p DD (ρ1.set i (.val (.ptr p))))
section
variable {K : PySem.W.Frag} {pa : PaG} {W : WX} {i n : Nat} {jo : Option Nat}
theorem hideR_get {ρ : Ro} {d : D} {k : Nat} {s : Sl} (hi : i < ρ.length) (h : (hideR ρ i d)[k]? = some s) : (k = i ∧ s = .val d) ∨ ∃ s0, ρ[k]? = some s0 ∧ s = s0.hid := by
  unfold hideR hidL at h
  by_cases hk : i = k
  · subst hk
    rw [List.getElem?_set_self (by rw [List.length_map]; exact hi)] at h
    cases h
    exact .inl ⟨rfl, rfl⟩
  · rw [List.getElem?_set_ne hk, List.getElem?_map] at h
    cases q : ρ[k]? with
    | none => rw [q] at h; cases h
    | some s0 => rw [q] at h; cases h; exact .inr ⟨s0, rfl, rfl⟩
theorem hid_noOwn {s : Sl} : s.hid.ownD = none := by cases s <;> rfl
end
def AllP (f : Addr → Prop) (_ : Ph f := ()) : Prop := ∀ p, f p
theorem w_nest {i : Nat} {dn : DN} {s : DNS} {DD : Do} {ρ : Ro} : dNest i dn s DD ρ = dn ρ (fun es ρ1 => (isPar ρ1 i = false ∧ i < ρ1.length ∧ es.length ≤ sizeLine) ∧ AllP fun p => s es p DD (ρ1.set i (.val (.ptr p)))) := rfl
theorem w_dnSeq {i : Nat} {ds : DS} {dn : DNS} {es : List D} {p : Addr} {DD : Do} {ρ : Ro} : dnSeq i ds dn es p DD ρ = ds ⟨fun ρ1 => ρ1[i]? = some (.val (.ptr p)) ∧ dn es p DD ρ1, fun _ _ => False, fun _ _ => False, fun _ => False, fun _ => False, fun _ _ _ => False⟩ ρ := rfl
theorem w_dnT {i n : Nat} {jo : Option Nat} {dt : DT} {es : List D} {p : Addr} {nx : Ro → Prop} {rt : T → Ro → Prop} {rf : D → Ro → Prop} {bk ct : Ro → Prop} {er : ER} {ρ : Ro} : dnT i n jo dt es p ⟨nx, rt, rf, bk, ct, er⟩ ρ = (es.length = n ∧ dt (hideR ρ i (.lst es)) (fun b _ => if b = true then rt (.val (.bl false)) ρ else ltO jo ρ ∧ nx (wipeD ρ (i :: oL jo))) (fun _ _ _ => False)) := rfl
def dnFrz (k : Nat) (dn : DNS) : DNS := fun es p => dFrz k (dn es p)
theorem w_dnFrz {k : Nat} {dn : DNS} {es : List D} {p : Addr} {DD : Do} {ρ : Ro} : dnFrz k dn es p DD ρ = dFrz k (dn es p) DD ρ := rfl
end DL
namespace DL
open PySem L2 Evl
mutual
def D.noL : D → Bool
  | .lst _ => false
  | .tup xs => D.noLs xs
  | .dct es => D.noLk es
  | .ins _ fs => D.noLf fs
  | .exc _ fs => D.noLf fs
  | _ => true
def D.noLs : List D → Bool
  | [] => true
  | x :: xs => D.noL x && D.noLs xs
def D.noLk : List (Key × D) → Bool
  | [] => true
  | (_, x) :: xs => D.noL x && D.noLk xs
def D.noLf : List (Str × D) → Bool
  | [] => true
  | (_, x) :: xs => D.noL x && D.noLf xs
end
section
variable {K : PySem.W.Frag} {G G1 : Hp}
mutual
theorem Rep.noL (h : ∀ b, (∀ xs, G b ≠ some (.lst xs)) → G1 b = G b) : ∀ {v : V} {d : D}, Rep K G v d → d.noL = true → Rep K G1 v d
  | _, _, .non, _ => .non
  | _, _, .bl b, _ => .bl b
  | _, _, .int i, _ => .int i
  | _, _, .str i, _ => .str i
  | _, _, .byt i, _ => .byt i
  | _, _, .ty i, _ => .ty i
  | _, _, .ptr i, _ => .ptr i
  | _, _, .lst _ _, e => by cases e
  | _, _, .tup (a := a) (vs := vs) q r, e => .tup (q.elim (fun z => .inl (z.elim (fun z => .inl (by
      rw [h a (fun xs w => by rw [z] at w; cases w)]; exact z)) (fun ⟨o, z⟩ => .inr ⟨o, by
      rw [h a (fun xs w => by rw [z] at w; cases w)]; exact z⟩))) .inr) (Reps.noL h r e)
  | _, _, .dct q r, e => .dct (by rw [h _ (fun xs w => by rw [q] at w; cases w)]; exact q) (RepK.noL h r e)
  | _, _, .ins q r, e => .ins (by rw [h _ (fun xs w => by rw [q] at w; cases w)]; exact q) (RepF.noL h r e)
  | _, _, .exc q k r, e => .exc (by rw [h _ (fun xs w => by rw [q] at w; cases w)]; exact q) (by rw [h _ (fun xs w => by rw [k] at w; cases w)]; exact k) (RepF.noL h r e)
  | _, _, .exc0 q, _ => .exc0 (by rw [h _ (fun xs w => by rw [q] at w; cases w)]; exact q)
theorem Reps.noL (h : ∀ b, (∀ xs, G b ≠ some (.lst xs)) → G1 b = G b) : ∀ {v : List V} {d : List D}, Reps K G v d → D.noLs d = true → Reps K G1 v d
  | _, _, .nil, _ => .nil
  | _, _, .cons r t, e => by
    have e := (Bool.and_eq_true ..).mp (show (D.noL _ && D.noLs _) = true from e)
    exact .cons (Rep.noL h r e.1) (Reps.noL h t e.2)
theorem RepK.noL (h : ∀ b, (∀ xs, G b ≠ some (.lst xs)) → G1 b = G b) : ∀ {v : List (Key × V)} {d : List (Key × D)}, RepK K G v d → D.noLk d = true → RepK K G1 v d
  | _, _, .nil, _ => .nil
  | _, _, .cons r t, e => by
    have e := (Bool.and_eq_true ..).mp (show (D.noL _ && D.noLk _) = true from e)
    exact .cons (Rep.noL h r e.1) (RepK.noL h t e.2)
theorem RepF.noL (h : ∀ b, (∀ xs, G b ≠ some (.lst xs)) → G1 b = G b) : ∀ {v : List (Str × V)} {d : List (Str × D)}, RepF K G v d → D.noLf d = true → RepF K G1 v d
  | _, _, .nil, _ => .nil
  | _, _, .cons r t, e => by
    have e := (Bool.and_eq_true ..).mp (show (D.noL _ && D.noLf _) = true from e)
    exact .cons (Rep.noL h r e.1) (RepF.noL h t e.2)
end
end
section
variable {K : PySem.W.Frag} {pa : PaG} {F G G' H H' : Hp} {σ σ' : RSt} {ρ ρ' : Ro} {L : List (Addr × HO)} {ds : List D}
theorem NOk.snoc {p : Addr} {vs : List V} {es : List D} (h : NOk K F G L ds) (hp : FN F L p = none) (r : Reps K G vs es) (hl : es.length < sizeLine) : NOk K F G (L ++ [(p, .lst vs)]) (ds ++ [.lst es]) := by
  induction h with
  | nil => exact .cons hp r hl .nil
  | cons h1 h2 h3 _ ih => exact .cons h1 h2 h3 (ih hp r)
end
def lcN (g : DG) (df : DF) (vs : List Nat) (q : List D → Ro → Prop) : List D → List D → Ro → Prop
  | [], acc, ρ => q acc ρ
  | d :: ds, acc, ρ => g (.val d) (wipeD ρ vs) fun ρ1 => df ρ1 (fun e ρ2 => match e with
    | .lst es => (es.length < sizeLine ∧ acc.length < sizeLine) ∧ lcN g df vs q ds (acc ++ [.lst es]) (wipeD ρ2 vs)
    | _ => False) (fun _ _ _ => False)
def dnLc (di : DI) (g : DG) (df : DF) (vs : List Nat) : DN := fun ρ q => di ρ (fun ds ρ1 => lcN g df vs q ds [] ρ1) (fun _ _ _ => False)
section
variable {K : PySem.W.Frag} {pa : PaG} {W : WX}
def dNestL (i : Nat) (dn : DN) (s : DNS) : DS := fun DD ρ => dn ρ (fun es ρ1 => (isPar ρ1 i = false ∧ i < ρ1.length) ∧ ∀ p, s es p DD (ρ1.set i (.val (.ptr p))))
theorem Lk.frame {F F2 G : Hp} {D : Ends} {DD : Do} (l : Lk K pa F W G D DD) (e : Ex F F2) : Lk K pa F2 W G D DD :=
  ⟨fun G' σ' H' ρ' eg S h => l.nx G' σ' H' ρ' eg (S.frame e) h, fun G' σ' H' ρ' eg S h => l.bk G' σ' H' ρ' eg (S.frame e) h, fun G' σ' H' ρ' eg S h => l.ct G' σ' H' ρ' eg (S.frame e) h,
   fun G' σ' H' ρ' v t eg S r h => l.rt G' σ' H' ρ' v t eg (S.frame e) r h, fun G' σ' H' ρ' p d eg S gf ow fr h => l.rf G' σ' H' ρ' p d eg (S.frame e) ⟨gf.1, fresh_back e gf.2⟩ ow fr h,
   fun G' σ' H' ρ' C d vs fs eg S h => l.er G' σ' H' ρ' C d vs fs eg (S.frame e) h⟩
def dnSeq2 (i : Nat) (ds : DS) (dn : DNS) : DNS := fun es p DD ρ => ds { DD with nx := fun ρ1 => ρ1[i]? = some (.val (.ptr p)) ∧ dn es p DD ρ1 } ρ
def dnFC (i j : Nat) (ds : DS) : DNS := fun _ _ DD ρ => (j < ρ.length ∧ i ≠ j) ∧ ds DD (wipeD ρ [i, j])
end
end DL
set_option maxHeartbeats 2000000
namespace PySem.SeqAt
open PySem PySem.Calls PyProof.Rows
section
variable {prog : Program} {w : World} {A : Around} {s : Shared} {E : Value → Shared → Prop}
theorem dict_declines {a : Addr} {v : Value} {T : String} (da : s.TypeIs (.ref a) "dict") (tv : s.TypeIs v T) (sub : isSubtype (.type T) (.type "dict") = pure false) (Q : Value → Shared → Prop) (q : Q .notImplemented s) :
    wpAny (model prog w) A (call (.builtin "dict.__eq__") [.ref a, v]) Q E s := by
  refine wpAny_call_entry PySem.F.slot_dict_eq da PySem.F.entry_dict_eq ?_ (PySem.F.args_dict_eq_2 _ _)
  show wpAny _ _ (Builtin.Dict.dictSlotArgs "__eq__" ⟨[.ref a, v], []⟩ >>= _) _ _ s
  refine wpAny_bind ?_
  unfold Builtin.Dict.dictSlotArgs
  refine wpAny_bind (wpAny_notOrdered_dict da ?_)
  show wpAny _ _ (pure (Value.ref a, v)) _ _ s
  refine wpAny_pure (wpAny_bind (wpAny_isInstance (T := T) tv sub ?_))
  simp only [Bool.not_false, if_true]
  exact wpAny_bind (wpAny_rule (wpAny_pure ⟨_, rfl, q⟩))
end
section
variable {A : Around} {s : Shared} {es : Array DictEntry} {ep : Nat}
theorem int_declines_dict (b : Int) (u : Tok) (l : Addr) (c : Value) (es : Array DictEntry) (ep : Nat) (dd : Option Addr) (sl : Array (Option Value)) :
    Meets (Builtin.«int.__eq__» ⟨[.int b u, .ref l], []⟩) (fun _ R s => s.heap.get? l = some { cls := c, dict := dd, data := .dict es ep, slots := sl } ∧ R (.ok (.ret .notImplemented)) s) :=
  .of_wp fun prog w A R s h => by obtain ⟨hp, g, d, tk, os⟩ := s; obtain ⟨hl, h⟩ := h; wp_walk using AutoSeq1.wpAny_loadPart' hl, wpAny_load hl; exact ⟨_, rfl, h⟩
theorem bool_declines_dict (b : Bool) (l : Addr) (c : Value) (es : Array DictEntry) (ep : Nat) (dd : Option Addr) (sl : Array (Option Value)) :
    Meets (Builtin.«int.__eq__» ⟨[.bool b, .ref l], []⟩) (fun _ R s => s.heap.get? l = some { cls := c, dict := dd, data := .dict es ep, slots := sl } ∧ R (.ok (.ret .notImplemented)) s) :=
  .of_wp fun prog w A R s h => by obtain ⟨hp, g, d, tk, os⟩ := s; obtain ⟨hl, h⟩ := h; wp_walk using AutoSeq1.wpAny_loadPart' hl, wpAny_load hl; exact ⟨_, rfl, h⟩
theorem str_declines_dict (b : Str) (u : Tok) (l : Addr) (c : Value) (es : Array DictEntry) (ep : Nat) (dd : Option Addr) (sl : Array (Option Value)) :
    Meets (Builtin.«str.__eq__» ⟨[.str b u, .ref l], []⟩) (fun _ R s => s.heap.get? l = some { cls := c, dict := dd, data := .dict es ep, slots := sl } ∧ R (.ok (.ret .notImplemented)) s) :=
  .of_wp fun prog w A R s h => by obtain ⟨hp, g, d, tk, os⟩ := s; obtain ⟨hl, h⟩ := h; wp_walk using AutoSeq1.wpAny_loadPart' hl, wpAny_load hl; exact ⟨_, rfl, h⟩
theorem list_declines_dict (l b : Addr) (items : Array Value) (n : Nat) (dd dd2 : Option Addr) (sl sl2 : Array (Option Value)) (es : Array DictEntry) (ep : Nat) :
    Meets (Builtin.«list.__eq__» ⟨[.ref l, .ref b], []⟩) (fun _ R s => s.heap.get? l = some { cls := .type "list", dict := dd, data := .seq items n, slots := sl } ∧ s.heap.get? b = some { cls := .type "dict", dict := dd2, data := .dict es ep, slots := sl2 } ∧ R (.ok (.ret .notImplemented)) s) :=
  .of_wp fun prog w A R s h => by obtain ⟨hp, g, d, tk, os⟩ := s; obtain ⟨hl, hb, h⟩ := h; have f1 := PySem.F.sub_dict_list; wp_walk using AutoSeq1.wpAny_loadPart' hl, AutoSeq1.wpAny_loadPart' hb; exact ⟨_, rfl, h⟩
theorem tuple_declines_dict (l b : Addr) (items : Array Value) (n : Nat) (dd dd2 : Option Addr) (sl sl2 : Array (Option Value)) (es : Array DictEntry) (ep : Nat) :
    Meets (Builtin.«tuple.__eq__» ⟨[.ref l, .ref b], []⟩) (fun _ R s => s.heap.get? l = some { cls := .type "tuple", dict := dd, data := .seq items n, slots := sl } ∧ s.heap.get? b = some { cls := .type "dict", dict := dd2, data := .dict es ep, slots := sl2 } ∧ R (.ok (.ret .notImplemented)) s) :=
  .of_wp fun prog w A R s h => by obtain ⟨hp, g, d, tk, os⟩ := s; obtain ⟨hl, hb, h⟩ := h; have f1 := PySem.F.sub_dict_tuple; wp_walk using AutoSeq1.wpAny_loadPart' hl, AutoSeq1.wpAny_loadPart' hb; exact ⟨_, rfl, h⟩
end
section
variable {A : Around} {s : Shared}
theorem isSame_dict {M : Model} {E : Value → Shared → Prop} {x y : Addr} {ox oy : Obj} {R : Bool → Shared → Prop} (hxy : x ≠ y) (hx : s.heap.get? x = some ox) (hy : s.heap.get? y = some oy) (h : R false s) (hnt : ox.cls ≠ .type "tuple" := by simp) :
    wpAny M A (isSame (.ref x) (.ref y)) R E s := wpAny_isSame_ref_other hxy hx hy hnt h
def IsDct (s : Shared) (a : Addr) : Prop := ∃ (dd : Option Addr) (es : Array DictEntry) (ep : Nat) (sl : Array (Option Value)), s.heap.get? a = some { cls := .type "dict", dict := dd, data := .dict es ep, slots := sl }
theorem RcAt.dict_none {a : Addr} (h0 : IsDct s a) (hu : A.units < cLine) : RcAt A s (.ref a) (.none) false := fun prog w E Q h => by
  obtain ⟨dd, es, ep, sl, ho⟩ := h0
  exact rc_eq_decline_or (k := false) ⟨_, ho, rfl⟩ (typeIs_none s) (by decide) PySem.F.sub_NoneType_dict PySem.F.slot_dict_eq PySem.F.slot_NoneType_eq_refl (fun _ hq => dict_declines ⟨_, ho, rfl⟩ (typeIs_none s) PySem.F.sub_NoneType_dict _ hq) (fun _ hq => call_gives PySem.F.slot_NoneType_eq_refl rfl PySem.F.entry_NoneType_eq (PySem.F.args_NoneType_eq_2 _ _) (NoneType___eq___none_ref_0 a) hq)
    (fun _ hq => wpAny_of_eq (rfl : isSame (.ref a) (.none) = pure false) hq) (.inr hu) h
theorem RcAt.none_dict {a : Addr} (h0 : IsDct s a) (hu : A.units < cLine) : RcAt A s (.none) (.ref a) false := fun prog w E Q h => by
  obtain ⟨dd, es, ep, sl, ho⟩ := h0
  exact rc_eq_decline_or (k := false) (typeIs_none s) ⟨_, ho, rfl⟩ (by decide) PySem.F.sub_dict_NoneType PySem.F.slot_NoneType_eq PySem.F.slot_dict_eq_refl (fun _ hq => call_gives PySem.F.slot_NoneType_eq rfl PySem.F.entry_NoneType_eq (PySem.F.args_NoneType_eq_2 _ _) (NoneType___eq___none_ref_0 a) hq) (fun _ hq => dict_declines ⟨_, ho, rfl⟩ (typeIs_none s) PySem.F.sub_NoneType_dict _ hq)
    (fun _ hq => wpAny_of_eq (rfl : isSame (.none) (.ref a) = pure false) hq) (.inr hu) h
theorem EqAt.dict_none {a : Addr} (h0 : IsDct s a) (hu : A.units < cLine) : EqAt A s (.ref a) (.none) false := fun prog w E Q h => by
  unfold eqBool
  exact wpAny_holding (wpAny_ite_split (fun hab => absurd (eq_of_beq hab) nofun) fun _ => wpAny_bind (RcAt.dict_none h0 hu prog w E _ (wpAny_truthy_bool h)))
theorem EqAt.none_dict {a : Addr} (h0 : IsDct s a) (hu : A.units < cLine) : EqAt A s (.none) (.ref a) false := fun prog w E Q h => by
  unfold eqBool
  exact wpAny_holding (wpAny_ite_split (fun hab => absurd (eq_of_beq hab) nofun) fun _ => wpAny_bind (RcAt.none_dict h0 hu prog w E _ (wpAny_truthy_bool h)))
theorem RcAt.dict_bool {a : Addr} (b : Bool) (h0 : IsDct s a) (hu : A.units < cLine) : RcAt A s (.ref a) (.bool b) false := fun prog w E Q h => by
  obtain ⟨dd, es, ep, sl, ho⟩ := h0
  exact rc_eq_decline_or (k := false) ⟨_, ho, rfl⟩ (typeIs_bool s b) (by decide) PySem.F.sub_bool_dict PySem.F.slot_dict_eq PySem.F.slot_bool_eq_refl (fun _ hq => dict_declines ⟨_, ho, rfl⟩ (typeIs_bool s b) PySem.F.sub_bool_dict _ hq) (fun _ hq => call_meets PySem.F.slot_bool_eq_refl (typeIs_bool s b) PySem.F.entry_int_eq (PySem.F.args_int_eq_2 _ _) (bool_declines_dict b a _ es ep dd sl) ⟨ho, hq⟩)
    (fun _ hq => wpAny_of_eq (rfl : isSame (.ref a) (.bool b) = pure false) hq) (.inr hu) h
theorem RcAt.bool_dict {a : Addr} (b : Bool) (h0 : IsDct s a) (hu : A.units < cLine) : RcAt A s (.bool b) (.ref a) false := fun prog w E Q h => by
  obtain ⟨dd, es, ep, sl, ho⟩ := h0
  exact rc_eq_decline_or (k := false) (typeIs_bool s b) ⟨_, ho, rfl⟩ (by decide) PySem.F.sub_dict_bool PySem.F.slot_bool_eq PySem.F.slot_dict_eq_refl (fun _ hq => call_meets PySem.F.slot_bool_eq (typeIs_bool s b) PySem.F.entry_int_eq (PySem.F.args_int_eq_2 _ _) (bool_declines_dict b a _ es ep dd sl) ⟨ho, hq⟩) (fun _ hq => dict_declines ⟨_, ho, rfl⟩ (typeIs_bool s b) PySem.F.sub_bool_dict _ hq)
    (fun _ hq => wpAny_of_eq (rfl : isSame (.bool b) (.ref a) = pure false) hq) (.inr hu) h
theorem EqAt.dict_bool {a : Addr} (b : Bool) (h0 : IsDct s a) (hu : A.units < cLine) : EqAt A s (.ref a) (.bool b) false := fun prog w E Q h => by
  unfold eqBool
  exact wpAny_holding (wpAny_ite_split (fun hab => absurd (eq_of_beq hab) nofun) fun _ => wpAny_bind (RcAt.dict_bool b h0 hu prog w E _ (wpAny_truthy_bool h)))
theorem EqAt.bool_dict {a : Addr} (b : Bool) (h0 : IsDct s a) (hu : A.units < cLine) : EqAt A s (.bool b) (.ref a) false := fun prog w E Q h => by
  unfold eqBool
  exact wpAny_holding (wpAny_ite_split (fun hab => absurd (eq_of_beq hab) nofun) fun _ => wpAny_bind (RcAt.bool_dict b h0 hu prog w E _ (wpAny_truthy_bool h)))
theorem RcAt.dict_int {a : Addr} (b : Int) (u : Tok) (h0 : IsDct s a) (hu : A.units < cLine) : RcAt A s (.ref a) (.int b u) false := fun prog w E Q h => by
  obtain ⟨dd, es, ep, sl, ho⟩ := h0
  exact rc_eq_decline_or (k := false) ⟨_, ho, rfl⟩ (typeIs_int s b u) (by decide) PySem.F.sub_int_dict PySem.F.slot_dict_eq PySem.F.slot_int_eq_refl (fun _ hq => dict_declines ⟨_, ho, rfl⟩ (typeIs_int s b u) PySem.F.sub_int_dict _ hq) (fun _ hq => call_meets PySem.F.slot_int_eq_refl (typeIs_int s b u) PySem.F.entry_int_eq (PySem.F.args_int_eq_2 _ _) (int_declines_dict b u a _ es ep dd sl) ⟨ho, hq⟩)
    (fun _ hq => wpAny_of_eq (rfl : isSame (.ref a) (.int b u) = pure false) hq) (.inr hu) h
theorem RcAt.int_dict {a : Addr} (b : Int) (u : Tok) (h0 : IsDct s a) (hu : A.units < cLine) : RcAt A s (.int b u) (.ref a) false := fun prog w E Q h => by
  obtain ⟨dd, es, ep, sl, ho⟩ := h0
  exact rc_eq_decline_or (k := false) (typeIs_int s b u) ⟨_, ho, rfl⟩ (by decide) PySem.F.sub_dict_int PySem.F.slot_int_eq PySem.F.slot_dict_eq_refl (fun _ hq => call_meets PySem.F.slot_int_eq (typeIs_int s b u) PySem.F.entry_int_eq (PySem.F.args_int_eq_2 _ _) (int_declines_dict b u a _ es ep dd sl) ⟨ho, hq⟩) (fun _ hq => dict_declines ⟨_, ho, rfl⟩ (typeIs_int s b u) PySem.F.sub_int_dict _ hq)
    (fun _ hq => wpAny_of_eq (rfl : isSame (.int b u) (.ref a) = pure false) hq) (.inr hu) h
theorem EqAt.dict_int {a : Addr} (b : Int) (u : Tok) (h0 : IsDct s a) (hu : A.units < cLine) : EqAt A s (.ref a) (.int b u) false := fun prog w E Q h => by
  unfold eqBool
  exact wpAny_holding (wpAny_ite_split (fun hab => absurd (eq_of_beq hab) nofun) fun _ => wpAny_bind (RcAt.dict_int b u h0 hu prog w E _ (wpAny_truthy_bool h)))
theorem EqAt.int_dict {a : Addr} (b : Int) (u : Tok) (h0 : IsDct s a) (hu : A.units < cLine) : EqAt A s (.int b u) (.ref a) false := fun prog w E Q h => by
  unfold eqBool
  exact wpAny_holding (wpAny_ite_split (fun hab => absurd (eq_of_beq hab) nofun) fun _ => wpAny_bind (RcAt.int_dict b u h0 hu prog w E _ (wpAny_truthy_bool h)))
theorem RcAt.dict_str {a : Addr} (b : Str) (u : Tok) (h0 : IsDct s a) (hu : A.units < cLine) : RcAt A s (.ref a) (.str b u) false := fun prog w E Q h => by
  obtain ⟨dd, es, ep, sl, ho⟩ := h0
  exact rc_eq_decline_or (k := false) ⟨_, ho, rfl⟩ (typeIs_str s b u) (by decide) PySem.F.sub_str_dict PySem.F.slot_dict_eq PySem.F.slot_str_eq_refl (fun _ hq => dict_declines ⟨_, ho, rfl⟩ (typeIs_str s b u) PySem.F.sub_str_dict _ hq) (fun _ hq => call_meets PySem.F.slot_str_eq_refl (typeIs_str s b u) PySem.F.entry_str_eq (PySem.F.args_str_eq_2 _ _) (str_declines_dict b u a _ es ep dd sl) ⟨ho, hq⟩)
    (fun _ hq => wpAny_of_eq (rfl : isSame (.ref a) (.str b u) = pure false) hq) (.inr hu) h
theorem RcAt.str_dict {a : Addr} (b : Str) (u : Tok) (h0 : IsDct s a) (hu : A.units < cLine) : RcAt A s (.str b u) (.ref a) false := fun prog w E Q h => by
  obtain ⟨dd, es, ep, sl, ho⟩ := h0
  exact rc_eq_decline_or (k := false) (typeIs_str s b u) ⟨_, ho, rfl⟩ (by decide) PySem.F.sub_dict_str PySem.F.slot_str_eq PySem.F.slot_dict_eq_refl (fun _ hq => call_meets PySem.F.slot_str_eq (typeIs_str s b u) PySem.F.entry_str_eq (PySem.F.args_str_eq_2 _ _) (str_declines_dict b u a _ es ep dd sl) ⟨ho, hq⟩) (fun _ hq => dict_declines ⟨_, ho, rfl⟩ (typeIs_str s b u) PySem.F.sub_str_dict _ hq)
    (fun _ hq => wpAny_of_eq (rfl : isSame (.str b u) (.ref a) = pure false) hq) (.inr hu) h
theorem EqAt.dict_str {a : Addr} (b : Str) (u : Tok) (h0 : IsDct s a) (hu : A.units < cLine) : EqAt A s (.ref a) (.str b u) false := fun prog w E Q h => by
  unfold eqBool
  exact wpAny_holding (wpAny_ite_split (fun hab => absurd (eq_of_beq hab) nofun) fun _ => wpAny_bind (RcAt.dict_str b u h0 hu prog w E _ (wpAny_truthy_bool h)))
theorem EqAt.str_dict {a : Addr} (b : Str) (u : Tok) (h0 : IsDct s a) (hu : A.units < cLine) : EqAt A s (.str b u) (.ref a) false := fun prog w E Q h => by
  unfold eqBool
  exact wpAny_holding (wpAny_ite_split (fun hab => absurd (eq_of_beq hab) nofun) fun _ => wpAny_bind (RcAt.str_dict b u h0 hu prog w E _ (wpAny_truthy_bool h)))
theorem ne_dict_list {a l : Addr} {items : Array Value} (h0 : IsDct s a) (hl : s.heap.IsList l items) : a ≠ l := fun z => by
  obtain ⟨dd, es, ep, sl, ho⟩ := h0
  obtain ⟨o2, ho2, hc2, n2, hd2⟩ := hl
  subst z
  rw [ho] at ho2
  cases ho2
  exact absurd (show Value.type "dict" = Value.type "list" from hc2) (by decide)
theorem RcAt.dict_list {a l : Addr} {items : Array Value} (h0 : IsDct s a) (hl : s.heap.IsList l items) (hu : A.units < cLine) : RcAt A s (.ref a) (.ref l) false := fun prog w E Q h => by
  have hne := ne_dict_list h0 hl
  obtain ⟨dd, es, ep, sl, ho⟩ := h0
  obtain ⟨⟨cls2, dd2, data2, sl2⟩, ho2, hc2, n2, hd2⟩ := id hl
  simp only at hc2 hd2
  subst hc2 hd2
  exact rc_eq_decline_or (k := false) ⟨_, ho, rfl⟩ ⟨_, ho2, rfl⟩ (by decide) PySem.F.sub_list_dict PySem.F.slot_dict_eq PySem.F.slot_list_eq_refl (fun _ hq => dict_declines (v := .ref l) (T := "list") ⟨_, ho, rfl⟩ ⟨_, ho2, rfl⟩ PySem.F.sub_list_dict _ hq)
    (fun _ hq => call_meets PySem.F.slot_list_eq_refl ⟨_, ho2, rfl⟩ PySem.F.entry_list_eq (PySem.F.args_list_eq_2 _ _) (list_declines_dict l a items n2 dd2 dd sl2 sl es ep) ⟨ho2, ho, hq⟩) (fun _ hq => isSame_dict hne ho ho2 hq) (.inr hu) h
theorem RcAt.list_dict {a l : Addr} {items : Array Value} (h0 : IsDct s a) (hl : s.heap.IsList l items) (hu : A.units < cLine) : RcAt A s (.ref l) (.ref a) false := fun prog w E Q h => by
  have hne := ne_dict_list h0 hl
  obtain ⟨dd, es, ep, sl, ho⟩ := h0
  obtain ⟨⟨cls2, dd2, data2, sl2⟩, ho2, hc2, n2, hd2⟩ := id hl
  simp only at hc2 hd2
  subst hc2 hd2
  exact rc_eq_decline_or (k := false) ⟨_, ho2, rfl⟩ ⟨_, ho, rfl⟩ (by decide) PySem.F.sub_dict_list PySem.F.slot_list_eq PySem.F.slot_dict_eq_refl
    (fun _ hq => call_meets PySem.F.slot_list_eq ⟨_, ho2, rfl⟩ PySem.F.entry_list_eq (PySem.F.args_list_eq_2 _ _) (list_declines_dict l a items n2 dd2 dd sl2 sl es ep) ⟨ho2, ho, hq⟩) (fun _ hq => dict_declines (v := .ref l) (T := "list") ⟨_, ho, rfl⟩ ⟨_, ho2, rfl⟩ PySem.F.sub_list_dict _ hq) (fun _ hq => wpAny_isSame_ref_other' (Ne.symm hne) ho2 ho (by simp) hq) (.inr hu) h
theorem EqAt.dict_list {a l : Addr} {items : Array Value} (h0 : IsDct s a) (hl : s.heap.IsList l items) (hu : A.units < cLine) : EqAt A s (.ref a) (.ref l) false := .of_refs (ne_dict_list h0 hl) (.dict_list h0 hl hu)
theorem EqAt.list_dict {a l : Addr} {items : Array Value} (h0 : IsDct s a) (hl : s.heap.IsList l items) (hu : A.units < cLine) : EqAt A s (.ref l) (.ref a) false := .of_refs (ne_dict_list h0 hl).symm (.list_dict h0 hl hu)
theorem ne_dict_tuple {a l : Addr} {items : Array Value} (h0 : IsDct s a) (hl : s.heap.IsTuple l items) : a ≠ l := fun z => by
  obtain ⟨dd, es, ep, sl, ho⟩ := h0
  obtain ⟨o2, ho2, hc2, n2, hd2⟩ := hl
  subst z
  rw [ho] at ho2
  cases ho2
  exact absurd (show Value.type "dict" = Value.type "tuple" from hc2) (by decide)
theorem RcAt.dict_tuple {a l : Addr} {items : Array Value} (h0 : IsDct s a) (hl : s.heap.IsTuple l items) (hu : A.units < cLine) : RcAt A s (.ref a) (.ref l) false := fun prog w E Q h => by
  have hne := ne_dict_tuple h0 hl
  obtain ⟨dd, es, ep, sl, ho⟩ := h0
  obtain ⟨⟨cls2, dd2, data2, sl2⟩, ho2, hc2, n2, hd2⟩ := id hl
  simp only at hc2 hd2
  subst hc2 hd2
  exact rc_eq_decline_or (k := false) ⟨_, ho, rfl⟩ ⟨_, ho2, rfl⟩ (by decide) PySem.F.sub_tuple_dict PySem.F.slot_dict_eq PySem.F.slot_tuple_eq_refl (fun _ hq => dict_declines (v := .ref l) (T := "tuple") ⟨_, ho, rfl⟩ ⟨_, ho2, rfl⟩ PySem.F.sub_tuple_dict _ hq)
    (fun _ hq => call_meets PySem.F.slot_tuple_eq_refl ⟨_, ho2, rfl⟩ PySem.F.entry_tuple_eq (PySem.F.args_tuple_eq_2 _ _) (tuple_declines_dict l a items n2 dd2 dd sl2 sl es ep) ⟨ho2, ho, hq⟩) (fun _ hq => isSame_dict hne ho ho2 hq) (.inr hu) h
theorem RcAt.tuple_dict {a l : Addr} {items : Array Value} (h0 : IsDct s a) (hl : s.heap.IsTuple l items) (hu : A.units < cLine) : RcAt A s (.ref l) (.ref a) false := fun prog w E Q h => by
  have hne := ne_dict_tuple h0 hl
  obtain ⟨dd, es, ep, sl, ho⟩ := h0
  obtain ⟨⟨cls2, dd2, data2, sl2⟩, ho2, hc2, n2, hd2⟩ := id hl
  simp only at hc2 hd2
  subst hc2 hd2
  exact rc_eq_decline_or (k := false) ⟨_, ho2, rfl⟩ ⟨_, ho, rfl⟩ (by decide) PySem.F.sub_dict_tuple PySem.F.slot_tuple_eq PySem.F.slot_dict_eq_refl
    (fun _ hq => call_meets PySem.F.slot_tuple_eq ⟨_, ho2, rfl⟩ PySem.F.entry_tuple_eq (PySem.F.args_tuple_eq_2 _ _) (tuple_declines_dict l a items n2 dd2 dd sl2 sl es ep) ⟨ho2, ho, hq⟩) (fun _ hq => dict_declines (v := .ref l) (T := "tuple") ⟨_, ho, rfl⟩ ⟨_, ho2, rfl⟩ PySem.F.sub_tuple_dict _ hq) (fun _ hq => wpAny_isSame_ref_other' (Ne.symm hne) ho2 ho (by simp) hq) (.inr hu) h
theorem EqAt.dict_tuple {a l : Addr} {items : Array Value} (h0 : IsDct s a) (hl : s.heap.IsTuple l items) (hu : A.units < cLine) : EqAt A s (.ref a) (.ref l) false := .of_refs (ne_dict_tuple h0 hl) (.dict_tuple h0 hl hu)
theorem EqAt.tuple_dict {a l : Addr} {items : Array Value} (h0 : IsDct s a) (hl : s.heap.IsTuple l items) (hu : A.units < cLine) : EqAt A s (.ref l) (.ref a) false := .of_refs (ne_dict_tuple h0 hl).symm (.tuple_dict h0 hl hu)
end
end PySem.SeqAt
set_option maxHeartbeats 2000000
namespace DL
open PySem L2 Evl PySem.Spec PyProof.Rows
def flEq : V → V → Option Bool
  | .non, .non => some true
  | .non, .bl _ => some false
  | .non, .int _ => some false
  | .non, .str _ => some false
  | .bl _, .non => some false
  | .bl a, .bl b => some (a == b)
  | .bl a, .int j => some ((if a then 1 else 0) == j)
  | .bl _, .str _ => some false
  | .int _, .non => some false
  | .int i, .bl b => some (i == (if b then 1 else 0))
  | .int i, .int j => some (i == j)
  | .int _, .str _ => some false
  | .str _, .non => some false
  | .str _, .bl _ => some false
  | .str _, .int _ => some false
  | .str x, .str y => some (x == y)
  | _, _ => none
def flV : V → Bool
  | .non => true
  | .bl _ => true
  | .int _ => true
  | .str _ => true
  | _ => false
inductive CK where
  | l | t | d
def Cont (K : PySem.W.Frag) (H : Hp) (a : Addr) : CK → Prop
  | .l => ∃ xs, SqL K H a xs
  | .t => ∃ xs, SqT K H a xs
  | .d => ∃ kvs, H a = some (.dK kvs)
def lkV (kb : List (Key × V)) (k : Key) : Option V := (kb.find? fun p => decide (p.1 = k)).map (·.2)
inductive VEq (K : PySem.W.Frag) (H : Hp) : Nat → V → V → Bool → Prop
  | flat {n : Nat} {x y : V} {b : Bool} : flEq x y = some b → VEq K H n x y b
  | fc {n : Nat} {x : V} {a : Addr} (k : CK) : flV x = true → Cont K H a k → VEq K H n x (.ref a) false
  | cf {n : Nat} {x : V} {a : Addr} (k : CK) : flV x = true → Cont K H a k → VEq K H n (.ref a) x false
  | cc {n : Nat} {a b : Addr} (k k' : CK) : k ≠ k' → Cont K H a k → Cont K H b k' → VEq K H n (.ref a) (.ref b) false
  | ll {n : Nat} {a b : Addr} {xs ys : List V} (e : Nat → Bool) : SqL K H a xs → SqL K H b ys → xs.length = ys.length → (∀ (j : Nat) (x y : V), xs[j]? = some x → ys[j]? = some y → VEq K H n x y (e j)) → VEq K H (n + 1) (.ref a) (.ref b) ((List.range xs.length).all e)
  | lx {n : Nat} {a b : Addr} {xs ys : List V} : SqL K H a xs → SqL K H b ys → xs.length ≠ ys.length → VEq K H (n + 1) (.ref a) (.ref b) false
  | tt {n : Nat} {a b : Addr} {xs ys : List V} (e : Nat → Bool) : SqT K H a xs → SqT K H b ys → xs.length = ys.length → (∀ (j : Nat) (x y : V), xs[j]? = some x → ys[j]? = some y → VEq K H n x y (e j)) → VEq K H (n + 1) (.ref a) (.ref b) ((List.range xs.length).all e)
  | dd {n : Nat} {a b : Addr} {ka kb : List (Key × V)} (e : Key → Bool) : H a = some (.dK ka) → H b = some (.dK kb) → (ka.map (·.1)).Nodup → (∀ (k : Key) (x y : V), (k, x) ∈ ka → lkV kb k = some y → VEq K H n x y (e k)) →
      VEq K H (n + 1) (.ref a) (.ref b) (ka.length == kb.length && ka.all fun p => (lkV kb p.1).isSome && e p.1)
section
variable {X : Cx} {pins : List (Addr × Obj)} {σ : RSt} {H : Hp} {s : Shared}
theorem flEq_same {x : V} {b : Bool} (h : flEq x x = some b) : b = true := by
  cases x with
  | non => cases h; rfl
  | bl a => cases h; simp
  | int a => cases h; simp
  | str a => cases h; simp
  | _ => cases h
theorem lkV_mem {kb : List (Key × V)} (nd : (kb.map (·.1)).Nodup) {k : Key} {v : V} (h : (k, v) ∈ kb) : lkV kb k = some v := by
  induction kb with
  | nil => cases h
  | cons p kb ih =>
    unfold lkV
    rw [List.find?_cons]
    have nd' := List.nodup_cons.mp nd
    rcases List.mem_cons.mp h with e | h
    · subst e; simp
    · have hne : p.1 ≠ k := fun z => nd'.1 (by show p.1 ∈ _; rw [z]; exact List.mem_map.mpr ⟨(k, v), h, rfl⟩)
      rw [show decide (p.1 = k) = false from decide_eq_false hne]
      exact ih nd'.2 h
theorem cont_one (I : Inv X pins σ H s) {a : Addr} {k k' : CK} (h : Cont X.K H a k) (h' : Cont X.K H a k') : k = k' := by
  have lt : ∀ {xs ys : List V}, SqL X.K H a xs → SqT X.K H a ys → False := fun {xs ys} h1 h2 => by
    obtain ⟨i1, _, p1, _⟩ := I.list h1
    obtain ⟨i2, _, p2, _⟩ := I.tuple h2
    exact SeqAt.ne_of_list_tuple p1.isList p2 rfl
  have dct : ∀ {kvs : List (Key × V)}, H a = some (.dK kvs) → SeqAt.IsDct s a := fun {kvs} h => by
    obtain ⟨_, _, va, _, da⟩ := (show ObjOk X.prog X.w H s.heap a (.dK kvs) from I.hok a _ h)
    obtain ⟨⟨c, d, dt, sl⟩, es, ep, ho, hc, hd, _⟩ := da
    have hc : c = .type "dict" := hc.1
    dsimp only at hd
    subst hc hd
    exact ⟨d, es, ep, sl, ho⟩
  have ld : ∀ {xs : List V} {kvs : List (Key × V)}, SqL X.K H a xs → H a = some (.dK kvs) → False := fun {xs kvs} h1 h2 => by
    obtain ⟨i1, _, p1, _⟩ := I.list h1
    exact SeqAt.ne_dict_list (dct h2) p1.isList rfl
  have td : ∀ {xs : List V} {kvs : List (Key × V)}, SqT X.K H a xs → H a = some (.dK kvs) → False := fun {xs kvs} h1 h2 => by
    obtain ⟨i1, _, p1, _⟩ := I.tuple h1
    exact SeqAt.ne_dict_tuple (dct h2) p1 rfl
  cases k <;> cases k' <;> first
    | rfl
    | exact (by obtain ⟨_, h⟩ := h; obtain ⟨_, h'⟩ := h'; exact (lt h h').elim)
    | exact (by obtain ⟨_, h⟩ := h; obtain ⟨_, h'⟩ := h'; exact (lt h' h).elim)
    | exact (by obtain ⟨_, h⟩ := h; obtain ⟨_, h'⟩ := h'; exact (ld h h').elim)
    | exact (by obtain ⟨_, h⟩ := h; obtain ⟨_, h'⟩ := h'; exact (ld h' h).elim)
    | exact (by obtain ⟨_, h⟩ := h; obtain ⟨_, h'⟩ := h'; exact (td h h').elim)
    | exact (by obtain ⟨_, h⟩ := h; obtain ⟨_, h'⟩ := h'; exact (td h' h).elim)
theorem veq_same (I : Inv X pins σ H s) {n : Nat} {x y : V} {b : Bool} (h : VEq X.K H n x y b) : x = y → b = true := by
  induction h with
  | flat h => intro e; subst e; exact flEq_same h
  | fc k hf hc => intro e; subst e; cases hf
  | cf k hf hc => intro e; subst e; cases hf
  | cc k k' hn h1 h2 => intro e; cases e; exact absurd (cont_one I h1 h2) hn
  | @ll n a b xs ys e h1 h2 hl _ ih =>
    intro q; cases q
    have := I.list_inj h1 h2
    subst this
    rw [List.all_eq_true]
    intro j hj
    have hj : j < xs.length := List.mem_range.mp hj
    exact ih j xs[j] xs[j] (List.getElem?_eq_getElem hj) (List.getElem?_eq_getElem hj) rfl
  | @lx n a b xs ys h1 h2 hl => intro q; cases q; exact absurd (congrArg List.length (I.list_inj h1 h2)) hl
  | @tt n a b xs ys e h1 h2 hl _ ih =>
    intro q; cases q
    have := I.tuple_inj h1 h2
    subst this
    rw [List.all_eq_true]
    intro j hj
    have hj : j < xs.length := List.mem_range.mp hj
    exact ih j xs[j] xs[j] (List.getElem?_eq_getElem hj) (List.getElem?_eq_getElem hj) rfl
  | @dd n a b ka kb e h1 h2 nd _ ih =>
    intro q; cases q
    rw [h1] at h2
    cases h2
    rw [beq_self_eq_true, Bool.true_and, List.all_eq_true]
    intro p hp
    have hk := lkV_mem nd (k := p.1) (v := p.2) hp
    rw [hk]
    exact (by simpa using ih p.1 p.2 p.2 hp hk rfl)
theorem kv_at : ∀ {kb : List (Key × V)} {vb : List (Key × Value)} {k : Key}, KV kb vb → (lkV kb k = none ∧ PySem.valueAt vb k = none) ∨ ∃ y u, lkV kb k = some y ∧ PySem.valueAt vb k = some u ∧ RelV y u
  | _, _, _, .nil => .inl ⟨rfl, rfl⟩
  | _, _, k, .cons (a := p) (b := q) (l₁ := kb) (l₂ := vb) h r => by
    by_cases e : p.1 = k
    · refine .inr ⟨p.2, q.2, ?_, ?_, h.2⟩
      · unfold lkV; rw [List.find?_cons, decide_eq_true e]; rfl
      · unfold PySem.valueAt; rw [List.find?_cons, decide_eq_true (h.1 ▸ e)]; rfl
    · have e' : q.1 ≠ k := fun z => e (h.1.trans z)
      have ih := kv_at (k := k) r
      have h1 : lkV (p :: kb) k = lkV kb k := by unfold lkV; rw [List.find?_cons, decide_eq_false e]
      have h2 : PySem.valueAt (q :: vb) k = PySem.valueAt vb k := by unfold PySem.valueAt; rw [List.find?_cons, decide_eq_false e']
      rw [h1, h2]
      exact ih
theorem flat_at {A : Around} : ∀ (x y : V) (v u : Value) (b : Bool), flEq x y = some b → RelV x v → RelV y u → SeqAt.EqAt A s v u b
  | .non, .non, _, _, _, h, rx, ry => by
    obtain rfl := rx
    obtain rfl := ry
    have h := Option.some.inj h
    subst h
    exact SeqAt.EqAt.same _
  | .non, .bl b, _, _, _, h, rx, ry => by
    obtain rfl := rx
    obtain rfl := ry
    have h := Option.some.inj h
    subst h
    exact SeqAt.EqAt.none_bool b
  | .non, .int b, _, _, _, h, rx, ry => by
    obtain rfl := rx
    obtain ⟨t2, rfl⟩ := ry
    have h := Option.some.inj h
    subst h
    exact SeqAt.EqAt.none_int b t2
  | .non, .str b, _, _, _, h, rx, ry => by
    obtain rfl := rx
    obtain ⟨t2, rfl⟩ := ry
    have h := Option.some.inj h
    subst h
    exact SeqAt.EqAt.none_str b t2
  | .bl a, .non, _, _, _, h, rx, ry => by
    obtain rfl := rx
    obtain rfl := ry
    have h := Option.some.inj h
    subst h
    exact SeqAt.EqAt.bool_none a
  | .bl a, .bl b, _, _, _, h, rx, ry => by
    obtain rfl := rx
    obtain rfl := ry
    have h := Option.some.inj h
    subst h
    exact SeqAt.EqAt.bool_bool a b
  | .bl a, .int b, _, _, _, h, rx, ry => by
    obtain rfl := rx
    obtain ⟨t2, rfl⟩ := ry
    have h := Option.some.inj h
    subst h
    exact SeqAt.EqAt.bool_int a b t2
  | .bl a, .str b, _, _, _, h, rx, ry => by
    obtain rfl := rx
    obtain ⟨t2, rfl⟩ := ry
    have h := Option.some.inj h
    subst h
    exact SeqAt.EqAt.bool_str a b t2
  | .int a, .non, _, _, _, h, rx, ry => by
    obtain ⟨t, rfl⟩ := rx
    obtain rfl := ry
    have h := Option.some.inj h
    subst h
    exact SeqAt.EqAt.int_none a t
  | .int a, .bl b, _, _, _, h, rx, ry => by
    obtain ⟨t, rfl⟩ := rx
    obtain rfl := ry
    have h := Option.some.inj h
    subst h
    exact SeqAt.EqAt.int_bool a t b
  | .int a, .int b, _, _, _, h, rx, ry => by
    obtain ⟨t, rfl⟩ := rx
    obtain ⟨t2, rfl⟩ := ry
    have h := Option.some.inj h
    subst h
    exact SeqAt.EqAt.int_int a t b t2
  | .int a, .str b, _, _, _, h, rx, ry => by
    obtain ⟨t, rfl⟩ := rx
    obtain ⟨t2, rfl⟩ := ry
    have h := Option.some.inj h
    subst h
    exact SeqAt.EqAt.int_str a t b t2
  | .str a, .non, _, _, _, h, rx, ry => by
    obtain ⟨t, rfl⟩ := rx
    obtain rfl := ry
    have h := Option.some.inj h
    subst h
    exact SeqAt.EqAt.str_none a t
  | .str a, .bl b, _, _, _, h, rx, ry => by
    obtain ⟨t, rfl⟩ := rx
    obtain rfl := ry
    have h := Option.some.inj h
    subst h
    exact SeqAt.EqAt.str_bool a t b
  | .str a, .int b, _, _, _, h, rx, ry => by
    obtain ⟨t, rfl⟩ := rx
    obtain ⟨t2, rfl⟩ := ry
    have h := Option.some.inj h
    subst h
    exact SeqAt.EqAt.str_int a t b t2
  | .str a, .str b, _, _, _, h, rx, ry => by
    obtain ⟨t, rfl⟩ := rx
    obtain ⟨t2, rfl⟩ := ry
    have h := Option.some.inj h
    subst h
    exact SeqAt.EqAt.str_str a t b t2
  | .flt _, _, _, _, _, h, _, _ => by cases h
  | .byt _, _, _, _, _, h, _, _ => by cases h
  | .ref _, _, _, _, _, h, _, _ => by cases h
  | .ty _, _, _, _, _, h, _, _ => by cases h
  | .non, .flt _, _, _, _, h, _, _ => by cases h
  | .non, .byt _, _, _, _, h, _, _ => by cases h
  | .non, .ref _, _, _, _, h, _, _ => by cases h
  | .non, .ty _, _, _, _, h, _, _ => by cases h
  | .bl _, .flt _, _, _, _, h, _, _ => by cases h
  | .bl _, .byt _, _, _, _, h, _, _ => by cases h
  | .bl _, .ref _, _, _, _, h, _, _ => by cases h
  | .bl _, .ty _, _, _, _, h, _, _ => by cases h
  | .int _, .flt _, _, _, _, h, _, _ => by cases h
  | .int _, .byt _, _, _, _, h, _, _ => by cases h
  | .int _, .ref _, _, _, _, h, _, _ => by cases h
  | .int _, .ty _, _, _, _, h, _, _ => by cases h
  | .str _, .flt _, _, _, _, h, _, _ => by cases h
  | .str _, .byt _, _, _, _, h, _, _ => by cases h
  | .str _, .ref _, _, _, _, h, _, _ => by cases h
  | .str _, .ty _, _, _, _, h, _, _ => by cases h
theorem flat_tree {n : Nat} {x y : V} {v u : Value} {b : Bool} (h : flEq x y = some b) (rx : RelV x v) (ry : RelV y u) : PySem.W.EqTree X.prog X.w s n v u b := .leaf fun A _ => flat_at x y v u b h rx ry
end
end DL
namespace DL
open PySem L2 Evl PySem.Spec PyProof.Rows
section
variable {X : Cx} {pins : List (Addr × Obj)} {σ : RSt} {H : Hp} {s : Shared} {A : Around}
theorem dct_at (I : Inv X pins σ H s) {a : Addr} {kvs : List (Key × V)} (h : H a = some (.dK kvs)) : SeqAt.IsDct s a := by
  obtain ⟨_, _, va, _, da⟩ := (show ObjOk X.prog X.w H s.heap a (.dK kvs) from I.hok a _ h)
  obtain ⟨⟨c, d, dt, sl⟩, es, ep, ho, hc, hd, _⟩ := da
  have hc : c = .type "dict" := hc.1
  dsimp only at hd
  subst hc hd
  exact ⟨d, es, ep, sl, ho⟩
theorem fc_at (I : Inv X pins σ H s) (hu : A.units < cLine) {a : Addr} : ∀ (k : CK) (x : V) (v : Value), flV x = true → Cont X.K H a k → RelV x v → SeqAt.EqAt A s v (.ref a) false ∧ SeqAt.EqAt A s (.ref a) v false
  | .l, x, v, hf, hc, rx => by
    obtain ⟨xs, hc⟩ := hc
    obtain ⟨its, _, p, _⟩ := I.list hc
    cases x with
    | non => cases rx; exact ⟨.none_list p.isList hu, .list_none p.isList hu⟩
    | bl b => cases rx; exact ⟨.bool_list _ p.isList hu, .list_bool _ p.isList hu⟩
    | int i => obtain ⟨t, rfl⟩ := rx; exact ⟨.int_list _ _ p.isList hu, .list_int _ _ p.isList hu⟩
    | str i => obtain ⟨t, rfl⟩ := rx; exact ⟨.str_list _ _ p.isList hu, .list_str _ _ p.isList hu⟩
    | _ => cases hf
  | .t, x, v, hf, hc, rx => by
    obtain ⟨xs, hc⟩ := hc
    obtain ⟨its, _, p, _⟩ := I.tuple hc
    cases x with
    | non => cases rx; exact ⟨.none_tuple p hu, .tuple_none p hu⟩
    | bl b => cases rx; exact ⟨.bool_tuple _ p hu, .tuple_bool _ p hu⟩
    | int i => obtain ⟨t, rfl⟩ := rx; exact ⟨.int_tuple _ _ p hu, .tuple_int _ _ p hu⟩
    | str i => obtain ⟨t, rfl⟩ := rx; exact ⟨.str_tuple _ _ p hu, .tuple_str _ _ p hu⟩
    | _ => cases hf
  | .d, x, v, hf, hc, rx => by
    obtain ⟨xs, hc⟩ := hc
    have p := dct_at I hc
    cases x with
    | non => cases rx; exact ⟨.none_dict p hu, .dict_none p hu⟩
    | bl b => cases rx; exact ⟨.bool_dict _ p hu, .dict_bool _ p hu⟩
    | int i => obtain ⟨t, rfl⟩ := rx; exact ⟨.int_dict _ _ p hu, .dict_int _ _ p hu⟩
    | str i => obtain ⟨t, rfl⟩ := rx; exact ⟨.str_dict _ _ p hu, .dict_str _ _ p hu⟩
    | _ => cases hf
theorem cc_at (I : Inv X pins σ H s) (hu : A.units < cLine) {a b : Addr} : ∀ (k k' : CK), k ≠ k' → Cont X.K H a k → Cont X.K H b k' → SeqAt.EqAt A s (.ref a) (.ref b) false
  | .l, .t, _, ⟨_, h1⟩, ⟨_, h2⟩ => by obtain ⟨_, _, p, _⟩ := I.list h1; obtain ⟨_, _, q, _⟩ := I.tuple h2; exact .list_tuple p.isList q hu
  | .t, .l, _, ⟨_, h1⟩, ⟨_, h2⟩ => by obtain ⟨_, _, p, _⟩ := I.tuple h1; obtain ⟨_, _, q, _⟩ := I.list h2; exact .tuple_list p q.isList hu
  | .l, .d, _, ⟨_, h1⟩, ⟨_, h2⟩ => by obtain ⟨_, _, p, _⟩ := I.list h1; exact .list_dict (dct_at I h2) p.isList hu
  | .d, .l, _, ⟨_, h1⟩, ⟨_, h2⟩ => by obtain ⟨_, _, p, _⟩ := I.list h2; exact .dict_list (dct_at I h1) p.isList hu
  | .t, .d, _, ⟨_, h1⟩, ⟨_, h2⟩ => by obtain ⟨_, _, p, _⟩ := I.tuple h1; exact .tuple_dict (dct_at I h2) p hu
  | .d, .t, _, ⟨_, h1⟩, ⟨_, h2⟩ => by obtain ⟨_, _, p, _⟩ := I.tuple h2; exact .dict_tuple (dct_at I h1) p hu
  | .l, .l, h, _, _ => absurd rfl h
  | .t, .t, h, _, _ => absurd rfl h
  | .d, .d, h, _, _ => absurd rfl h
theorem vals_item {xs : List V} {us : List Value} (r : Vals xs us) {j : Nat} (h : j < us.toArray.size) : ∃ x, xs[j]? = some x ∧ RelV x us.toArray[j] := by
  have hj : j < xs.length := by rw [r.length]; simpa using h
  obtain ⟨u, hu, ru⟩ := r.get (List.getElem?_eq_getElem hj)
  refine ⟨xs[j], List.getElem?_eq_getElem hj, ?_⟩
  obtain ⟨h', e⟩ := List.getElem?_eq_some_iff.mp hu
  simp only [List.getElem_toArray]
  rw [e]
  exact ru
theorem kv_mem : ∀ {ka : List (Key × V)} {va : List (Key × Value)} {k : Key} {v : Value}, KV ka va → (k, v) ∈ va → ∃ p ∈ ka, p.1 = k ∧ RelV p.2 v
  | _, _, _, _, .nil, h => by cases h
  | _, _, k, v, .cons (a := p) h r, hm => by
    rcases List.mem_cons.mp hm with z | z
    · subst z; exact ⟨p, List.mem_cons_self, h.1, h.2⟩
    · obtain ⟨p', m1, m2⟩ := kv_mem r z
      exact ⟨p', List.mem_cons_of_mem _ m1, m2⟩
theorem kv_all {kb : List (Key × V)} {vb : List (Key × Value)} (rb : KV kb vb) (e : Key → Bool) : ∀ {ka : List (Key × V)} {va : List (Key × Value)}, KV ka va → (va.all fun p => (PySem.valueAt vb p.1).isSome && e p.1) = ka.all fun p => (lkV kb p.1).isSome && e p.1
  | _, _, .nil => rfl
  | _, _, .cons (a := p) (b := q) h r => by
    rw [List.all_cons, List.all_cons, kv_all rb e r, ← h.1]
    congr 2
    rcases kv_at (k := p.1) rb with ⟨z1, z2⟩ | ⟨_, _, z1, z2, _⟩ <;> rw [z1, z2] <;> rfl
theorem veq_tree (I : Inv X pins σ H s) {n : Nat} {x y : V} {b : Bool} (h : VEq X.K H n x y b) : ∀ v u, RelV x v → RelV y u → PySem.W.EqTree X.prog X.w s n v u b := by
  induction h with
  | flat h => exact fun v u rx ry => flat_tree h rx ry
  | fc k hf hc =>
    intro v u rx ry
    cases ry
    exact .leaf fun A hu => (fc_at I (by omega) k _ v hf hc rx).1
  | cf k hf hc =>
    intro v u rx ry
    cases rx
    exact .leaf fun A hu => (fc_at I (by omega) k _ u hf hc ry).2
  | cc k k' hn h1 h2 =>
    intro v u rx ry
    cases rx
    cases ry
    exact .leaf fun A hu => cc_at I (by omega) k k' hn h1 h2
  | @ll n a b xs ys e h1 h2 hl hh ih =>
    intro v u rx ry
    cases rx
    cases ry
    by_cases hab : a = b
    · rw [veq_same I (VEq.ll e h1 h2 hl hh) (by rw [hab]), hab]
      exact .same
    · obtain ⟨us, r1, p1, _⟩ := I.list h1
      obtain ⟨ws, r2, p2, _⟩ := I.list h2
      have e1 : us.toArray.size = xs.length := by rw [List.size_toArray, r1.length]
      rw [← e1]
      refine .lists hab p1.isList p2.isList (by rw [List.size_toArray, List.size_toArray, ← r1.length, ← r2.length]; exact hl) fun j g1 g2 => ?_
      obtain ⟨x, hx, rx⟩ := vals_item r1 g1
      obtain ⟨y, hy, ry⟩ := vals_item r2 g2
      exact ih j x y hx hy _ _ rx ry
  | @lx n a b xs ys h1 h2 hl =>
    intro v u rx ry
    cases rx
    cases ry
    obtain ⟨us, r1, p1, _⟩ := I.list h1
    obtain ⟨ws, r2, p2, _⟩ := I.list h2
    exact .listsLen (fun z => by subst z; exact hl (congrArg List.length (I.list_inj h1 h2))) p1.isList p2.isList (by rw [List.size_toArray, List.size_toArray, ← r1.length, ← r2.length]; simpa using hl)
  | @tt n a b xs ys e h1 h2 hl hh ih =>
    intro v u rx ry
    cases rx
    cases ry
    by_cases hab : a = b
    · rw [veq_same I (VEq.tt e h1 h2 hl hh) (by rw [hab]), hab]
      exact .same
    · obtain ⟨us, r1, p1, _⟩ := I.tuple h1
      obtain ⟨ws, r2, p2, _⟩ := I.tuple h2
      have e1 : us.toArray.size = xs.length := by rw [List.size_toArray, r1.length]
      have e2 : us.toArray.size = ws.toArray.size := by rw [List.size_toArray, List.size_toArray, ← r1.length, ← r2.length]; exact hl
      have t := PySem.W.EqTree.tuples (prog := X.prog) (w := X.w) (n := n) (e := e) hab p1 p2 fun j g1 g2 => by
        obtain ⟨x, hx, rx⟩ := vals_item r1 g1
        obtain ⟨y, hy, ry⟩ := vals_item r2 g2
        exact ih j x y hx hy _ _ rx ry
      rw [← e2, Nat.min_self, e1, beq_self_eq_true, Bool.and_true] at t
      exact t
  | @dd n a b ka kb e h1 h2 nd hh ih =>
    intro v u rx ry
    cases rx
    cases ry
    by_cases hab : a = b
    · rw [veq_same I (VEq.dd e h1 h2 nd hh) (by rw [hab]), hab]
      exact .same
    · obtain ⟨_, ya, va, ra, da⟩ := (show ObjOk X.prog X.w H s.heap a (.dK ka) from I.hok a _ h1)
      obtain ⟨_, yb, vb, rb, db⟩ := (show ObjOk X.prog X.w H s.heap b (.dK kb) from I.hok b _ h2)
      have t := PySem.W.EqTree.dicts (prog := X.prog) (w := X.w) (n := n) (e := e) hab ya yb da db fun k v y hm hv => by
        obtain ⟨p, hp, ep⟩ := kv_mem ra hm
        rcases kv_at (k := k) rb with ⟨_, z⟩ | ⟨y', u', z1, z2, z3⟩
        · rw [z] at hv; cases hv
        · rw [z2] at hv
          cases hv
          obtain ⟨rfl, rp⟩ := ep
          exact ih p.1 p.2 y' hp z1 _ _ rp z3
      have e1 : (va.length == vb.length && va.all fun p => (PySem.valueAt vb p.1).isSome && e p.1) = (ka.length == kb.length && ka.all fun p => (lkV kb p.1).isSome && e p.1) := by
        have l1 : ka.length = va.length := Paired.length ra
        have l2 : kb.length = vb.length := Paired.length rb
        rw [← l1, ← l2, kv_all rb e ra]
      rw [e1] at t
      exact t
end
end DL
namespace PySem.SeqAt
open MeetsSeq MeetsSeq2 MeetsSeq3 SeqRoads2
section
variable {prog : Program} {w : World}
abbrev LObj (vs : Array Value) (m : Nat) (q : Option Addr) (z : Array (Option Value)) : Obj := { cls := .type "list", dict := q, data := .seq vs m, slots := z }
theorem neIn_from (a b : Addr) (u v : Array Value) (m1 m2 : Nat) (q1 q2 : Option Addr) (z1 z2 : Array (Option Value)) (same : u.size = v.size) (f : Nat → Bool) : ∀ (k i : Nat), u.size - i = k →
    MeetsIn prog w (Builtin.«list.__eq__.loop» ⟨[.ref a, .ref b, rawInt i, rawInt 3], []⟩) (fun A R s => s.heap.get? a = some (LObj u m1 q1 z1) ∧ s.heap.get? b = some (LObj v m2 q2 z2) ∧
      (∀ j (g1 : j < u.size) (g2 : j < v.size), EqIn prog w A.in1 s u[j] v[j] (f j)) ∧ R (.ok (.ret (.bool (!((List.range u.size).drop i).all f)))) s) := by
  intro k
  induction k with
  | zero =>
    rintro i hk A R ⟨hp, g, d, tk, os⟩ ⟨ga, gb, gi, r⟩
    have o1 : u[(((i : Nat) : Int)).toNat]? = none := by simp; omega
    have o2 : v[(((i : Nat) : Int)).toNat]? = none := by simp; omega
    rw [show (List.range u.size).drop i = [] from by simp; omega] at r
    wp_walk using AutoSeq1.wpAny_loadPart' ga, AutoSeq1.wpAny_loadPart' gb
    rw [o1, o2]
    wp_walk using AutoSeq1.wpAny_loadPart' ga, AutoSeq1.wpAny_loadPart' gb
    show R (.ok (.ret (.bool (u.size != v.size)))) _
    rw [same]
    simpa using r
  | succ k ih =>
    rintro i hk A R ⟨hp, g, d, tk, os⟩ ⟨ga, gb, gi, r⟩
    have l1 : i < u.size := by omega
    have l2 : i < v.size := by omega
    have o1 : u[(((i : Nat) : Int)).toNat]? = some u[i] := by simp [l1]
    have o2 : v[(((i : Nat) : Int)).toNat]? = some v[i] := by simp [l2]
    have nx : ((i : Int) + 1) = ((i + 1 : Nat) : Int) := by omega
    rw [show (List.range u.size).drop i = i :: (List.range u.size).drop (i + 1) from by simp [List.drop_eq_getElem_cons, l1], List.all_cons] at r
    wp_walk using AutoSeq1.wpAny_loadPart' ga, AutoSeq1.wpAny_loadPart' gb
    rw [o1, o2]
    refine wpAny_bind (gi i l1 l2 _ _ ?_)
    cases hf : f i with
    | true =>
      rw [hf] at r
      wp_walk
      rw [nx]
      refine ⟨plainId_quiet plain_eq_loop _, codeAny_builtin entry_eq_loop (Around.under_plainId plain_eq_loop _ ▸ ?_)⟩
      exact ih (i + 1) (by omega) A R _ ⟨ga, gb, gi, by simpa using r⟩
    | false =>
      rw [hf] at r
      wp_walk using AutoSeq1.wpAny_loadPart' ga, AutoSeq1.wpAny_loadPart' gb
      rw [o1, o2]
      wp_walk
      simpa using r
theorem neIn_list (a b : Addr) (u v : Array Value) (m1 m2 : Nat) (q1 q2 : Option Addr) (z1 z2 : Array (Option Value)) (same : u.size = v.size) (f : Nat → Bool) :
    MeetsIn prog w (Builtin.«list.__ne__» ⟨[.ref a, .ref b], []⟩) (fun A R s => s.heap.get? a = some (LObj u m1 q1 z1) ∧ s.heap.get? b = some (LObj v m2 q2 z2) ∧
      (∀ j (g1 : j < u.size) (g2 : j < v.size), EqIn prog w A.in1 s u[j] v[j] (f j)) ∧ R (.ok (.ret (.bool (!(List.range u.size).all f)))) s) := by
  rintro A R ⟨hp, g, d, tk, os⟩ ⟨ga, gb, gi, r⟩
  have sb := AutoSeq1.sub_list_list
  have hq : ¬ (u.size != v.size) = true := by simp [same]
  wp_walk using AutoSeq1.wpAny_loadPart' ga, AutoSeq1.wpAny_loadPart' gb
  refine ⟨plainId_quiet plain_eq_loop _, codeAny_builtin entry_eq_loop (Around.under_plainId plain_eq_loop _ ▸ ?_)⟩
  exact neIn_from a b u v m1 m2 q1 q2 z1 z2 same f _ 0 rfl A R _ ⟨ga, gb, gi, by simpa using r⟩
theorem rcNeIn {A : Around} {s : Shared} {E Q : Value → Shared → Prop} {a b : Addr} {u v : Array Value} {f : Nat → Bool} (ha : s.heap.IsList a u) (hb : s.heap.IsList b v) (same : u.size = v.size) (hu : A.units < cLine)
    (gi : ∀ j (g1 : j < u.size) (g2 : j < v.size), EqIn prog w A.in1 s u[j] v[j] (f j)) (r : Q (.bool (!(List.range u.size).all f)) s) : wpAny (model prog w) A (richCompare .NotEq (.ref a) (.ref b)) Q E s := by
  obtain ⟨⟨c1, q1, t1, z1⟩, o1, k1, m1, d1⟩ := id ha
  obtain ⟨⟨c2, q2, t2, z2⟩, o2, k2, m2, d2⟩ := id hb
  dsimp only at k1 d1 k2 d2
  subst k1 d1 k2 d2
  exact wpAny_richCompare_same_room (T := "list") (op := .NotEq) ⟨_, o1, rfl⟩ ⟨_, o2, rfl⟩ PySem.F.slot_list_ne (call_meetsIn PySem.F.slot_list_ne ⟨_, o1, rfl⟩ PySem.F.entry_list_ne (PySem.F.args_list_ne_2 _ _) (neIn_list a b u v m1 m2 q1 q2 z1 z2 same f)
    ⟨o1, o2, gi, (fun x => nomatch x), r⟩) hu
end
end PySem.SeqAt
namespace DL
open PySem L2 Evl PySem.Spec PyProof.Rows
section
variable {X : Cx} {pins : List (Addr × Obj)} {σ : RSt} {H : Hp} {s : Shared} {A : Around}
def rNeX (K : PySem.W.Frag) : R2 := fun x y H Q => ∃ (n : Nat) (a b : Addr) (xs ys : List V) (e : Nat → Bool), n ≤ 60 ∧ x = .ref a ∧ y = .ref b ∧ SqL K H a xs ∧ SqL K H b ys ∧ xs.length = ys.length ∧ (∀ (j : Nat) (x y : V), xs[j]? = some x → ys[j]? = some y → VEq K H n x y (e j)) ∧ Q (.bl (!(List.range xs.length).all e)) H
theorem op_neX (hu : X.A.units + 64 < cLine) : OpR X (compareOp .NotEq) (rNeX X.K) := by
  intro pins s σ H x y v u Q I rx ry h
  obtain ⟨n, a, b, xs, ys, e, hn, rfl, rfl, h1, h2, hl, hh, q⟩ := h
  cases rx
  cases ry
  obtain ⟨us, r1, p1, _⟩ := I.list h1
  obtain ⟨ws, r2, p2, _⟩ := I.list h2
  have e1 : us.toArray.size = xs.length := by rw [List.size_toArray, r1.length]
  show wpAny (model X.prog X.w) X.A (richCompare .NotEq (.ref a) (.ref b)) (EP X pins σ Q) X.xe s
  refine SeqAt.rcNeIn (f := e) p1.isList p2.isList (by rw [List.size_toArray, List.size_toArray, ← r1.length, ← r2.length]; exact hl) (by omega) (fun j g1 g2 => ?_) (by rw [e1]; exact ⟨V.bl _, H, I, rfl, q⟩)
  obtain ⟨x, hx, rx⟩ := vals_item r1 g1
  obtain ⟨y, hy, ry⟩ := vals_item r2 g2
  exact (veq_tree I (hh j x y hx hy) _ _ rx ry).at X.A.in1 (by show X.A.units + 1 + n < cLine; omega)
end
inductive Sh where
  | f (x : V) | l (xs : List D) | t (xs : List D) | d (kvs : List (Key × D))
def D.sh : D → Option Sh
  | .non => some (.f .non)
  | .bl b => some (.f (.bl b))
  | .int i => some (.f (.int i))
  | .str x => some (.f (.str x))
  | .lst xs => some (.l xs)
  | .tup xs => some (.t xs)
  | .dct xs => some (.d xs)
  | _ => none
def D.eqs (f : D → D → Option Bool) : List D → List D → Option (List Bool)
  | [], [] => some []
  | x :: xs, y :: ys => (f x y).bind fun b => (D.eqs f xs ys).map fun r => b :: r
  | _, _ => none
def eqKD (f : D → D → Option Bool) : List (Key × D) → List (Key × D) → Option Bool
  | [], ys => some (ys.length == 0)
  | [_], [] => some false
  | [(k, v)], [(k', v')] => if k = k' then f v v' else none
  | _, _ => none
def eqS (f : D → D → Option Bool) : Sh → Sh → Option Bool
  | .f x, .f y => flEq x y
  | .l xs, .l ys => if xs.length = ys.length then (D.eqs f xs ys).map fun r => r.all id else some false
  | .t xs, .t ys => if xs.length = ys.length then (D.eqs f xs ys).map fun r => r.all id else none
  | .d xs, .d ys => eqKD f xs ys
  | _, _ => some false
def D.eqX : Nat → D → D → Option Bool
  | 0, _, _ => none
  | n + 1, a, b => a.sh.bind fun p => b.sh.bind fun q => eqS (D.eqX n) p q
section
variable {K : PySem.W.Frag} {G H : Hp}
def ShR (K : PySem.W.Frag) (G H : Hp) (v : V) : Sh → Prop
  | .f x => v = x ∧ flV x = true
  | .l xs => ∃ p vs, v = .ref p ∧ SqL K H p vs ∧ Reps K G vs xs
  | .t xs => ∃ p vs, v = .ref p ∧ SqT K H p vs ∧ Reps K G vs xs
  | .d xs => ∃ p vs, v = .ref p ∧ H p = some (.dK vs) ∧ RepK K G vs xs
theorem sh_of (e : Ex G H) {v : V} {a : D} {p : Sh} (r : RepT K G H v a) (h : a.sh = some p) : ShR K G H v p := by
  cases a with
  | non => cases h; exact ⟨r.non, rfl⟩
  | bl b => cases h; exact ⟨r.bl, rfl⟩
  | int b => cases h; exact ⟨r.int, rfl⟩
  | str b => cases h; exact ⟨r.str, rfl⟩
  | lst xs => cases h; exact r.lst e
  | tup xs => cases h; exact r.tup e
  | dct xs => cases h; exact r.dct e
  | _ => cases h
theorem eqs_at {f : D → D → Option Bool} : ∀ {xs ys : List D} {r : List Bool}, D.eqs f xs ys = some r → r.length = xs.length ∧ ∀ (j : Nat) (x y : D), xs[j]? = some x → ys[j]? = some y → ∃ b, r[j]? = some b ∧ f x y = some b
  | [], [], _, h => by cases h; exact ⟨rfl, fun j x y h => by simp at h⟩
  | x :: xs, y :: ys, r, h => by
    have h : (f x y).bind (fun b => (D.eqs f xs ys).map fun r => b :: r) = some r := h
    cases q : f x y with
    | none => rw [q] at h; cases h
    | some b =>
      rw [q] at h
      cases q2 : D.eqs f xs ys with
      | none => rw [q2] at h; cases h
      | some t =>
        rw [q2] at h
        cases h
        obtain ⟨h1, h2⟩ := eqs_at q2
        refine ⟨by rw [List.length_cons, List.length_cons, h1], fun j u v hu hv => ?_⟩
        cases j with
        | zero => simp at hu hv; subst hu hv; exact ⟨b, rfl, q⟩
        | succ j => exact h2 j u v (by simpa using hu) (by simpa using hv)
  | [], _ :: _, _, h => by cases h
  | _ :: _, [], _, h => by cases h
theorem all_id (r : List Bool) : r.all id = (List.range r.length).all fun j => (r[j]?).getD false := by
  induction r with
  | nil => rfl
  | cons b r ih => rw [List.length_cons, List.range_succ_eq_map, List.all_cons, List.all_cons, List.all_map, ih]; rfl
theorem reps_at {vs : List V} {ds : List D} {j : Nat} {v : V} (r : Reps K G vs ds) (h : vs[j]? = some v) : ∃ d, ds[j]? = some d ∧ Rep K G v d := by
  cases q : ds[j]? with
  | none => rw [r.none_of q] at h; cases h
  | some d =>
    obtain ⟨w, h1, h2⟩ := r.get q
    rw [h] at h1
    cases h1
    exact ⟨d, rfl, h2⟩
theorem eqX_veq (e : Ex G H) : ∀ (n : Nat) (a b : D) (v u : V) (r : Bool), RepT K G H v a → RepT K G H u b → D.eqX n a b = some r → VEq K H n v u r
  | 0, _, _, _, _, _, _, _, h => by cases h
  | n + 1, a, b, v, u, r, ra, rb, h => by
    have h : (a.sh.bind fun p => b.sh.bind fun q => eqS (D.eqX n) p q) = some r := h
    cases qa : a.sh with
    | none => rw [qa] at h; cases h
    | some p =>
      cases qb : b.sh with
      | none => rw [qa, qb] at h; cases h
      | some q =>
        rw [qa, qb] at h
        have h : eqS (D.eqX n) p q = some r := h
        have sa := sh_of e ra qa
        have sb := sh_of e rb qb
        have items : ∀ {vs us : List V} {xs ys : List D} {l : List Bool}, Reps K G vs xs → Reps K G us ys → D.eqs (D.eqX n) xs ys = some l → ∀ (j : Nat) (x y : V), vs[j]? = some x → us[j]? = some y → VEq K H n x y ((l[j]?).getD false) := fun {vs us xs ys l} r1 r2 hl j x y hx hy => by
          obtain ⟨dx, ex, rx⟩ := reps_at r1 hx
          obtain ⟨dy, ey, ry⟩ := reps_at r2 hy
          obtain ⟨b, eb, hb⟩ := (eqs_at hl).2 j dx dy ex ey
          rw [eb]
          exact eqX_veq e n dx dy x y b (.inl rx) (.inl ry) hb
        match p, q, h, sa, sb with
        | .f x, .f y, h, ⟨e1, _⟩, ⟨e2, _⟩ => subst e1 e2; exact .flat h
        | .f x, .l ys, h, ⟨e1, f1⟩, ⟨p, vs, e2, h2, _⟩ => subst e1 e2; cases h; exact .fc .l f1 ⟨_, h2⟩
        | .f x, .t ys, h, ⟨e1, f1⟩, ⟨p, vs, e2, h2, _⟩ => subst e1 e2; cases h; exact .fc .t f1 ⟨_, h2⟩
        | .f x, .d ys, h, ⟨e1, f1⟩, ⟨p, vs, e2, h2, _⟩ => subst e1 e2; cases h; exact .fc .d f1 ⟨_, h2⟩
        | .l xs, .f y, h, ⟨p, vs, e2, h2, _⟩, ⟨e1, f1⟩ => subst e1 e2; cases h; exact .cf .l f1 ⟨_, h2⟩
        | .t xs, .f y, h, ⟨p, vs, e2, h2, _⟩, ⟨e1, f1⟩ => subst e1 e2; cases h; exact .cf .t f1 ⟨_, h2⟩
        | .d xs, .f y, h, ⟨p, vs, e2, h2, _⟩, ⟨e1, f1⟩ => subst e1 e2; cases h; exact .cf .d f1 ⟨_, h2⟩
        | .l xs, .t ys, h, ⟨p, vs, e1, h1, _⟩, ⟨p', vs', e2, h2, _⟩ => subst e1 e2; cases h; exact .cc .l .t nofun ⟨_, h1⟩ ⟨_, h2⟩
        | .t xs, .l ys, h, ⟨p, vs, e1, h1, _⟩, ⟨p', vs', e2, h2, _⟩ => subst e1 e2; cases h; exact .cc .t .l nofun ⟨_, h1⟩ ⟨_, h2⟩
        | .l xs, .d ys, h, ⟨p, vs, e1, h1, _⟩, ⟨p', vs', e2, h2, _⟩ => subst e1 e2; cases h; exact .cc .l .d nofun ⟨_, h1⟩ ⟨_, h2⟩
        | .d xs, .l ys, h, ⟨p, vs, e1, h1, _⟩, ⟨p', vs', e2, h2, _⟩ => subst e1 e2; cases h; exact .cc .d .l nofun ⟨_, h1⟩ ⟨_, h2⟩
        | .t xs, .d ys, h, ⟨p, vs, e1, h1, _⟩, ⟨p', vs', e2, h2, _⟩ => subst e1 e2; cases h; exact .cc .t .d nofun ⟨_, h1⟩ ⟨_, h2⟩
        | .d xs, .t ys, h, ⟨p, vs, e1, h1, _⟩, ⟨p', vs', e2, h2, _⟩ => subst e1 e2; cases h; exact .cc .d .t nofun ⟨_, h1⟩ ⟨_, h2⟩
        | .l xs, .l ys, h, ⟨p, vs, e1, h1, r1⟩, ⟨p', us, e2, h2, r2⟩ =>
          subst e1 e2
          have h : (if xs.length = ys.length then (D.eqs (D.eqX n) xs ys).map (fun r => r.all id) else some false) = some r := h
          by_cases hl : xs.length = ys.length
          · rw [if_pos hl] at h
            cases q : D.eqs (D.eqX n) xs ys with
            | none => rw [q] at h; cases h
            | some l =>
              rw [q] at h
              cases h
              show VEq K H (n + 1) _ _ (l.all id)
              rw [all_id, (eqs_at q).1, ← r1.length]
              exact .ll _ h1 h2 (by rw [r1.length, r2.length, hl]) (items r1 r2 q)
          · rw [if_neg hl] at h
            cases h
            exact .lx h1 h2 (by rw [r1.length, r2.length]; exact hl)
        | .t xs, .t ys, h, ⟨p, vs, e1, h1, r1⟩, ⟨p', us, e2, h2, r2⟩ =>
          subst e1 e2
          have h : (if xs.length = ys.length then (D.eqs (D.eqX n) xs ys).map (fun r => r.all id) else none) = some r := h
          by_cases hl : xs.length = ys.length
          · rw [if_pos hl] at h
            cases q : D.eqs (D.eqX n) xs ys with
            | none => rw [q] at h; cases h
            | some l =>
              rw [q] at h
              cases h
              show VEq K H (n + 1) _ _ (l.all id)
              rw [all_id, (eqs_at q).1, ← r1.length]
              exact .tt _ h1 h2 (by rw [r1.length, r2.length, hl]) (items r1 r2 q)
          · rw [if_neg hl] at h
            cases h
        | .d xs, .d ys, h, ⟨p, vs, e1, h1, r1⟩, ⟨p', us, e2, h2, r2⟩ =>
          subst e1 e2
          cases r1 with
          | nil =>
            have h : some (ys.length == 0) = some r := h
            have h := Option.some.inj h
            have l2 : us.length = ys.length := by
              clear h h2 sb rb
              have : ∀ {a : List (Key × V)} {b : List (Key × D)}, RepK K G a b → a.length = b.length := fun {a b} x => by
                induction b generalizing a with
                | nil => cases x; rfl
                | cons _ _ ih => cases x with | cons _ t => rw [List.length_cons, List.length_cons, ih t]
              exact this r2
            have t := VEq.dd (K := K) (H := H) (n := n) (fun _ => true) h1 h2 (by simp) (fun k x y hm => by cases hm)
            rw [← h, ← l2]
            have e0 : (([] : List (Key × V)).length == us.length && ([] : List (Key × V)).all fun p => (lkV us p.1).isSome && true) = (us.length == 0) := by
              cases us <;> rfl
            rw [e0] at t
            exact t
          | @cons k v1 d1 vs1 xs1 r1 rr1 =>
            cases rr1 with
            | cons _ _ => cases r2 <;> first | cases h | (rename_i rr; cases rr <;> cases h)
            | nil =>
              cases r2 with
              | nil =>
                have h : some false = some r := h
                cases h
                have t := VEq.dd (K := K) (H := H) (n := n) (fun _ => true) h1 h2 (by simp) (fun k x y _ hl => by cases hl)
                exact t
              | @cons k' v2 d2 vs2 xs2 r2 rr2 =>
                cases rr2 with
                | cons _ _ => cases h
                | nil =>
                  have h : (if k = k' then D.eqX n d1 d2 else none) = some r := h
                  by_cases hk : k = k'
                  · subst hk
                    rw [if_pos rfl] at h
                    have hv := eqX_veq e n d1 d2 v1 v2 r (.inl r1) (.inl r2) h
                    have t := VEq.dd (K := K) (H := H) (n := n) (fun _ => r) h1 h2 (by simp) (fun k2 x y hm hl => by
                      have hm : (k2, x) = (k, v1) := by simpa using hm
                      cases hm
                      have hl : lkV [(k, v2)] k = some y := hl
                      rw [lkV_mem (by simp) (List.mem_singleton.mpr rfl)] at hl
                      cases hl
                      exact hv)
                    have e0 : (([(k, v1)] : List (Key × V)).length == ([(k, v2)] : List (Key × V)).length && ([(k, v1)] : List (Key × V)).all fun p => (lkV [(k, v2)] p.1).isSome && r) = r := by
                      simp [lkV]
                    rw [e0] at t
                    exact t
                  · rw [if_neg hk] at h
                    cases h
def D.neD (a b : D) : Option D := match a, b with
  | .lst xs, .lst ys => if xs.length = ys.length then (D.eqs (D.eqX 8) xs ys).map fun r => .bl (!(r.all id)) else none
  | _, _ => none
theorem sr_neX : SR K (rNeX K) D.neD := fun G H x y dx dy z Q e rx ry q k => by
  cases dx with
  | lst xs =>
    cases dy with
    | lst ys =>
      have q : (if xs.length = ys.length then (D.eqs (D.eqX 8) xs ys).map (fun r => D.bl (!(r.all id))) else none) = some z := q
      by_cases hl : xs.length = ys.length
      · rw [if_pos hl] at q
        cases qc : D.eqs (D.eqX 8) xs ys with
        | none => rw [qc] at q; cases q
        | some l =>
          rw [qc] at q
          cases q
          obtain ⟨a, vs, rfl, h1, r1⟩ := rx.lst e
          obtain ⟨b, us, rfl, h2, r2⟩ := ry.lst e
          refine ⟨8, a, b, vs, us, fun j => (l[j]?).getD false, by decide, rfl, rfl, h1, h2, by rw [r1.length, r2.length, hl], fun j x y hx hy => ?_, ?_⟩
          · obtain ⟨dx, ex, rx⟩ := reps_at r1 hx
            obtain ⟨dy, ey, ry⟩ := reps_at r2 hy
            obtain ⟨b, eb, hb⟩ := (eqs_at qc).2 j dx dy ex ey
            show VEq K H 8 x y ((l[j]?).getD false)
            rw [eb]
            exact eqX_veq e 8 dx dy x y b (.inl rx) (.inl ry) hb
          · have e1 : (List.range vs.length).all (fun j => (l[j]?).getD false) = l.all id := by rw [all_id, (eqs_at qc).1, ← r1.length]
            rw [e1]
            exact k G H _ (Al.refl e) (.bl _)
      · rw [if_neg hl] at q; cases q
    | _ => cases q
  | _ => cases dy <;> cases q
end
end DL
namespace DL
open PySem L2 Evl
structure EqM (P : Program) (w : World) (K : PySem.W.Frag) (mg : Str → Option Value) (base : Heap) (k : Nat) (C : Addr) (sp : Sp) : Prop where
  ex : ∃ f fd ps, CmpC K C f ∧ FnOk P w K mg base CX0 k f fd ps sp ∧ Binds K fd ps []
end DL
namespace DL
open PySem L2 Evl
end DL
namespace DL
open PySem L2 Evl PySem.Spec PyProof.Rows
def dnPar2 (i : Nat) (de1 de2 : DE) (dg : DG) (dn : DNS) : DNS := fun es p DD ρ => de1 (hideR ρ i (.lst es)) (fun t _ => match t with
  | .val d => d.noL = true ∧ de2 ρ (fun u ρ2 => match u with
    | .val d2 => dg (.val (.tup [d, d2])) ρ2 (fun ρ3 => ρ3[i]? = some (.val (.ptr p)) ∧ dn es p DD ρ3)
    | .bor _ => False) (fun _ _ _ => False)
  | .bor _ => False) (fun _ _ _ => False)
def gSq (K : PySem.W.Frag) (n : Nat) (t : TGs) : TG := fun v σ H Q => gTup K n t v σ H Q ∨ gLst K n t v σ H Q
theorem pg_sq {X : Cx} {e : Expr} {n : Nat} {t : TGs} (h1 : PG X e (gTup X.K n t)) (h2 : PG X e (gLst X.K n t)) : PG X e (gSq X.K n t) := ⟨fun pins s σ H v u Q I r h => h.elim (h1.run pins s σ H v u Q I r) (h2.run pins s σ H v u Q I r)⟩
def dgSq (n : Nat) (r : List D → Ro → (Ro → Prop) → Prop) : DG := fun t ρ q => match t with
  | .val (.tup ds) => ds.length = n ∧ r ds ρ q
  | .val (.lst ds) => ds.length = n ∧ r ds ρ q
  | _ => False
theorem sg_sq {K : PySem.W.Frag} {pa : PaG} {ns : List Nat} {gs : TGs} {n : Nat} {dr : List D → Ro → (Ro → Prop) → Prop} (h : SGs K pa ns gs dr) : SG K pa ns (gSq K n gs) (dgSq n dr) := fun F G σ H ρ v t Q q S r h0 k => by
  cases t with
  | bor j => exact h0.elim
  | val d =>
    have r : Rep K G v d := r
    cases r with
    | tup hs rr => exact .inl ⟨_, _, rfl, ex_t S.ex hs, by rw [rr.length]; exact h0.1, h F G σ H ρ _ _ _ _ S rr h0.2 k⟩
    | lst hs rr => exact .inr ⟨_, _, rfl, ex_l S.ex hs, by rw [rr.length]; exact h0.1, h F G σ H ρ _ _ _ _ S rr h0.2 k⟩
    | _ => exact h0.elim
section
variable {i j : Nat} {dn : DN} {s : DNS} {DD : Do} {ρ : Ro} {ds : DS} {es : List D} {p : Addr} {nx : Ro → Prop} {rt : T → Ro → Prop} {rf : D → Ro → Prop} {bk ct : Ro → Prop} {er : ER}
theorem w_nestL : dNestL i dn s DD ρ = dn ρ (fun es ρ1 => (isPar ρ1 i = false ∧ i < ρ1.length) ∧ AllP fun p => s es p DD (ρ1.set i (.val (.ptr p)))) := rfl
theorem w_dnSeq2 : dnSeq2 i ds s es p ⟨nx, rt, rf, bk, ct, er⟩ ρ = ds ⟨fun ρ1 => ρ1[i]? = some (.val (.ptr p)) ∧ s es p ⟨nx, rt, rf, bk, ct, er⟩ ρ1, rt, rf, bk, ct, er⟩ ρ := rfl
theorem w_dnFC : dnFC i j ds es p ⟨nx, rt, rf, bk, ct, er⟩ ρ = ((j < ρ.length ∧ i ≠ j) ∧ ds ⟨nx, rt, rf, bk, ct, er⟩ (wipeD ρ [i, j])) := rfl
theorem w_dnPar2 {de1 de2 : DE} {dg : DG} : dnPar2 i de1 de2 dg s es p DD ρ = de1 (hideR ρ i (.lst es)) (fun t _ => match t with
  | .val d => d.noL = true ∧ de2 ρ (fun u ρ2 => match u with
    | .val d2 => dg (.val (.tup [d, d2])) ρ2 (fun ρ3 => ρ3[i]? = some (.val (.ptr p)) ∧ s es p DD ρ3)
    | .bor _ => False) (fun _ _ _ => False)
  | .bor _ => False) (fun _ _ _ => False) := rfl
end
def lcNF (g : DG) (df : DF) (vs : List Nat) (q : List D → Ro → Prop) (ds acc : List D) (ρ : Ro) (_ : Ph g := ()) (_ : Ph df := ()) (_ : Ph q := ()) : Prop := lcN g df vs q ds acc ρ
theorem lcN_f (g : DG) (df : DF) (vs : List Nat) (q : List D → Ro → Prop) (ds acc : List D) (ρ : Ro) : lcN g df vs q ds acc ρ = lcNF g df vs q ds acc ρ := rfl
end DL
namespace DL
open PySem L2 Evl PySem.Spec PyProof.Rows
def dChain3 (f g e : D → D → Option D) (da db dc dd : DE) : DE := fun ρ q er => da ρ (fun s ρ1 => db ρ1 (fun t ρ2 => Opt (rd ρ2 s) fun x => Opt (rd ρ2 t) fun y => Opt (f x y) fun z => Opt z.bool fun k =>
  if k = true then dc ρ2 (fun u ρ3 => Opt (rd ρ3 t) fun y' => Opt (rd ρ3 u) fun w => Opt (g y' w) fun z' => Opt z'.bool fun k2 =>
    if k2 = true then dd ρ3 (fun u4 ρ4 => Opt (rd ρ4 u) fun y2 => Opt (rd ρ4 u4) fun w2 => Opt (e y2 w2) fun z2 => q (.val z2) ρ4) er else q (.val (.bl false)) ρ3) er else q (.val (.bl false)) ρ2) er) er
def lcL2 (g : DG) (t : DT) (di1 : DI) (g1 : DG) (t1 : DT) (de : DE) (vs vs1 : List Nat) (q : List D → Ro → Prop) : List D → List D → Ro → Prop
  | [], acc, ρ => q acc ρ
  | d :: ds, acc, ρ => g (.val d) (wipeD ρ vs) fun ρ1 => t ρ1 (fun b ρ2 => if b = true then di1 ρ2 (fun es ρ3 => lcL g1 t1 de vs1 (fun acc' ρ4 => lcL2 g t di1 g1 t1 de vs vs1 q ds acc' (wipeD ρ4 vs)) es acc ρ3) (fun _ _ _ => False)
    else lcL2 g t di1 g1 t1 de vs vs1 q ds acc (wipeD ρ2 vs)) (fun _ _ _ => False)
def dLc2 (di : DI) (g : DG) (t : DT) (di1 : DI) (g1 : DG) (t1 : DT) (de : DE) (vs vs1 : List Nat) : DF := fun ρ q er => di ρ (fun ds ρ1 => lcL2 g t di1 g1 t1 de vs vs1 (fun acc ρ2 => q (.lst acc) ρ2) ds [] ρ1) er
section
variable {K : PySem.W.Frag} {pa : PaG} {W : WX} {F G H : Hp} {σ : RSt} {ρ : Ro}
abbrev FrO (σ : RSt) (ρ : Ro) (D : Addr) : Prop := ∀ (i : Nat) (s : Sl) (d : DL.D), ρ[i]? = some s → s.ownD = some d → σ[i]? ≠ some (some (.ref D))
theorem Sim.back {σ4 : RSt} {vs : List Nat} {D : Addr} {av : List V} (fF : F D = none) (ws : wipe σ4 vs = wipe σ vs) (S6 : Sim K pa (upd F D (.lst av)) G σ4 H ρ) : H D = some (.lst av) ∧ G D = none ∧ Sim K pa F G σ H (wipeD ρ vs) ∧ FrO σ (wipeD ρ vs) D := by
  have S7 := S6.wipeTo (σ' := σ) ws
  refine ⟨S6.fx D _ upd_same, S6.dj D _ upd_same, S7.frame (Ex.new fF), fun i s d h1 h2 h3 => ?_⟩
  have := S7.ofr i s d D h1 h2 h3
  rw [upd_same] at this
  cases this
end
def lcL2F (g : DG) (t : DT) (di1 : DI) (g1 : DG) (t1 : DT) (de : DE) (vs vs1 : List Nat) (q : List D → Ro → Prop) (ds acc : List D) (ρ : Ro) (_ : Ph g := ()) (_ : Ph t := ()) (_ : Ph di1 := ()) (_ : Ph g1 := ()) (_ : Ph t1 := ()) (_ : Ph de := ()) (_ : Ph q := ()) : Prop := lcL2 g t di1 g1 t1 de vs vs1 q ds acc ρ
theorem lcL2_f (g : DG) (t : DT) (di1 : DI) (g1 : DG) (t1 : DT) (de : DE) (vs vs1 : List Nat) (q : List D → Ro → Prop) (ds acc : List D) (ρ : Ro) : lcL2 g t di1 g1 t1 de vs vs1 q ds acc ρ = lcL2F g t di1 g1 t1 de vs vs1 q ds acc ρ := rfl
end DL
namespace DL
open PySem L2 Evl PySem.Spec PyProof.Rows
section
variable (K : PySem.W.Frag) (pa : PaG)
structure LkT (F : Hp) (W : WX) (G : Hp) (D : Ends) (DD : Do) : Prop where
  nx : ∀ G' σ' H' ρ', Ex G G' → Sim K pa F G' σ' H' ρ' → DD.nx ρ' → D.nx σ' H'
  rf : ∀ G' σ' H' ρ' t v p d1 d2, Ex G G' → Sim K pa F G' σ' H' ρ' → SqT K G' t [v, .ref p] → Rep K G' v d1 → G' p = none ∧ F p = none → OwnAt K G' H' p d2 → (∀ (i : Nat) (s : Sl) (d : DL.D), ρ'[i]? = some s → s.ownD = some d → σ'[i]? ≠ some (some (.ref p))) → DD.rf (.tup [d1, d2]) ρ' → D.rt (.ref t) H'
  er : ∀ G' σ' H' ρ' C d vs fs, Ex G G' → Sim K pa F G' σ' H' ρ' → DD.er C fs ρ' → G' d = some (.xd vs) → RepF K G' vs fs → W (.ref C) (some d) σ' H'
end
def dSeqP (a b : DS) : DS := fun DD ρ => a { nx := b DD, rt := fun _ _ => False, er := DD.er } ρ
def dRetT (de : DE) (df : DF) : DS := fun DD ρ => de ρ (fun t ρ1 => match t with
  | .val d1 => df ρ1 (fun d2 ρ2 => DD.rf (.tup [d1, d2]) ρ2) DD.er
  | .bor _ => False) DD.er
def dIfF (t : DT) (a b : DF) : DF := fun ρ q er => t ρ (fun c ρ1 => if c = true then a ρ1 q er else b ρ1 q er) er
section
variable {K : PySem.W.Frag} {pa : PaG} {W : WX}
theorem LkT.grow {F G G' : Hp} {D : Ends} {DD : Do} (e : Ex G G') (l : LkT K pa F W G D DD) : LkT K pa F W G' D DD :=
  ⟨fun a b c d x => l.nx a b c d (e.trans x), fun a b c d t v p d1 d2 x => l.rf a b c d t v p d1 d2 (e.trans x), fun a b c d C y vs fs x => l.er a b c d C y vs fs (e.trans x)⟩
theorem LkT.xl {F G : Hp} {D : Ends} {DD : Do} (l : LkT K pa F W G D DD) (σ : RSt) : XL K pa F G W σ DD.er := fun G' H' ρ' C d vs fs e => l.er G' σ H' ρ' C d vs fs e
def SpT (K : PySem.W.Frag) (n : Nat) (dsp : DSp) : Sp := fun vs H Q E => ∃ T F G av, vs.length = n ∧ Ex G H ∧ Ex F H ∧ DjT T F G H ∧ ArgsR K F G H vs av ∧ (parsOf vs av).Nodup ∧ ∃ q er, dsp av q er ∧
  (∀ G' H' t v p d1 d2 os, Ex G G' → Ex G' H' → Ex F H' → DjT T F G' H' → Outs K G' H' vs av os → SqT K G' t [v, .ref p] → Rep K G' v d1 → G' p = none → F p = none → p ∉ parsOf vs av → OwnAt K G' H' p d2 → q (.tup [d1, d2]) os → Q (.ref t) H') ∧
  (∀ G' H' C y fv fs os, Ex G G' → Ex G' H' → Ex F H' → DjT T F G' H' → Outs K G' H' vs av os → G' y = some (.xd fv) → RepF K G' fv fs → er C fs os → E (.ref C) (some y) H')
theorem SpT.len {n : Nat} {dsp : DSp} {vs : List V} {H : Hp} {Q : VK} {E : XK} (h : SpT K n dsp vs H Q E) : vs.length = n := by obtain ⟨_, _, _, _, h, _⟩ := h; exact h
variable {ta : TA} {da : DA} {n : Nat} {dsp : DSp}
def dCallT (i j : Nat) (dsp : DSp) (da : DA) : DS := fun DD ρ => da ρ (fun ts ρ1 => Opt (argsOf ρ1 ts) fun av => (bors ts).Nodup ∧ dsp av (fun d os => match d with
  | .tup [d1, d2] => (isPar (putOuts ρ1 (bors ts) os) i = false ∧ isPar (putOuts ρ1 (bors ts) os) j = false) ∧ DD.nx (((putOuts ρ1 (bors ts) os).set i (.val d1)).set j (.own d2))
  | _ => False) (fun _ _ _ => False)) DD.er
end
section
variable {a b : DS} {nx : Ro → Prop} {rt : T → Ro → Prop} {rf : D → Ro → Prop} {bk ct : Ro → Prop} {er : ER} {ρ : Ro} {de : DE} {df : DF} {i j : Nat} {dsp : DSp} {da : DA}
theorem w_seqP : dSeqP a b ⟨nx, rt, rf, bk, ct, er⟩ ρ = a ⟨b ⟨nx, rt, rf, bk, ct, er⟩, fun _ _ => False, fun _ _ => False, fun _ => False, fun _ => False, er⟩ ρ := rfl
theorem w_retT : dRetT de df ⟨nx, rt, rf, bk, ct, er⟩ ρ = de ρ (fun t ρ1 => match t with
  | .val d1 => df ρ1 (fun d2 ρ2 => rf (.tup [d1, d2]) ρ2) er
  | .bor _ => False) er := rfl
theorem w_callT : dCallT i j dsp da ⟨nx, rt, rf, bk, ct, er⟩ ρ = da ρ (fun ts ρ1 => Opt (argsOf ρ1 ts) fun av => (bors ts).Nodup ∧ Run dsp av (fun d os => match d with
  | .tup [d1, d2] => (isPar (putOuts ρ1 (bors ts) os) i = false ∧ isPar (putOuts ρ1 (bors ts) os) j = false) ∧ nx (((putOuts ρ1 (bors ts) os).set i (.val d1)).set j (.own d2))
  | _ => False) (fun _ _ _ => False)) er := rfl
end
end DL
namespace DL
open PySem L2 Evl PySem.Spec PyProof.Rows
end DL
namespace PySem.SeqAt
open MeetsSeq MeetsSeq2 MeetsSeq3 SeqRoads2
section
variable {prog : Program} {w : World} {A : Around} {R : Result → Shared → Prop}
def ListJ (prog : Program) (w : World) (A : Around) (E : Value → Shared → Prop) (l b : Addr) (N : Nat) (I : Shared → Prop) : Prop :=
  ∀ s, I s → ∃ (u v : Array Value) (m1 m2 : Nat) (q1 q2 : Option Addr) (z1 z2 : Array (Option Value)), s.heap.get? l = some (LObj u m1 q1 z1) ∧ s.heap.get? b = some (LObj v m2 q2 z2) ∧ u.size = N ∧ v.size = N ∧
    ∀ i (h1 : i < u.size) (h2 : i < v.size), wpAny (model prog w) A.in1 (eqBool u[i] v[i]) (fun r s' => r = true ∧ I s') E s
theorem eq_loopJ (l b : Addr) (N : Nat) (I : Shared → Prop) (hl : ListJ prog w A (fun e s' => R (.error e) s') l b N I)
    (fin : ∀ s, I s → R (.ok (.ret (.bool true))) s) (k : Nat) :
    ∀ i : Nat, N - i = k → i ≤ N → ∀ s, I s →
      wpAny (model prog w) A.in1 (Builtin.«list.__eq__.loop» ⟨[.ref l, .ref b, rawInt i, rawInt 2], []⟩) (GQ.FinOf prog w A R) (fun e s' => R (.error e) s') s := by
  induction k with
  | zero =>
    intro i hk hi s h
    obtain ⟨items, items2, n, n2, q1, q2, z1, z2, hl1, hb1, hs1, hs2, _⟩ := hl _ h
    have hR : R (.ok (.ret (.bool true))) s := fin s h
    obtain ⟨hp, g, d, tk, os⟩ := s
    wp_walk using AutoSeq1.wpAny_loadPart' hl1, AutoSeq1.wpAny_loadPart' hb1
    have hi1 : items[((i : Nat) : Int).toNat]? = none := by simp; omega
    have hi2 : items2[((i : Nat) : Int).toNat]? = none := by simp; omega
    rw [hi1, hi2]
    wp_walk using AutoSeq1.wpAny_loadPart' hl1, AutoSeq1.wpAny_loadPart' hb1
    show R (.ok (.ret (.bool (items.size == items2.size)))) _
    rw [hs1, hs2]
    simpa using hR
  | succ k ih =>
    intro i hk hi s h
    obtain ⟨items, items2, n, n2, q1, q2, z1, z2, hl1, hb1, hs1, hs2, turn⟩ := hl _ h
    have hlt : i < items.size := by omega
    have hlt2 : i < items2.size := by omega
    have ht := turn i hlt hlt2
    obtain ⟨hp, g, d, tk, os⟩ := s
    wp_walk using AutoSeq1.wpAny_loadPart' hl1, AutoSeq1.wpAny_loadPart' hb1
    have hi1 : items[((i : Nat) : Int).toNat]? = some items[i] := by simp [hlt]
    have hi2 : items2[((i : Nat) : Int).toNat]? = some items2[i] := by simp [hlt2]
    have hc : ((i : Int) + 1) = ((i + 1 : Nat) : Int) := by omega
    rw [hi1, hi2]
    refine wpAny_bind (wpAny_mono ht (fun r s2 h2 => ?_) fun _ _ x => x)
    obtain ⟨hr, h2⟩ := h2
    subst hr
    have hrec := ih (i + 1) (by omega) (by omega) s2 h2
    obtain ⟨hp2, g2, d2, tk2, os2⟩ := s2
    wp_walk
    rw [hc]
    exact ⟨plainId_quiet plain_eq_loop _, codeAny_builtin entry_eq_loop (by
      rw [Around.under_plainId plain_eq_loop _]
      exact hrec)⟩
theorem eq_listJ (l b : Addr) (N : Nat) (I : Shared → Prop) (hl : ListJ prog w A (fun e s' => R (.error e) s') l b N I)
    (fin : ∀ s, I s → R (.ok (.ret (.bool true))) s) {s : Shared} (h : I s) :
    wpAny (model prog w) A.in1 (Builtin.«list.__eq__» ⟨[.ref l, .ref b], []⟩) (GQ.FinOf prog w A R) (fun e s' => R (.error e) s') s := by
  obtain ⟨items, items2, n, n2, q1, q2, z1, z2, hl1, hb1, hs1, hs2, _⟩ := hl _ h
  have hrec := eq_loopJ (A := A) (R := R) l b N I hl fin _ 0 rfl (Nat.zero_le _) s h
  obtain ⟨hp, g, d, tk, os⟩ := s
  have f3 := AutoSeq1.sub_list_list
  have hne : ¬ (items.size != items2.size) = true := by simp [hs1, hs2]
  wp_walk using AutoSeq1.wpAny_loadPart' hl1, AutoSeq1.wpAny_loadPart' hb1
  exact ⟨plainId_quiet plain_eq_loop _, codeAny_builtin entry_eq_loop (by
    rw [Around.under_plainId plain_eq_loop _]
    exact hrec)⟩
theorem rc_eqJ {E Q : Value → Shared → Prop} {s : Shared} {l b : Addr} {N : Nat} (hu : A.units < cLine) (I : Shared → Prop) (hl : ListJ prog w A E l b N I)
    (fin : ∀ s, I s → Q (.bool true) s) (h : I s) : wpAny (model prog w) A (richCompare .Eq (.ref l) (.ref b)) Q E s := by
  obtain ⟨items, items2, n, n2, q1, q2, z1, z2, hl1, hb1, _, _, _⟩ := hl _ h
  refine wpAny_richCompare_same_room (op := .Eq) ⟨_, hl1, rfl⟩ ⟨_, hb1, rfl⟩ PySem.F.slot_list_eq (GQ.call_here PySem.F.slot_list_eq ⟨_, hl1, rfl⟩ PySem.F.entry_list_eq (PySem.F.args_list_eq_2 _ _) ?_) hu
  exact eq_listJ (R := wants (fun v s' => v ≠ .notImplemented ∧ Q v s') E) l b N I hl (fun s' q => ⟨(fun x => nomatch x), fin s' q⟩) h
end
end PySem.SeqAt
namespace DL
open PySem L2 Evl PySem.Spec PyProof.Rows
inductive SelfEq (l : List (Addr × DSp)) : D → Prop
  | flat {d : D} : D.eqX 8 d d = some true → SelfEq l d
  | ins {C : Addr} {fs : List (Str × D)} {dsp : DSp} : (C, dsp) ∈ l → noEr dsp [.val (.ins C fs), .val (.ins C fs)] (fun r _ => r = .bl true) (fun _ _ _ => False) → SelfEq l (.ins C fs)
def DSelf (K : PySem.W.Frag) (l : List (Addr × DSp)) : Eqv := fun x y H => ∃ G d, Ex G H ∧ Rep K G x d ∧ Rep K G y d ∧ SelfEq l d
theorem mon_self {K : PySem.W.Frag} {l : List (Addr × DSp)} : Mon (DSelf K l) := fun x y H H' e d => by
  obtain ⟨G, d, h1, h2, h3, h4⟩ := d
  exact ⟨G, d, fun a o z => e a o (h1 a o z), h2, h3, h4⟩
def RIns (K : PySem.W.Frag) (C : Addr) (dsp : DSp) (a b : Addr) (H : Hp) : Prop := ∃ G fs, Ex G H ∧ Rep K G (.ref a) (.ins C fs) ∧ Rep K G (.ref b) (.ins C fs) ∧ noEr dsp [.val (.ins C fs), .val (.ins C fs)] (fun r _ => r = .bl true) (fun _ _ _ => False)
theorem spEq_of {K : PySem.W.Frag} {C : Addr} {dsp : DSp} : ∀ (vs : List V) (H : Hp) (Q : VK) (E : XK), spEq (RIns K C dsp) vs H Q E → SpV K 2 dsp vs H Q E := by
  intro vs H Q E h
  obtain ⟨a, b, rfl, ⟨G, fs, e, ra, rb, hd⟩, k⟩ := h
  refine ⟨[], fun x => match G x with | none => H x | some _ => none, G, [.val (.ins C fs), .val (.ins C fs)], rfl, e, fun x o h => ?_, ⟨fun x o h => ?_, fun p hp => (by cases hp), fun p hp => (by cases hp), fun z => absurd rfl z⟩, .val ra (.val rb .nil), List.nodup_nil, _, _, hd, fun G' H' v d os e' gh fx dj o rv hq => ?_, fun _ _ _ _ _ _ _ _ _ _ _ _ _ _ h => h.elim⟩
  · cases q : G x with
    | none => simpa [q] using h
    | some o' => simp [q] at h
  · cases q : G x with
    | none => rfl
    | some o' => simp [q] at h
  · have hq : d = .bl true := hq
    subst hq
    cases rv
    refine k H' fun x o hx => ?_
    cases q : G x with
    | none => exact fx x o (by simpa [q] using hx)
    | some o' =>
      have := e x o' q
      rw [hx] at this
      cases this
      exact gh x o (e' x o q)
theorem eqG_self {X : Cx} {n : Nat} {l : List (Addr × DSp)} (hl : ∀ q ∈ l.map (fun q => (q.1, SpV X.K 2 q.2)), EqM X.prog X.w X.K X.mg X.base n q.1 q.2) : EqG X n (DSelf X.K l) := by
  intro A pins s σ H x y u v sb I rx ry d
  obtain ⟨G, d, e, r1, r2, q⟩ := d
  cases q with
  | flat q =>
    have hv := eqX_veq e 8 d d x y true (.inl r1) (.inl r2) q
    have := (veq_tree I hv u v rx ry).at A (by have := sb.room.un; omega)
    exact this X.xe _ ⟨rfl, H, I, Ext.rfl'⟩
  | @ins C fs dsp hm hd =>
    obtain ⟨f, fd, ps, M, F, hb⟩ := (hl _ (List.mem_map.mpr ⟨_, hm, rfl⟩)).ex
    cases id r1 with
    | ins h1 f1 =>
      cases id r2 with
      | ins h2 f2 => exact eqG_ins (R := RIns X.K C dsp) (F.imp spEq_of) M.1 M.2 hb pass0 A pins s σ H _ _ u v sb I rx ry ⟨_, _, _, _, _, _, rfl, rfl, e _ _ h1, e _ _ h2, G, fs, e, r1, r2, hd⟩
def rSelf (K : PySem.W.Frag) (b : Bool) (l : List (Addr × DSp)) : R2 := fun x y H Q => ∃ a c xs ys, x = .ref a ∧ y = .ref c ∧ SqL K H a xs ∧ SqL K H c ys ∧ Prs (DSelf K l) xs ys H ∧ ∀ H', Ext H H' → Q (.bl b) H'
section
variable {X : Cx} {k : Nat} {l : List (Addr × DSp)}
theorem selfJ (hl : ∀ q ∈ l.map (fun q => (q.1, SpV X.K 2 q.2)), EqM X.prog X.w X.K X.mg X.base k q.1 q.2) (hr : Room (k + 1) X.A) {pins : List (Addr × Obj)} {σ : L2.St} {H : Hp} {a c : Addr} {xs ys : List V} (ha : SqL X.K H a xs) (hc : SqL X.K H c ys) (p : Prs (DSelf X.K l) xs ys H) :
    SeqAt.ListJ X.prog X.w X.A X.xe a c xs.length (fun s' => LoopI X pins σ H s') := by
  intro s' q
  obtain ⟨H1, I1, e1⟩ := id q
  obtain ⟨us, r1, p1, _⟩ := I1.list (ha.ext e1)
  obtain ⟨ws, r2, p2, _⟩ := I1.list (hc.ext e1)
  obtain ⟨⟨c1, q1, t1, z1⟩, o1, k1, m1, d1⟩ := p1.isList
  obtain ⟨⟨c2, q2, t2, z2⟩, o2, k2, m2, d2⟩ := p2.isList
  dsimp only at k1 d1 k2 d2
  subst k1 d1 k2 d2
  refine ⟨_, _, m1, m2, q1, q2, z1, z2, o1, o2, by rw [List.size_toArray, ← r1.length], by rw [List.size_toArray, ← r2.length, ← p.1], fun i h1 h2 => ?_⟩
  exact turnG mon_self (eqG_self hl) (n := k) ⟨hr, rfl⟩ p r1 r2 i h1 h2 s' q
theorem op_eqS (hl : ∀ q ∈ l.map (fun q => (q.1, SpV X.K 2 q.2)), EqM X.prog X.w X.K X.mg X.base k q.1 q.2) (hr : Room (k + 1) X.A) : OpR X (compareOp .Eq) (rSelf X.K true l) := by
  intro pins s σ H x y v u Q I rx ry h
  obtain ⟨a, c, xs, ys, rfl, rfl, ha, hc, p, q⟩ := h
  cases rx
  cases ry
  show wpAny (model X.prog X.w) X.A (richCompare .Eq (.ref a) (.ref c)) (EP X pins σ Q) X.xe s
  exact SeqAt.rc_eqJ (by have := hr.un; omega) (fun s' => LoopI X pins σ H s') (selfJ hl hr ha hc p) (fun s' z => by
    obtain ⟨H', I', e⟩ := z
    exact ⟨.bl true, H', I', rfl, q H' e⟩) ⟨H, I, Ext.rfl'⟩
end
def dSelf (b : Bool) (l : List (Addr × DSp)) (da dc : DE) : DE := fun ρ q er => da ρ (fun t ρ1 => dc ρ1 (fun u ρ2 => Opt (rd ρ2 t) fun d => Opt (rd ρ2 u) fun e => e = d ∧ ∃ ds, d = .lst ds ∧ (∀ x ∈ ds, SelfEq l x) ∧ q (.val (.bl b)) ρ2) er) er
section
variable {K : PySem.W.Frag} {pa : PaG} {W : WX} {te tc : TE} {dx dc : DE} {l : List (Addr × DSp)} {b : Bool}
theorem se_self (hx : SE K pa W te dx) (hc : SE K pa W tc dc) : SE K pa W (tOp (rSelf K b l) te tc) (dSelf b l dx dc) := fun F G σ H ρ Q q er S h k x =>
  hx F G σ H ρ _ _ er S h (fun G1 H1 v t ρ1 e1 S1 r1 h1 => hc F G1 σ H1 ρ1 _ _ er S1 h1 (fun G2 H2 w u ρ2 e2 S2 r2 h2 => by
    obtain ⟨d, ed, e, ee, he, ds, hd, hs, hq⟩ := h2
    subst he
    subst hd
    obtain ⟨a, xs, rfl, ha, ra⟩ := (S2.rdT (r1.mono e2) ed).lst S2.ex
    obtain ⟨c, ys, rfl, hc', rc⟩ := (S2.rdT r2 ee).lst S2.ex
    refine ⟨a, c, xs, ys, rfl, rfl, ha, hc', ⟨by rw [ra.length, rc.length], fun i x y h1 h2 => ?_⟩, fun H' e' => ?_⟩
    · obtain ⟨dx, ex, rx⟩ := reps_at ra h1
      obtain ⟨dy, ey, ry⟩ := reps_at rc h2
      rw [ex] at ey
      cases ey
      exact ⟨G2, dx, S2.ex, rx, ry, hs _ (List.mem_of_getElem? ex)⟩
    · refine k G2 H' (.bl b) (.val _) ρ2 (e1.trans e2) (S2.grow (Ex.refl _) (S2.ex.trans e') (S2.fx.trans e') (S2.dj.hext e') fun i s d p h1 h2 h3 => ?_) (.bl _) hq
      obtain ⟨p', z1, z2, z3⟩ := S2.own i s d h1 h2
      rw [h3] at z1
      cases z1
      obtain ⟨o, ho⟩ := z3.some
      exact ⟨z2, by rw [ho]; exact e' _ _ ho⟩) (x.grow e1)) x
end
end DL
namespace DL
open PySem L2 Evl
section
variable {X : Cx} {CX : CXT} {k n : Nat} {f C : Addr} {fd : FuncData} {ps ks : List Str} {is : List Nat} {sp : Sp} {E : XK} {x m : Str} {p pos apos : Pos} {e o : Expr} {es : List Expr} {kws : List Keyword} {ta : TE} {t tk : TA}
theorem pe_callK0 (F : FnOk X.prog X.w X.K X.mg X.base CX k f fd ps sp) (hr : Room k X.A) (hg : Gl X x) (hm : X.mg x = some (.ref f)) (hk : PySem.W.keepIn X.K (.ref f) = true) (hb : KwOk X.K fd ps 0 ks is) (hx : Passes CX X E)
    (hkw : PK X kws tk) (hall : (backToKw pos (keywordEach kws X.env)).all (·.1.isSome) = true := by rfl) (hks : (backToKw pos (keywordEach kws X.env)).filterMap (·.1) = ks := by rfl)
    (hdb : (x == ("__debug__" : Str)) = false := by decide)
    (hpl : ((backTo pos (starEach [] X.env)).any (·.1) || (backToKw pos (keywordEach kws X.env)).any (·.1.isNone)) = false := by rfl) :
    PE X (.Call (.Name x p) [] kws pos) (tCall sp [] E (tKw 0 ks.length is tNil tk)) := by
  refine ⟨fun pins s σ H Q I h => ?_⟩
  refine wpAny_Call_Name_kw (ld_glob I hg hm ?_ hdb)
  refine PySem.W.callWith_KW0 (first := []) (h₀ := X.base) I.ok.mod.kin hk hall ?_ hpl
  refine thn (hkw.run pos pins s σ H _ I h) fun ws s2 ⟨zs, H2, I2, rz, ⟨_, l2⟩, q2⟩ => ⟨I2.kIn, ?_⟩
  rw [hks]
  have q2 : sp (kwPerm is [] zs ++ []) H2 Q E := q2
  rw [List.append_nil] at q2
  exact run_kw (us := []) (vs := []) F hr hb hx I2 .nil rz rfl l2 q2
end
end DL
namespace DL
open PySem L2 Evl PySem.Spec PyProof.Rows
end DL
namespace DL
open PySem L2 Evl PySem.Spec PyProof.Rows
structure FnG (P : Program) (w : World) (K : PySem.W.Frag) (mg : Str → Option Value) (base : Heap) (CX : CXT) (k : Nat) (f : Addr) (fd : FuncData) (ps : List Str) (sp : Sp) : Prop where
  len : ∀ vs H Q E, sp vs H Q E → vs.length = ps.length
  run : ∀ (A : Around), A.guards = some [] → ∀ (outer : List Env) (s : Shared) (H : Hp) (args : Args) (us : List Value) (vs : List V) (Q : VK) (E : XK), Room k A → Env0 P w K mg base A outer s H → BindsTo s fd args (ps.zip us) → Vals vs us → sp vs H Q E →
    codeAny (model P w) A (.call (.ref f) args) (CR CX outer P w H s Q E) s
theorem FnG.imp {P : Program} {w : World} {K : PySem.W.Frag} {mg : Str → Option Value} {base : Heap} {CX : CXT} {k : Nat} {f : Addr} {fd : FuncData} {ps : List Str} {sp sp' : Sp} (F : FnG P w K mg base CX k f fd ps sp)
    (h : ∀ vs H Q E, sp' vs H Q E → sp vs H Q E) : FnG P w K mg base CX k f fd ps sp' :=
  ⟨fun vs H Q E q => F.len vs H Q E (h _ _ _ _ q), fun A hg outer s H args us vs Q E hr he hb hv hs => F.run A hg outer s H args us vs Q E hr he hb hv (h _ _ _ _ hs)⟩
section
variable {P : Program} {w : World} {K : PySem.W.Frag} {mg : Str → Option Value} {base : Heap}
theorem fnG_of {CX : CXT} {k : Nat} {f : Addr} {name qual : Str} {params : Arguments} {body : List Stmt} {scope : Scope} {dV kV doc pm cdv ct oc : Value} {an od : Option Addr}
    {osl : Array (Option Value)} {N ps : List Str} {sp : Sp} (lk : K.lookup f = some ⟨oc, od, .func (PySem.W.fnOf name qual params body scope dV kV doc pm an cdv ct), osl⟩) (hcd : PySem.W.codeIn K cdv qual = true) (S : FnScope N ps scope)
    (len : ∀ vs H Q E, sp vs H Q E → vs.length = ps.length)
    (hbody : ∀ (A : Around), A.guards = some [] → ∀ (outer : List Env) (s : Shared) (H : Hp) (vs : List V) (Q : VK) (E : XK), Room k (A.deeper (envOfC qual scope s.heap.objs.size f cdv)) → sp vs H Q E →
      ∃ t, PSs (cxOf CX P w K mg base N qual scope f cdv A outer s H E) body t ∧ t { nx := fun _ H' => Q .non H', rt := Q } (start N vs) H) :
    FnG P w K mg base CX (k + 1) f (PySem.W.fnOf name qual params body scope dV kV doc pm an cdv ct) ps sp := by
  refine ⟨len, fun A hgd outer s H args us vs Q E hr e0 hb r hsp => ?_⟩
  have nvs := len _ _ _ _ hsp
  have kIn : K.In s.heap := e0.mod.kin.keeps fun b o e => (e0.bs b o e).1
  have nlm : s.heap.NoLimit := e0.mod.nolimit.keeps fun b o e => (e0.bs b o e).1
  have kinds : ∀ y ∈ ps.zip us, scope.names.lookup y.1 = some .local ∨ (scope.names.lookup y.1 = some .cell ∧ ((cellsFrom (s.heap.objs.size + 1) scope.names []).lookup y.1).isSome = true) := by
    rintro ⟨n, v⟩ hy
    exact (S.par n (List.of_mem_zip hy).1).imp id fun q => ⟨q, PySem.W.cellsFrom_some _ _ _ (.inl q)⟩
  refine codeAny_call_function hr.depth (kIn _ _ lk) rfl S.co S.gen rfl (PySem.W.codeRec_of kIn hcd) (hb _ _ _ _ ?_)
  refine wpAny_newFunctionEnv_cells S.kind kinds fun env eEnv s1 inCall => ?_
  subst eEnv
  refine ⟨nlm.keeps inCall.toInCall.keep, codeAny_func ?_⟩
  obtain ⟨t, ht, hq⟩ := hbody A hgd outer s H vs Q E (hr.deeper _) hsp
  have I0 : Inv (cxOf CX P w K mg base N qual scope f cdv A outer s H E) [] (start N vs) H s1 := inv_start S hr.hd e0 nvs r inCall
  have done : ∀ {σ' : L2.St} {H' : Hp} {v : V} {u : Value} {s' : Shared}, Inv (cxOf CX P w K mg base N qual scope f cdv A outer s H E) [] σ' H' s' → RelV v u → Q v H' → CE outer P w H s Q u s' :=
    fun {σ' H' v u s'} J rv q => ⟨v, H', J.os, J.bare, J.base, J.hok, rv, q⟩
  refine wpAny_mono (ht.run [] s1 (start N vs) H _ I0 hq) (fun fl s' hs => ?_) fun e s' hs => hs
  cases fl with
  | ret u => exact let ⟨_, _, _, J, rv, q⟩ := hs; done J rv q
  | next => exact let ⟨_, _, J, q⟩ := hs; done (v := V.non) (u := Value.none) J rfl q
  | brk => exact let ⟨_, _, _, q⟩ := hs; False.elim q
  | cont => exact let ⟨_, _, _, q⟩ := hs; False.elim q
theorem okG {x qual : Str} {st : Stmt} {f : Addr} {fd : FuncData} {N ps : List Str} {k : Nat} {sp : Sp} (F : Fun K x qual st f fd) (S : FnScope N ps (defScope st)) (len : ∀ vs H Q E, sp vs H Q E → vs.length = ps.length)
    (hbody : ∀ (cdv : Value) (A : Around), A.guards = some [] → ∀ (outer : List Env) (s : Shared) (H : Hp) (vs : List V) (Q : VK) (E : XK), Room k (A.deeper (envOfC qual (defScope st) s.heap.objs.size f cdv)) → sp vs H Q E →
      ∃ t, PSs (cxOf CX0 P w K mg base N qual (defScope st) f cdv A outer s H E).nox (defBody st) t ∧ t { nx := fun _ H' => Q .non H', rt := Q } (start N vs) H) : FnG P w K mg base CX0 (k + 1) f fd ps sp := by
  obtain ⟨oc, od, kV, doc, pm, an, cdv, ct, osl, rfl, lk, hcd⟩ := F.ex
  refine fnG_of lk hcd S len fun A hg outer s H vs Q E hr hsp => ?_
  obtain ⟨t, h, q⟩ := hbody cdv A hg outer s H vs Q E hr hsp
  exact ⟨t, h.nox, q⟩
end
end DL
namespace DL
open PySem L2 Evl PySem.Spec PyProof.Rows
end DL
namespace DL
open PySem L2 Evl
def dIfFz (i : Nat) (dt : DT) (ds : DS) : DS := fun DD ρ => getW ρ[i]? fun d => dt (hideR ρ i d) (fun c _ => if c = true then ds DD ρ else DD.nx ρ) (fun _ _ _ => False)
theorem w_ifFz {i : Nat} {dt : DT} {ds : DS} {nx : Ro → Prop} {rt : T → Ro → Prop} {rf : D → Ro → Prop} {bk ct : Ro → Prop} {er : ER} {ρ : Ro} :
    dIfFz i dt ds ⟨nx, rt, rf, bk, ct, er⟩ ρ = getW ρ[i]? fun d => dt (hideR ρ i d) (fun c _ => if c = true then ds ⟨nx, rt, rf, bk, ct, er⟩ ρ else nx ρ) (fun _ _ _ => False) := rfl
section
variable {K : PySem.W.Frag} {pa : PaG} {W : WX} {i : Nat} {tt : TT} {dt : DT} {ts : TS} {ds : DS}
theorem ss_ifFz (ht : ST K pa W tt dt) (h1 : SS K pa W ts ds) : SS K pa W (tIfS tt ts tNext) (dIfFz i dt ds) := fun F G σ H ρ D DD S h l => by
  unfold dIfFz getW at h
  cases e : ρ[i]? with
  | none => rw [e] at h; exact h.elim
  | some s =>
    rw [e] at h
    cases s with
    | own d =>
      obtain ⟨p, hσ, gp, ow⟩ := S.own i _ d e rfl
      obtain ⟨o, ho⟩ := ow.some
      have hi : i < ρ.length := (List.getElem?_eq_some_iff.mp e).1
      have e2 : Ex G (upd G p o) := Ex.new gp
      have noOwn : ∀ (k : Nat) (s : Sl) (d' : DL.D), (hideR ρ i d)[k]? = some s → s.ownD = some d' → False := fun k s d' q hd => by
        rcases hideR_get hi q with ⟨_, z⟩ | ⟨s0, _, z⟩
        · subst z; cases hd
        · subst z; rw [hid_noOwn] at hd; cases hd
      have r : Rep K (upd G p o) (.ref p) d := by
        cases d with
        | lst ds => obtain ⟨vs, h1, h2⟩ := ow; rw [ho] at h1; cases h1; exact Rep.lst (SqL.of upd_same) (h2.mono e2)
        | dct ds => obtain ⟨vs, h1, h2⟩ := ow; rw [ho] at h1; cases h1; exact Rep.dct upd_same (h2.mono e2)
        | ins C ds => obtain ⟨dx, vs, h1, h2⟩ := ow; rw [ho] at h1; cases h1; exact Rep.ins upd_same (h2.mono e2)
        | _ => exact ow.elim
      have pin : calF F H σ ρ [i] p = none := calF_in S [i] (List.mem_singleton.mpr rfl) e rfl hσ
      have S2 : Sim K pa (calF F H σ ρ [i]) (upd G p o) σ H (hideR ρ i d) := by
        refine ⟨by unfold hideR hidL; rw [List.length_set, List.length_map]; exact S.len, fun b u q => ?_, calF_ex S [i], (calF_dj S [i]).gadd pin (S.dj.ne ho (ow.code ho)), fun k d' q => ?_, fun k s d' q hd => (noOwn k s d' q hd).elim, fun k s d' b q hd _ => (noOwn k s d' q hd).elim, fun k d' q => (noOwn k (.par d') d' q rfl).elim, S.gx.trans e2, fun k m s t d' x b _ g1 g2 _ _ _ _ => (noOwn k s d' g1 g2).elim⟩
        · by_cases hb : b = p
          · subst hb; rw [upd_same] at q; cases q; exact ho
          · rw [upd_ne hb] at q; exact S.ex b u q
        · rcases hideR_get hi q with ⟨e1, z⟩ | ⟨s0, q0, z⟩
          · rw [e1]; cases z; exact ⟨_, hσ, r⟩
          · cases s0 with
            | val d2 =>
              cases z
              obtain ⟨v, k1, k2⟩ := S.val k d' q0
              exact ⟨v, k1, k2.mono e2⟩
            | _ => cases z
      refine ht _ _ σ H _ _ _ _ S2 h (fun G2 H2 c ρ2 e3 S3 q => ?_) xl_none
      have fx4 : Ex (calF F H σ ρ []) H2 := fun b u q4 => by
        have q5 := calF_ex S [] b u q4
        by_cases hb : b = p
        · subst hb
          rw [ho] at q5; cases q5
          exact S3.ex b o (e3 b o upd_same)
        · refine S3.fx b u ?_
          by_cases c : ∃ (j : Nat) (s : Sl) (d : DL.D), j ∉ ([] : List Nat) ∧ ρ[j]? = some s ∧ s.ownD = some d ∧ σ[j]? = some (some (.ref b))
          · obtain ⟨j, s, d', _, g1, g2, g3⟩ := c
            rw [calF_own ⟨j, s, d', fun z => hb (by rw [List.mem_singleton.mp z] at g3; rw [hσ] at g3; cases g3; rfl), g1, g2, g3⟩]
            exact q5
          · rw [calF_ne c] at q4
            rw [calF_ne fun ⟨j, s, d', _, g1, g2, g3⟩ => c ⟨j, s, d', by simp, g1, g2, g3⟩]
            exact q4
      have S4 : Sim K pa F G σ H2 ρ := by
        have := S.behind (is := []) (os := []) (Ex.refl G) ((e2.trans e3).trans S3.ex) fx4 ((calF_dj S []).at_ S3.dj.tb) .nil
        exact this
      cases c with
      | true => exact h1 F G σ H2 ρ D DD S4 q l
      | false => exact l.nx G σ H2 ρ (Ex.refl G) S4 q
    | _ => exact h.elim
end
end DL
namespace DL
open PySem L2 Evl
end DL
namespace DL.Byt
open PySem PyProof.Rows PySem.W
section
variable {prog : Program} {w : World} {A : Around} {E : Value → Shared → Prop} {s : Shared} {b : Array UInt8} {t : Tok}
theorem nextOf_item {it : Addr} {i : Nat} {c : UInt8} {Q : Value → Shared → Prop} (hit : KBw.IsBytesIter s.heap it b t i) (hx : b[i]? = some c)
    (hQ : ∀ h', KBw.IsBytesIter h' it b t (i + 1) → Heap.SameBut it s.heap h' → Q (.int (c.toNat : Int) s.toks) { s with heap := h', toks := s.toks + 1 }) : wpAny (model prog w) A (Builtin.SmallTypes.nextOf (.ref it)) Q E s := by
  obtain ⟨ob, e1, e2, e3⟩ := id hit
  unfold Builtin.SmallTypes.nextOf
  refine wpAny_bind (wpAny_callSpecial?_slot (name := PySem.Str.ofString "__next__") (KBw.iter_typeIs hit) KBw.slot_next (wpAny_call_entry KBw.slot_next (KBw.iter_typeIs hit) KBw.entry_next ?_ (KBw.args_next _)))
  show wpAny _ _ (field (.ref it) 0 >>= fun _ => _) _ _ s
  refine wpAny_bind (wpAny_field e1 e3 (x := .bytes b t) (i := 0) rfl ?_)
  show wpAny _ _ (ite ((Value.bytes b t == Value.none) = true) _ _) _ _ s
  rw [if_neg (by exact Bool.false_ne_true)]
  show wpAny _ _ (field (.ref it) 1 >>= fun _ => _) _ _ s
  refine wpAny_bind (wpAny_field e1 e3 (x := .int i 0) (i := 1) rfl ?_)
  refine wpAny_bind ((wpAny_of_eq (a := b)) rfl ?_)
  simp only [hx, Int.toNat_natCast]
  refine wpAny_bind (wpAny_setField e1 e3 (by simp) (wpAny_bind (wpAny_mkInt (wpAny_pure ⟨_, rfl, wpAny_pure (hQ _ ⟨_, Heap.get?_update_self _ e1 (Obj.isFreed_of_fields (Obj.data_mapFields e3 _)), (Obj.cls_mapFields ..).trans e2, ?_⟩ (Heap.SameBut.update ..))⟩))))
  rw [Obj.data_mapFields e3]; simp [rawInt]
theorem nextOf_end {it : Addr} {i : Nat} {Q : Value → Shared → Prop} (hh : A.handled = none) (hit : KBw.IsBytesIter s.heap it b t i) (hx : b[i]? = none)
    (hE : ∀ h' e, Heap.ExtBut it s.heap h' → (∃ o, h'.get? e = some o ∧ o.cls = .type "StopIteration") → E (.ref e) { s with heap := h' }) : wpAny (model prog w) A (Builtin.SmallTypes.nextOf (.ref it)) Q E s := by
  obtain ⟨ob, e1, e2, e3⟩ := id hit
  unfold Builtin.SmallTypes.nextOf
  refine wpAny_bind (wpAny_callSpecial?_slot (name := PySem.Str.ofString "__next__") (KBw.iter_typeIs hit) KBw.slot_next (wpAny_call_entry KBw.slot_next (KBw.iter_typeIs hit) KBw.entry_next ?_ (KBw.args_next _)))
  show wpAny _ _ (field (.ref it) 0 >>= fun _ => _) _ _ s
  refine wpAny_bind (wpAny_field e1 e3 (x := .bytes b t) (i := 0) rfl ?_)
  show wpAny _ _ (ite ((Value.bytes b t == Value.none) = true) _ _) _ _ s
  rw [if_neg (by exact Bool.false_ne_true)]
  show wpAny _ _ (field (.ref it) 1 >>= fun _ => _) _ _ s
  refine wpAny_bind (wpAny_field e1 e3 (x := .int i 0) (i := 1) rfl ?_)
  refine wpAny_bind ((wpAny_of_eq (a := b)) rfl ?_)
  simp only [hx, Int.toNat_natCast]
  refine wpAny_bind (wpAny_rule (wpAny_bind ((wpAny_setField e1 e3) (by simp) ?_)))
  show wpAny _ _ (newExc (.type "StopIteration") [] >>= fun _ => _) _ _ _
  refine wpAny_bind ?_
  simp only [newTuple, newExc]
  refine wpAny_bind (wpAny_newObj_type (hd := by size_fits) ?_)
  refine wpAny_bind ((wpAny_of_eq (a := Value.none)) (by first | rfl | (simp only [firstArgMember]; rfl)) ?_)
  refine wpAny_newObj_type (hd := by size_fits) ?_
  simp only [raiseNew]
  refine wpAny_bind (wpAny_handled (by
    first | rw [show A.in1.handled = none from hh] | rw [hh]
    exact wpAny_bind (wpAny_pure (wpAny_throw (hE _ _ (((Heap.SameBut.update ..).extBut.push _).push _) ⟨_, Heap.get?_push_size _ rfl, rfl⟩)))))
end
theorem drawsB {prog : Program} {w : World} {A : Around} (hh : A.handled = none) (it : Addr) (b : Array UInt8) (t : Tok) :
    Draws prog w A it [it] b.size (fun i v => ∃ c u, b[i]? = some c ∧ v = .int (c.toNat : Int) u) (fun i h => KBw.IsBytesIter h it b t i) where
  live := fun _ _ st => by obtain ⟨o, ho, _⟩ := st; exact ⟨o, ho⟩
  frame := fun _ _ _ st hk => by obtain ⟨o, ho, r⟩ := st; exact ⟨o, hk it (by simp) o ho, r⟩
  item := fun i s Q E hi st hQ => nextOf_item st (c := b[i]) (by simp [hi]) fun h' x' sb => hQ _ h' (s.toks + 1) ⟨b[i], s.toks, by simp [hi], rfl⟩ x' sb
  done := fun s Q E st hE => nextOf_end hh st (by simp) hE
theorem beginsB (b : Array UInt8) (t : Tok) : Begins (.bytes b t) { cls := .type "bytes_iterator", data := .fields #[.bytes b t, .int 0 0] } fun _ => True where
  iter := fun _ _ _ _ _ _ _ q => KBw.pyIter_bytes q
  keeps := fun _ _ _ _ => trivial
  free := rfl
end DL.Byt
namespace DL
open PySem L2 Evl
inductive Src where
  | lst (a : Addr)
  | tup (a : Addr)
  | txt (y : Str)
  | byt (b : Array UInt8)
def Src.own : Src → List Addr
  | .lst a => [a]
  | .tup a => [a]
  | .txt _ => []
  | .byt _ => []
def Src.v : Src → V
  | .lst a => .ref a
  | .tup a => .ref a
  | .txt y => .str y
  | .byt b => .byt b
def Src.st (k : Src) (t : Tok) (it : Addr) (i : Nat) (h : Heap) : Prop := match k with
  | .lst a => h.IsListIter it a i
  | .tup a => h.IsTupleIter it a i
  | .txt y => h.IsStrIter it (strIterType y) y t i
  | .byt b => PySem.W.KBw.IsBytesIter h it b t i
def Src.at (K : PySem.W.Frag) (H : Hp) (k : Src) (xs : List V) : Prop := match k with
  | .lst a => SqL K H a xs
  | .tup a => SqT K H a xs
  | .txt y => xs = y.cps.toList.map fun c => .str ⟨#[c]⟩
  | .byt b => xs = b.toList.map fun c => .int ((c.toNat : Nat) : Int)
theorem Src.ext {K : PySem.W.Frag} {G H : Hp} {k : Src} {xs : List V} (e : Ex G H) (h : k.at K G xs) : k.at K H xs := by
  cases k with
  | lst a => exact ex_l e h
  | tup a => exact ex_t e h
  | txt y => exact h
  | byt b => exact h
theorem Src.obj {k : Src} {t : Tok} {it : Addr} {i : Nat} {h : Heap} (st : k.st t it i h) : ∃ o, h.get? it = some o ∧ ∀ v, o.data ≠ .cell v := by
  cases k with
  | lst a => obtain ⟨o, e, c, d⟩ := st; exact ⟨o, e, fun v z => by rw [d] at z; cases z⟩
  | tup a => obtain ⟨o, e, c, d⟩ := st; exact ⟨o, e, fun v z => by rw [d] at z; cases z⟩
  | txt y => obtain ⟨o, e, c, d⟩ := st; exact ⟨o, e, fun v z => by rw [d] at z; cases z⟩
  | byt b => obtain ⟨o, e, c, d⟩ := st; exact ⟨o, e, fun v z => by rw [d] at z; cases z⟩
theorem Src.keep {k : Src} {t : Tok} {it : Addr} {i : Nat} {h h' : Heap} (st : k.st t it i h) (hk : ∀ o, h.get? it = some o → h'.get? it = some o) : k.st t it i h' := by
  cases k with
  | lst a => obtain ⟨o, e, r⟩ := st; exact ⟨o, hk o e, r⟩
  | tup a => obtain ⟨o, e, r⟩ := st; exact ⟨o, hk o e, r⟩
  | txt y => obtain ⟨o, e, r⟩ := st; exact ⟨o, hk o e, r⟩
  | byt b => obtain ⟨o, e, r⟩ := st; exact ⟨o, hk o e, r⟩
theorem lstIter_ne {h : Heap} {a b : Addr} {us : Array Value} {i : Nat} (x : h.IsList a us) (y : h.IsListIter b a i) : a ≠ b := fun z => by
  subst z
  obtain ⟨o, h1, h2, _⟩ := x
  obtain ⟨u, k1, k2, _⟩ := y
  rw [h1] at k1
  cases k1
  rw [h2] at k2
  exact absurd k2 (by simp)
theorem Src.draws {X : Cx} {pins : List (Addr × Obj)} {σ : St} {H : Hp} {s : Shared} (I : Inv X pins σ H s) (hc : X.calm = true) {k : Src} {xs : List V} (h : k.at X.K H xs) {t : Tok} {it : Addr} {i : Nat} (st : k.st t it i s.heap) :
    ∃ (P : Nat → Value → Prop) (S : Nat → Heap → Prop), Draws X.prog X.w X.A.in1 it (it :: k.own) xs.length P S ∧ S i s.heap ∧ (∀ j h', S j h' → k.st t it j h') ∧ ∀ j v, P j v → ∃ x, xs[j]? = some x ∧ RelV x v := by
  have hh : X.A.in1.handled = none := I.ok.hd hc
  cases k with
  | lst a =>
    obtain ⟨its, rv, p, hz⟩ := I.list h
    have el : its.toArray.size = xs.length := by rw [rv.length]; simp
    refine ⟨_, _, el ▸ Draws.list hh it a (lstIter_ne p.isList st) its.toArray, ⟨st, p.isList⟩, fun j h' s => s.1, fun j v q => ?_⟩
    have q : its[j]? = some v := by simpa using q
    have hj : j < xs.length := by rw [rv.length]; exact (List.getElem?_eq_some_iff.mp q).1
    obtain ⟨u, hu, ru⟩ := rv.get (List.getElem?_eq_getElem hj)
    rw [q] at hu
    cases hu
    exact ⟨_, List.getElem?_eq_getElem hj, ru⟩
  | tup a =>
    obtain ⟨its, rv, p, hz⟩ := I.tuple h
    have el : its.toArray.size = xs.length := by rw [rv.length]; simp
    refine ⟨_, _, el ▸ Draws.tuple hh it a (tupIter_ne p st) its.toArray, ⟨st, p⟩, fun j h' s => s.1, fun j v q => ?_⟩
    have q : its[j]? = some v := by simpa using q
    have hj : j < xs.length := by rw [rv.length]; exact (List.getElem?_eq_some_iff.mp q).1
    obtain ⟨u, hu, ru⟩ := rv.get (List.getElem?_eq_getElem hj)
    rw [q] at hu
    cases hu
    exact ⟨_, List.getElem?_eq_getElem hj, ru⟩
  | txt y =>
    have h : xs = y.cps.toList.map fun c => .str ⟨#[c]⟩ := h
    have el : y.cps.size = xs.length := by rw [h]; simp
    refine ⟨_, _, el ▸ Draws.text hh it y t, st, fun j h' s => s, fun j v q => ?_⟩
    obtain ⟨c, u, hc', rfl⟩ := q
    exact ⟨.str ⟨#[c]⟩, by rw [h]; simp [hc'], ⟨u, rfl⟩⟩
  | byt b =>
    have h : xs = b.toList.map fun c => .int ((c.toNat : Nat) : Int) := h
    have el : b.size = xs.length := by rw [h]; simp
    refine ⟨_, _, el ▸ Byt.drawsB hh it b t, st, fun j h' s => s, fun j v q => ?_⟩
    obtain ⟨c, u, hc', rfl⟩ := q
    exact ⟨.int ((c.toNat : Nat) : Int), by rw [h]; simp [hc'], ⟨u, rfl⟩⟩
end DL
namespace DL
open PySem L2 Evl
def ItE (K : PySem.W.Frag) (k : Src) (xs : List V) (c : Int) : It :=
  ⟨fun i H => k.at K H xs ∧ i < xs.length,
    fun i H v H' => ∃ T x, v = .ref T ∧ H T = none ∧ H' = upd H T (.tup [.int (c + (i : Nat)), x]) ∧ xs[i]? = some x,
    fun i H => k.at K H xs ∧ xs.length ≤ i⟩
theorem turn_enumS {P : Program} {w : World} {K : PySem.W.Frag} {elts : List Expr} {kk : Nat} {tpos : Pos} {k : Src} {xs : List V} {c : Int} {e it : Addr} {t : Tok} (hei : e ≠ it) (hef : e ∉ it :: k.own) :
    Turn P w K (.Tuple elts kk tpos) (ItE K k xs c) [e, it] e (fun i h => ((∃ old, IsEnum h e it (c + (i : Nat)) old) ∧ k.st t it i h) ∧ i ≤ xs.length) where
  mem := by simp
  obj := fun i h st b hb => by
    obtain ⟨⟨⟨old, he⟩, h1⟩, _⟩ := st
    rcases (show b = e ∨ b = it by simpa using hb) with z | z
    · rw [z]; exact ⟨_, he, fun v q => nomatch q⟩
    · rw [z]; exact Src.obj h1
  keep := fun i h h' ⟨⟨⟨old, he⟩, h1⟩, b⟩ k => ⟨⟨⟨old, k e (by simp) _ he⟩, Src.keep h1 fun o q => k it (by simp) o q⟩, b⟩
  item := by
    intro X hP hw hK hc i pins s σ H E I hf st hg
    subst hP hw hK
    obtain ⟨⟨⟨old, he⟩, h1⟩, hb⟩ := st
    obtain ⟨q1, l1⟩ := hg
    obtain ⟨P1, S1, D1, s1, f1, g1⟩ := Src.draws I hc q1 h1
    have hel : e < s.heap.objs.size := Heap.lt_size he
    have hil : it < s.heap.objs.size := by obtain ⟨_, q, _⟩ := Src.obj h1; exact Heap.lt_size q
    refine wpAny_pyNext_enum_itemC D1 he s1 l1 hei hef fun u h' tk p1 ho n1 hT hsz hk => ?_
    obtain ⟨x, hx, ru⟩ := g1 _ _ p1
    refine ⟨_, rfl, wpAny_letOwnedTupleGo_enum (s := { s with heap := h', toks := tk + 1 }) ho fun h'' he' sb => ?_⟩
    have hT2 : h''.get? s.heap.objs.size = some { cls := .type "tuple", data := .seq #[.int (c + (i : Nat)) tk, u] } := (sb.2 _ (Nat.ne_of_gt hel)).trans hT
    have new : ObjOk X.prog X.w (upd H s.heap.objs.size (.tup [.int (c + (i : Nat)), x])) h'' s.heap.objs.size (.tup [.int (c + (i : Nat)), x]) :=
      ⟨by show 2 ≤ sizeLine; decide, [.int (c + (i : Nat)) tk, u], .cons ⟨_, rfl⟩ (.cons ru .nil), ⟨_, hT2, rfl, _, rfl⟩⟩
    have I1 : Inv X pins σ (upd H s.heap.objs.size (.tup [.int (c + (i : Nat)), x])) { s with heap := h'', toks := tk + 1 } :=
      I.turnedNew (ch := [e, it]) (fun b ob hb q => (sb.2 b (fun z => hb (by simp [z]))).trans (hk b ob (fun z => hb (by simp [z])) (fun z => hb (by simp [z])) q)) hf (Nat.le_refl _) new
    refine ⟨.ref s.heap.objs.size, _, I1, rfl, ⟨_, x, rfl, I.hok.fresh (Nat.le_refl _), rfl, hx⟩, ⟨⟨⟨u, ?_⟩, ?_⟩, l1⟩, fun b hb => ?_⟩
    · rw [show c + ((i + 1 : Nat) : Int) = c + (i : Nat) + 1 by omega]; exact he'
    · exact Src.keep (f1 _ _ n1) fun o q => (sb.2 _ hei.symm).trans q
    · have hb' : b < s.heap.objs.size := by
        rcases (show b = e ∨ b = it by simpa using hb) with z | z
        · rw [z]; exact hel
        · rw [z]; exact hil
      rw [upd_ne (Nat.ne_of_lt hb')]
      exact (hf b hb).1
  done := by
    intro X hP hw hK hc i pins s σ H E I hf st hg
    subst hP hw hK
    obtain ⟨⟨⟨old, he⟩, h1⟩, hb⟩ := st
    obtain ⟨q1, l1⟩ := hg
    obtain ⟨P1, S1, D1, s1, f1, g1⟩ := Src.draws I hc q1 h1
    have e1 : i = xs.length := by omega
    subst e1
    obtain ⟨f0, f1, f2, f3, f4, f5⟩ := hf it (by simp)
    exact wpAny_pyNext_enum_endD D1 he s1 fun h' eb => ⟨rfl, I.turned (t' := s.toks) (fun b o hb q => eb b o hb q) f0 f1 f3 f4 f5⟩
  self := fun A i s Q E ⟨⟨⟨_, he⟩, _⟩, _⟩ h => wpAny_pyIter_enum he h
section
open PySem.Spec PyProof.Rows
variable {M : Model} {A : Around} {E : Value → Shared → Prop} {s : Shared} {env : Env}
end
def enumKD (c : Int) (ds : List D) : List D := ds.zipIdx.map fun p => .tup [.int (c + (p.2 : Int)), p.1]
theorem enumKD_length {c : Int} {ds : List D} : (enumKD c ds).length = ds.length := by simp [enumKD]
theorem enumKD_get {c : Int} {ds : List D} {i : Nat} {d : D} (h : (enumKD c ds)[i]? = some d) : ∃ e, ds[i]? = some e ∧ d = .tup [.int (c + (i : Int)), e] := by
  simp only [enumKD, List.getElem?_map, List.getElem?_zipIdx, Option.map_map, Option.map_eq_some_iff] at h
  obtain ⟨e, he, rfl⟩ := h
  exact ⟨e, he, by simp⟩
section
variable {K : PySem.W.Frag} {pa : PaG} {W : WX} {te : TE} {de : DE} {ta tk : TA} {da dk : DA}
theorem itOk_enumK {G : Hp} {k : Src} {xs : List V} {ds : List D} {c : Int} (h : k.at K G xs) (r : Reps K G xs ds) : ItOk K G (ItE K k xs c) (enumKD c ds) where
  go := fun i H e hi => ⟨Src.ext e h, by rw [r.length]; rwa [enumKD_length] at hi⟩
  stop := fun i H e hi => ⟨Src.ext e h, by rw [r.length]; rwa [enumKD_length] at hi⟩
  yld := fun i H x H' y G1 e1 e2 d hd => by
    obtain ⟨T, u, rfl, hT, rfl, hu⟩ := y
    obtain ⟨a, ha, rfl⟩ := enumKD_get hd
    obtain ⟨u', q1, ru⟩ := r.get ha
    rw [hu] at q1
    cases q1
    have al := Al.one (G := G1) (p := T) (o := .tup [.int (c + (i : Nat)), u]) e2 hT
    exact ⟨_, al, .tup (SqT.of upd_same) (.cons (.int _) (.cons ((ru.mono e1).mono al.g) .nil))⟩
end
end DL
namespace DL
open PySem L2 Evl StX
def D.split : D → D → Option D
  | .str a, .str b => if (b.length == 0) = false ∧ a.length + 2 ≤ sizeLine then some (.lst ((Txt.split a b).map .str)) else none
  | _, _ => none
section
variable {K : PySem.W.Frag} {pa : PaG} {W : WX} {te tf : TE} {de df : DE} {ta : TA} {da : DA}
section
open PySem.Spec PyProof.Rows
variable {X : Cx}
end
end
section
open PySem.Spec PyProof.Rows
variable {X : Cx} {CX : CXT} {k : Nat} {f C : Addr} {fd : FuncData} {ps : List Str} {sp : Sp} {E : XK} {x : Str} {e : Expr} {te : TE} {p sp_ pos : Pos} {ds : List Value} {dvs : List V}
end
end DL
namespace DL
open PySem L2 Evl
def dPopAt (i : Nat) (dk : DE) : DE := fun ρ q er => Opt (ownAt ρ i) fun d0 => d0.isLst = true ∧ dk ρ (fun s ρ1 => Opt (rd ρ1 s) fun k => Opt (ownAt ρ1 i) fun d => match d, k with
    | .lst ds, .int z => (-(2 ^ 63) ≤ z ∧ z < 2 ^ 63) ∧ Opt (seqIndex? z ds.length) fun j => Opt (ds[j]?) fun y => q (.val y) (setD ρ1 i (.lst (ds.eraseIdx j)))
    | _, _ => False) er
theorem Reps.erase' {K : PySem.W.Frag} {G : Hp} : ∀ {vs : List V} {ds : List D} (n : Nat), Reps K G vs ds → Reps K G (vs.eraseIdx n) (ds.eraseIdx n)
  | _, _, _, .nil => .nil
  | _, _, 0, .cons r rr => rr
  | _, _, n + 1, .cons r rr => .cons r (Reps.erase' n rr)
section
variable {K : PySem.W.Frag} {pa : PaG} {W : WX} {te tk : TE} {de dk : DE}
theorem se_popAt {i : Nat} (hk : SE K pa W tk dk) : SE K pa W (tBM K "list" rPopAt (tVar i) (tCons tk tNil)) (dPopAt i dk) := fun F G σ H ρ Q q er S h k x => by
  obtain ⟨d0, e0, hl, h⟩ := h
  obtain ⟨s, es, ed⟩ := ownAt_some e0
  obtain ⟨p, hp, gp, ow⟩ := S.own i s d0 es ed
  obtain ⟨vs0, hv0⟩ := own_lst ow hl
  refine ⟨.ref p, hp, .inl ⟨rfl, vs0, SqL.of hv0⟩, ?_⟩
  refine hk F G σ H ρ _ _ er S h (fun G1 H1 u s1 ρ1 e1 S1 r1 h1 => ?_) x
  obtain ⟨kd, ek, d, ed1, h3⟩ := h1
  obtain ⟨s2, es2, ed2⟩ := ownAt_some ed1
  obtain ⟨b, hb, gb, ow1⟩ := S1.own i s2 d es2 ed2
  rw [hp] at hb
  cases hb
  cases d with
  | lst ds =>
    cases kd with
    | int z =>
      obtain ⟨vs, hv, rr⟩ := ow1
      have rz := (S1.rdT r1 ek).int
      subst rz
      obtain ⟨⟨b1, b2⟩, j, ej, y, ey, h4⟩ := h3
      obtain ⟨v, hvj, ry⟩ := rr.get ey
      refine ⟨p, vs, z, j, v, rfl, rfl, hv, b1, b2, by rw [rr.length]; exact ej, hvj, ?_⟩
      exact k G1 _ v (.val y) _ e1 (S1.mut (e := .lst (ds.eraseIdx j)) es2 ed2 hp ⟨_, upd_same, rr.erase' _⟩) ry h4
    | _ => exact h3.elim
  | _ => cases kd <;> exact h3.elim
end
section
open PySem.Spec PyProof.Rows
end
end DL
namespace DL
open PySem L2 Evl
end DL
namespace DL
open PySem L2 Evl
def dAddF (da db : DE) : DF := fun ρ q er => da ρ (fun s ρ1 => db ρ1 (fun t ρ2 => Opt (rd ρ2 s) fun a => Opt (rd ρ2 t) fun b => match a, b with
  | .lst xs, .lst ys => xs.length + ys.length ≤ sizeLine ∧ q (.lst (xs ++ ys)) ρ2
  | _, _ => False) er) er
section
variable {K : PySem.W.Frag} {pa : PaG} {W : WX} {te ta tb : TE} {de da db : DE} {tl th : TO} {dl dh : DO}
theorem sf_addL (ha : SE K pa W ta da) (hb : SE K pa W tb db) : SF K pa W (tOp (rAdd K) ta tb) (dAddF da db) := fun F G σ H ρ Q q er S h k x =>
  ha F G σ H ρ _ _ er S h (fun G1 H1 v s ρ1 e1 S1 r1 h1 => hb F G1 σ H1 ρ1 _ _ er S1 h1 (fun G2 H2 w t ρ2 e2 S2 r2 h2 => by
    obtain ⟨a, ea, b, eb, h3⟩ := h2
    have ra := S2.rdT (r1.mono e2) ea
    have rb := S2.rdT r2 eb
    cases a with
    | lst xs =>
      cases b with
      | lst ys =>
        obtain ⟨p, vs, rfl, h1, q1⟩ := ra.lst S2.ex
        obtain ⟨p2, vs2, rfl, h2, q2⟩ := rb.lst S2.ex
        exact .inr (.inr (.inl ⟨p, p2, vs, vs2, rfl, rfl, h1, h2, by rw [q1.length, q2.length]; exact h3.1, fun l hl => k G2 _ l (.lst (xs ++ ys)) ρ2 (e1.trans e2) (S2.new hl) ⟨fresh_back S2.ex hl, fresh_back S2.fx hl⟩ ⟨_, upd_same, q1.append q2⟩ (fresh_no S2 hl) h3.2⟩))
      | _ => exact h3.elim
    | _ => cases b <;> exact h3.elim) (x.grow e1)) x
end
end DL
namespace DL
open PySem L2 Evl PySem.Spec PyProof.Rows LamX
structure LmS (N : List Str) (sc scope : Scope) : Prop where
  fn : scope.kind = .function
  nc : scope.isCoroutine = false
  ng : scope.isGenerator = false
  cl : ∀ y ∈ scope.names, y.2 ≠ .cell
  lo : ∀ y ∈ scope.names, y.2 = .local → y.1 ∉ N
  fr : ∀ y ∈ scope.names, y.2 = .free → sc.names.lookup y.1 = some .cell ∨ sc.names.lookup y.1 = some .free
section
variable {X : Cx} {pins : List (Addr × Obj)} {σ : L2.St} {H HZ : Hp} {s s1 : Shared}
theorem LmS.cells {scope : Scope} (L : LmS X.N X.env.scope scope) (ok : X.Ok) : ∀ y ∈ scope.names, y.2 = .free → ∃ c, X.env.cells.lookup y.1 = some c :=
  fun y hy e => ok.has _ ((L.fr y hy e).imp id id)
end
end DL
namespace DL
open PySem L2 Evl PySem.Spec PyProof.Rows LamX
end DL
namespace DL
open PySem L2 Evl PySem.Spec PyProof.Rows LamX
abbrev LW := (D → Prop) → (Addr → List (Str × D) → Prop) → Prop
section
variable {K : PySem.W.Frag} {T : List (Addr × Str)} {G0 : Hp}
def LamOk (K : PySem.W.Frag) (T : List (Addr × Str)) (tl : XK → Hp → VK → Prop) (lw : LW) (G0 : Hp) : Prop := ∀ (E : XK) (F G H : Hp) (Q : VK) (q : D → Prop) (er : Addr → List (Str × D) → Prop), Ex G0 G → Ex G H → Ex F H → DjT T F G H → lw q er →
  (∀ G' H' v d, Ex G G' → Ex G' H' → Ex F H' → DjT T F G' H' → Rep K G' v d → q d → Q v H') →
  (∀ G' H' C y fv fs, Ex G G' → Ex G' H' → Ex F H' → DjT T F G' H' → G' y = some (.xd fv) → RepF K G' fv fs → er C fs → E (.ref C) (some y) H') → tl E H Q
theorem LamOk.mono {tl : XK → Hp → VK → Prop} {lw : LW} {G1 : Hp} (h : LamOk K T tl lw G0) (e : Ex G0 G1) : LamOk K T tl lw G1 := fun E F G H Q q er h1 => h E F G H Q q er (e.trans h1)
end
end DL
namespace DL
open PySem L2 Evl PySem.Spec PyProof.Rows
section
variable {P : Program} {w : World} {K : PySem.W.Frag} {mg mb : Str → Option Value} {s : Shared} {H : Hp}
theorem hid_ns (own : ∀ b, H b ≠ none → ∃ o its n, s.heap.get? b = some o ∧ o.data = .seq its n) {b : Addr} {m : Str → Option Value} (h : s.heap.Ns b m) : (hidT s.heap H).Ns b m := by
  obtain ⟨o, es, ep, e, d, r⟩ := h
  have n : H b = none := Classical.byContradiction fun z => by
    obtain ⟨o', its, n, e', d'⟩ := own b z
    rw [e] at e'; cases e'
    rw [d] at d'; cases d'
  exact ⟨o, es, ep, hidT_get e n, d, r⟩
theorem env_hid (KX : K.In s.heap) (g : s.heap.Ns mainGlobals mg) (b : s.heap.Ns builtinsNs mb) (bb : ∀ x : Str, x ≠ "__name__" → mb x = bootBuiltins x) (lim : s.heap.NoLimit) (gens : s.gens = #[])
    (own : ∀ b, H b ≠ none → ∃ o its n, s.heap.get? b = some o ∧ o.data = .seq its n) (free : ∀ b, H b ≠ none → K.lookup b = none) (hok : HOk P w H s.heap) :
    K.In (hidT s.heap H) ∧ (hidT s.heap H).Ns mainGlobals mg ∧ Env0 P w K mg (hidT s.heap H) callerA [] s H := by
  have k1 : K.In (hidT s.heap H) := fun a o e => hidT_get (KX a o e) (Classical.byContradiction fun z => by have := free a z; rw [e] at this; cases this)
  have g1 := hid_ns own g
  obtain ⟨mc, c1, c2⟩ := lim
  have M : Mod K mg (hidT s.heap H) := ⟨k1, g1, ⟨mb, hid_ns own b, bb⟩, mc, hid_ns own c1, c2⟩
  refine ⟨k1, g1, { frames := rfl, mod := M, bs := fun a o e => of_hidT e, bsz := Nat.le_of_eq (hidT_size _ _), funs := trivial, frf := ?_, hok := hok, bare := .of_eq gens }⟩
  intro a ha
  cases ha
end
section
variable {P : Program} {w : World} {K : PySem.W.Frag} {mg mb : Str → Option Value} {k : Nat} {fa a : Addr} {fd : FuncData} {x : Str} {sp : Sp} {s : Shared} {vs : List Value} {ns : List Int}
theorem lawG (KX : K.In s.heap) (g : s.heap.Ns mainGlobals mg) (b : s.heap.Ns builtinsNs mb) (bb : ∀ x : Str, x ≠ "__name__" → mb x = bootBuiltins x) (lim : s.heap.NoLimit) (gens : s.gens = #[])
    (ha : s.heap.get? a = some { cls := .type "list", data := .seq vs.toArray }) (hi : IntsAre vs ns) (hl : ns.length ≤ sizeLine) (hr : Room k callerA)
    (F : ∀ base : Heap, K.In base → base.Ns mainGlobals mg → FnG P w K mg base CX0 k fa fd [x] sp) (hbind : ∀ (s : Shared) (u : Value), BindsTo s fd ⟨[u], []⟩ [(x, u)])
    (hsp : ∀ H : Hp, Only H → SqL K H a (ns.map V.int) → sp [.ref a] H (fun v _ => v = .bl true) fun _ _ _ => False) :
    codeAny (model P w) callerA (.call (.ref fa) ⟨[.ref a], []⟩) (fun r s' => r = .ok (.ret (.bool true)) ∧ OldK s.heap s'.heap ∧ s'.os = s.os ∧ AllBare s'.gens) s := by
  have V1 := vals_ints hi
  let ob : Obj := { cls := .type "list", data := .seq vs.toArray }
  -- with any abstract heap that tracks the script at most
  have go : ∀ H : Hp, (∀ c u, H c = some u → c = a ∧ K.lookup a = none ∧ u = .frz ob (.lst (ns.map V.int))) → SqL K H a (ns.map V.int) → HOk P w H s.heap →
      codeAny (model P w) callerA (.call (.ref fa) ⟨[.ref a], []⟩) (fun r s' => r = .ok (.ret (.bool true)) ∧ OldK s.heap s'.heap ∧ s'.os = s.os ∧ AllBare s'.gens) s := by
    intro H only hS hok
    have some' : ∀ c, H c ≠ none → ∃ u, H c = some u := fun c z => Option.ne_none_iff_exists'.mp z
    have hO : Only H := fun c => by
      cases q : H c with
      | none => exact .inl rfl
      | some u => exact .inr ⟨_, _, by rw [(only c u q).2.2]⟩
    obtain ⟨k1, g1, e0⟩ := env_hid (P := P) (w := w) KX g b bb lim gens (fun c z => by obtain ⟨u, q⟩ := some' c z; rw [(only c u q).1]; exact ⟨_, _, _, ha, rfl⟩) (fun c z => by obtain ⟨u, q⟩ := some' c z; obtain ⟨h1, h2, _⟩ := only c u q; rw [h1]; exact h2) hok
    have run := (F _ k1 g1).run callerA rfl [] s H ⟨[.ref a], []⟩ [.ref a] [.ref a] _ _ hr e0 (hbind s (.ref a)) (.cons rfl .nil) (hsp H hO hS)
    refine codeAny_mono run fun r s' h => ?_
    match r, h with
    | .ok (.ret u), ⟨v, H', os, bare, un, hok', rv, q⟩ =>
      have q : v = .bl true := q
      subst q
      obtain rfl : u = Value.bool true := rv
      refine ⟨rfl, OldK.of_keep fun c o e => ?_, os, bare⟩
      cases q : H c with
      | none => exact un.keep c o e q (fun z => by cases z) (fun z => by cases z)
      | some u =>
        obtain ⟨h1, h2, rfl⟩ := only c u q
        subst h1
        have e2 := (hok' c _ (un.frzs c _ _ q)).1
        have e1 := (hok c _ q).1
        rw [e] at e1; cases e1
        exact e2
  cases hk : K.lookup a with
  | some o =>
    have e := KX a o hk
    rw [ha] at e
    cases e
    exact go (fun _ => none) (fun _ _ z => by cases z) (.inr ⟨_, vs.toArray, _, hk, rfl, rfl, rfl, by rw [List.size_toArray, hi.length]; exact hl, by simpa using V1⟩) fun _ _ z => by cases z
  | none =>
    refine go (fun c => if c = a then some (.frz ob (.lst (ns.map V.int))) else none) (fun c u z => ?_) (.inl (.inr ⟨ob, if_pos rfl⟩)) fun c u z => ?_
    · by_cases hc : c = a
      · exact ⟨hc, hk, by have z : (if c = a then some (HO.frz ob (.lst (ns.map V.int))) else none) = some u := z; rw [if_pos hc] at z; cases z; rfl⟩
      · have z : (if c = a then some (HO.frz ob (.lst (ns.map V.int))) else none) = some u := z; rw [if_neg hc] at z; cases z
    · have z : (if c = a then some (HO.frz ob (.lst (ns.map V.int))) else none) = some u := z
      by_cases hc : c = a
      · rw [if_pos hc] at z; cases z
        subst hc
        exact ⟨ha, by rw [List.length_map]; exact hl, vs, _, V1, ha⟩
      · rw [if_neg hc] at z; cases z
end
theorem walk_ofG {l : PySem.W.OpenLaw} {n k : Nat} {q : Program} {loose : List Str} {XP : (Str → Option Value) → Heap → Prop} {YP : World → Heap → Prop} {d : DefRec} {CX : CXT} {x : Str}
    (hn : l.most = some n) (hn2 : n ≤ sizeLine) (hdf : d.params.defaults = []) (hr : Room k callerA)
    (F : ∀ (w : World) (mg : Str → Option Value) (fa : Addr) (h : Heap), YP w h → h.Ns mainGlobals mg → mg d.name = some (.ref fa) →
      ∃ (K : PySem.W.Frag) (fd : FuncData) (sp : Sp), K.In h ∧ (∀ (s : Shared) (u : Value), BindsTo s fd ⟨[u], []⟩ [(x, u)]) ∧
        (∀ (H : Hp) (a : Addr) (ns : List Int), ns.length ≤ n → Only H → SqL K H a (ns.map V.int) → sp [.ref a] H (fun v _ => v = .bl true) fun _ _ _ => False) ∧
        ∀ base : Heap, K.In base → base.Ns mainGlobals mg → FnG l.prog w K mg base CX0 k fa fd [x] sp)
    (_ : ∀ (H : Hp) (s : Shared) (e : Value) (s' : Shared), CX [] H s (fun _ _ _ => False) e s' → False) :
    PySem.W.WalkO q loose XP YP l.row.toRowW d [] (fun f vs => PySem.call f vs) := by
  refine Att.attach_call hn hdf fun w s₀ s₁ mg mb fa o pm cd doc a vs ns G Y ho hd hcd hmg hobj hints hlen hg => ?_
  obtain ⟨K, fd, sp, KX, hb, hsp, hF⟩ := F w mg fa _ Y G.T.g hmg
  exact lawG KX G.T.g G.T.b G.T.builtins G.T.nolimit hg hobj hints (Nat.le_trans hlen hn2) hr hF hb fun H hO hS => hsp H a ns hlen hO hS
end DL
namespace DL
open PySem L2 Evl PySem.Spec PyProof.Rows LamX
def SpVT (K : PySem.W.Frag) (T : List (Addr × Str)) (n : Nat) (dsp : DSp) : Sp := fun vs H Q E => ∃ F G av, vs.length = n ∧ Ex G H ∧ Ex F H ∧ DjT T F G H ∧ ArgsR K F G H vs av ∧ (parsOf vs av).Nodup ∧ ∃ q er, dsp av q er ∧
  (∀ G' H' v d os, Ex G G' → Ex G' H' → Ex F H' → DjT T F G' H' → Outs K G' H' vs av os → Rep K G' v d → q d os → Q v H') ∧
  (∀ G' H' C y fv fs os, Ex G G' → Ex G' H' → Ex F H' → DjT T F G' H' → Outs K G' H' vs av os → G' y = some (.xd fv) → RepF K G' fv fs → er C fs os → E (.ref C) (some y) H')
theorem SpVT.len {K : PySem.W.Frag} {T : List (Addr × Str)} {n : Nat} {dsp : DSp} {vs : List V} {H : Hp} {Q : VK} {E : XK} (h : SpVT K T n dsp vs H Q E) : vs.length = n := by
  obtain ⟨_, _, _, h, _⟩ := h
  exact h
end DL
namespace DL
open PySem L2 Evl PySem.Spec PyProof.Rows
end DL
namespace DL
open PySem L2 Evl PySem.Spec PyProof.Rows
end DL
namespace DL
open PySem L2 Evl
end DL
namespace DL
open PySem L2 Evl PySem.Spec PyProof.Rows
section
variable {X : Cx}
def rNeL (K : PySem.W.Frag) : R2 := fun x y H Q => ∃ (a b : Addr) (xs ys : List V), x = .ref a ∧ y = .ref b ∧ SqL K H a xs ∧ SqL K H b ys ∧ xs.length ≠ ys.length ∧ Q (.bl true) H
theorem op_neL (hu : X.A.units + 64 < cLine) : OpR X (compareOp .NotEq) (rNeL X.K) := by
  intro pins s σ H x y v u Q I rx ry h
  obtain ⟨a, b, xs, ys, rfl, rfl, h1, h2, hl, q⟩ := h
  cases rx
  cases ry
  obtain ⟨us, r1, p1, _⟩ := I.list h1
  obtain ⟨ws, r2, p2, _⟩ := I.list h2
  show wpAny (model X.prog X.w) X.A (richCompare .NotEq (.ref a) (.ref b)) (EP X pins σ Q) X.xe s
  exact SeqAt.RcNeAt.lists_lengths p1.isList p2.isList (by rw [List.size_toArray, List.size_toArray, ← r1.length, ← r2.length]; simpa using hl) (by omega) _ _ _ _ ⟨V.bl true, H, I, rfl, q⟩
end
def D.neL (a b : D) : Option D := match a, b with
  | .lst xs, .lst ys => if xs.length = ys.length then none else some (.bl true)
  | _, _ => none
theorem sr_neL {K : PySem.W.Frag} : SR K (rNeL K) D.neL := fun G H x y dx dy z Q e rx ry q k => by
  cases dx with
  | lst xs =>
    cases dy with
    | lst ys =>
      have q : (if xs.length = ys.length then none else some (D.bl true)) = some z := q
      by_cases hl : xs.length = ys.length
      · rw [if_pos hl] at q; cases q
      · rw [if_neg hl] at q
        cases q
        obtain ⟨a, vs, rfl, h1, r1⟩ := rx.lst e
        obtain ⟨b, us, rfl, h2, r2⟩ := ry.lst e
        exact ⟨a, b, vs, us, rfl, rfl, h1, h2, by rw [r1.length, r2.length]; exact hl, k G H _ (Al.refl e) (.bl _)⟩
    | _ => cases q
  | _ => cases dy <;> cases q
end DL
namespace DL
open PySem L2 Evl PySem.Spec PyProof.Rows
theorem op_ne0 {X : Cx} (hu : X.A.units + 64 < cLine) : OpR X (compareOp .NotEq) (fun x y H Q => rNeX X.K x y H Q ∨ rNeL X.K x y H Q) := by
  intro pins s σ H x y v u Q I rx ry h
  rcases h with h | h
  · exact op_neX hu pins s σ H x y v u Q I rx ry h
  · exact op_neL hu pins s σ H x y v u Q I rx ry h
def D.ne0 (a b : D) : Option D := match a, b with
  | .lst xs, .lst ys => if xs.length = ys.length then D.neD (.lst xs) (.lst ys) else some (.bl true)
  | _, _ => none
theorem sr_ne0 {K : PySem.W.Frag} : SR K (fun x y H Q => rNeX K x y H Q ∨ rNeL K x y H Q) D.ne0 := SR.or sr_neX sr_neL fun a b z h => by
  cases a with
  | lst xs =>
    cases b with
    | lst ys =>
      have h : (if xs.length = ys.length then D.neD (.lst xs) (.lst ys) else some (D.bl true)) = some z := h
      by_cases hl : xs.length = ys.length
      · rw [if_pos hl] at h; exact .inl h
      · rw [if_neg hl] at h; exact .inr (by show (if xs.length = ys.length then none else some (D.bl true)) = _; rw [if_neg hl]; exact h)
    | _ => cases h
  | _ => cases b <;> cases h
theorem ne0_nil {xs : List D} : D.ne0 (.lst xs) (.lst []) = some (.bl (!xs.isEmpty)) := by
  cases xs <;> rfl
end DL
namespace DL
open PySem L2 Evl
abbrev Ar := Addr → Option (List D)
def upA (μ : Ar) (a : Addr) (ds : List D) : Ar := fun b => if b = a then some ds else μ b
theorem upA_same {μ : Ar} {a : Addr} {ds : List D} : upA μ a ds a = some ds := if_pos rfl
theorem upA_ne {μ : Ar} {a b : Addr} {ds : List D} (h : b ≠ a) : upA μ a ds b = μ b := if_neg h
def addF (F H : Hp) (μ : Ar) : Hp := fun b => if (μ b).isSome = true then H b else F b
section
variable {K : PySem.W.Frag} {pa : PaG} {F G G' H H' : Hp} {σ σ' : RSt} {ρ ρ' : Ro} {μ : Ar}
theorem addF_in {a : Addr} {ds : List D} (h : μ a = some ds) : addF F H μ a = H a := if_pos (by rw [h]; rfl)
theorem addF_out {a : Addr} (h : μ a = none) : addF F H μ a = F a := if_neg (by rw [h]; exact Bool.false_ne_true)
structure ASim (K : PySem.W.Frag) (pa : PaG) (F G : Hp) (σ : RSt) (H : Hp) (ρ : Ro) (μ : Ar) : Prop where
  at' : ∀ a ds, μ a = some ds → F a = none ∧ ∃ vs, H a = some (.lst vs) ∧ Reps K G vs ds
  sim : Sim K pa (addF F H μ) G σ H ρ
theorem ASim.F_ex (S : ASim K pa F G σ H ρ μ) : Ex F (addF F H μ) := fun b o h => by
  cases q : μ b with
  | none => rw [addF_out q]; exact h
  | some ds => rw [(S.at' b ds q).1] at h; cases h
theorem ASim.out (S : ASim K pa F G σ H ρ μ) : Sim K pa F G σ H ρ := S.sim.frame S.F_ex
theorem ASim.g0 (S : ASim K pa F G σ H ρ μ) {a : Addr} {ds : List D} (h : μ a = some ds) : G a = none := by
  obtain ⟨_, vs, hv, _⟩ := S.at' a ds h
  exact S.sim.dj.of a _ (by rw [addF_in h]; exact hv)
theorem ASim.own_ne (S : ASim K pa F G σ H ρ μ) {i : Nat} {s : Sl} {d : D} {p : Addr} (h1 : ρ[i]? = some s) (h2 : s.ownD = some d) (h3 : σ[i]? = some (some (.ref p))) : μ p = none := by
  cases q : μ p with
  | none => rfl
  | some ds =>
    obtain ⟨_, vs, hv, _⟩ := S.at' p ds q
    have := S.sim.ofr i s d p h1 h2 h3
    rw [addF_in q, hv] at this
    cases this
theorem Sim.refr {F2 : Hp} (S : Sim K pa F G σ H ρ) (fx : Ex F2 H) (dj : DjT pa.T F2 G H) (ofr : ∀ (i : Nat) (s : Sl) (d : D) (p : Addr), ρ[i]? = some s → s.ownD = some d → σ[i]? = some (some (.ref p)) → F2 p = none) : Sim K pa F2 G σ H ρ :=
  ⟨S.len, S.ex, fx, dj, S.val, S.own, ofr, S.par, S.gx, S.dis⟩
theorem ASim.new (S : ASim K pa F G σ H ρ μ) {p : Addr} (hp : H p = none) {vs : List V} {ds : List D} (r : Reps K G vs ds) : ASim K pa F G σ (upd H p (.lst vs)) ρ (upA μ p ds) := by
  have mp : μ p = none := by
    cases q : μ p with
    | none => rfl
    | some ds => obtain ⟨_, vs, hv, _⟩ := S.at' p ds q; rw [hp] at hv; cases hv
  have Fp : F p = none := fresh_back S.out.fx hp
  have Gp : G p = none := fresh_back S.sim.ex hp
  have S1 := S.sim.new (o := .lst vs) hp
  have e2 : addF F (upd H p (.lst vs)) (upA μ p ds) = upd (addF F H μ) p (.lst vs) := funext fun b => by
    by_cases z : b = p
    · subst z; rw [addF_in upA_same, upd_same, upd_same]
    · rw [upd_ne z]
      cases q : μ b with
      | none => rw [addF_out (by rw [upA_ne z]; exact q), addF_out q]
      | some ds' => rw [addF_in (by rw [upA_ne z]; exact q), addF_in q, upd_ne z]
  refine ⟨fun a ds' q => ?_, ?_⟩
  · by_cases z : a = p
    · subst z; rw [upA_same] at q; cases q; exact ⟨Fp, vs, upd_same, r⟩
    · rw [upA_ne z] at q
      obtain ⟨h1, vs', h2, h3⟩ := S.at' a ds' q
      exact ⟨h1, vs', by rw [upd_ne z]; exact h2, h3⟩
  · rw [e2]
    refine S1.refr (fun b o q => ?_) (S1.dj.fadd noCode_lst Gp (S.sim.dj.new hp)) fun i s d b h1 h2 h3 => ?_
    · by_cases z : b = p
      · subst z; rw [upd_same] at q ⊢; exact q
      · rw [upd_ne z] at q; exact S1.fx b o q
    · have := S1.ofr i s d b h1 h2 h3
      obtain ⟨b', q1, _, q3⟩ := S.sim.own i s d h1 h2
      rw [h3] at q1
      cases q1
      obtain ⟨o, ho⟩ := q3.some
      rw [upd_ne (fun z => by rw [z, hp] at ho; cases ho)]
      exact this
theorem ASim.mut (S : ASim K pa F G σ H ρ μ) {a : Addr} {ds ds' : List D} {vs' : List V} (h : μ a = some ds) (r : Reps K G vs' ds') : ASim K pa F G σ (upd H a (.lst vs')) ρ (upA μ a ds') := by
  obtain ⟨Fa, vs, hv, _⟩ := S.at' a ds h
  have Ga := S.g0 h
  have hne := S.sim.dj.ne hv noCode_lst
  have e2 : addF F (upd H a (.lst vs')) (upA μ a ds') = upd (addF F H μ) a (.lst vs') := funext fun b => by
    by_cases z : b = a
    · subst z; rw [addF_in upA_same, upd_same, upd_same]
    · rw [upd_ne z]
      cases q : μ b with
      | none => rw [addF_out (by rw [upA_ne z]; exact q), addF_out q]
      | some ds' => rw [addF_in (by rw [upA_ne z]; exact q), addF_in q, upd_ne z]
  refine ⟨fun b ds2 q => ?_, ?_⟩
  · by_cases z : b = a
    · subst z; rw [upA_same] at q; cases q; exact ⟨Fa, vs', upd_same, r⟩
    · rw [upA_ne z] at q
      obtain ⟨h1, vs2, h2, h3⟩ := S.at' b ds2 q
      exact ⟨h1, vs2, by rw [upd_ne z]; exact h2, h3⟩
  · rw [e2]
    have own_ne : ∀ (i : Nat) (s : Sl) (d : D) (p : Addr), ρ[i]? = some s → s.ownD = some d → σ[i]? = some (some (.ref p)) → p ≠ a := fun i s d p h1 h2 h3 z => by
      have := S.own_ne h1 h2 h3
      rw [z, h] at this
      cases this
    exact {
      len := S.sim.len
      ex := fun b o q => by rw [upd_ne (fun z => by rw [z, Ga] at q; cases q)]; exact S.sim.ex b o q
      fx := fun b o q => by
        by_cases z : b = a
        · subst z; rw [upd_same] at q ⊢; exact q
        · rw [upd_ne z] at q ⊢; exact S.sim.fx b o q
      dj := (S.sim.dj.mut hv noCode_lst).fadd noCode_lst Ga hne
      val := S.sim.val
      own := fun i s d h1 h2 => by
        obtain ⟨p, q1, q2, q3⟩ := S.sim.own i s d h1 h2
        exact ⟨p, q1, q2, q3.mono (Ex.refl G) (upd_ne (own_ne i s d p h1 h2 q1)).symm⟩
      ofr := fun i s d p h1 h2 h3 => by rw [upd_ne (own_ne i s d p h1 h2 h3)]; exact S.sim.ofr i s d p h1 h2 h3
      par := S.sim.par
      gx := S.sim.gx
      dis := S.sim.dis }
end
end DL
namespace DL
open PySem L2 Evl
structure ADo where
  nx : Ar → Ro → Prop
  rt : T → Ar → Ro → Prop
  rf : D → Ar → Ro → Prop
  bk : Ar → Ro → Prop
  ct : Ar → Ro → Prop
  er : ER
abbrev ADS := ADo → Ar → Ro → Prop
abbrev ADE := Ar → Ro → (D → Ar → Ro → Prop) → Prop
abbrev ADA := Ar → Ro → (List D → Ar → Ro → Prop) → Prop
section
variable (K : PySem.W.Frag) (pa : PaG)
structure LkA (F : Hp) (W : WX) (G : Hp) (D : Ends) (DA : ADo) : Prop where
  nx : ∀ G' σ' H' ρ' μ', Ex G G' → ASim K pa F G' σ' H' ρ' μ' → DA.nx μ' ρ' → D.nx σ' H'
  bk : ∀ G' σ' H' ρ' μ', Ex G G' → ASim K pa F G' σ' H' ρ' μ' → DA.bk μ' ρ' → D.bk σ' H'
  ct : ∀ G' σ' H' ρ' μ', Ex G G' → ASim K pa F G' σ' H' ρ' μ' → DA.ct μ' ρ' → D.ct σ' H'
  rt : ∀ G' σ' H' ρ' μ' v t, Ex G G' → ASim K pa F G' σ' H' ρ' μ' → TkR K G' σ' v t → DA.rt t μ' ρ' → D.rt v H'
  rf : ∀ G' σ' H' ρ' μ' p d, Ex G G' → ASim K pa F G' σ' H' ρ' μ' → G' p = none ∧ F p = none → OwnAt K G' H' p d → (∀ (i : Nat) (s : Sl) (d : DL.D), ρ'[i]? = some s → s.ownD = some d → σ'[i]? ≠ some (some (.ref p))) → DA.rf d μ' ρ' → D.rt (.ref p) H'
  er : ∀ G' σ' H' ρ' C d vs fs, Ex G G' → Sim K pa F G' σ' H' ρ' → DA.er C fs ρ' → G' d = some (.xd vs) → RepF K G' vs fs → W (.ref C) (some d) σ' H'
end
section
variable {K : PySem.W.Frag} {pa : PaG} {W : WX} {te ta tb : TE} {de : DE} {a b : ADE} {ts us : TS} {s u : ADS} {as : ADA} {tas : TA}
theorem LkA.grow {F G G' : Hp} {D : Ends} {DA : ADo} (e : Ex G G') (l : LkA K pa F W G D DA) : LkA K pa F W G' D DA :=
  ⟨fun a b c d m x => l.nx a b c d m (e.trans x), fun a b c d m x => l.bk a b c d m (e.trans x), fun a b c d m x => l.ct a b c d m (e.trans x), fun a b c d m v t x => l.rt a b c d m v t (e.trans x), fun a b c d m v t x => l.rf a b c d m v t (e.trans x), fun a b c d C y vs fs x => l.er a b c d C y vs fs (e.trans x)⟩
theorem ASim.zero {F G H : Hp} {σ : RSt} {ρ : Ro} (S : Sim K pa F G σ H ρ) : ASim K pa F G σ H ρ (fun _ => none) := ⟨fun a ds h => (by cases h), by
  have e : addF F H (fun _ => none) = F := funext fun b => addF_out rfl
  rw [e]; exact S⟩
end
end DL
namespace DL
open PySem L2 Evl
end DL
namespace DL
open PySem L2 Evl
abbrev DSpA := Ar → List D → (D → Ar → Prop) → Prop
def AtOk (K : PySem.W.Frag) (F G H : Hp) (μ : Ar) : Prop := ∀ a ds, μ a = some ds → F a = none ∧ ∃ vs, H a = some (.lst vs) ∧ Reps K G vs ds
def SpA (K : PySem.W.Frag) (n : Nat) (dsp : DSpA) : Sp := fun vs H Q E => vs.length = n ∧ ∃ (T : List (Addr × Str)) (F G : Hp) (μ : Ar) (ds : List D), Ex G H ∧ Ex (addF F H μ) H ∧ DjT T (addF F H μ) G H ∧ Reps K G vs ds ∧ AtOk K F G H μ ∧ ∃ q, dsp μ ds q ∧
  ∀ G' H' v d μ', Ex G G' → Ex G' H' → Ex (addF F H' μ') H' → DjT T (addF F H' μ') G' H' → Rep K G' v d → AtOk K F G' H' μ' → q d μ' → Q v H'
theorem SpA.len {K : PySem.W.Frag} {n : Nat} {dsp : DSpA} {vs : List V} {H : Hp} {Q : VK} {E : XK} (h : SpA K n dsp vs H Q E) : vs.length = n := h.1
end DL
namespace DL
open PySem L2 Evl
end DL
namespace DL
open PySem L2 Evl
end DL
namespace DL
open PySem L2 Evl
section
variable {K : PySem.W.Frag} {pa : PaG} {F G H : Hp} {σ σ' : RSt} {ρ : Ro} {μ : Ar}
theorem ASim.wipeTo {vs : List Nat} (S : ASim K pa F G σ H ρ μ) (h : wipe σ vs = wipe σ' vs) : ASim K pa F G σ' H (wipeD ρ vs) μ := ⟨S.at', S.sim.wipeTo h⟩
theorem ASim.free (S : ASim K pa F G σ H ρ μ) {p : Addr} (hp : H p = none) : μ p = none := by
  cases q : μ p with
  | none => rfl
  | some ds => obtain ⟨_, vs, hv, _⟩ := S.at' p ds q; rw [hp] at hv; cases hv
end
end DL
namespace DL
open PySem L2 Evl
end DL
namespace DL
open PySem L2 Evl
end DL
namespace DL
open PySem L2 Evl PySem.Spec PyProof.Rows
mutual
def D.toE : D → Option PyData
  | .non => some .none
  | .bl b => some (.bool b)
  | .int i => some (.int i)
  | .str x => some (.str x)
  | .lst xs => (D.toEs xs).map .list
  | .tup xs => (D.toEs xs).map .tuple
  | .dct [] => some (.dict [])
  | _ => none
def D.toEs : List D → Option (List PyData)
  | [] => some []
  | d :: ds => (D.toE d).bind fun p => (D.toEs ds).map fun ps => p :: ps
end
def Tol (d : D) (k w : Nat) : Prop := ∃ p, d.toE = some p ∧ p.showable = true ∧ p.depth ≤ k ∧ p.leavesShort 40 = true ∧ p.weight ≤ w
theorem Tol.mono {d : D} {k w k' w' : Nat} (h : Tol d k w) (hk : k ≤ k') (hw : w ≤ w') : Tol d k' w' := by
  obtain ⟨p, h1, h2, h3, h4, h5⟩ := h
  exact ⟨p, h1, h2, by omega, h4, by omega⟩
theorem Tol.non (k w : Nat) : Tol .non k w := ⟨_, rfl, rfl, Nat.zero_le _, rfl, Nat.zero_le _⟩
theorem Tol.bl (b : Bool) (k w : Nat) : Tol (.bl b) k w := ⟨_, rfl, rfl, Nat.zero_le _, rfl, Nat.zero_le _⟩
theorem Tol.dct (k w : Nat) : Tol (.dct []) (k + 1) w := ⟨_, rfl, rfl, Nat.succ_le_succ (Nat.zero_le _), rfl, Nat.zero_le _⟩
theorem Tol.int {i : Int} (h : i.natAbs < 10 ^ 32) (k : Nat) : Tol (.int i) k 110 := by
  have hl : i.natAbs.log2 < 110 - 1 := by
    rcases Nat.eq_zero_or_pos i.natAbs with e | e
    · rw [e]; decide
    · exact (Nat.log2_lt (by omega)).mpr (Nat.lt_of_lt_of_le h (by decide))
  refine ⟨_, rfl, ?_, Nat.zero_le _, ?_, ?_⟩
  · show decide (i.natAbs.log2 < 1920) = true
    exact decide_eq_true (by omega)
  · have e := int_text_length_le10 (k := 32) (by decide) h
    show decide ((PyData.shown (.int i)).length ≤ 40) = true
    refine decide_eq_true ?_
    show (Str.ofString (toString i)).length ≤ 40
    rw [PySem.ofString_length]; omega
  · show (if i == 0 then 0 else i.natAbs.log2 + 1) ≤ 110
    split <;> omega
theorem Tol.str {x : Str} (h : x.length ≤ 100) (hc : ∀ c ∈ x.cps.toList, c < 128) (k : Nat) : Tol (.str x) k 100 := by
  refine ⟨_, rfl, rfl, Nat.zero_le _, ?_, h⟩
  show (x.cps.toList.all fun c => decide (c < 16 ^ 8)) = true
  exact List.all_eq_true.mpr fun c m => decide_eq_true (Nat.lt_trans (hc c m) (by decide))
theorem tols {k w : Nat} : ∀ {xs : List D}, (∀ x ∈ xs, Tol x k w) → ∃ ps, D.toEs xs = some ps ∧ PyData.showableAll ps = true ∧ PyData.depthAll ps ≤ k ∧ PyData.leavesShortAll 40 ps = true ∧ PyData.weightAll ps ≤ xs.length * (w + 1)
  | [], _ => ⟨[], by rw [D.toEs], rfl, Nat.zero_le _, rfl, by simp [PyData.weightAll]⟩
  | d :: xs, h => by
    obtain ⟨p, h1, h2, h3, h4, h5⟩ := h d List.mem_cons_self
    obtain ⟨ps, g1, g2, g3, g4, g5⟩ := tols (xs := xs) fun x m => h x (List.mem_cons_of_mem _ m)
    refine ⟨p :: ps, by rw [D.toEs, h1, g1]; rfl, ?_, ?_, ?_, ?_⟩
    · rw [PyData.showableAll, h2, g2]; rfl
    · rw [PyData.depthAll]; omega
    · rw [PyData.leavesShortAll, h4, g4]; rfl
    · rw [PyData.weightAll, List.length_cons, Nat.succ_mul]; omega
theorem Tol.lst {k w : Nat} {xs : List D} (h : ∀ x ∈ xs, Tol x k w) : Tol (.lst xs) (k + 1) (xs.length * (w + 1)) := by
  obtain ⟨ps, g1, g2, g3, g4, g5⟩ := tols h
  exact ⟨.list ps, by rw [D.toE, g1]; rfl, by rw [PyData.showable]; exact g2, by rw [PyData.depth]; omega, by rw [PyData.leavesShort]; exact g4, by rw [PyData.weight]; exact g5⟩
theorem Tol.tup {k w : Nat} {xs : List D} (h : ∀ x ∈ xs, Tol x k w) : Tol (.tup xs) (k + 1) (xs.length * (w + 1)) := by
  obtain ⟨ps, g1, g2, g3, g4, g5⟩ := tols h
  exact ⟨.tuple ps, by rw [D.toE, g1]; rfl, by rw [PyData.showable]; exact g2, by rw [PyData.depth]; omega, by rw [PyData.leavesShort]; exact g4, by rw [PyData.weight]; exact g5⟩
def D.neS : D → D → Option D
  | .str a, .str b => some (.bl (!decide (a = b)))
  | _, _ => none
theorem sr_neS {K : PySem.W.Frag} : SR K rNe D.neS := fun G H x y dx dy z Q e rx ry q k => by
  cases dx with
  | str a =>
    cases dy with
    | str b =>
      have q : some (D.bl (!decide (a = b))) = some z := q
      cases q
      rw [rx.str, ry.str]
      have h : (decide ((V.str a : V) = V.str b)) = decide (a = b) := decide_eq_decide.mpr ⟨fun h => by cases h; rfl, fun h => by rw [h]⟩
      refine ⟨rfl, ?_⟩
      rw [h]
      exact k G H _ (Al.refl e) (.bl _)
    | _ => cases q
  | _ => cases dy <;> cases q
end DL
namespace L2
open PySem PySem.Spec PyProof.Rows
end L2
namespace DL
open PySem L2 Evl
end DL
namespace DL.Byt
open PySem PySem.W Builtin PyProof.Rows PySem.QB
section
variable {prog : Program} {w : World} {A : Around} {E : Value → Shared → Prop} {s : Shared} {b : Array UInt8} {t u : Tok} {i : Int}
theorem contains_int {id : String} (h0 : 0 ≤ i) (h1 : i < 256) {Q : Bool → Shared → Prop} (h : Q (b.contains i.toNat.toUInt8) s) :
    wpAny (model prog w) A (Bytes.containsIn id (.bytes b t) (.int i u)) Q E s := by
  unfold Bytes.containsIn
  refine wpAny_bind (wpAny_attempt ?_)
  refine wpAny_pure ?_
  refine wpAny_bind (wpAny_of_eq KBy.buffer_eq ?_)
  have e : (decide (i < 0) || decide (i ≥ 256)) = false := by rw [decide_eq_false (by omega), decide_eq_false (by omega)]; rfl
  show wpAny _ _ (if (decide (i < 0) || decide (i ≥ 256)) = true then _ else _) _ _ _
  rw [e]
  exact wpAny_pure h
theorem in_int (h0 : 0 ≤ i) (h1 : i < 256) {Q : Value → Shared → Prop} (h : Q (.bool (b.contains i.toNat.toUInt8)) s) :
    wpAny (model prog w) A (compareOp .In (.int i u) (.bytes b t)) Q E s := by
  refine In_slot (typeIs_bytes s b t) FB.slot_bytes_contains (wpAny_call_entry FB.slot_bytes_contains (typeIs_bytes s b t) FB.entry_bytes_contains ?_ (FB.args_bytes_contains_2 _ _))
  show wpAny _ _ (Bytes.containsIn "bytes.__contains__" (.bytes b t) (.int i u) >>= fun r => ret (.bool r)) _ _ s
  exact wpAny_bind (contains_int h0 h1 (wpAny_pure ⟨_, rfl, wpAny_truthy_bool h⟩))
theorem notIn_int (h0 : 0 ≤ i) (h1 : i < 256) {Q : Value → Shared → Prop} (h : Q (.bool (!(b.contains i.toNat.toUInt8))) s) :
    wpAny (model prog w) A (compareOp .NotIn (.int i u) (.bytes b t)) Q E s := by
  refine NotIn_slot (typeIs_bytes s b t) FB.slot_bytes_contains (wpAny_call_entry FB.slot_bytes_contains (typeIs_bytes s b t) FB.entry_bytes_contains ?_ (FB.args_bytes_contains_2 _ _))
  show wpAny _ _ (Bytes.containsIn "bytes.__contains__" (.bytes b t) (.int i u) >>= fun r => ret (.bool r)) _ _ s
  exact wpAny_bind (contains_int h0 h1 (wpAny_pure ⟨_, rfl, wpAny_truthy_bool h⟩))
end
end DL.Byt
namespace DL
open PySem L2 Evl PySem.Spec PyProof.Rows
def rInI : R2 := fun x y H Q => ∃ i b, x = .int i ∧ y = .byt b ∧ 0 ≤ i ∧ i < 256 ∧ Q (.bl (b.contains i.toNat.toUInt8)) H
def rNotInI : R2 := fun x y H Q => ∃ i b, x = .int i ∧ y = .byt b ∧ 0 ≤ i ∧ i < 256 ∧ Q (.bl (!(b.contains i.toNat.toUInt8))) H
theorem op_inB {X : Cx} : OpR X (compareOp .In) rInI := by
  intro pins s σ H x y v u Q I rx ry h
  obtain ⟨i, b, rfl, rfl, n1, n2, q⟩ := h
  obtain ⟨t, rfl⟩ := rx
  obtain ⟨t', rfl⟩ := ry
  exact Byt.in_int n1 n2 ⟨.bl _, H, I, rfl, q⟩
theorem op_notInB {X : Cx} : OpR X (compareOp .NotIn) rNotInI := by
  intro pins s σ H x y v u Q I rx ry h
  obtain ⟨i, b, rfl, rfl, n1, n2, q⟩ := h
  obtain ⟨t, rfl⟩ := rx
  obtain ⟨t', rfl⟩ := ry
  exact Byt.notIn_int n1 n2 ⟨.bl _, H, I, rfl, q⟩
def D.inB : D → D → Option D
  | .int i, .byt b => if 0 ≤ i ∧ i < 256 then some (.bl (b.contains i.toNat.toUInt8)) else none
  | _, _ => none
def D.notInB : D → D → Option D
  | .int i, .byt b => if 0 ≤ i ∧ i < 256 then some (.bl (!(b.contains i.toNat.toUInt8))) else none
  | _, _ => none
theorem sr_inB {K : PySem.W.Frag} : SR K rInI D.inB := fun G H x y dx dy z Q e rx ry q k => by
  cases dx with
  | int i =>
    cases dy with
    | byt b =>
      have q : (if 0 ≤ i ∧ i < 256 then some (D.bl (b.contains i.toNat.toUInt8)) else none) = some z := q
      split at q
      · rename_i h
        cases q
        rw [rx.int, ry.byt]
        exact ⟨i, b, rfl, rfl, h.1, h.2, k G H _ (Al.refl e) (.bl _)⟩
      · cases q
    | _ => cases q
  | _ => cases dy <;> cases q
theorem sr_notInB {K : PySem.W.Frag} : SR K rNotInI D.notInB := fun G H x y dx dy z Q e rx ry q k => by
  cases dx with
  | int i =>
    cases dy with
    | byt b =>
      have q : (if 0 ≤ i ∧ i < 256 then some (D.bl (!(b.contains i.toNat.toUInt8))) else none) = some z := q
      split at q
      · rename_i h
        cases q
        rw [rx.int, ry.byt]
        exact ⟨i, b, rfl, rfl, h.1, h.2, k G H _ (Al.refl e) (.bl _)⟩
      · cases q
    | _ => cases q
  | _ => cases dy <;> cases q
def rIxB : R2 := fun x y H Q => ∃ b i c, x = .byt b ∧ y = .int i ∧ b.size ≤ sizeLine ∧ atI b.toList i = some c ∧ Q (.int ((c.toNat : Nat) : Int)) H
theorem ix_byt {X : Cx} : IxR X rIxB := by
  intro value slice pins s σ H x y v u Q I rx ry h hs
  obtain ⟨b, i, c, rfl, rfl, hz, he, q⟩ := h
  obtain ⟨t, rfl⟩ := rx
  obtain ⟨t', rfl⟩ := ry
  obtain ⟨j, h1, h2, h3, h4, h5⟩ := atI_get he
  have hl : b.toList.length = b.size := Array.length_toList
  rw [hl] at h1 h4 h5
  have hn := sizeLine_eq
  refine tail_any (PySem.W.typeIs_bytes s b t) PySem.W.FB.slot_bytes_getitem.lookup ?_ hs
  refine getItem_gives (PySem.W.typeIs_bytes s _ t) (by decide) PySem.W.FB.slot_bytes_getitem PySem.W.FB.entry_bytes_getitem (PySem.W.FB.args_bytes_getitem_2 _ _) (PySem.W.gives_bytes_getitem _ i t t' c ?_ ?_) ⟨.int _, H, I.tok _, ⟨_, rfl⟩, q⟩
  · simp only [Builtin.Bytes.fitsIndex, Bool.and_eq_true, decide_eq_true_eq]; omega
  · rw [h1, Option.bind_some, ← Array.getElem?_toList]; exact h2
def D.ixB : D → D → Option D
  | .byt b, .int i => if b.size ≤ sizeLine then (atI b.toList i).map fun c => .int ((c.toNat : Nat) : Int) else none
  | _, _ => none
theorem sr_ixB {K : PySem.W.Frag} : SR K rIxB D.ixB := fun G H x y dx dy z Q e rx ry q k => by
  cases dx with
  | byt b =>
    cases dy with
    | int i =>
      have q : (if b.size ≤ sizeLine then (atI b.toList i).map fun c => D.int ((c.toNat : Nat) : Int) else none) = some z := q
      split at q
      · rename_i h
        rw [rx.byt, ry.int]
        cases q2 : atI b.toList i with
        | none => rw [q2] at q; cases q
        | some c =>
          rw [q2] at q
          cases q
          exact ⟨_, _, c, rfl, rfl, h, q2, k G H _ (Al.refl e) (.int _)⟩
      · cases q
    | _ => cases q
  | _ => cases dy <;> cases q
def rAnd : R2 := rI0 fun i j => .int (Builtin.bitAnd i j)
theorem op_andB {X : Cx} : OpR X (binaryOp .BitAnd) rAnd := op_and
def D.band : D → D → Option D
  | .int i, .int j => some (.int (Builtin.bitAnd i j))
  | _, _ => none
theorem sr_band {K : PySem.W.Frag} : SR K rAnd D.band := fun G H x y dx dy z Q e rx ry q k => by
  cases dx with
  | int i =>
    cases dy with
    | int j => cases q; rw [rx.int, ry.int]; exact ⟨i, j, rfl, rfl, k G H _ (Al.refl e) (.int _)⟩
    | _ => cases q
  | _ => cases dy <;> cases q
def rSlBy : V → Option Int → Option Int → Hp → VK → Prop := fun x lo hi H Q => ∃ b, x = .byt b ∧ b.size ≤ 16777216 ∧ Q (.byt (PySem.W.KBy.picked b lo hi)) H
theorem sl_bytB {X : Cx} : SlR X rSlBy := sl_byt
def D.cutB : D → Option Int → Option Int → Option D
  | .byt b, lo, hi => if b.size ≤ 16777216 then some (.byt (PySem.W.KBy.picked b lo hi)) else none
  | _, _, _ => none
def dSlB (de : DE) (dl dh : DO) : DE := fun ρ q er => de ρ (fun t ρ1 => dl ρ1 (fun l ρ2 => dh ρ2 (fun u ρ3 => Opt (rd ρ3 t) fun d => Opt (d.cutB l u) fun z => q (.val z) ρ3) er) er) er
section
variable {K : PySem.W.Frag} {pa : PaG} {W : WX} {te : TE} {de : DE} {tl th : TO} {dl dh : DO}
theorem se_slB (he : SE K pa W te de) (hl : SO K pa W tl dl) (hh : SO K pa W th dh) : SE K pa W (tSl rSlBy te tl th) (dSlB de dl dh) := fun F G σ H ρ Q q er S h k x =>
  he F G σ H ρ _ _ er S h (fun G1 H1 v t ρ1 e1 S1 r1 h1 => hl F G1 σ H1 ρ1 _ _ er S1 h1 (fun G2 H2 lo ρ2 e2 S2 h2 => hh F G2 σ H2 ρ2 _ _ er S2 h2 (fun G3 H3 hi ρ3 e3 S3 h3 => by
    obtain ⟨d, ed, z, ez, h4⟩ := h3
    have r := S3.rdT ((r1.mono e2).mono e3) ed
    have eG := (e1.trans e2).trans e3
    cases d with
    | byt b =>
      have ez : (if b.size ≤ 16777216 then some (D.byt (PySem.W.KBy.picked b lo hi)) else none) = some z := ez
      split at ez
      · rename_i hb
        cases ez
        rw [r.byt]
        exact ⟨b, rfl, hb, k G3 H3 _ (.val _) ρ3 eG S3 (.byt _) h4⟩
      · cases ez
    | _ => cases ez) (x.grow (e1.trans e2))) (x.grow e1)) x
end
end DL
namespace DL.Byt
open PySem PyProof.Rows Srt SrtO
section
variable {prog : Program} {w : World} {A : Around} {E : Value → Shared → Prop} {s : Shared}
inductive BytAre : List Value → List (Array UInt8) → Prop
  | nil : BytAre [] []
  | cons (b : Array UInt8) (t : Tok) {vs : List Value} {bs : List (Array UInt8)} : BytAre vs bs → BytAre (.bytes b t :: vs) (b :: bs)
theorem all_byt : ∀ {vs : List Value} {bs : List (Array UInt8)}, BytAre vs bs → ∀ v ∈ vs, ∃ b t, v = Value.bytes b t
  | _, _, .nil, v, h => by cases h
  | _, _, .cons b t r, v, h => (List.mem_cons.mp h).elim (fun e => ⟨b, t, e⟩) fun h => all_byt r v h
end
end DL.Byt
namespace DL
open PySem L2 Evl PySem.Spec PyProof.Rows
theorem byts_of : ∀ {bs : List (Array UInt8)} {us : List Value}, Vals (bs.map V.byt) us → Byt.BytAre us bs
  | [], us, h => by cases h; exact .nil
  | b :: bs, us, h => by
    rw [List.map_cons] at h
    cases h with
    | cons r t => obtain ⟨u, rfl⟩ := r; exact .cons b u (byts_of t)
def D.byts : List D → Option (List (Array UInt8))
  | [] => some []
  | .byt b :: ds => (D.byts ds).map fun bs => b :: bs
  | _ :: _ => none
theorem reps_byts {K : PySem.W.Frag} {G : Hp} : ∀ {ds : List D} {vs : List V} {bs : List (Array UInt8)}, Reps K G vs ds → D.byts ds = some bs → vs = bs.map V.byt
  | _, _, _, .nil, h => by cases h; rfl
  | .byt b :: ds, _, bs, .cons r rr, h => by
    have h : (D.byts ds).map (fun bs => b :: bs) = some bs := h
    cases q : D.byts ds with
    | none => rw [q] at h; cases h
    | some cs => rw [q] at h; cases h; cases r; rw [reps_byts rr q]; rfl
def rToB (K : PySem.W.Frag) : List V → Hp → VK → Prop := fun xs H Q => (∃ p ns, xs = [.ref p] ∧ SqL K H p (ns.map V.int) ∧ B8 ns ∧ Q (.byt (byteArr ns)) H) ∨ ∃ p ns, xs = [.ref p] ∧ SqT K H p (ns.map V.int) ∧ B8 ns ∧ Q (.byt (byteArr ns)) H
theorem call_toB {X : Cx} (hc : X.calm = true) : CallR X (.type "bytes") (rToB X.K) := CallR.or (call_bytes_list hc) (call_bytes_tup hc)
def allB (ns : List Int) : Bool := ns.all fun n => decide (0 ≤ n ∧ n < 256)
theorem b8_of {ns : List Int} (h : allB ns = true) : B8 ns := fun n hn => of_decide_eq_true (List.all_eq_true.mp h n hn)
theorem of_b8 {ns : List Int} (h : B8 ns) : allB ns = true := List.all_eq_true.mpr fun n hn => decide_eq_true (h n hn)
def D.toByt : List D → Option D
  | [.lst ds] => (D.ints ds).bind fun ns => if allB ns = true then some (.byt (byteArr ns)) else none
  | [.tup ds] => (D.ints ds).bind fun ns => if allB ns = true then some (.byt (byteArr ns)) else none
  | _ => none
theorem sc_toByt {K : PySem.W.Frag} : SC K (rToB K) D.toByt := fun G H xs ds z Q e rx q k => by
  unfold D.toByt at q
  split at q
  · rename_i ds
    cases q2 : D.ints ds with
    | none => rw [q2] at q; cases q
    | some ns =>
      rw [q2, Option.bind_some] at q
      split at q
      · rename_i h
        cases q
        obtain ⟨x, rfl, r⟩ := rx.one
        obtain ⟨p, vs, rfl, h1, r1⟩ := r.lst e
        have ev := reps_ints r1 q2
        subst ev
        exact .inl ⟨p, ns, rfl, h1, b8_of h, k G H _ (Al.refl e) (.byt _)⟩
      · cases q
  · rename_i ds
    cases q2 : D.ints ds with
    | none => rw [q2] at q; cases q
    | some ns =>
      rw [q2, Option.bind_some] at q
      split at q
      · rename_i h
        cases q
        obtain ⟨x, rfl, r⟩ := rx.one
        obtain ⟨p, vs, rfl, h1, r1⟩ := r.tup e
        have ev := reps_ints r1 q2
        subst ev
        exact .inr ⟨p, ns, rfl, h1, b8_of h, k G H _ (Al.refl e) (.byt _)⟩
      · cases q
  · cases q
end DL
namespace DL
open PySem L2 Evl PySem.Spec PyProof.Rows PySem.W
end DL
namespace DL
open PySem L2 Evl PySem.Spec PyProof.Rows
section
variable {K : PySem.W.Frag} {b : Array UInt8}
theorem tyV_byt : (D.byt b).tyV = some (.type "bytes") := rfl
theorem kno_byt {Cs : List Addr} : (D.byt b).kno Cs = true := rfl
theorem kit_int_byt : PySem.W.kitOne K (.type "int") (.type "bytes") = some false := by rfl
theorem kit_bool_byt : PySem.W.kitOne K (.type "bool") (.type "bytes") = some false := by rfl
theorem kit_str_byt : PySem.W.kitOne K (.type "str") (.type "bytes") = some false := by rfl
theorem kit_list_byt : PySem.W.kitOne K (.type "list") (.type "bytes") = some false := by rfl
theorem kit_tuple_byt : PySem.W.kitOne K (.type "tuple") (.type "bytes") = some false := by rfl
theorem kit_dict_byt : PySem.W.kitOne K (.type "dict") (.type "bytes") = some false := by rfl
theorem band1 (n : Nat) : D.band (.int (n : Int)) (.int 1) = some (.int ((n % 2 : Nat) : Int)) := by
  show some (D.int (Builtin.bitAnd (n : Int) 1)) = _
  have h := Bits.bitAnd_mask (x := (n : Int)) 1 (Int.natCast_nonneg n)
  rw [show ((2 : Int) ^ 1 - 1) = 1 from rfl] at h
  rw [h]; rfl
end
end DL
namespace DL
open PySem L2 Evl PySem.Spec PyProof.Rows
def dNotT (da : DE) : DE := fun ρ q er => da ρ (fun s ρ1 => Opt (rd ρ1 s) fun x => Opt x.truth fun b => q (.val (.bl (!b))) ρ1) er
theorem se_notT {K : PySem.W.Frag} {pa : PaG} {W : WX} {ta : TE} {da : DE} (ha : SE K pa W ta da) : SE K pa W (tNotT K ta) (dNotT da) := fun F G σ H ρ Q q er S h k x =>
  ha F G σ H ρ _ _ er S h (fun G1 H1 v s ρ1 e1 S1 r1 h1 => by
    obtain ⟨dx, ex, b, eb, h3⟩ := h1
    exact ⟨b, tru_of S1.ex (S1.rdT r1 ex) eb, k G1 H1 _ (.val _) ρ1 e1 S1 (.bl _) h3⟩) x
end DL
namespace DL
open PySem L2 Evl PySem.Spec PyProof.Rows
theorem arr_eq {b c : Array UInt8} : decide (b.toList = c.toList) = decide (b = c) := by
  rw [Bool.eq_iff_iff, decide_eq_true_iff, decide_eq_true_iff]
  exact ⟨fun h => Array.toList_inj.mp h, fun h => by rw [h]⟩
end DL
namespace DL.Byt
open PySem PyProof.Rows PySem.W
open Sem (wp)
theorem meets_enum1 {v : Value} {o : Obj} {H : Heap → Prop} (B : Begins v o H) :
    Meets (Builtin.«enumerate.__new__» ⟨[.type "enumerate", v], []⟩) (fun _ R s => H s.heap ∧ R (.ok (.ret (.ref (s.heap.push o).objs.size))) { s with heap := (s.heap.push o).push { cls := .type "enumerate", data := .fields #[.none, .bool false, .ref s.heap.objs.size, rawInt 0, .none, .none] } }) :=
  .of_wp fun prog w A R s h => by
    obtain ⟨hp, g, d, tk, os⟩ := s; obtain ⟨h1, hr⟩ := h
    have hsub := sub_enumerate
    have begin1 : ∀ {A' : Around} {E Q : Value → Shared → Prop}, Q (.ref hp.objs.size) ⟨hp.push o, g, d, tk, os⟩ → wpAny (model prog w) A' (pyIter v) Q E ⟨hp, g, d, tk, os⟩ := fun q => B.iter prog w _ _ ⟨hp, g, d, tk, os⟩ _ h1 q
    wp_walk using begin1
    refine wpAny_stack_any fun st => (wpAny_pure ?_)
    split
    · rename_i c _ _ _ _ _
      cases (c == Value.type "enumerate") <;> (wp_walk using begin1; exact ⟨_, rfl, hr⟩)
    · wp_walk using begin1; exact ⟨_, rfl, hr⟩
section
variable {prog : Program} {w : World} {A : Around} {E : Value → Shared → Prop} {s : Shared}
theorem enum_of {v : Value} {o : Obj} {H : Heap → Prop} {Q : Value → Shared → Prop} (B : Begins v o H) (h1 : H s.heap)
    (h : ∀ h', IsEnum h' (s.heap.objs.size + 1) s.heap.objs.size 0 .none → h'.get? s.heap.objs.size = some o → (∀ b o, s.heap.get? b = some o → h'.get? b = some o) → Q (.ref (s.heap.objs.size + 1)) { s with heap := h' }) :
    wpAny (model prog w) A (call (.type "enumerate") [v]) Q E s := by
  refine callType_new F.called_enumerate (by decide) (F.typeCall_enumerate_1 _) (F.newCall_enumerate_1 _) (fun obj => F.args_object_init_2 obj _) F.entry_enumerate_new (meets_enum1 B) ⟨h1, ?_⟩
  have sz : (s.heap.push o).objs.size = s.heap.objs.size + 1 := Heap.size_push ..
  show _ ∧ _
  rw [sz]
  have at1 := Heap.get?_push_size (s.heap.push o) (o := { cls := .type "enumerate", data := .fields #[.none, .bool false, .ref s.heap.objs.size, rawInt 0, .none, .none] }) rfl
  rw [sz] at at1
  exact ⟨⟨_, at1, rfl⟩, h _ at1 (Heap.get?_push_of_some _ (Heap.get?_push_size _ B.free)) fun b o x => Heap.get?_push_of_some _ (Heap.get?_push_of_some _ x)⟩
end
end DL.Byt
namespace DL
open PySem L2 Evl PySem.Spec PyProof.Rows
def iEnumB (K : PySem.W.Frag) (ta : TA) : TI := fun σ H R => ta σ H fun vs H1 => ∃ y : Array UInt8, vs = [.byt y] ∧ R (ItE K (.byt y) (y.toList.map fun c => V.int ((c.toNat : Nat) : Int)) 0) H1
theorem pi_enumB {X : Cx} {e : Expr} {ta : TA} {p pos tpos : Pos} {elts : List Expr} {kk : Nat} (hg : Gl X "enumerate") (hm : X.mg "enumerate" = none) (ha : PA X [e] ta) (hs : starEach [e] X.env = [(false, eval e X.env)] := by rfl) :
    PI X (.Tuple elts kk tpos) (.Call (.Name "enumerate" p) [e] [] pos) (iEnumB X.K ta) := by
  refine ⟨fun pins s σ H R I h => Call_ (ld_blt I hg hm boot_enumerate (PyProof.Rows.callWith_type1 (thn (ha.run pos pins s σ H _ I h) fun us s1 ⟨vs, H1, I1, r1, q1⟩ => ?_) hs rfl))⟩
  obtain ⟨y, ex, q⟩ := q1
  subst ex
  cases r1 with
  | cons r rr =>
    cases rr
    obtain ⟨t, rfl⟩ := r
    refine Byt.enum_of (Byt.beginsB y t) True.intro fun h' he hit hk => wpAny_pyIter_enum he ?_
    have I2 : Inv X pins σ H1 { s1 with heap := h' } := I1.kept (t' := s1.toks) hk
    have hf : ∀ b ∈ [s1.heap.objs.size + 1, s1.heap.objs.size], FpOk X pins H1 b := fun b hb => by
      have hle : s1.heap.objs.size ≤ b := by
        rcases (show b = s1.heap.objs.size + 1 ∨ b = s1.heap.objs.size by simpa using hb) with z | z <;> omega
      exact I1.fpOk hle (I1.hok.fresh hle)
    refine ⟨s1.heap.objs.size + 1, [s1.heap.objs.size + 1, s1.heap.objs.size], _, _, H1, rfl, I2, turn_enumS (k := .byt y) (t := t) (Nat.succ_ne_self _) (fun hm => ?_), ⟨⟨⟨.none, ?_⟩, ⟨_, hit, rfl, rfl⟩⟩, Nat.zero_le _⟩, hf, q⟩
    · rcases List.mem_cons.mp hm with z | z
      · exact absurd z (Nat.succ_ne_self _)
      · cases z
    · rw [show (0 : Int) + ((0 : Nat) : Int) = 0 by simp]; exact he
def diEnumB (da : DA) : DI := fun ρ q er => da ρ (fun ts ρ1 => match ts with
  | [.val (.byt y)] => q (enumKD 0 (y.toList.map fun c => .int ((c.toNat : Nat) : Int))) ρ1
  | _ => False) er
theorem si_enumB {K : PySem.W.Frag} {pa : PaG} {W : WX} {ta : TA} {da : DA} (ha : SA K pa W ta da) : SI K pa W (iEnumB K ta) (diEnumB da) := fun F G σ H ρ R q er S h k x =>
  ha F G σ H ρ _ _ er S h (fun G1 H1 vs ts ρ1 e1 S1 r1 h1 => by
    match ts, r1, h1 with
    | [.val (.byt y)], r1, h1 =>
      cases r1 with
      | cons r rr =>
        cases rr
        have r : Rep K G1 _ (.byt y) := r
        cases r
        have q : Reps K G1 (y.toList.map fun c => V.int ((c.toNat : Nat) : Int)) (y.toList.map fun c => D.int ((c.toNat : Nat) : Int)) := by
          generalize y.toList = l
          induction l with
          | nil => exact .nil
          | cons c l ih => exact .cons (.int _) ih
        exact ⟨y, rfl, k G1 H1 _ _ ρ1 e1 S1 (itOk_enumK (k := .byt y) rfl q) h1⟩) x
def rInBs (K : PySem.W.Frag) (neg : Bool) : R2 := fun x y H Q => ∃ (b : Array UInt8) (a : Addr) (bs : List (Array UInt8)), x = .byt b ∧ y = .ref a ∧ SqL K H a (bs.map V.byt) ∧ Q (.bl (if neg then !(bs.any fun c => decide (c = b)) else bs.any fun c => decide (c = b))) H
def eqBy (b : Array UInt8) : Value → Bool
  | .bytes c _ => decide (c = b)
  | _ => false
theorem any_by {b : Array UInt8} : ∀ {us : List Value} {bs : List (Array UInt8)}, Byt.BytAre us bs → us.any (eqBy b) = bs.any fun c => decide (c = b)
  | _, _, .nil => rfl
  | _, _, .cons c t r => by rw [List.any_cons, List.any_cons, any_by r]; rfl
theorem eqAt_by {A : Around} {s : Shared} {b : Array UInt8} {t : Tok} {us : List Value} {bs : List (Array UInt8)} (h : Byt.BytAre us bs) : ∀ y ∈ us, SeqAt.EqAt A s y (.bytes b t) (eqBy b y) := fun y hy => by
  obtain ⟨c, u, rfl⟩ := Byt.all_byt h y hy
  intro prog w E Q hq
  refine PySem.W.eqBool_bytes ?_
  have hq : Q (decide (c = b)) s := hq
  rw [arr_eq]
  exact hq
theorem op_inBs {X : Cx} : OpR X (compareOp .In) (rInBs X.K false) := by
  intro pins s σ H x y v u Q I rx ry h
  obtain ⟨b, a, bs, rfl, rfl, hs, q⟩ := h
  obtain ⟨t, rfl⟩ := rx
  cases ry
  obtain ⟨us, rv, pl, _⟩ := I.list hs
  have hb := byts_of rv
  refine SeqAt.in_listAt (eqBy b) pl.isList (fun y hy => eqAt_by hb y (by simpa using hy)) ⟨.bl _, H, I, rfl, ?_⟩
  rw [show us.toArray.any (eqBy b) = us.any (eqBy b) by simp, any_by hb]
  exact q
def D.inBs (neg : Bool) (a b : D) : Option D := match a, b with
  | .byt x, .lst ys => (D.byts ys).map fun cs => .bl (if neg then !(cs.any fun c => decide (c = x)) else cs.any fun c => decide (c = x))
  | _, _ => none
theorem sr_inBs {K : PySem.W.Frag} {neg : Bool} : SR K (rInBs K neg) (D.inBs neg) := fun G H x y dx dy z Q e rx ry q k => by
  cases dx with
  | byt b =>
    cases dy with
    | lst ys =>
      have q : (D.byts ys).map (fun cs => D.bl (if neg then !(cs.any fun c => decide (c = b)) else cs.any fun c => decide (c = b))) = some z := q
      cases q1 : D.byts ys with
      | none => rw [q1] at q; cases q
      | some cs =>
        rw [q1] at q
        cases q
        obtain ⟨a, us, rfl, h1, r1⟩ := ry.lst e
        exact ⟨b, a, cs, rx.byt, rfl, reps_byts r1 q1 ▸ h1, k G H _ (Al.refl e) (.bl _)⟩
    | _ => cases q
  | _ => cases dy <;> cases q
def D.eqBy (neg : Bool) (a b : D) : Option D := match a, b with
  | .byt x, .byt y => some (.bl (if neg then !decide (x = y) else decide (x = y)))
  | _, _ => none
theorem are_of : ∀ {us : List Value} {bs : List (Array UInt8)}, Byt.BytAre us bs → PySem.W.KBj.Are us bs
  | _, _, .nil => .nil
  | _, _, .cons b t r => .cons b t (are_of r)
theorem bints_inj {b c : Array UInt8} (h : PySem.W.KBw.bInts b = PySem.W.KBw.bInts c) : b = c := by
  have key : ∀ l m : List UInt8, l.map (fun c => (c.toNat : Int)) = m.map (fun c => (c.toNat : Int)) → l = m := by
    intro l
    induction l with
    | nil => intro m h; cases m with
      | nil => rfl
      | cons _ _ => cases h
    | cons x l ih => intro m h; cases m with
      | nil => cases h
      | cons y m =>
        rw [List.map_cons, List.map_cons, List.cons.injEq] at h
        rw [ih m h.2, UInt8.toNat_inj.mp (by omega : x.toNat = y.toNat)]
  exact Array.toList_inj.mp (key _ _ h)
def catB (bs : List (Array UInt8)) : Array UInt8 := (bs.map Array.toList).flatten.toArray
theorem join_nil : ∀ bs : List (Array UInt8), PySem.W.KBj.join [] (bs.map PySem.W.KBw.bInts) = PySem.W.KBw.bInts (catB bs) := by
  have tl : ∀ bs : List (Array UInt8), PySem.W.KBj.tail [] (bs.map PySem.W.KBw.bInts) = (bs.map Array.toList).flatten.map fun c => (c.toNat : Int) := by
    intro bs
    induction bs with
    | nil => rfl
    | cons b bs ih =>
      rw [List.map_cons, List.map_cons, List.flatten_cons, List.map_append, ← ih]; rfl
  intro bs
  cases bs with
  | nil => rfl
  | cons b bs =>
    rw [List.map_cons]
    show PySem.W.KBw.bInts b ++ PySem.W.KBj.tail [] (bs.map PySem.W.KBw.bInts) = _
    rw [tl]
    show _ = ((b :: bs).map Array.toList).flatten.map fun c => (c.toNat : Int)
    rw [List.map_cons, List.flatten_cons, List.map_append]; rfl
def tJoinB (K : PySem.W.Frag) (to te : TE) : TE := fun σ H Q => to σ H fun x H1 => x = .byt #[] ∧ te σ H1 fun y H2 => ∃ (a : Addr) (bs : List (Array UInt8)), y = .ref a ∧ SqL K H2 a (bs.map V.byt) ∧ (bs.map Array.size).sum ≤ 16777216 ∧ Q (.byt (catB bs)) H2
section
variable {X : Cx} {o e : Expr} {to te : TE}
theorem pe_joinB {apos pos : Pos} (ho : PE X o to) (he : PE X e te) (hs : starEach [e] X.env = [(false, eval e X.env)] := by rfl) (hbase : attributeBase o "join" X.env (eval o X.env) = eval o X.env := by rfl) (hline : (apos.endLine == pos.line) = true := by rfl) :
    PE X (.Call (.Attribute o "join" apos) [e] [] pos) (tJoinB X.K to te) := by
  refine ⟨fun pins s σ H Q I h => PySem.Call_method1 hbase hs hline (thn (ho.run pins s σ H _ I h) fun v s1 ⟨x, H1, I1, r1, ex, q1⟩ => ?_)⟩
  subst ex
  obtain ⟨t, rfl⟩ := _root_.id r1
  refine ⟨"bytes", _, PySem.W.FB.plainAttrs_bytes, PySem.W.KBj.slot_join, PySem.W.KBj.type_join, PySem.W.typeIs_bytes _ _ _, (fun _ e => nomatch e), Calls.callWith_builtin rfl (Calls.evalArgs_plain (Calls.spliced_cons ?_))⟩
  refine thn (he.run pins s1 σ H1 _ I1 q1) fun u s2 ⟨y, H2, I2, r2, a, bs, ey, hl, hz, q2⟩ => Calls.spliced_nil ?_
  subst ey
  cases r2
  obtain ⟨us, rv, pl, _⟩ := I2.list hl
  have hb := are_of (byts_of rv)
  have hsum : ∀ bs : List (Array UInt8), PySem.W.KBj.total [] (bs.map PySem.W.KBw.bInts) = (bs.map Array.size).sum := by
    intro bs
    unfold PySem.W.KBj.total
    rw [List.length_nil, Nat.zero_mul, Nat.zero_add, List.map_map]
    congr 1
    refine List.map_congr_left fun b _ => ?_
    exact PySem.W.KBw.ints_length b
  refine PySem.W.KBj.join_K (sep := #[]) (ls := []) (kss := bs.map PySem.W.KBw.bInts) pl.isList (by simpa using hb) rfl rfl (by rw [hsum]; exact hz) fun c t' k hc _ => ?_
  rw [join_nil] at hc
  have := bints_inj hc
  subst this
  exact ⟨.byt _, H2, I2.tok k, ⟨_, rfl⟩, q2⟩
end
def dJoinB (de df : DE) : DE := fun ρ q er => de ρ (fun t ρ1 => Opt (rd ρ1 t) fun a0 => match a0 with
  | .byt a => a = #[] ∧ df ρ1 (fun u ρ2 => Opt (rd ρ2 u) fun d => match d with
    | .lst ds => Opt (D.byts ds) fun bs => (bs.map Array.size).sum ≤ 16777216 ∧ q (.val (.byt (catB bs))) ρ2
    | _ => False) er
  | _ => False) er
theorem se_joinB {K : PySem.W.Frag} {pa : PaG} {W : WX} {te tf : TE} {de df : DE} (he : SE K pa W te de) (hf : SE K pa W tf df) : SE K pa W (tJoinB K te tf) (dJoinB de df) := fun F G σ H ρ Q q er S h k x =>
  he F G σ H ρ _ _ er S h (fun G1 H1 v s ρ1 e1 S1 r1 h1 => by
    obtain ⟨a0, ea0, h1⟩ := h1
    cases a0 with
    | byt y =>
      have ev := (S1.rdT r1 ea0).byt
      obtain ⟨e0, h1⟩ := h1
      subst e0
      refine ⟨ev, hf F G1 σ H1 ρ1 _ _ er S1 h1 (fun G2 H2 w t ρ2 e2 S2 r2 h2 => ?_) (x.grow e1)⟩
      obtain ⟨d, ed, h3⟩ := h2
      cases d with
      | lst ds =>
        obtain ⟨bs, eb, hz, h4⟩ := h3
        obtain ⟨p, vs, rfl, hs, hr⟩ := (S2.rdT r2 ed).lst S2.ex
        exact ⟨p, bs, rfl, reps_byts hr eb ▸ hs, hz, k G2 H2 _ (.val _) ρ2 (e1.trans e2) S2 (.byt _) h4⟩
      | _ => exact h3.elim
    | _ => exact h1.elim) x
end DL
namespace DL.Byt
open PySem L2 Evl PySem.Spec PyProof.Rows
def DtB (P : Program) (w : World) (p : Addr) (ks : List (Array UInt8)) (h : Heap) : Prop := (p == sysModules) = false ∧ ∃ kvs : List (List UInt8 × Value), h.DictOf (PySem.W.bytesKind P w) p kvs ∧ kvs.length ≤ ks.length ∧ ∀ k : List UInt8, (valueAt kvs k).isSome = decide (k.toArray ∈ ks)
abbrev DoB (P : Program) (w : World) (p : Addr) (ks : List (Array UInt8)) : HO := .ext (DtB P w p ks)
theorem DtB.at_ {P : Program} {w : World} {p : Addr} {ks : List (Array UInt8)} {h h' : Heap} (x : DtB P w p ks h) (k : ∀ o, h.get? p = some o → h'.get? p = some o) : DtB P w p ks h' := by
  obtain ⟨n, kvs, d, l, e⟩ := x
  exact ⟨n, kvs, d.at k, l, e⟩
theorem DtB.obj {P : Program} {w : World} {p : Addr} {ks : List (Array UInt8)} {h : Heap} {H : Hp} (x : DtB P w p ks h) : ObjOk P w H h p (DoB P w p ks) := by
  have x0 := x
  obtain ⟨_, _, ⟨o, _, _, ho, _⟩, _⟩ := x0
  exact ⟨x, ⟨o, ho⟩, fun _ _ y k => y.at_ k⟩
theorem noCode_DoB {P : Program} {w : World} {p : Addr} {ks : List (Array UInt8)} : DL.NoCode (DoB P w p ks) := by
  refine ⟨fun _ z => (by cases z), fun c q z => ?_⟩
  unfold LamX.CodeO at z
  replace z := HO.ext.inj z
  have t : Tok := default
  obtain ⟨oc, hoc⟩ : ∃ oc : Obj, oc = { cls := .none, data := .fields #[.none, .str q t] } := ⟨_, rfl⟩
  obtain ⟨h, hh⟩ : ∃ h : Heap, h = { objs := Array.replicate (c + 1) oc } := ⟨_, rfl⟩
  have at1 : ∀ a o, h.get? a = some o → o = oc := fun a o e => by
    rw [hh] at e
    unfold Heap.get? at e
    by_cases l : a < c + 1
    · rw [show (Array.replicate (c + 1) oc)[a]? = some oc by simp [l]] at e
      rw [hoc] at e ⊢
      exact (Option.some.inj e).symm
    · rw [show (Array.replicate (c + 1) oc)[a]? = none from Array.getElem?_eq_none (by rw [Array.size_replicate]; exact Nat.not_lt.mp l)] at e
      cases e
  have at2 : h.get? c = some oc := by
    rw [hh]
    unfold Heap.get?
    rw [show (Array.replicate (c + 1) oc)[c]? = some oc by simp]
    rw [hoc]
  have k : DtB P w p ks h := by
    rw [z]
    exact ⟨oc, #[.none, .str q t], t, at2, by rw [hoc], rfl⟩
  obtain ⟨_, _, ⟨o, es, ep, ho, _, hd, _⟩, _⟩ := k
  have := at1 _ _ ho
  rw [this, hoc] at hd
  cases hd
theorem any_some {kvs : List (List UInt8 × Value)} {k : List UInt8} : (kvs.any fun kv => decide (kv.1 = k)) = (valueAt kvs k).isSome := (valueAt_isSome_eq_any kvs k).symm
theorem at_stored {kvs : List (List UInt8 × Value)} {k j : List UInt8} {v : Value} : (valueAt (stored kvs k v) j).isSome = ((valueAt kvs j).isSome || decide (k = j)) := by
  rw [← any_some, ← any_some]
  unfold stored
  by_cases h : (kvs.any fun kv => decide (kv.1 = k)) = true
  · rw [if_pos h, List.any_map]
    have e : ((fun kv : List UInt8 × Value => decide (kv.1 = j)) ∘ fun kv : List UInt8 × Value => if kv.1 = k then (kv.1, v) else kv) = fun kv => decide (kv.1 = j) := by
      funext kv
      show decide ((if kv.1 = k then (kv.1, v) else kv).1 = j) = _
      by_cases q : kv.1 = k
      · rw [if_pos q]
      · rw [if_neg q]
    rw [e]
    by_cases q : k = j
    · subst q; rw [h]; rfl
    · simp [q]
  · rw [if_neg h, List.any_append]
    simp
theorem DtB.add {P : Program} {w : World} {p : Addr} {ks : List (Array UInt8)} {h' : Heap} {b : Array UInt8} {v : Value} (n : (p == sysModules) = false) {kvs : List (List UInt8 × Value)} (d : h'.DictOf (PySem.W.bytesKind P w) p (stored kvs b.toList v)) (l : kvs.length ≤ ks.length)
    (e : ∀ k : List UInt8, (valueAt kvs k).isSome = decide (k.toArray ∈ ks)) : DtB P w p (ks ++ [b]) h' := by
  refine ⟨n, _, d, ?_, fun k => ?_⟩
  · have := stored_length_le kvs b.toList v
    rw [List.length_append, List.length_singleton]
    omega
  · rw [at_stored, e k, Bool.eq_iff_iff]
    simp only [Bool.or_eq_true, decide_eq_true_eq, List.mem_append, List.mem_singleton]
    constructor
    · rintro (h | h)
      · exact .inl h
      · right; subst h; simp
    · rintro (h | h)
      · exact .inl h
      · right; subst h; simp
theorem is_of {P : Program} {w : World} (b : Array UInt8) (t : Tok) : (PySem.W.bytesKind P w).is b.toList (.bytes b t) = true := by
  show (b.toList == b.toList) = true
  simp
section
variable {X : Cx}
def tBd (P : Program) (w : World) (wi : TI) (g : TG) (tk : TE) (vs : List Nat) : TE := fun σ H Q => wi σ H fun J H1 => ∀ p, H1 p = none → ∃ V : Nat → Nat → Hp → Prop, (∃ m, V 0 m (upd H1 p (DoB P w p []))) ∧ ∀ i m H, V i m H →
  (J.stop i H ∧ Q (.ref p) H) ∨ (J.go i H ∧ ∀ x H', J.yld i H x H' → g x (wipe σ vs) H' fun σ2 H2 => wipe σ2 vs = wipe σ vs ∧ tk σ2 H2 fun y H3 => ∃ b ks m', y = .byt b ∧ H3 p = some (DoB P w p ks) ∧ ks.length < sizeLine ∧ m' < m ∧ V (i + 1) m' (upd H3 p (DoB P w p (ks ++ [b]))))
theorem put_key {pins : List (Addr × Obj)} {σ : L2.St} {H : Hp} {s : Shared} {E : Value → Shared → Prop} {p : Addr} {ks : List (Array UInt8)} {b : Array UInt8} {t : Tok} {r : Value} {Q : Unit → Shared → Prop} (I : Inv X pins σ H s) (hp : H p = some (DoB X.prog X.w p ks)) (hz : ks.length < sizeLine)
    (h : ∀ s', Inv X pins σ (upd H p (DoB X.prog X.w p (ks ++ [b]))) s' → Q () s') : wpAny (model X.prog X.w) X.A (dictSet p (.bytes b t) r) Q E s := by
  obtain ⟨⟨n, kvs, d, l, e⟩, _⟩ := I.hok p _ hp
  have lz : kvs.length ≤ sizeLine := by omega
  refine wpAny_dictSet_pairs (hsz := lz) (is_of b t) d fun h' d' sb => ?_
  have x : DtB X.prog X.w p (ks ++ [b]) h' := DtB.add n d' l e
  have x0 := x
  obtain ⟨_, _, ⟨o, _, _, ho, _⟩, _⟩ := x0
  exact h _ (d_write I (by rw [hp]; exact True.intro) sb ⟨o, ho⟩ x.obj)
theorem bd_core {pins : List (Addr × Obj)} {s : Shared} {σ : L2.St} {H : Hp} {Q : VK} {kx vx tg iter : Expr} {scope : Scope} {own : List (Str × Nat)} {pos pos' : Pos} {wi : TI} {g : TG} {tk : TE} {use : Option (Value → Sem Unit)} {Qf : Value → Shared → Prop} (hc : X.calm = true) (hN : X.N.Nodup) (I : Inv X pins σ H s) (hi : PI X tg iter wi) (ok : BlkOk X.N X.env.scope scope own)
    (hb : ∀ (s : Shared) (H : Hp) (C : Addr) (cl : List (Str × Addr)) (fp : List Addr), PG (X.blk s H scope (compEnvC scope cl C X.env) fp) tg g ∧ PE (X.blk s H scope (compEnvC scope cl C X.env) fp) kx tk ∧ PE (X.blk s H scope (compEnvC scope cl C X.env) fp) vx (tC (.bl true)))
    (hs : ∀ x, foldedSetIterable iter X.env x = pure x) (h : tBd X.prog X.w wi g tk (own.map (·.2)) σ H Q)
    (last : ∀ p C s' m H', Inv X pins σ H' s' → Q (.ref p) H' → s'.heap.Ns C m → FpOk X pins H' C → compPost (model X.prog X.w) X.A X.xe use Qf (.ref p) C (.ok .next) s') :
    wpAny (model X.prog X.w) X.A (comprehension (.DictComp kx vx [⟨tg, iter, [], 0⟩] scope pos) scope X.env pos' newDict false (eval iter X.env) use) Qf X.xe s := by
  have fr : ∀ y ∈ scope.names, y.2 = .free → ∃ c, X.env.cells.lookup y.1 = some c := fun y hy e => (ok.free y hy e).elim (fun k => I.ok.has _ (.inl k)) (fun k => I.ok.has _ (.inr k))
  refine wpAny_comprehension_free (use := use) rfl hs (closure_ok fr) ok.kind (fun y hy e => by rw [ok.uniq y hy, e]) (thn (hi.run pins s σ H _ I h) fun _ _ hx => thn hx fun _ sa ha => ?_)
  obtain ⟨it, fp, tn, J, Ha, rfl, Ia, Tn, ta, fa, qa⟩ := ha
  refine wpAny_newObj_type (newEnv_comp ?_)
  have nD : Ha sa.heap.objs.size = none := Ia.hok.fresh (Nat.le_refl _)
  obtain ⟨V, ⟨m0, v0⟩, turn⟩ := qa _ nD
  have bigD := Ia.big
  have below : ∀ b ∈ fp, b < sa.heap.objs.size := fun b hb => (Tn.obj _ _ ta b hb).elim fun _ z => Heap.lt_size z.1
  -- the empty dict
  obtain ⟨sb, hsb⟩ : ∃ sb : Shared, sb = { sa with heap := sa.heap.push { cls := .type "dict", data := .dict #[] } } := ⟨_, rfl⟩
  have eb : sb.heap = sa.heap.push { cls := .type "dict", data := .dict #[] } := by rw [hsb]
  have sz : sb.heap.objs.size = sa.heap.objs.size + 1 := by rw [eb, Heap.size_push]
  have kb : ∀ b o, sa.heap.get? b = some o → sb.heap.get? b = some o := fun b o e => by rw [eb]; exact Heap.get?_push_of_some _ e
  have xb : DtB X.prog X.w sa.heap.objs.size [] sb.heap := ⟨beq_eq_false_iff_ne.mpr (Ne.symm (Nat.ne_of_lt bigD)), [], by rw [eb]; exact Heap.DictOf.new sa.heap, Nat.le_refl _, fun k => by simp [valueAt]⟩
  have Ib : Inv X pins σ (upd Ha sa.heap.objs.size (DoB X.prog X.w sa.heap.objs.size [])) sb := by
    have := Ia.laid (h' := sb.heap) (t' := sa.toks) (o := DoB X.prog X.w sa.heap.objs.size []) kb (Nat.le_refl _) xb.obj
    rw [hsb] at this ⊢
    exact this
  obtain ⟨Hb, hHb⟩ : ∃ Hb, Hb = upd Ha sa.heap.objs.size (DoB X.prog X.w sa.heap.objs.size []) := ⟨_, rfl⟩
  rw [← hHb] at Ib v0
  have fb : ∀ b ∈ fp, FpOk X pins Hb b ∧ b < sb.heap.objs.size := fun b hm => ⟨⟨by rw [hHb, upd_ne (Nat.ne_of_lt (below b hm))]; exact (fa b hm).1, (fa b hm).2⟩, by rw [sz]; exact Nat.lt_succ_of_lt (below b hm)⟩
  have tb : tn 0 sb.heap := Tn.keep _ _ _ ta fun b _ o e => kb b o e
  have Ic := block_start Ib ok hN fb
  obtain ⟨pg, pk, pv⟩ := hb sb Hb sb.heap.objs.size (cellsFrom (sb.heap.objs.size + 1) scope.names (cloFrom X.env.cells scope.names [])) fp
  show codeAny _ _ (.compStart _ 0 (.ref it) (.ref sa.heap.objs.size) (compEnvC scope (cellsFrom ((sa.heap.push { cls := .type "dict", data := .dict #[] }).objs.size + 1) scope.names (cloFrom X.env.cells scope.names [])) (sa.heap.push { cls := .type "dict", data := .dict #[] }).objs.size X.env)) (compPost (model X.prog X.w) X.A X.xe use Qf (.ref sa.heap.objs.size) (sa.heap.push { cls := .type "dict", data := .dict #[] }).objs.size) { sa with heap := pushCells ((sa.heap.push { cls := .type "dict", data := .dict #[] }).push { cls := .type "dict", data := .dict #[] }) scope.names }
  have es : ({ sa with heap := pushCells ((sa.heap.push { cls := .type "dict", data := .dict #[] }).push { cls := .type "dict", data := .dict #[] }) scope.names } : Shared) = { sb with heap := pushCells (sb.heap.push { cls := .type "dict", data := .dict #[] }) scope.names } := by rw [hsb]
  rw [es, ← eb]
  obtain ⟨ce, hce⟩ : ∃ ce, ce = compEnvC scope (cellsFrom (sb.heap.objs.size + 1) scope.names (cloFrom X.env.cells scope.names [])) sb.heap.objs.size X.env := ⟨_, rfl⟩
  have loc : ce.locals = sb.heap.objs.size := by rw [hce]; rfl
  rw [← hce] at Ic pg pk pv ⊢
  obtain ⟨sc, hsc⟩ : ∃ sc : Shared, sc = { sb with heap := pushCells (sb.heap.push { cls := .type "dict", data := .dict #[] }) scope.names } := ⟨_, rfl⟩
  rw [← hsc] at Ic ⊢
  have tc : tn 0 sc.heap := Tn.keep _ _ _ tb fun b _ o e => by rw [hsc]; exact pushCells_keeps _ _ _ _ (Heap.get?_push_of_some _ e)
  have stays : ∀ {σ' : L2.St} {H' : Hp} {s' : Shared}, Inv (X.blk sb Hb scope ce fp) [] σ' H' s' → (∀ b ∈ fp, H' b = none) → ∀ b ∈ fp, FpOk (X.blk sb Hb scope ce fp) [] H' b := fun {σ' H' s'} I' hn b hm =>
    ⟨hn b hm, (I'.ok.exf b hm).1, I'.ok.exfs b hm, .inl hm, (I'.ok.exf b hm).2, fun q hq => absurd (show q ∈ ([] : List (Addr × Obj)) ++ [] from hq) (by simp)⟩
  have loop : codeAny (model X.prog X.w) X.A (.compLoop (.DictComp kx vx [⟨tg, iter, [], 0⟩] scope pos) 0 (.ref it) (.ref sa.heap.objs.size) ce) (compPost (model X.prog X.w) X.A X.xe use Qf (.ref sa.heap.objs.size) sb.heap.objs.size) sc := by
    refine compLoop_anyD (fun n s' => ∃ i H', Inv (X.blk sb Hb scope ce fp) [] (wipe σ (own.map (·.2))) H' s' ∧ tn i s'.heap ∧ (∀ b ∈ fp, H' b = none) ∧ V i n H') ?_ m0 ⟨0, Hb, Ic, tc, fun b hm => (fb b hm).1.1, v0⟩
    rintro n sd ⟨i, Hd, Id, td, nd, vd⟩
    rcases turn i n Hd vd with ⟨stop, qd⟩ | ⟨go, step⟩
    · refine thnF (Tn.done (X.blk sb Hb scope ce fp) rfl rfl rfl hc i [] sd _ Hd (fun _ _ => False) Id (stays Id nd) td stop) fun r se ⟨hr, Ie⟩ => ?_
      subst hr
      have If : Inv X pins σ Hd se := Ib.call' (ch := fp) Ie.os Ie.base Ie.hok Ie.bare fun b hm => let z := (fb b hm).1.2; ⟨z.2.2.1, z.1, z.2.2.2.1, z.2.2.2.2⟩
      have nC : Hd sb.heap.objs.size = none := by rw [← loc]; exact Ie.free
      obtain ⟨m, hm, _⟩ := Ie.loc
      replace hm : se.heap.Ns ce.locals m := hm
      rw [loc] at hm
      exact last _ _ se m Hd If qd hm (Ib.fpOk (Nat.le_refl _) nC)
    · refine thnF (Tn.item (X.blk sb Hb scope ce fp) rfl rfl rfl hc i [] sd _ Hd (fun _ _ => False) Id (stays Id nd) td go) fun r se ⟨u, hr, he⟩ => ?_
      subst hr
      refine thnF he fun _ sf ⟨x, Hf, If, rf, yf, tf, nf⟩ => ?_
      have Ip := If.pinned (stays If nf) (Tn.obj _ _ tf)
      refine thnF (pg.run _ sf _ Hf x u _ Ip rf (step x Hf yf)) fun _ sg ⟨σg, Hg, Ig, wg, qg⟩ => ?_
      refine wpAny_pure ?_
      simp only [if_true]
      refine thnF (pk.run _ sg σg Hg _ Ig qg) fun z sh ⟨yk, Hh, Ih, rh, b, ks, m', ek, hh, lh, lt, vh⟩ => ?_
      subst ek
      obtain ⟨t, rfl⟩ := rh
      refine thnF (pv.run _ sh σg Hh (fun y H' => y = .bl true ∧ H' = Hh) Ih ⟨rfl, rfl⟩) fun z2 si ⟨yv, Hi, Ii, _, _, eH⟩ => ?_
      subst eH
      refine put_key (X := X.blk sb Hb scope ce fp) Ii hh lh fun sj Ij => ?_
      have keep : ∀ b ∈ fp, ∀ o, sf.heap.get? b = some o → sj.heap.get? b = some o ∧ upd Hi sa.heap.objs.size (DoB X.prog X.w sa.heap.objs.size (ks ++ [_])) b = none := fun b hb o e =>
        let q := Ij.pin (b, o) (List.mem_append_right _ (List.mem_append_right _ (mem_pinsAt hb e)))
        ⟨q.1, q.2.1⟩
      refine ⟨m', lt, i + 1, _, (Ij.unpinned (pins := [])).weak (by rw [← wg, wipe_length]) (fun j v e => ?_), Tn.keep _ _ _ tf fun b hb o e => (keep b hb o e).1, fun b hb => ?_, vh⟩
      · rw [← wg] at e
        exact (wipe_some e).1
      · obtain ⟨o, e, _⟩ := Tn.obj _ _ tf b hb
        exact (keep b hb o e).2
  exact codeAny_compStart_dict loop (Tn.self X.A 0 _ _ _ tc loop)
theorem sw_trueB {kx vx : Expr} {gs : List Comprehension} {scope : Scope} {pos py : Pos} {y : Str} {l : Nat} {env : Env} (hk : env.scope.kind = .function) (hy : env.scope.names.lookup y = some .local) (hl : (py.line == pos.line) = true)
    (ha : (scope.names.any fun (n, k) => n == y && (k == .local || k == .cell)) = false) : swapsWith (.DictComp kx vx gs scope pos) (some (.Name y py)) l env = pure true := by
  have hb : env.blockKind = .function := by unfold Env.blockKind; rw [hk]; rfl
  unfold swapsWith
  simp only [hb, show env.kindOf y = some .local from hy, ha, Expr.pos, hl]
  rfl
theorem ps_setBd {i : Nat} {y : Str} {py : Pos} {kx vx tg iter : Expr} {scope : Scope} {own : List (Str × Nat)} {pos spos : Pos} {wi : TI} {g : TG} {tk : TE} (hc : X.calm = true) (hN : X.N.Nodup) (hy : X.N[i]? = some y) (hyl : X.env.scope.names.lookup y = some .local)
    (hsw : swapsWith (.DictComp kx vx [⟨tg, iter, [], 0⟩] scope pos) (some (.Name y py)) spos.line X.env = pure true) (hi : PI X tg iter wi) (ok : BlkOk X.N X.env.scope scope own)
    (hb : ∀ (s : Shared) (H : Hp) (C : Addr) (cl : List (Str × Addr)) (fp : List Addr), PG (X.blk s H scope (compEnvC scope cl C X.env) fp) tg g ∧ PE (X.blk s H scope (compEnvC scope cl C X.env) fp) kx tk ∧ PE (X.blk s H scope (compEnvC scope cl C X.env) fp) vx (tC (.bl true)))
    (hs : ∀ x, foldedSetIterable iter X.env x = pure x := by intro _; rfl) :
    PS X (.Assign [.Name y py] (.DictComp kx vx [⟨tg, iter, [], 0⟩] scope pos) spos) (tAsg (tBd X.prog X.w wi g tk (own.map (·.2))) (gName i)) := by
  refine ⟨fun pins s σ H D I h => ?_⟩
  rw [exec_Assign_Name_used _ _ _ _ hsw]
  refine wpAny_bind (wpAny_standAt (wpAny_bind ?_))
  show wpAny _ X.A (do let _ ← comprehension (.DictComp kx vx [⟨tg, iter, [], 0⟩] scope pos) scope X.env (firstIterPos [⟨tg, iter, [], 0⟩] pos) newDict false (eval iter X.env) (some (assign (.Name y py) X.env))) _ _ s
  refine wpAny_bind (thn (bd_core (Q := fun x H1 => gName i x σ H1 D.nx) (Qf := fun _ s' => SP X pins D .next s') hc hN I hi ok hb hs h fun p C s' m H' I' q hn f => ?_) fun _ s' hq => wpAny_pure (wpAny_pure hq))
  show wpAny _ _ (assign (.Name y py) X.env (.ref p)) _ _ _
  refine wpAny_assign_Name (store_ok2 (v := V.ref p) I' hN hy (.inl hyl) rfl (fun s2 I2 ⟨a, sb, ha⟩ => ?_) (.inr hyl))
  obtain ⟨f0, f1, f2, f3, f4, f5⟩ := f
  have ne : C ≠ a := ha.elim (fun z => by rw [z]; exact f1) fun z e => f4 y a z e.symm
  exact ⟨m, hn.sameBut sb ne, fun h3 sb3 => ⟨_, H', I2.turned (t' := s2.toks) (fun b o hb e => (sb3.2 b hb).trans e) f0 f1 f3 f4 f5, q⟩⟩
def rNotInDB (P : Program) (w : World) : R2 := fun x y H Q => ∃ b p ks, x = .byt b ∧ y = .ref p ∧ H p = some (DoB P w p ks) ∧ Q (.bl (!decide (b ∈ ks))) H
theorem op_notInDB : OpR X (compareOp .NotIn) (rNotInDB X.prog X.w) := by
  intro pins s σ H x y v u Q I rx ry h
  obtain ⟨b, p, ks, rfl, rfl, hp, q⟩ := h
  obtain ⟨t, rfl⟩ := rx
  cases ry
  obtain ⟨⟨n, kvs, d, l, e⟩, _⟩ := I.hok p _ hp
  refine wpAny_notIn_of (is_of b t) n d.mapOf ⟨.bl _, H, I.tok _, rfl, ?_⟩
  rw [e b.toList]
  exact q
end
end DL.Byt
namespace DL
open PySem L2 Evl PySem.Spec PyProof.Rows
def dbL (g : DG) (dk : DE) (vs : List Nat) (q : List (Array UInt8) → Ro → Prop) : List D → List (Array UInt8) → Ro → Prop
  | [], acc, ρ => q acc ρ
  | d :: ds, acc, ρ => g (.val d) (wipeD ρ vs) fun ρ1 => dk ρ1 (fun u ρ2 => match u with
    | .val (.byt b) => acc.length < sizeLine ∧ dbL g dk vs q ds (acc ++ [b]) (wipeD ρ2 vs)
    | _ => False) (fun _ _ _ => False)
abbrev DMB := Ro → (List (Array UInt8) → Ro → Prop) → ER → Prop
def dBd (di : DI) (g : DG) (dk : DE) (vs : List Nat) : DMB := fun ρ q er => di ρ (fun ds ρ1 => dbL g dk vs q ds [] ρ1) er
def dSeqB (i : Nat) (dm : DMB) (rest : Addr → List (Array UInt8) → DS) : DS := fun DD ρ => dm ρ (fun ks ρ1 => isPar ρ1 i = false ∧ ∀ p, rest p ks DD (ρ1.set i (.val (.ptr p)))) DD.er
def dNotDB (i : Nat) (p : Addr) (ks : List (Array UInt8)) (de : DE) : DE := fun ρ q er => de ρ (fun t ρ1 => match t with
  | .val (.byt b) => ρ1[i]? = some (.val (.ptr p)) ∧ q (.val (.bl (!decide (b ∈ ks)))) ρ1
  | _ => False) er
section
variable {K : PySem.W.Frag} {pa : PaG} {W : WX}
theorem Sim.atG {F G H : Hp} {σ : RSt} {ρ : Ro} {p : Addr} {o : HO} (S : Sim K pa F G σ H ρ) (hp : H p = some o) (n : NoCode o) (gp : G p = none) (fp : F p = none) (fr : ∀ (i : Nat) (s : Sl) (d : D), ρ[i]? = some s → s.ownD = some d → σ[i]? ≠ some (some (.ref p))) : Ex G (upd G p o) ∧ Sim K pa F (upd G p o) σ H ρ := by
  refine ⟨Ex.new gp, S.grow (Ex.new gp) (fun b u q => ?_) S.fx (S.dj.gadd fp (S.dj.ne hp n)) fun i s d b h1 h2 h3 => ?_⟩
  · by_cases hb : b = p
    · subst hb; rw [upd_same] at q; rw [hp]; exact q
    · rw [upd_ne hb] at q; exact S.ex b u q
  · obtain ⟨b', q1, q2, _⟩ := S.own i s d h1 h2
    rw [h3] at q1
    cases q1
    exact ⟨by rw [upd_ne (fun z => fr i s d h1 h2 (by rw [h3, z]))]; exact q2, rfl⟩
def SB (K : PySem.W.Frag) (pa : PaG) (W : WX) (P : Program) (w : World) (te : TE) (dm : DMB) : Prop := ∀ (F G : Hp) (σ : RSt) (H : Hp) (ρ : Ro) (Q : VK) (q : List (Array UInt8) → Ro → Prop) (er : ER), Sim K pa F G σ H ρ → dm ρ q er →
  (∀ G' H' p ks ρ', Ex G G' → Sim K pa F G' σ H' ρ' → G' p = some (Byt.DoB P w p ks) → pa.g p = none → q ks ρ' → Q (.ref p) H') → XL K pa F G W σ er → te σ H Q
theorem sb_bd {P : Program} {w : World} {wi : TI} {di : DI} {g : TG} {dg : DG} {tk : TE} {dk : DE} {vs ns : List Nat} (hn : ∀ i ∈ ns, i ∈ vs) (hi : SI K pa W wi di) (hg : SG K pa ns g dg) (hk : SE K pa W tk dk) : SB K pa W P w (Byt.tBd P w wi g tk vs) (dBd di dg dk vs) := fun F G σ H ρ Q q er S h k x =>
  hi F G σ H ρ _ _ _ S h (fun G1 H1 J ds ρ1 e1 S1 ok h1 => by
    intro p hp
    have fF : F p = none := fresh_back S1.fx hp
    have gp1 : pa.g p = none := fresh_back (S1.gx.trans S1.ex) hp
    refine ⟨fun i m H' => m = ds.length - i ∧ i ≤ ds.length ∧ ∃ G2 ρ2 acc, Ex G1 G2 ∧ Sim K pa F G2 σ H' ρ2 ∧ G2 p = none ∧ H' p = some (Byt.DoB P w p acc) ∧ (∀ (i : Nat) (s : Sl) (d : DL.D), ρ2[i]? = some s → s.ownD = some d → σ[i]? ≠ some (some (.ref p))) ∧ dbL dg dk vs q (ds.drop i) acc ρ2,
      ⟨_, rfl, Nat.zero_le _, G1, ρ1, [], Ex.refl G1, S1.new hp, fresh_back S1.ex hp, upd_same, fresh_no S1 hp, h1⟩, ?_⟩
    rintro i m H' ⟨rfl, hi, G2, ρ2, acc, e2, S2, gD, hHD, fr, h2⟩
    by_cases hlt : i < ds.length
    · rw [List.drop_eq_getElem_cons hlt] at h2
      refine .inr ⟨ok.go i H' (e2.trans S2.ex) hlt, fun x H3 hy => ?_⟩
      obtain ⟨G3, a, r⟩ := ok.yld i H' x H3 hy G2 e2 S2.ex ds[i] (by simp [hlt])
      have hD3 : H3 p = some (Byt.DoB P w p acc) := a.h p _ hHD
      have S3 : Sim K pa (upd F p (Byt.DoB P w p acc)) G3 (wipe σ vs) H3 (wipeD ρ2 vs) := ((S2.al a).frameIn (a.n p gD (by rw [hHD]; simp)) hD3 Byt.noCode_DoB fr).wipeTo wipe_wipe.symm
      refine hg _ G3 _ H3 _ x (.val ds[i]) _ _ S3 r h2 fun G4 σ4 H4 ρ4 e4 S4 w4 h4 => ?_
      have ws : wipe σ4 vs = wipe σ vs := by rw [w4 vs hn, wipe_wipe]
      refine ⟨ws, hk _ G4 σ4 H4 ρ4 _ _ _ S4 h4 (fun G6 H6 y s ρ6 e6 S6 r6 h6 => ?_) xl_none⟩
      have S7 := S6.wipeTo (σ' := σ) ws
      have b1 : H6 p = some (Byt.DoB P w p acc) := S6.fx p _ upd_same
      have b2 : G6 p = none := S6.dj p _ upd_same
      have b3 : Sim K pa F G6 σ H6 (wipeD ρ6 vs) := S7.frame (Ex.new fF)
      have b4 : ∀ (i : Nat) (s : Sl) (d : DL.D), (wipeD ρ6 vs)[i]? = some s → s.ownD = some d → σ[i]? ≠ some (some (.ref p)) := fun i s d h1 h2 h3 => by
        have := S7.ofr i s d p h1 h2 h3
        rw [upd_same] at this
        cases this
      match s, r6, h6 with
      | .val (.byt b), r6, h6 =>
        have r6 : Rep K G6 y (.byt b) := r6
        cases r6
        refine ⟨b, acc, ds.length - (i + 1), rfl, b1, h6.1, by omega, rfl, hlt, G6, _, _, ((e2.trans a.g).trans e4).trans e6, ?_, b2, upd_same, b4, h6.2⟩
        refine b3.grow (Ex.refl G6) (fun c o q => ?_) (fun c o q => ?_) (b3.dj.mut b1 Byt.noCode_DoB) fun i s d c h1 h2 h3 => ⟨?_, ?_⟩
        · rw [upd_ne (fun z => by rw [z, b2] at q; cases q)]; exact b3.ex c o q
        · rw [upd_ne (fun z => by rw [z, fF] at q; cases q)]; exact b3.fx c o q
        · obtain ⟨c', q1, q2, _⟩ := b3.own i s d h1 h2
          rw [h3] at q1
          cases q1
          exact q2
        · exact upd_ne fun z => b4 i s d h1 h2 (by rw [h3, z])
    · have e : i = ds.length := by omega
      subst e
      rw [List.drop_length] at h2
      obtain ⟨ea, Sa⟩ := S2.atG hHD Byt.noCode_DoB gD fF fr
      exact .inl ⟨ok.stop _ H' (e2.trans S2.ex) (Nat.le_refl _), k _ H' p acc ρ2 ((e1.trans e2).trans ea) Sa upd_same gp1 h2⟩) x
theorem Sim.more {F G H : Hp} {σ : RSt} {ρ : Ro} {g : Hp} (S : Sim K pa F G σ H ρ) (e : Ex g G) : Sim K ⟨pa.f, g, pa.T⟩ F G σ H ρ :=
  ⟨S.len, S.ex, S.fx, S.dj, S.val, S.own, S.ofr, S.par, e, S.dis⟩
theorem Sim.less {F G H : Hp} {σ : RSt} {ρ : Ro} {g : Hp} (S : Sim K ⟨pa.f, g, pa.T⟩ F G σ H ρ) (e : Ex pa.g g) : Sim K pa F G σ H ρ :=
  ⟨S.len, S.ex, S.fx, S.dj, S.val, S.own, S.ofr, S.par, e.trans S.gx, S.dis⟩
theorem ss_seqB {P : Program} {w : World} {te : TE} {dm : DMB} {i : Nat} {us : TS} {rest : Addr → List (Array UInt8) → DS} (h1 : SB K pa W P w te dm) (h2 : ∀ p ks, SS K ⟨pa.f, upd pa.g p (Byt.DoB P w p ks), pa.T⟩ W us (rest p ks)) :
    SS K pa W (tSeq (tAsg te (gName i)) us) (dSeqB i dm rest) := fun F G σ H ρ D DD S h l =>
  h1 F G σ H ρ _ _ _ S h (fun G' H' p ks ρ' e S' gp np q => by
    have ne : Ex pa.g (upd pa.g p (Byt.DoB P w p ks)) := Ex.new np
    have eg : Ex (upd pa.g p (Byt.DoB P w p ks)) G' := fun b u z => by
      by_cases hb : b = p
      · subst hb; rw [upd_same] at z; rw [gp]; exact z
      · rw [upd_ne hb] at z; exact S'.gx b u z
    have S2 := (S'.store (i := i) (v := .ref p) q.1 (.ptr p)).more eg
    refine h2 p ks F G' _ H' _ _ _ S2 (q.2 p) ?_
    exact ⟨fun _ _ _ _ e1 s z => l.nx _ _ _ _ (e.trans e1) (s.less ne) z, fun _ _ _ _ e1 s z => l.bk _ _ _ _ (e.trans e1) (s.less ne) z, fun _ _ _ _ e1 s z => l.ct _ _ _ _ (e.trans e1) (s.less ne) z,
      fun _ _ _ _ _ _ e1 s r z => l.rt _ _ _ _ _ _ (e.trans e1) (s.less ne) r z, fun _ _ _ _ _ _ e1 s n o f z => l.rf _ _ _ _ _ _ (e.trans e1) (s.less ne) n o f z, fun _ _ _ _ _ _ _ _ e1 s z d r => l.er _ _ _ _ _ _ _ _ (e.trans e1) (s.less ne) z d r⟩) (l.xl σ)
theorem se_notDB {P : Program} {w : World} {f : Nat → Addr} {g : Hp} {T : List (Addr × Str)} {p : Addr} {ks : List (Array UInt8)} {te : TE} {de : DE} {i : Nat} (he : SE K ⟨f, upd g p (Byt.DoB P w p ks), T⟩ W te de) :
    SE K ⟨f, upd g p (Byt.DoB P w p ks), T⟩ W (tOp (Byt.rNotInDB P w) te (tVar i)) (dNotDB i p ks de) := fun F G σ H ρ Q q er S h k x =>
  he F G σ H ρ _ _ er S h (fun G1 H1 v t ρ1 e1 S1 r1 h1 => by
    match t, r1, h1 with
    | .val (.byt b), r1, h1 =>
      have r1 : Rep K G1 v (.byt b) := r1
      cases r1
      obtain ⟨hi, hq⟩ := h1
      obtain ⟨u, hu, ru⟩ := S1.val i _ hi
      cases ru
      exact ⟨_, hu, b, p, ks, rfl, rfl, S1.ex _ _ (S1.gx _ _ upd_same), k G1 H1 _ (.val (.bl _)) ρ1 e1 S1 (.bl _) hq⟩) x
end
end DL
namespace PySem.W.FB
theorem slot_bytes_repr : Slot "bytes" "__repr__" "bytes.__repr__" := .of (owner := "bytes") (n := "__repr__") (by rw [typeLookup_type, builtinLookup_eq_fast]; kernel_rfl) (by decide +kernel) (by decide +kernel) (by decide +kernel) (by first | exact .inl (by decide +kernel) | exact .inr (by decide +kernel)) (by rw [isSubtype_type]; kernel_rfl)
theorem entry_bytes_repr : entryFor table "bytes.__repr__" = some Builtin.«bytes.__repr__» := entryFor_of_tree (by kernel_rfl)
theorem args_bytes_repr_1 (a : Value) : argsOk "bytes.__repr__" ⟨[a], []⟩ := by
  unfold argsOk; rw [signature?_of (id := "bytes.__repr__") (n := ['_', '_', 'r', 'p', 'e', 'r', '_', '_']) (o := ['s', 'e', 't', 'y', 'b']) (by kernel_rfl) owner_bytes]; kernel_rfl
end PySem.W.FB
namespace DL.Byt
open PySem L2 Evl PySem.Spec PyProof.Rows
theorem gives_repr (b : Array UInt8) (t : Tok) (h : 4 * b.size + 3 ≤ sizeLine) : Gives (Builtin.«bytes.__repr__» ⟨[.bytes b t], []⟩) (.str (Builtin.Bytes.literal b)) := by
  refine .of_eq ?_
  show (Builtin.Bytes.literalAsked b >>= fun x => _) = _
  unfold Builtin.Bytes.literalAsked
  have e : Builtin.Bytes.tooLong (4 * b.size + 3 + 0) = false := by unfold Builtin.Bytes.tooLong; exact decide_eq_false (by omega)
  rw [e]
  rfl
theorem fold_len (f : Array Nat → UInt8 → Array Nat) (hf : ∀ acc c, (f acc c).size ≤ acc.size + 4) : ∀ (l : List UInt8) (a : Array Nat), (l.foldl f a).size ≤ a.size + 4 * l.length
  | [], a => by simp
  | c :: l, a => by
    have h1 := fold_len f hf l (f a c)
    have h2 := hf a c
    rw [List.foldl_cons, List.length_cons]
    omega
theorem lit_len (b : Array UInt8) : (Builtin.Bytes.literal b).length ≤ 4 * b.size + 3 := by
  unfold Builtin.Bytes.literal
  dsimp only
  generalize (if (b.contains 39 && !b.contains 34) = true then (34 : Nat) else 39) = q
  show (Array.push (b.foldl _ _) q).size ≤ _
  rw [Array.size_push, ← Array.foldl_toList]
  refine Nat.le_trans (Nat.succ_le_succ (fold_len _ (fun acc c => ?_) _ _)) ?_
  · rw [Array.size_append]
    refine Nat.add_le_add_left ?_ _
    repeat' split
    all_goals simp
  · rw [Array.length_toList]
    show 2 + 4 * b.size + 1 ≤ _
    omega
section
variable {prog : Program} {w : World} {h₀ : Heap}
theorem repr_byt (b : Array UInt8) (t : Tok) (h : 4 * b.size + 3 ≤ sizeLine) : ReprIs prog w (.bytes b t) (Builtin.Bytes.literal b) := fun n hn A E s Q hQ => by
  have hn' : n ≤ sizeLine := by omega
  rw [pyReprUnder_leaf (v := .bytes b t) hn' (fun _ e => nomatch e)]
  unfold pyRepr
  have := lit_len b
  exact wpAny_bind (wpAny_pyReprObj_gives (PySem.W.typeIs_bytes s b t) PySem.W.FB.slot_bytes_repr PySem.W.FB.entry_bytes_repr (PySem.W.FB.args_bytes_repr_1 _) (gives_repr b t h) (wpAny_pure (hQ _)) (hx := by omega))
inductive N where
  | lf (d : PyData) | byt (b : Array UInt8) | dct | lst (xs : List N) | tup (xs : List N)
def lfB : PyData → Bool
  | .none | .bool _ | .int _ | .str _ => true
  | _ => false
mutual
inductive Rd1 (h : Heap) : Value → N → Prop
  | lf {v : Value} {d : PyData} {as : List Addr} : lfB d = true → Reads h v d as → Rd1 h v (.lf d)
  | byt (b : Array UInt8) (t : Tok) : Rd1 h (.bytes b t) (.byt b)
  | dct {a : Addr} {o : Obj} {n : Nat} : h.get? a = some o → o.cls = .type "dict" → o.data = .dict #[] n → (a == sysModules) = false → Rd1 h (.ref a) .dct
  | lst {a : Addr} {o : Obj} {vs : List Value} {n : Nat} {xs : List N} : h.get? a = some o → o.cls = .type "list" → o.data = .seq vs.toArray n → Rd2 h vs xs → Rd1 h (.ref a) (.lst xs)
  | tup {a : Addr} {o : Obj} {vs : List Value} {n : Nat} {xs : List N} : h.get? a = some o → o.cls = .type "tuple" → o.data = .seq vs.toArray n → Rd2 h vs xs → Rd1 h (.ref a) (.tup xs)
inductive Rd2 (h : Heap) : List Value → List N → Prop
  | nil : Rd2 h [] []
  | cons {v : Value} {d : N} {vs : List Value} {ds : List N} : Rd1 h v d → Rd2 h vs ds → Rd2 h (v :: vs) (d :: ds)
end
theorem noref {d : PyData} {a : Addr} {as : List Addr} (h : lfB d = true) (r : Reads h₀ (.ref a) d as) : False := by
  cases r <;> cases h
mutual
theorem Rd1.det {v : Value} : ∀ {d d' : N}, Rd1 h₀ v d → Rd1 h₀ v d' → d = d'
  | _, _, .lf l r, x => by
    cases x with
    | lf l' r' => rw [(PyProof.Rows.reads_det (fun _ _ e _ => e) r r').1]
    | byt b t => cases r
    | dct _ _ _ _ => exact (noref l r).elim
    | lst _ _ _ _ => exact (noref l r).elim
    | tup _ _ _ _ => exact (noref l r).elim
  | _, _, .byt b t, x => by
    cases x with
    | lf l' r' => cases r'
    | byt _ _ => rfl
  | _, _, .dct h c k s, x => by
    cases x with
    | lf l' r' => exact (noref l' r').elim
    | dct _ _ _ _ => rfl
    | lst h' c' _ _ => rw [h] at h'; cases h'; exact absurd (c.symm.trans c') (by decide)
    | tup h' c' _ _ => rw [h] at h'; cases h'; exact absurd (c.symm.trans c') (by decide)
  | _, _, .lst h c k s, x => by
    cases x with
    | lf l' r' => exact (noref l' r').elim
    | dct h' c' _ _ => rw [h] at h'; cases h'; exact absurd (c.symm.trans c') (by decide)
    | lst h' c' k' s' =>
      rw [h] at h'; cases h'; rw [k] at k'
      have e := congrArg Array.toList (Data.seq.inj k').1
      dsimp only at e
      subst e
      rw [Rd2.det s s']
    | tup h' c' _ _ => rw [h] at h'; cases h'; exact absurd (c.symm.trans c') (by decide)
  | _, _, .tup h c k s, x => by
    cases x with
    | lf l' r' => exact (noref l' r').elim
    | dct h' c' _ _ => rw [h] at h'; cases h'; exact absurd (c.symm.trans c') (by decide)
    | tup h' c' k' s' =>
      rw [h] at h'; cases h'; rw [k] at k'
      have e := congrArg Array.toList (Data.seq.inj k').1
      dsimp only at e
      subst e
      rw [Rd2.det s s']
    | lst h' c' _ _ => rw [h] at h'; cases h'; exact absurd (c.symm.trans c') (by decide)
theorem Rd2.det {vs : List Value} : ∀ {ds ds' : List N}, Rd2 h₀ vs ds → Rd2 h₀ vs ds' → ds = ds'
  | _, _, .nil, x => by cases x; rfl
  | _, _, .cons r rr, x => by
    cases x with
    | cons r' rr' => rw [Rd1.det r r', Rd2.det rr rr']
end
mutual
def N.dep : N → Nat
  | .lf _ => 0
  | .byt _ => 0
  | .dct => 1
  | .lst xs => N.deps xs + 1
  | .tup xs => N.deps xs + 1
def N.deps : List N → Nat
  | [] => 0
  | x :: xs => max x.dep (N.deps xs)
end
mutual
def N.txt : N → Str
  | .lf d => d.shown
  | .byt b => Builtin.Bytes.literal b
  | .dct => dictText []
  | .lst xs => listText (N.txts xs)
  | .tup xs => tupleText (N.txts xs)
def N.txts : List N → List Str
  | [] => []
  | x :: xs => x.txt :: N.txts xs
end
mutual
def N.ok : N → Prop
  | .lf d => d.showable = true ∧ d.shown.length ≤ sizeLine
  | .byt b => 4 * b.size + 3 ≤ sizeLine
  | .dct => True
  | .lst xs => N.oks xs
  | .tup xs => N.oks xs
def N.oks : List N → Prop
  | [] => True
  | x :: xs => x.ok ∧ N.oks xs
end
def Deep (h₀ : Heap) (n : Nat) (bs : List Addr) : Prop := ∀ b ∈ bs, ∃ d, Rd1 h₀ (.ref b) d ∧ d.dep ≤ n
theorem Deep.not {a : Addr} {d : N} {n : Nat} {bs : List Addr} (r : Rd1 h₀ (.ref a) d) (hd : n < d.dep) (hb : Deep h₀ n bs) : a ∉ bs := fun hm => by
  obtain ⟨d', r', hd'⟩ := hb a hm
  rw [r.det r'] at hd
  omega
theorem Deep.more {a : Addr} {d : N} {n : Nat} {bs : List Addr} (r : Rd1 h₀ (.ref a) d) (hn : n ≤ d.dep) (hb : Deep h₀ n bs) : Deep h₀ d.dep (a :: bs) := fun b hm => by
  rcases List.mem_cons.mp hm with e | hm
  · subst e; exact ⟨_, r, Nat.le_refl _⟩
  · obtain ⟨d', r', hd'⟩ := hb b hm
    exact ⟨d', r', Nat.le_trans hd' hn⟩
mutual
theorem Rd1.repr : ∀ {v : Value} {d : N}, Rd1 h₀ v d → d.ok → ∃ bs, Deep h₀ d.dep bs ∧ ReprK prog w bs h₀ d.dep v d.txt
  | _, _, .lf (d := d) l r, k => by
    refine ⟨[], (fun _ z => nomatch z), ?_⟩
    have k1 := k.1
    have k2 := k.2
    show ReprK prog w [] h₀ 0 _ d.shown
    cases r with
    | none => simp only [PyData.shown]; exact .of_is ReprIs.none _ _ _
    | bool b => simp only [PyData.shown]; exact .of_is (ReprIs.bool b) _ _ _
    | int i t => simp only [PyData.shown]; exact .of_is (ReprIs.int t (by simpa [PyData.showable] using k1)) _ _ _
    | str x t => simp only [PyData.shown]; exact .of_is (ReprIs.str x t (by simpa only [PyData.shown] using k2)) _ _ _
    | list _ _ _ _ => cases l
    | tuple _ _ _ _ => cases l
    | dict _ _ _ _ _ => cases l
  | _, _, .byt b t, k => ⟨[], (fun _ z => nomatch z), .of_is (repr_byt b t k) _ _ _⟩
  | _, _, .dct (a := a) h c x s, _ => by
    refine ⟨[a], fun b hb => ?_, ?_⟩
    · rw [List.mem_singleton.mp hb]; exact ⟨_, .dct h c x s, Nat.le_refl _⟩
    · exact ReprK.dict (as := []) (ps := []) h c x s (by simp) .nil
  | _, _, .lst (a := a) (xs := xs) (vs := vs) h c x rr, k => by
    obtain ⟨bs, hb, hk⟩ := Rd2.repr rr (show N.oks xs from k)
    have r : Rd1 h₀ (.ref a) (.lst xs) := .lst h c x rr
    have hna : a ∉ bs := Deep.not r (Nat.lt_succ_self _) hb
    refine ⟨a :: bs, Deep.more r (Nat.le_succ _) hb, ?_⟩
    show ReprK prog w _ h₀ (N.deps xs + 1) _ (listText (N.txts xs))
    cases vs with
    | nil =>
      cases rr
      show ReprK prog w _ h₀ _ _ (listText [])
      rw [listText_nil]
      exact ReprK.listEmpty h c x
    | cons v vs => exact ReprK.list h c x hna (by simpa using hk.length_eq) (fun i y e => hk.item i y (by simpa using e))
  | _, _, .tup (a := a) (xs := xs) (vs := vs) h c x rr, k => by
    obtain ⟨bs, hb, hk⟩ := Rd2.repr rr (show N.oks xs from k)
    have r : Rd1 h₀ (.ref a) (.tup xs) := .tup h c x rr
    have hna : a ∉ bs := Deep.not r (Nat.lt_succ_self _) hb
    exact ⟨a :: bs, Deep.more r (Nat.le_succ _) hb, ReprK.tuple h c x hna hk⟩
theorem Rd2.repr : ∀ {vs : List Value} {ds : List N}, Rd2 h₀ vs ds → N.oks ds → ∃ bs, Deep h₀ (N.deps ds) bs ∧ ReprAllK prog w bs h₀ (N.deps ds) vs (N.txts ds)
  | _, _, .nil, _ => ⟨[], (fun _ z => nomatch z), .nil⟩
  | _, _, .cons (d := d) (ds := ds) r rr, k => by
    obtain ⟨b1, h1, k1⟩ := Rd1.repr r (show d.ok ∧ N.oks ds from k).1
    obtain ⟨b2, h2, k2⟩ := Rd2.repr rr (show d.ok ∧ N.oks ds from k).2
    refine ⟨b1 ++ b2, fun b hm => ?_, .cons ((k1.more fun b hb => List.mem_append_left _ hb).level_le (Nat.le_max_left _ _)) (k2.more_le (fun b hb => List.mem_append_right _ hb) (Nat.le_max_right _ _))⟩
    rcases List.mem_append.mp hm with hm | hm
    · obtain ⟨d', r', q⟩ := h1 b hm
      exact ⟨d', r', Nat.le_trans q (Nat.le_max_left _ _)⟩
    · obtain ⟨d', r', q⟩ := h2 b hm
      exact ⟨d', r', Nat.le_trans q (Nat.le_max_right _ _)⟩
end
end
end DL.Byt
namespace DL
open PySem L2 Evl PySem.Spec PyProof.Rows Byt
mutual
inductive Dq (K : PySem.W.Frag) (H : Hp) : V → N → Prop
  | non : Dq K H .non (.lf .none)
  | bl (b : Bool) : Dq K H (.bl b) (.lf (.bool b))
  | int (i : Int) : Dq K H (.int i) (.lf (.int i))
  | str (x : Str) : Dq K H (.str x) (.lf (.str x))
  | byt (b : Array UInt8) : Dq K H (.byt b) (.byt b)
  | lst {a : Addr} {xs : List V} {ds : List N} : SqL K H a xs → Dqs K H xs ds → Dq K H (.ref a) (.lst ds)
  | tup {a : Addr} {xs : List V} {ds : List N} : SqT K H a xs → Dqs K H xs ds → Dq K H (.ref a) (.tup ds)
  | dct {a : Addr} : H a = some (.dK []) → Dq K H (.ref a) .dct
inductive Dqs (K : PySem.W.Frag) (H : Hp) : List V → List N → Prop
  | nil : Dqs K H [] []
  | cons {v : V} {vs : List V} {d : N} {ds : List N} : Dq K H v d → Dqs K H vs ds → Dqs K H (v :: vs) (d :: ds)
end
section
variable {X : Cx} {pins : List (Addr × Obj)} {σ : L2.St} {H : Hp} {s : Shared}
mutual
theorem Dq.rd (I : Inv X pins σ H s) : ∀ (d : N) (v : V) (u : Value), Dq X.K H v d → RelV v u → Rd1 s.heap u d
  | .lf _, _, _, h, r => by
    cases h with
    | non => cases r; exact .lf rfl .none
    | bl b => cases r; exact .lf rfl (.bool b)
    | int i => obtain ⟨t, rfl⟩ := r; exact .lf rfl (.int i t)
    | str x => obtain ⟨t, rfl⟩ := r; exact .lf rfl (.str x t)
  | .byt b, _, _, h, r => by
    cases h
    obtain ⟨t, rfl⟩ := r
    exact .byt b t
  | .dct, _, _, h, r => by
    cases h with
    | @dct a ha =>
      cases r
      obtain ⟨_, hs, vs, kv, o, es, ep, ho, hx, hd, rr⟩ := I.hok a _ ha
      have hv : vs = [] := by cases kv; rfl
      subst hv
      have he : es = #[] := Array.size_eq_zero_iff.mp ((Array.length_toList).symm.trans rr.2.1.length)
      subst he
      exact .dct ho hx.1 hd hs
  | .lst ds, _, _, h, r => by
    cases h with
    | lst hs ha =>
      cases r
      obtain ⟨us, rv, ⟨o, n, ho, hc, _, hd⟩, _⟩ := I.list hs
      exact .lst ho hc hd (Dqs.rd I ds _ us ha rv)
  | .tup ds, _, _, h, r => by
    cases h with
    | tup hs ha =>
      cases r
      obtain ⟨us, rv, ⟨o, ho, hc, n, hd⟩, _⟩ := I.tuple hs
      exact .tup ho hc hd (Dqs.rd I ds _ us ha rv)
theorem Dqs.rd (I : Inv X pins σ H s) : ∀ (ds : List N) (vs : List V) (us : List Value), Dqs X.K H vs ds → Vals vs us → Rd2 s.heap us ds
  | [], _, _, h, r => by
    cases h
    cases r
    exact .nil
  | d :: ds, _, _, h, r => by
    cases h with
    | cons h1 h2 =>
      cases r with
      | cons r1 r2 => exact .cons (Dq.rd I d _ _ h1 r1) (Dqs.rd I ds _ _ h2 r2)
end
end
def rReprN (K : PySem.W.Frag) : List V → Hp → VK → Prop := fun xs H Q => ∃ a ds, xs = [.ref a] ∧ Dq K H (.ref a) (.lst ds) ∧ N.oks ds ∧ N.deps ds < 60 ∧ (N.lst ds).txt.length ≤ sizeLine ∧ Q (.str (N.lst ds).txt) H
theorem call_reprN {X : Cx} (hg : X.A.guards = some []) (hu : X.A.units + 65 < cLine) : CallR X (.builtin "repr") (rReprN X.K) := by
  intro pins s σ H vs us Q I r h
  obtain ⟨a, ds, rfl, hd, h1, h3, h4, q⟩ := h
  rw [Vals.ref1 r]
  have rd := Dq.rd I (.lst ds) (.ref a) (.ref a) hd rfl
  have fin : ∀ h' u tk, (∀ b o, s.heap.get? b = some o → h'.get? b = some o) → ∃ x t, Value.str (N.lst ds).txt u = .str x t ∧ (fun v s' => ∃ y H', Inv X pins σ H' s' ∧ RelV y v ∧ Q y H') (Value.str (N.lst ds).txt u) { s with heap := h', toks := tk } := fun h' u tk hk => ⟨_, _, rfl, .str _, H, I.kept hk, ⟨_, rfl⟩, q⟩
  cases rd with
  | @lst _ o vs n _ ho hc hx rr =>
    have hT : s.TypeIs (.ref a) "list" := ⟨o, ho, hc⟩
    obtain ⟨bs, hb, hk⟩ := Rd2.repr (prog := X.prog) (w := X.w) rr h1
    have hna : a ∉ bs := Deep.not (.lst ho hc hx rr) (Nat.lt_succ_self _) hb
    refine call_repr_slot (by omega) hT PySem.F.slot_list_repr.toG ?_
    cases vs with
    | nil =>
      cases rr
      have e : (N.lst []).txt = "[]" := listText_nil
      rw [e] at fin
      exact call_list_repr_empty hT ho hx (fin s.heap _ _ fun _ _ z => z)
    | cons v vs =>
      have hz : (listText (N.txts ds)).length ≤ sizeLine := h4
      exact call_list_reprK ho hc hx hna (by simpa using hk.length_eq) (fun i y e => hk.item i y (by simpa using e)) (g := []) hg (fun b _ => Clear.nil b) (by show X.A.units + 1 + _ < cLine; omega) (fun _ _ z => z) fin hz
mutual
def D.toN : D → Option N
  | .non => some (.lf .none)
  | .bl b => some (.lf (.bool b))
  | .int i => some (.lf (.int i))
  | .str x => some (.lf (.str x))
  | .byt b => some (.byt b)
  | .lst xs => (D.toNs xs).map .lst
  | .tup xs => (D.toNs xs).map .tup
  | .dct [] => some .dct
  | _ => none
def D.toNs : List D → Option (List N)
  | [] => some []
  | d :: ds => (D.toN d).bind fun p => (D.toNs ds).map fun ps => p :: ps
end
section
variable {K : PySem.W.Frag}
mutual
theorem rep_dq {G H : Hp} (e : Ex G H) : ∀ {d : D} {v : V} {p : N}, Rep K G v d → d.toN = some p → Dq K H v p
  | .non, _, _, .non, h => by cases h; exact .non
  | .bl _, _, _, .bl _, h => by cases h; exact .bl _
  | .int _, _, _, .int _, h => by cases h; exact .int _
  | .str _, _, _, .str _, h => by cases h; exact .str _
  | .byt _, _, _, .byt _, h => by cases h; exact .byt _
  | .lst xs, _, p, .lst hr rr, h => by
    have h : (D.toNs xs).map N.lst = some p := by rw [← h, D.toN]
    cases q : D.toNs xs with
    | none => rw [q] at h; cases h
    | some ps => rw [q] at h; cases h; exact .lst (ex_l e hr) (reps_dq e rr q)
  | .tup xs, _, p, .tup hr rr, h => by
    have h : (D.toNs xs).map N.tup = some p := by rw [← h, D.toN]
    cases q : D.toNs xs with
    | none => rw [q] at h; cases h
    | some ps => rw [q] at h; cases h; exact .tup (ex_t e hr) (reps_dq e rr q)
  | .dct [], _, _, .dct hr rr, h => by
    cases rr
    rw [D.toN] at h
    cases h
    exact .dct (e _ _ hr)
  | .dct (_ :: _), _, _, _, h => by simp [D.toN] at h
  | .ins _ _, _, _, _, h => by simp [D.toN] at h
  | .ptr _, _, _, _, h => by simp [D.toN] at h
  | .ty _, _, _, _, h => by simp [D.toN] at h
  | .exc _ _, _, _, _, h => by simp [D.toN] at h
theorem reps_dq {G H : Hp} (e : Ex G H) : ∀ {ds : List D} {vs : List V} {ps : List N}, Reps K G vs ds → D.toNs ds = some ps → Dqs K H vs ps
  | [], _, _, .nil, h => by rw [D.toNs] at h; cases h; exact .nil
  | d :: ds, _, ps, .cons r rr, h => by
    rw [D.toNs] at h
    cases q : D.toN d with
    | none => rw [q] at h; cases h
    | some p =>
      rw [q] at h
      cases q2 : D.toNs ds with
      | none => rw [q2] at h; cases h
      | some ps => rw [q2] at h; cases h; exact .cons (rep_dq e r q) (reps_dq e rr q2)
end
def okN (ps : List N) : Prop := N.oks ps ∧ N.deps ps < 60 ∧ (N.lst ps).txt.length ≤ sizeLine
open Classical in
noncomputable def D.reprN : List D → Option D
  | [.lst xs] => (D.toNs xs).bind fun ps => if okN ps then some (.str (N.lst ps).txt) else none
  | _ => none
theorem sc_reprN : SC K (rReprN K) D.reprN := fun G H xs ds z Q e rx q k => by
  match ds, q, rx with
  | [.lst ys], q, rx =>
    obtain ⟨x, rfl, r⟩ := rx.one
    unfold D.reprN at q
    dsimp only at q
    cases hp : D.toNs ys with
    | none => rw [hp] at q; cases q
    | some ps =>
      rw [hp] at q
      simp only [Option.bind_some] at q
      by_cases h : okN ps
      · rw [if_pos h] at q
        cases q
        obtain ⟨a, vs, rfl, hs, rr⟩ := r.lst e
        exact ⟨a, ps, rfl, .lst hs (reps_dq e rr hp), h.1, h.2.1, h.2.2, k G H _ (Al.refl e) (.str _)⟩
      · rw [if_neg h] at q; cases q
end
def Tnl (d : D) (k w : Nat) : Prop := ∃ p, d.toN = some p ∧ p.ok ∧ p.dep ≤ k ∧ p.txt.length ≤ w
theorem Tnl.mono {d : D} {k w k' w' : Nat} (h : Tnl d k w) (hk : k ≤ k') (hw : w ≤ w') : Tnl d k' w' := by
  obtain ⟨p, h1, h2, h3, h4⟩ := h
  exact ⟨p, h1, h2, by omega, by omega⟩
theorem Tnl.of {d : D} {p : PyData} {k w : Nat} (e : d.toN = some (.lf p)) (h : Tol d k w) (hw : 42 * w + 40 ≤ sizeLine) (e2 : d.toE = some p) : Tnl d 0 (42 * w + 40) := by
  obtain ⟨q, h1, h2, _, h4, h5⟩ := h
  rw [e2] at h1
  cases h1
  have := PyData.shown_le 40 (by decide) p h4
  have e3 : p.shown.length ≤ 42 * w + 40 := Nat.le_trans this (by omega)
  exact ⟨_, e, ⟨h2, by omega⟩, Nat.le_refl _, e3⟩
theorem Tnl.non : Tnl .non 0 40 := Tnl.of rfl (Tol.non 0 0) (by decide) rfl
theorem Tnl.bl (b : Bool) : Tnl (.bl b) 0 40 := Tnl.of rfl (Tol.bl b 0 0) (by decide) rfl
theorem Tnl.int {i : Int} (h : i.natAbs < 10 ^ 32) : Tnl (.int i) 0 5000 := (Tnl.of rfl (Tol.int h 0) (by decide) rfl).mono (Nat.le_refl _) (by omega)
theorem Tnl.str {x : Str} (h : x.length ≤ 100) (hc : ∀ c ∈ x.cps.toList, c < 128) : Tnl (.str x) 0 5000 := (Tnl.of rfl (Tol.str h hc 0) (by decide) rfl).mono (Nat.le_refl _) (by omega)
theorem Tnl.byt {b : Array UInt8} (h : b.size ≤ 1000) : Tnl (.byt b) 0 5000 := ⟨_, rfl, Nat.le_trans (by omega : 4 * b.size + 3 ≤ 4003) (by decide), Nat.le_refl _, Nat.le_trans (lit_len b) (by omega)⟩
theorem Tnl.dct : Tnl (.dct []) 1 40 := ⟨_, rfl, trivial, Nat.le_refl _, by decide⟩
theorem tnls {k w : Nat} : ∀ {xs : List D}, (∀ x ∈ xs, Tnl x k w) → ∃ ps, D.toNs xs = some ps ∧ N.oks ps ∧ N.deps ps ≤ k ∧ piled (N.txts ps) ≤ xs.length * (w + 2)
  | [], _ => ⟨[], by rw [D.toNs], trivial, Nat.zero_le _, by simp [N.txts, piled]⟩
  | d :: xs, h => by
    obtain ⟨p, h1, h2, h3, h4⟩ := h d List.mem_cons_self
    obtain ⟨ps, g1, g2, g3, g4⟩ := tnls (xs := xs) fun x m => h x (List.mem_cons_of_mem _ m)
    refine ⟨p :: ps, by rw [D.toNs, h1, g1]; rfl, ⟨h2, g2⟩, ?_, ?_⟩
    · rw [N.deps]; omega
    · rw [N.txts, piled_cons, List.length_cons, Nat.succ_mul]; omega
theorem lt_len (ts : List Str) : (listText ts).length ≤ piled ts + 2 := by
  have h := textFrom_len_le ts 0 "["
  have e : (listText ts).length = (textFrom 0 "[" ts).length + 1 := by
    unfold listText
    rw [strLen_append]; rfl
  have e2 : (ts.map (·.length)).sum + 2 * ts.length = piled ts := by
    clear h e
    induction ts with
    | nil => rfl
    | cons t ts ih => rw [piled_cons, List.map_cons, List.sum_cons, List.length_cons]; omega
  have e3 : ("[" : Str).length = 1 := rfl
  omega
theorem tt_len (ts : List Str) : (tupleText ts).length ≤ piled ts + 3 := by
  unfold tupleText
  rw [strLen_append, strLen_append]
  have e1 : ("(" : Str).length = 1 := rfl
  have e2 : ((if (ts.length == 1) = true then ",)" else ")" : String) : Str).length ≤ 2 := by split <;> decide
  by_cases h : ts = []
  · subst h
    have : (Str.join ", " []).length = 0 := rfl
    omega
  · have := join_length_add ts h
    omega
theorem Tnl.lst {k w : Nat} {xs : List D} (h : ∀ x ∈ xs, Tnl x k w) : Tnl (.lst xs) (k + 1) (xs.length * (w + 2) + 3) := by
  obtain ⟨ps, g1, g2, g3, g4⟩ := tnls h
  refine ⟨.lst ps, by rw [D.toN, g1]; rfl, g2, by rw [N.dep]; omega, ?_⟩
  rw [N.txt]
  have := lt_len (N.txts ps)
  omega
theorem Tnl.tup {k w : Nat} {xs : List D} (h : ∀ x ∈ xs, Tnl x k w) : Tnl (.tup xs) (k + 1) (xs.length * (w + 2) + 3) := by
  obtain ⟨ps, g1, g2, g3, g4⟩ := tnls h
  refine ⟨.tup ps, by rw [D.toN, g1]; rfl, g2, by rw [N.dep]; omega, ?_⟩
  rw [N.txt]
  have := tt_len (N.txts ps)
  omega
theorem reprN_ok {k w : Nat} {xs : List D} (h : ∀ x ∈ xs, Tnl x k w) (hk : k < 60) (hw : xs.length * (w + 2) + 2 ≤ sizeLine) : ∃ s, D.reprN [.lst xs] = some (.str s) := by
  obtain ⟨ps, g1, g2, g3, g4⟩ := tnls h
  refine ⟨(N.lst ps).txt, ?_⟩
  unfold D.reprN
  dsimp only
  rw [g1]
  simp only [Option.bind_some]
  have e : (N.lst ps).txt.length ≤ sizeLine := by
    rw [N.txt]
    have := lt_len (N.txts ps)
    omega
  rw [if_pos ⟨g2, by omega, e⟩]
end DL
namespace DL
open PySem L2 Evl PySem.Spec PyProof.Rows
def dMulF (da db : DE) : DF := fun ρ q er => da ρ (fun s ρ1 => db ρ1 (fun t ρ2 => Opt (rd ρ2 s) fun a => Opt (rd ρ2 t) fun b => match a, b with
  | .lst xs, .int n => (0 ≤ n ∧ n < 2 ^ 63 ∧ xs.length * n.toNat ≤ sizeLine) ∧ q (.lst (List.replicate n.toNat xs).flatten) ρ2
  | _, _ => False) er) er
def dPar3V (i j l : Nat) (da : DF) (db : DE) (dc : DF) : DS := fun DD ρ => da ρ (fun a ρ1 => db ρ1 (fun t ρ2 => match t with
  | .val b => dc ρ2 (fun c ρ3 => ((isPar ρ3 i = false ∧ isPar ρ3 j = false) ∧ isPar ρ3 l = false) ∧ DD.nx (((ρ3.set i (.own a)).set j (.val b)).set l (.own c))) DD.er
  | .bor _ => False) DD.er) DD.er
theorem w_par3V {i j l : Nat} {da dc : DF} {db : DE} {nx : Ro → Prop} {rt : T → Ro → Prop} {rf : D → Ro → Prop} {bk ct : Ro → Prop} {er : ER} {ρ : Ro} :
    dPar3V i j l da db dc ⟨nx, rt, rf, bk, ct, er⟩ ρ = da ρ (fun a ρ1 => db ρ1 (fun t ρ2 => match t with
  | .val b => dc ρ2 (fun c ρ3 => ((isPar ρ3 i = false ∧ isPar ρ3 j = false) ∧ isPar ρ3 l = false) ∧ nx (((ρ3.set i (.own a)).set j (.val b)).set l (.own c))) er
  | .bor _ => False) er) er := rfl
section
variable {K : PySem.W.Frag} {pa : PaG} {W : WX} {i j k : Nat} {tf te tg ta tb : TE} {df dg : DF} {de da db : DE}
theorem sf_mulL (ha : SE K pa W ta da) (hb : SE K pa W tb db) : SF K pa W (tOp (rMul K) ta tb) (dMulF da db) := fun F G σ H ρ Q q er S h k x =>
  ha F G σ H ρ _ _ er S h (fun G1 H1 v s ρ1 e1 S1 r1 h1 => hb F G1 σ H1 ρ1 _ _ er S1 h1 (fun G2 H2 w t ρ2 e2 S2 r2 h2 => by
    obtain ⟨a, ea, b, eb, h3⟩ := h2
    have ra := S2.rdT (r1.mono e2) ea
    have rb := S2.rdT r2 eb
    cases a with
    | lst xs =>
      cases b with
      | int n =>
        obtain ⟨p, vs, rfl, h1, q1⟩ := ra.lst S2.ex
        rw [rb.int]
        exact .inr (.inr ⟨p, _, vs, rfl, rfl, h1, Int.le_trans (by decide) h3.1.1, h3.1.2.1, by rw [q1.length]; exact h3.1.2.2, fun l hl => k G2 _ l (.lst _) ρ2 (e1.trans e2) (S2.new hl) ⟨fresh_back S2.ex hl, fresh_back S2.fx hl⟩ ⟨_, upd_same, q1.rep _⟩ (fresh_no S2 hl) h3.2⟩)
      | _ => exact h3.elim
    | _ => cases b <;> exact h3.elim) (x.grow e1)) x
theorem ss_par3V (ha : SF K pa W tf df) (hb : SE K pa W te de) (hc : SF K pa W tg dg) (hij : i ≠ j) (hik : i ≠ k) (hjk : j ≠ k) : SS K pa W (tPar3 i j k (tCons tf (tCons te (tCons tg tNil)))) (dPar3V i j k df de dg) := fun F G σ H ρ D DD S h l =>
  ha F G σ H ρ _ _ _ S h (fun G1 H1 p a ρ1 e1 S1 gp ow fr h1 => by
    obtain ⟨F', ⟨ef, np⟩, S1', back⟩ := aside S1 gp ow fr
    refine hb F' G1 σ H1 ρ1 _ _ _ S1' h1 (fun G2 H2 v t ρ2 e2 S2 r2 h2 => ?_) (((l.xl σ).grow e1).frame ef)
    cases t with
    | bor k => exact h2.elim
    | val b =>
      refine hc F' G2 σ H2 ρ2 _ _ _ S2 h2 (fun G3 H3 b' c ρ3 e3 S3 gp2 ow2 fr2 h3 => ?_) (((l.xl σ).grow (e1.trans e2)).frame ef)
      obtain ⟨S4, gp4, ow4, fr4⟩ := back G3 H3 ρ3 (e2.trans e3) S3
      have hF : F b' = none := fresh_back ef gp2.2
      have r2' : Rep K G2 v b := r2
      refine ⟨_, _, _, rfl, l.nx G3 _ H3 _ (e1.trans (e2.trans e3)) (((S4.storeOwn h3.1.1.1 gp4 ow4 fr4).store (isPar_setO h3.1.1.2) (r2'.mono e3)).storeOwn (isPar_set (isPar_setO h3.1.2)) ⟨gp2.1, hF⟩ ow2 fun m s e hm hd hs => ?_) h3.2⟩
      by_cases z : j = m
      · subst z
        rw [List.getElem?_set, if_pos rfl] at hm
        split at hm
        · cases hm; cases hd
        · cases hm
      · rw [List.getElem?_set_ne z] at hm hs
        by_cases y : i = m
        · subst y
          rw [List.getElem?_set, if_pos rfl] at hs
          split at hs
          · cases hs
            exact np gp2.2
          · cases hs
        · rw [List.getElem?_set_ne y] at hm hs
          exact fr2 m s e hm hd hs) (l.xl σ)
end
end DL
set_option maxHeartbeats 2000000
namespace My
open PySem L2 Evl ClX DL
structure Ads where
  a_is_integer : Addr
  d_is_integer : FuncData
  a_is_sequence : Addr
  d_is_sequence : FuncData
  a_is_name : Addr
  d_is_name : FuncData
  a_is_value : Addr
  d_is_value : FuncData
  a_split_key : Addr
  d_split_key : FuncData
  a_is_key : Addr
  d_is_key : FuncData
  a_bytes_of : Addr
  d_bytes_of : FuncData
  a_Fault_init : Addr
  d_Fault_init : FuncData
  a_Fault_eq : Addr
  d_Fault_eq : FuncData
  a_p_key_word : Addr
  d_p_key_word : FuncData
  a_judge_keys : Addr
  d_judge_keys : FuncData
  a_p_law_well : Addr
  d_p_law_well : FuncData
  a_p_law_draw : Addr
  d_p_law_draw : FuncData
  a_p_law_one : Addr
  d_p_law_one : FuncData
  a_p_law_names : Addr
  d_p_law_names : FuncData
  a_p_law_value : Addr
  d_p_law_value : FuncData
  a_p_law_levels : Addr
  d_p_law_levels : FuncData
  a_p_law_rows : Addr
  d_p_law_rows : FuncData
  a_p_law_mixed : Addr
  d_p_law_mixed : FuncData
  a_p_law_is_whole : Addr
  d_p_law_is_whole : FuncData
  a_p_law_is_name : Addr
  d_p_law_is_name : FuncData
  a_p_law_is_value : Addr
  d_p_law_is_value : FuncData
  a_p_law_labels : Addr
  d_p_law_labels : FuncData
  a_p_law_cut : Addr
  d_p_law_cut : FuncData
  a_p_law_is_key : Addr
  d_p_law_is_key : FuncData
  a_p_law_word : Addr
  d_p_law_word : FuncData
  a_p_law_due : Addr
  d_p_law_due : FuncData
  a_p_law_spoil : Addr
  d_p_law_spoil : FuncData
  a_p_law_made : Addr
  d_p_law_made : FuncData
  a_law : Addr
  d_law : FuncData
  c_Fault : Addr
  c_Forest : Addr
  u_DIGITS : Value
  u_GREATEST_BYTE : Value
  u_GREATEST_VALUE : Value
  u_LETTERS : Value
  u_LONGEST_NAME : Value
abbrev Ads.isis (A : Ads) : List Addr := [A.c_Fault]
abbrev Ads.cs_place (A : Ads) : List Addr := [A.c_Fault]
abbrev Ads.cs_word (A : Ads) : List Addr := [A.c_Fault]
structure Txt (K : PySem.W.Frag) (mg : Str → Option Value) (A : Ads) : Prop where
  F_is_integer : Fun K "is_integer" "is_integer" s_is_integer A.a_is_integer A.d_is_integer
  b_is_integer : Binds K A.d_is_integer ["x"] []
  g_is_integer : mg "is_integer" = some (.ref A.a_is_integer)
  F_is_sequence : Fun K "is_sequence" "is_sequence" s_is_sequence A.a_is_sequence A.d_is_sequence
  b_is_sequence : Binds K A.d_is_sequence ["x"] []
  g_is_sequence : mg "is_sequence" = some (.ref A.a_is_sequence)
  F_is_name : Fun K "is_name" "is_name" s_is_name A.a_is_name A.d_is_name
  b_is_name : Binds K A.d_is_name ["x"] []
  g_is_name : mg "is_name" = some (.ref A.a_is_name)
  F_is_value : Fun K "is_value" "is_value" s_is_value A.a_is_value A.d_is_value
  b_is_value : Binds K A.d_is_value ["x"] []
  g_is_value : mg "is_value" = some (.ref A.a_is_value)
  F_split_key : Fun K "split_key" "split_key" s_split_key A.a_split_key A.d_split_key
  b_split_key : Binds K A.d_split_key ["key"] []
  g_split_key : mg "split_key" = some (.ref A.a_split_key)
  F_is_key : Fun K "is_key" "is_key" s_is_key A.a_is_key A.d_is_key
  b_is_key : Binds K A.d_is_key ["x"] []
  g_is_key : mg "is_key" = some (.ref A.a_is_key)
  F_bytes_of : Fun K "bytes_of" "bytes_of" s_bytes_of A.a_bytes_of A.d_bytes_of
  b_bytes_of : Binds K A.d_bytes_of ["numbers"] []
  g_bytes_of : mg "bytes_of" = some (.ref A.a_bytes_of)
  F_Fault_init : Fun K "__init__" "Fault.__init__" s_Fault_init A.a_Fault_init A.d_Fault_init
  b_Fault_init : Binds K A.d_Fault_init ["self", "place", "word"] []
  F_Fault_eq : Fun K "__eq__" "Fault.__eq__" s_Fault_eq A.a_Fault_eq A.d_Fault_eq
  b_Fault_eq : Binds K A.d_Fault_eq ["self", "other"] []
  F_p_key_word : Fun K "_key_word" "_key_word" s_p_key_word A.a_p_key_word A.d_p_key_word
  b_p_key_word : Binds K A.d_p_key_word ["row", "earlier"] []
  g_p_key_word : mg "_key_word" = some (.ref A.a_p_key_word)
  F_judge_keys : Fun K "judge_keys" "judge_keys" s_judge_keys A.a_judge_keys A.d_judge_keys
  b_judge_keys : Binds K A.d_judge_keys ["rows"] []
  g_judge_keys : mg "judge_keys" = some (.ref A.a_judge_keys)
  F_p_law_well : Fun K "_law_well" "_law_well" s_p_law_well A.a_p_law_well A.d_p_law_well
  b_p_law_well : Binds K A.d_p_law_well ["_law_cell"] []
  g_p_law_well : mg "_law_well" = some (.ref A.a_p_law_well)
  F_p_law_draw : Fun K "_law_draw" "_law_draw" s_p_law_draw A.a_p_law_draw A.d_p_law_draw
  b_p_law_draw : Binds K A.d_p_law_draw ["_law_well_here", "_law_many"] []
  g_p_law_draw : mg "_law_draw" = some (.ref A.a_p_law_draw)
  F_p_law_one : Fun K "_law_one" "_law_one" s_p_law_one A.a_p_law_one A.d_p_law_one
  b_p_law_one : Binds K A.d_p_law_one ["_law_well_here", "_law_some"] []
  g_p_law_one : mg "_law_one" = some (.ref A.a_p_law_one)
  F_p_law_names : Fun K "_law_names" "_law_names" s_p_law_names A.a_p_law_names A.d_p_law_names
  b_p_law_names : Binds K A.d_p_law_names ["_law_well_here", "_law_many"] []
  g_p_law_names : mg "_law_names" = some (.ref A.a_p_law_names)
  F_p_law_value : Fun K "_law_value" "_law_value" s_p_law_value A.a_p_law_value A.d_p_law_value
  b_p_law_value : Binds K A.d_p_law_value ["_law_well_here"] []
  g_p_law_value : mg "_law_value" = some (.ref A.a_p_law_value)
  F_p_law_levels : Fun K "_law_levels" "_law_levels" s_p_law_levels A.a_p_law_levels A.d_p_law_levels
  b_p_law_levels : Binds K A.d_p_law_levels ["_law_well_here", "_law_many"] []
  g_p_law_levels : mg "_law_levels" = some (.ref A.a_p_law_levels)
  F_p_law_rows : Fun K "_law_rows" "_law_rows" s_p_law_rows A.a_p_law_rows A.d_p_law_rows
  b_p_law_rows : Binds K A.d_p_law_rows ["_law_well_here", "_law_most"] []
  g_p_law_rows : mg "_law_rows" = some (.ref A.a_p_law_rows)
  F_p_law_mixed : Fun K "_law_mixed" "_law_mixed" s_p_law_mixed A.a_p_law_mixed A.d_p_law_mixed
  b_p_law_mixed : Binds K A.d_p_law_mixed ["_law_well_here", "_law_some"] []
  g_p_law_mixed : mg "_law_mixed" = some (.ref A.a_p_law_mixed)
  F_p_law_is_whole : Fun K "_law_is_whole" "_law_is_whole" s_p_law_is_whole A.a_p_law_is_whole A.d_p_law_is_whole
  b_p_law_is_whole : Binds K A.d_p_law_is_whole ["_law_thing"] []
  g_p_law_is_whole : mg "_law_is_whole" = some (.ref A.a_p_law_is_whole)
  F_p_law_is_name : Fun K "_law_is_name" "_law_is_name" s_p_law_is_name A.a_p_law_is_name A.d_p_law_is_name
  b_p_law_is_name : Binds K A.d_p_law_is_name ["_law_thing"] []
  g_p_law_is_name : mg "_law_is_name" = some (.ref A.a_p_law_is_name)
  F_p_law_is_value : Fun K "_law_is_value" "_law_is_value" s_p_law_is_value A.a_p_law_is_value A.d_p_law_is_value
  b_p_law_is_value : Binds K A.d_p_law_is_value ["_law_thing"] []
  g_p_law_is_value : mg "_law_is_value" = some (.ref A.a_p_law_is_value)
  F_p_law_labels : Fun K "_law_labels" "_law_labels" s_p_law_labels A.a_p_law_labels A.d_p_law_labels
  b_p_law_labels : Binds K A.d_p_law_labels ["_law_well_here", "_law_rows_so"] []
  g_p_law_labels : mg "_law_labels" = some (.ref A.a_p_law_labels)
  F_p_law_cut : Fun K "_law_cut" "_law_cut" s_p_law_cut A.a_p_law_cut A.d_p_law_cut
  b_p_law_cut : Binds K A.d_p_law_cut ["_law_numbers"] []
  g_p_law_cut : mg "_law_cut" = some (.ref A.a_p_law_cut)
  F_p_law_is_key : Fun K "_law_is_key" "_law_is_key" s_p_law_is_key A.a_p_law_is_key A.d_p_law_is_key
  b_p_law_is_key : Binds K A.d_p_law_is_key ["_law_thing"] []
  g_p_law_is_key : mg "_law_is_key" = some (.ref A.a_p_law_is_key)
  F_p_law_word : Fun K "_law_word" "_law_word" s_p_law_word A.a_p_law_word A.d_p_law_word
  b_p_law_word : Binds K A.d_p_law_word ["_law_rows_so", "_law_place"] []
  g_p_law_word : mg "_law_word" = some (.ref A.a_p_law_word)
  F_p_law_due : Fun K "_law_due" "_law_due" s_p_law_due A.a_p_law_due A.d_p_law_due
  b_p_law_due : Binds K A.d_p_law_due ["_law_rows_so"] []
  g_p_law_due : mg "_law_due" = some (.ref A.a_p_law_due)
  F_p_law_spoil : Fun K "_law_spoil" "_law_spoil" s_p_law_spoil A.a_p_law_spoil A.d_p_law_spoil
  b_p_law_spoil : Binds K A.d_p_law_spoil ["_law_well_here", "_law_rows_so"] []
  g_p_law_spoil : mg "_law_spoil" = some (.ref A.a_p_law_spoil)
  F_p_law_made : Fun K "_law_made" "_law_made" s_p_law_made A.a_p_law_made A.d_p_law_made
  b_p_law_made : Binds K A.d_p_law_made ["_law_rows_so", "_law_kind"] []
  g_p_law_made : mg "_law_made" = some (.ref A.a_p_law_made)
  F_law : Fun K "law" "law" s_law A.a_law A.d_law
  b_law : Binds K A.d_law ["_law_script"] []
  g_law : mg "law" = some (.ref A.a_law)
  cc_Forest_MOST : CCon K A.c_Forest "MOST" (.int (60))
  f_place : ∀ C ∈ A.cs_place, Cls K C ∧ NoAttr K C "place"
  f_word : ∀ C ∈ A.cs_word, Cls K C ∧ NoAttr K C "word"
  g_Fault : mg "Fault" = some (.ref A.c_Fault)
  g_Forest : mg "Forest" = some (.ref A.c_Forest)
  ic : ∀ C ∈ A.isis, IsiC K C
  isi : IsiK K
  k_DIGITS : mg "DIGITS" = some A.u_DIGITS ∧ RelV (.str (PySem.Str.ofString "0123456789")) A.u_DIGITS
  k_GREATEST_BYTE : mg "GREATEST_BYTE" = some A.u_GREATEST_BYTE ∧ RelV (.int (255)) A.u_GREATEST_BYTE
  k_GREATEST_VALUE : mg "GREATEST_VALUE" = some A.u_GREATEST_VALUE ∧ RelV (.int (1000000000000000000000000000000)) A.u_GREATEST_VALUE
  k_LETTERS : mg "LETTERS" = some A.u_LETTERS ∧ RelV (.str (PySem.Str.ofString "abcdefghijklmnopqrstuvwxyz")) A.u_LETTERS
  k_LONGEST_NAME : mg "LONGEST_NAME" = some A.u_LONGEST_NAME ∧ RelV (.int (8)) A.u_LONGEST_NAME
  kw_judge_keys_0_rows : KwOk K A.d_judge_keys ["rows"] 0 ["rows"] [0]
  mk_Fault : Mk K A.c_Fault A.a_Fault_init
  q_Fault : CmpC K A.c_Fault A.a_Fault_eq
  z_all : mg "all" = none
  z_bool : mg "bool" = none
  z_bytes : mg "bytes" = none
  z_enumerate : mg "enumerate" = none
  z_int : mg "int" = none
  z_isinstance : mg "isinstance" = none
  z_len : mg "len" = none
  z_list : mg "list" = none
  z_range : mg "range" = none
  z_repr : mg "repr" = none
  z_str : mg "str" = none
  z_tuple : mg "tuple" = none
structure Fax (K : PySem.W.Frag) (A : Ads) : Prop where
  kb_Fault : KitB K A.c_Fault
abbrev N_is_integer : List Str := ["x"]
theorem sc_is_integer : FnScope N_is_integer ["x"] (defScope s_is_integer) := ⟨rfl, rfl, rfl, by decide +kernel, rfl, by decide +kernel, by decide +kernel⟩
def body_is_integer (K : PySem.W.Frag) (A : Ads) : DS := (dRet (dAndV (dIsi K A.isis (dVar 0) (dC (.ty "int"))) (dNotV (dIsi K A.isis (dVar 0) (dC (.ty "bool"))))))
def dsp_is_integer (K : PySem.W.Frag) (A : Ads) : DSp := dBody 1 (body_is_integer K A)
abbrev N_is_sequence : List Str := ["x"]
theorem sc_is_sequence : FnScope N_is_sequence ["x"] (defScope s_is_sequence) := ⟨rfl, rfl, rfl, by decide +kernel, rfl, by decide +kernel, by decide +kernel⟩
def body_is_sequence (K : PySem.W.Frag) (A : Ads) : DS := (dRet (dIsiT K A.isis (dVar 0) (dCons (dC (.ty "list")) (dCons (dC (.ty "tuple")) dNil))))
def dsp_is_sequence (K : PySem.W.Frag) (A : Ads) : DSp := dBody 1 (body_is_sequence K A)
abbrev N_is_name : List Str := ["x", "sign"]
theorem sc_is_name : FnScope N_is_name ["x"] (defScope s_is_name) := ⟨rfl, rfl, rfl, by decide +kernel, rfl, by decide +kernel, by decide +kernel⟩
def body_is_name (K : PySem.W.Frag) (A : Ads) : DS := (dSeq (dIfS (dOr (dNot (dTruth (dIsi K A.isis (dVar 0) (dC (.ty "str"))))) (dNot (dTest (dChain D.le D.le (dC (.int 1)) (dCB D.len (dCons (dVar 0) dNil)) (dC (.int (8))))))) (dRet (dC (.bl false))) dNext)
    (dRet (dAndV (dOp D.isIn (dOp D.ix (dVar 0) (dC (.int 0))) (dC (.str (PySem.Str.ofString "abcdefghijklmnopqrstuvwxyz")))) (dCB D.all (dCons (dV (dLc (diAny (dVar 0)) (dgName 1) (fun ρ q _ => q true ρ) (dOp D.isIn (dVar 1) (dOp D.add (dC (.str (PySem.Str.ofString "abcdefghijklmnopqrstuvwxyz"))) (dC (.str (PySem.Str.ofString "0123456789"))))) [1])) dNil)))))
def dsp_is_name (K : PySem.W.Frag) (A : Ads) : DSp := dBody 2 (body_is_name K A)
abbrev N_is_value : List Str := ["x"]
theorem sc_is_value : FnScope N_is_value ["x"] (defScope s_is_value) := ⟨rfl, rfl, rfl, by decide +kernel, rfl, by decide +kernel, by decide +kernel⟩
def body_is_value (K : PySem.W.Frag) (A : Ads) : DS := (dRet (dAndV (dCall (noEr (dsp_is_integer K A)) (dN 1 (dCons (dVar 0) dNil))) (dChain D.le D.le (dUn D.neg (dC (.int (1000000000000000000000000000000)))) (dVar 0) (dC (.int (1000000000000000000000000000000))))))
def dsp_is_value (K : PySem.W.Frag) (A : Ads) : DSp := dBody 1 (body_is_value K A)
abbrev N_split_key : List Str := ["key", "labels", "start", "place", "byte"]
theorem sc_split_key : FnScope N_split_key ["key"] (defScope s_split_key) := ⟨rfl, rfl, rfl, by decide +kernel, rfl, by decide +kernel, by decide +kernel⟩
def body_split_key (K : PySem.W.Frag) (A : Ads) : DS := (dSeq (dIfS (dOr (dNot (dTruth (dIsi K A.isis (dVar 0) (dC (.ty "bytes"))))) (dTest (dOp D.eq (dCB D.len (dCons (dVar 0) dNil)) (dC (.int 0))))) dNever dNext)
    (dSeq (dIfS (dTest (dOp D.inB (dC (.int 0)) (dVar 0))) dNever dNext)
    (dSeq (dIfS (dTruth (dOp D.band (dOp D.ixB (dVar 0) (dUn D.neg (dC (.int 1)))) (dC (.int 1)))) dNever dNext)
    (dSeq (dOwn (dLst dNil) 1)
    (dSeq (dAsg (dC (.int 0)) (dgName 2))
    (dSeq (dFor (diEnumB (dCons (dVar 0) dNil)) (dgTup 2 (dgCons (dgName 3) (dgCons (dgName 4) dgNil))) (dIfS (dNot (dTruth (dOp D.band (dVar 4) (dC (.int 1))))) (dSeq (dDrop (dAppend 1 (dSlB (dVar 0) (dPart (dVar 2)) (dPart (dOp D.add (dVar 3) (dC (.int 1)))))))
    (dAsg (dOp D.add (dVar 3) (dC (.int 1))) (dgName 2))) dNext))
    (dFrz 1 (dRet (dVar 1)))))))))
def dsp_split_key (K : PySem.W.Frag) (A : Ads) : DSp := dBody 5 (body_split_key K A)
abbrev N_is_key : List Str := ["x"]
theorem sc_is_key : FnScope N_is_key ["x"] (defScope s_is_key) := ⟨rfl, rfl, rfl, by decide +kernel, rfl, by decide +kernel, by decide +kernel⟩
def body_is_key (K : PySem.W.Frag) (A : Ads) : DS := (dRet (dAndV (dIsi K A.isis (dVar 0) (dC (.ty "bytes"))) (dAndV (dOp D.gt (dCB D.len (dCons (dVar 0) dNil)) (dC (.int 0))) (dAndV (dOp D.notInB (dC (.int 0)) (dVar 0)) (dNotT (dOp D.band (dOp D.ixB (dVar 0) (dUn D.neg (dC (.int 1)))) (dC (.int 1))))))))
def dsp_is_key (K : PySem.W.Frag) (A : Ads) : DSp := dBody 1 (body_is_key K A)
abbrev N_bytes_of : List Str := ["numbers", "place", "number"]
theorem sc_bytes_of : FnScope N_bytes_of ["numbers"] (defScope s_bytes_of) := ⟨rfl, rfl, rfl, by decide +kernel, rfl, by decide +kernel, by decide +kernel⟩
def body_bytes_of (K : PySem.W.Frag) (A : Ads) : DS := (dSeq (dIfS (dNot (dTruth (dCall (noEr (dsp_is_sequence K A)) (dN 1 (dCons (dVar 0) dNil))))) dNever dNext)
    (dSeq (dFor (diEnumX (dVar 0)) (dgTup 2 (dgCons (dgName 1) (dgCons (dgName 2) dgNil))) (dIfS (dOr (dNot (dTruth (dCall (noEr (dsp_is_integer K A)) (dN 1 (dCons (dVar 2) dNil))))) (dNot (dTest (dChain D.le D.le (dC (.int 0)) (dVar 2) (dC (.int (255))))))) dNever dNext))
    (dRet (dCB D.toByt (dCons (dVar 0) dNil)))))
def dsp_bytes_of (K : PySem.W.Frag) (A : Ads) : DSp := dBody 3 (body_bytes_of K A)
abbrev N_Fault_init : List Str := ["self", "place", "word"]
theorem sc_Fault_init : FnScope N_Fault_init ["self", "place", "word"] (defScope s_Fault_init) := ⟨rfl, rfl, rfl, by decide +kernel, rfl, by decide +kernel, by decide +kernel⟩
def body_Fault_init (K : PySem.W.Frag) (A : Ads) : DS := (dSeq (dSetF A.cs_place 0 "place" (dVar 1))
    (dSetF A.cs_word 0 "word" (dVar 2)))
def dsp_Fault_init (K : PySem.W.Frag) (A : Ads) : DSp := dBody 3 (body_Fault_init K A)
abbrev N_Fault_eq : List Str := ["self", "other"]
theorem sc_Fault_eq : FnScope N_Fault_eq ["self", "other"] (defScope s_Fault_eq) := ⟨rfl, rfl, rfl, by decide +kernel, rfl, by decide +kernel, by decide +kernel⟩
def body_Fault_eq (K : PySem.W.Frag) (A : Ads) : DS := (dRet (dAndV (dIsi K A.isis (dVar 1) (dC (.ptr A.c_Fault))) (dAndV (dOp D.eq (dFld A.cs_place "place" (dVar 0)) (dFld A.cs_place "place" (dVar 1))) (dOp D.eq (dFld A.cs_word "word" (dVar 0)) (dFld A.cs_word "word" (dVar 1))))))
def dsp_Fault_eq (K : PySem.W.Frag) (A : Ads) : DSp := dBody 2 (body_Fault_eq K A)
def l_eqm (K : PySem.W.Frag) (A : Ads) : List (Addr × DSp) := [(A.c_Fault, dsp_Fault_eq K A)]
abbrev N_p_key_word : List Str := ["row", "earlier", "name", "value", "key", "one"]
theorem sc_p_key_word : FnScope N_p_key_word ["row", "earlier"] (defScope s_p_key_word) := ⟨rfl, rfl, rfl, by decide +kernel, rfl, by decide +kernel, by decide +kernel⟩
def body_p_key_word (K : PySem.W.Frag) (A : Ads) : DS := (dSeq (dIfS (dOr (dNot (dTruth (dCall (noEr (dsp_is_sequence K A)) (dN 1 (dCons (dVar 0) dNil))))) (dTest (dOp D.ne (dCB D.len (dCons (dVar 0) dNil)) (dC (.int 3))))) (dRet (dC (.str (PySem.Str.ofString "row")))) dNext)
    (dSeq (dAsg (dVar 0) (dgSq 3 (dgCons (dgName 2) (dgCons (dgName 3) (dgCons (dgName 4) dgNil)))))
    (dSeq (dIfS (dNot (dTruth (dCall (noEr (dsp_is_name K A)) (dN 1 (dCons (dVar 2) dNil))))) (dRet (dC (.str (PySem.Str.ofString "name")))) dNext)
    (dSeq (dIfS (dNot (dTruth (dCall (noEr (dsp_is_value K A)) (dN 1 (dCons (dVar 3) dNil))))) (dRet (dC (.str (PySem.Str.ofString "value")))) dNext)
    (dSeq (dIfS (dNot (dTruth (dCall (noEr (dsp_is_key K A)) (dN 1 (dCons (dVar 4) dNil))))) (dRet (dC (.str (PySem.Str.ofString "key")))) dNext)
    (dSeq (dIfS (dTest (dOp D.isIn (dVar 2) (dV (dLc (diAny (dVar 1)) (dgName 5) (fun ρ q _ => q true ρ) (dOp D.ix (dVar 5) (dC (.int 0))) [5])))) (dRet (dC (.str (PySem.Str.ofString "twice")))) dNext)
    (dSeq (dIfS (dTest (dOp (D.inBs false) (dVar 4) (dV (dLc (diAny (dVar 1)) (dgName 5) (fun ρ q _ => q true ρ) (dOp D.ix (dVar 5) (dC (.int 2))) [5])))) (dRet (dC (.str (PySem.Str.ofString "shared")))) dNext)
    (dRet (dC .non)))))))))
def dsp_p_key_word (K : PySem.W.Frag) (A : Ads) : DSp := dBody 6 (body_p_key_word K A)
abbrev N_judge_keys : List Str := ["rows", "place", "row", "word", "there", "labels"]
theorem sc_judge_keys : FnScope N_judge_keys ["rows"] (defScope s_judge_keys) := ⟨rfl, rfl, rfl, by decide +kernel, rfl, by decide +kernel, by decide +kernel⟩
def body_judge_keys (K : PySem.W.Frag) (A : Ads) : DS := (dSeq (dIfS (dOr (dNot (dTruth (dCall (noEr (dsp_is_sequence K A)) (dN 1 (dCons (dVar 0) dNil))))) (dTest (dOp D.gt (dCB D.len (dCons (dVar 0) dNil)) (dC (.int (60)))))) (dRet (dV (dMake A.c_Fault (noEr (dsp_Fault_init K A)) (dN 2 (dCons (dUn D.neg (dC (.int 1))) (dCons (dC (.str (PySem.Str.ofString "rows"))) dNil)))))) dNext)
    (dSeq (dFor (diEnumX (dVar 0)) (dgTup 2 (dgCons (dgName 1) (dgCons (dgName 2) dgNil))) (dSeq (dAsg (dCall (noEr (dsp_p_key_word K A)) (dN 2 (dCons (dVar 2) (dCons (dSl (dVar 0) dNoP (dPart (dVar 1))) dNil)))) (dgName 3))
    (dIfS (dTest (dOp D.isNotN (dVar 3) (dC .non))) (dRet (dV (dMake A.c_Fault (noEr (dsp_Fault_init K A)) (dN 2 (dCons (dVar 1) (dCons (dVar 3) dNil)))))) dNext)))
    (dSeqB 4 (dBd (diAny (dVar 0)) (dgName 2) (dOp D.ix (dVar 2) (dC (.int 2))) [2]) (fun dbp dbk => (dSeq (dFor (diEnumX (dVar 0)) (dgTup 2 (dgCons (dgName 1) (dgCons (dgName 2) dgNil))) (dSeq (dAsg (dCall (noEr (dsp_split_key K A)) (dN 1 (dCons (dOp D.ix (dVar 2) (dC (.int 2))) dNil))) (dgName 5))
    (dIfS (dAnd (dTest (dOp D.gt (dCB D.len (dCons (dVar 5) dNil)) (dC (.int 1)))) (dTest (dNotDB 4 dbp dbk (dJoinB (dC (.byt (List.toArray []))) (dSl (dVar 5) dNoP (dPart (dUn D.neg (dC (.int 1))))))))) (dRet (dV (dMake A.c_Fault (noEr (dsp_Fault_init K A)) (dN 2 (dCons (dVar 1) (dCons (dC (.str (PySem.Str.ofString "parent"))) dNil)))))) dNext)))
    (dRet (dC .non)))))))
def dsp_judge_keys (K : PySem.W.Frag) (A : Ads) : DSp := dBody 6 (body_judge_keys K A)
abbrev N_p_law_well : List Str := ["_law_cell"]
theorem sc_p_law_well : FnScope N_p_law_well ["_law_cell"] (defScope s_p_law_well) := ⟨rfl, rfl, rfl, by decide +kernel, rfl, by decide +kernel, by decide +kernel⟩
def body_p_law_well (K : PySem.W.Frag) (A : Ads) : DS := (dRetF (dLst (dCons (dOp D.mul (dVar 0) (dCB D.toInt (dCons (dOp D.ge (dVar 0) (dOp D.pow (dC (.int 10)) (dC (.int 18)))) dNil))) (dCons (dOp D.mod (dCB D.toInt (dCons (dVar 0) dNil)) (dC (.int 2147483629))) (dCons (dC (.int 0)) dNil)))))
def dsp_p_law_well (K : PySem.W.Frag) (A : Ads) : DSp := dBodyF 1 (body_p_law_well K A)
abbrev N_p_law_draw : List Str := ["_law_well_here", "_law_many", "_law_digit", "_law_mixed_here"]
theorem sc_p_law_draw : FnScope N_p_law_draw ["_law_well_here", "_law_many"] (defScope s_p_law_draw) := ⟨rfl, rfl, rfl, by decide +kernel, rfl, by decide +kernel, by decide +kernel⟩
def body_p_law_draw (K : PySem.W.Frag) (A : Ads) : DS := (dSeq (dIfS (dTest (dOp D.gt (dOp D.ix (dVar 0) (dC (.int 0))) (dC (.int 0)))) (dSeq (dAsg (dOp D.mod (dCB D.toInt (dCons (dOp D.ix (dVar 0) (dC (.int 0))) dNil)) (dVar 1)) (dgName 2))
    (dSeq (dSetIx 0 (dC (.int 0)) (dOp D.fdiv (dOp D.ix (dVar 0) (dC (.int 0))) (dVar 1)))
    (dRet (dVar 2)))) dNext)
    (dSeq (dSetIx 0 (dC (.int 2)) (dOp D.add (dOp D.ix (dVar 0) (dC (.int 2))) (dC (.int 1))))
    (dSeq (dAsg (dOp D.mod (dCB D.toInt (dCons (dOp D.pow (dOp D.add (dOp D.add (dOp D.ix (dVar 0) (dC (.int 1))) (dOp D.mul (dC (.int 50021)) (dOp D.ix (dVar 0) (dC (.int 2))))) (dC (.int 17))) (dC (.int 3))) dNil)) (dC (.int 2147483647))) (dgName 3))
    (dSeq (dAsg (dOp D.mod (dCB D.toInt (dCons (dOp D.mul (dOp D.add (dVar 3) (dOp D.ix (dVar 0) (dC (.int 2)))) (dOp D.add (dOp D.fdiv (dVar 3) (dC (.int 1021))) (dC (.int 69621)))) dNil)) (dC (.int 2147483587))) (dgName 3))
    (dRet (dOp D.mod (dCB D.toInt (dCons (dOp D.fdiv (dOp D.mod (dCB D.toInt (dCons (dOp D.mul (dVar 3) (dOp D.add (dOp D.fdiv (dVar 3) (dC (.int 2017))) (dC (.int 48271)))) dNil)) (dC (.int 2147483563))) (dC (.int 3))) dNil)) (dVar 1)))))))
def dsp_p_law_draw (K : PySem.W.Frag) (A : Ads) : DSp := dBody 4 (body_p_law_draw K A)
abbrev N_p_law_one : List Str := ["_law_well_here", "_law_some"]
theorem sc_p_law_one : FnScope N_p_law_one ["_law_well_here", "_law_some"] (defScope s_p_law_one) := ⟨rfl, rfl, rfl, by decide +kernel, rfl, by decide +kernel, by decide +kernel⟩
def body_p_law_one (K : PySem.W.Frag) (A : Ads) : DS := (dRet (dOp D.ix (dVar 1) (dCall (noEr (dsp_p_law_draw K A)) (dN 2 (dCons (dVar 0) (dCons (dCB D.len (dCons (dVar 1) dNil)) dNil))))))
def dsp_p_law_one (K : PySem.W.Frag) (A : Ads) : DSp := dBody 2 (body_p_law_one K A)
abbrev N_p_law_names : List Str := ["_law_well_here", "_law_many", "_law_letters", "_law_found", "_law_k", "_law_name", "_law_turn", "_law_elder", "_law_at"]
theorem sc_p_law_names : FnScope N_p_law_names ["_law_well_here", "_law_many"] (defScope s_p_law_names) := ⟨rfl, rfl, rfl, by decide +kernel, rfl, by decide +kernel, by decide +kernel⟩
def body_p_law_names (K : PySem.W.Frag) (A : Ads) : DS := (dSeq (dParVO 2 3 (dC (.str (PySem.Str.ofString "abcdefghijklmnoprstuvwxyz"))) (dLst dNil))
    (dSeq (dFor (diRng1 (dVar 1)) (dgName 4) (dSeq (dAsg (dCall (noEr (dsp_p_law_one K A)) (dN 2 (dCons (dVar 0) (dCons (dVar 2) dNil)))) (dgName 5))
    (dSeq (dFor (diRng1 (dCall (noEr (dsp_p_law_draw K A)) (dN 2 (dCons (dVar 0) (dCons (dC (.int 8)) dNil))))) (dgName 6) (dAsg (dOp D.add (dVar 5) (dCall (noEr (dsp_p_law_one K A)) (dN 2 (dCons (dVar 0) (dCons (dOp D.add (dVar 2) (dC (.str (PySem.Str.ofString "q0123456789")))) dNil))))) (dgName 5)))
    (dSeq (dIfS (dAnd (dTest (dOp D.ne (dVar 3) (dV (dLst dNil)))) (dTest (dOp D.eq (dCall (noEr (dsp_p_law_draw K A)) (dN 2 (dCons (dVar 0) (dCons (dC (.int 3)) dNil)))) (dC (.int 0))))) (dSeq (dAsg (dCall (noEr (dsp_p_law_one K A)) (dN 2 (dCons (dVar 0) (dCons (dVar 3) dNil)))) (dgName 7))
    (dSeq (dAsg (dCall (noEr (dsp_p_law_draw K A)) (dN 2 (dCons (dVar 0) (dCons (dCB D.len (dCons (dVar 7) dNil)) dNil)))) (dgName 8))
    (dAsg (dOp D.add (dOp D.add (dSl (dVar 7) dNoP (dPart (dVar 8))) (dCall (noEr (dsp_p_law_one K A)) (dN 2 (dCons (dVar 0) (dCons (dVar 2) dNil))))) (dSl (dVar 7) (dPart (dOp D.add (dVar 8) (dC (.int 1)))) dNoP)) (dgName 5)))) dNext)
    (dDrop (dAppend 3 (dIf (dTest (dOp D.isIn (dVar 5) (dVar 3))) (dOp D.add (dC (.str (PySem.Str.ofString "q"))) (dCB D.toStr (dCons (dVar 4) dNil))) (dVar 5))))))))
    (dRet (dVar 3))))
def dsp_p_law_names (K : PySem.W.Frag) (A : Ads) : DSp := dBodyF 9 (body_p_law_names K A)
abbrev N_p_law_value : List Str := ["_law_well_here", "_law_great"]
theorem sc_p_law_value : FnScope N_p_law_value ["_law_well_here"] (defScope s_p_law_value) := ⟨rfl, rfl, rfl, by decide +kernel, rfl, by decide +kernel, by decide +kernel⟩
def body_p_law_value (K : PySem.W.Frag) (A : Ads) : DS := (dSeq (dIfS (dTest (dOp D.eq (dCall (noEr (dsp_p_law_draw K A)) (dN 2 (dCons (dVar 0) (dCons (dC (.int 2)) dNil)))) (dC (.int 0)))) (dRet (dOp D.sub (dCall (noEr (dsp_p_law_draw K A)) (dN 2 (dCons (dVar 0) (dCons (dC (.int 19)) dNil)))) (dC (.int 9)))) dNext)
    (dSeq (dAsg (dOp D.add (dOp D.mul (dCall (noEr (dsp_p_law_draw K A)) (dN 2 (dCons (dVar 0) (dCons (dOp D.pow (dC (.int 10)) (dC (.int 15))) dNil)))) (dOp D.pow (dC (.int 10)) (dC (.int 15)))) (dCall (noEr (dsp_p_law_draw K A)) (dN 2 (dCons (dVar 0) (dCons (dOp D.pow (dC (.int 10)) (dC (.int 15))) dNil))))) (dgName 1))
    (dRet (dCall (noEr (dsp_p_law_one K A)) (dN 2 (dCons (dVar 0) (dCons (dV (dLst (dCons (dVar 1) (dCons (dOp D.sub (dC (.int 0)) (dVar 1)) (dCons (dOp D.pow (dC (.int 10)) (dC (.int 30))) (dCons (dOp D.sub (dC (.int 0)) (dOp D.pow (dC (.int 10)) (dC (.int 30)))) dNil)))))) dNil)))))))
def dsp_p_law_value (K : PySem.W.Frag) (A : Ads) : DSp := dBody 2 (body_p_law_value K A)
abbrev N_p_law_levels : List Str := ["_law_well_here", "_law_many", "_law_found", "_law_style", "_law_k", "_law_most", "_law_level"]
theorem sc_p_law_levels : FnScope N_p_law_levels ["_law_well_here", "_law_many"] (defScope s_p_law_levels) := ⟨rfl, rfl, rfl, by decide +kernel, rfl, by decide +kernel, by decide +kernel⟩
def body_p_law_levels (K : PySem.W.Frag) (A : Ads) : DS := (dSeq (dParOV 2 3 (dLst dNil) (dCall (noEr (dsp_p_law_draw K A)) (dN 2 (dCons (dVar 0) (dCons (dC (.int 4)) dNil)))))
    (dSeq (dFor (diRng1 (dVar 1)) (dgName 4) (dSeq (dAsg (dIf (dTest (dOp D.ne (dVar 2) (dV (dLst dNil)))) (dOp D.add (dOp D.ix (dVar 2) (dUn D.neg (dC (.int 1)))) (dC (.int 1))) (dC (.int 0))) (dgName 5))
    (dSeq (dAsg (dVar 5) (dgName 6))
    (dSeq (dIfS (dOr (dTest (dOp D.eq (dVar 3) (dC (.int 0)))) (dAnd (dTest (dOp D.eq (dVar 3) (dC (.int 1)))) (dTest (dOp D.eq (dCall (noEr (dsp_p_law_draw K A)) (dN 2 (dCons (dVar 0) (dCons (dC (.int 4)) dNil)))) (dC (.int 0)))))) (dAsg (dCall (noEr (dsp_p_law_draw K A)) (dN 2 (dCons (dVar 0) (dCons (dOp D.add (dVar 5) (dC (.int 1))) dNil)))) (dgName 6)) dNext)
    (dSeq (dIfS (dTest (dOp D.eq (dVar 3) (dC (.int 2)))) (dAsg (dCall (noEr (dsp_p_law_draw K A)) (dN 2 (dCons (dVar 0) (dCons (dOp D.add (dC (.int 1)) (dOp D.ix (dV (dLst (dCons (dVar 5) (dCons (dC (.int 2)) dNil)))) (dCB D.toInt (dCons (dOp D.gt (dVar 5) (dC (.int 2))) dNil)))) dNil)))) (dgName 6)) dNext)
    (dDrop (dAppend 2 (dVar 6))))))))
    (dRet (dVar 2))))
def dsp_p_law_levels (K : PySem.W.Frag) (A : Ads) : DSp := dBodyF 7 (body_p_law_levels K A)
abbrev N_p_law_rows : List Str := ["_law_well_here", "_law_most", "_law_many", "_law_names_here", "_law_levels_here", "_law_k"]
theorem sc_p_law_rows : FnScope N_p_law_rows ["_law_well_here", "_law_most"] (defScope s_p_law_rows) := ⟨rfl, rfl, rfl, by decide +kernel, rfl, by decide +kernel, by decide +kernel⟩
def body_p_law_rows (K : PySem.W.Frag) (A : Ads) : DS := (dSeq (dAsg (dCall (noEr (dsp_p_law_draw K A)) (dN 2 (dCons (dVar 0) (dCons (dOp D.add (dVar 1) (dC (.int 1))) dNil)))) (dgName 2))
    (dSeq (dAsg (dTup (dCons (dV (dCallF (noEr (dsp_p_law_names K A)) (dN 2 (dCons (dVar 0) (dCons (dVar 2) dNil))))) (dCons (dV (dCallF (noEr (dsp_p_law_levels K A)) (dN 2 (dCons (dVar 0) (dCons (dVar 2) dNil))))) dNil))) (dgTup 2 (dgCons (dgName 3) (dgCons (dgName 4) dgNil))))
    (dRetF (dLc (diRng1 (dVar 2)) (dgName 5) (fun ρ q _ => q true ρ) (dTup (dCons (dOp D.ix (dVar 3) (dVar 5)) (dCons (dCall (noEr (dsp_p_law_value K A)) (dN 1 (dCons (dVar 0) dNil))) (dCons (dOp D.ix (dVar 4) (dVar 5)) dNil)))) [5]))))
def dsp_p_law_rows (K : PySem.W.Frag) (A : Ads) : DSp := dBodyF 6 (body_p_law_rows K A)
abbrev N_p_law_mixed : List Str := ["_law_well_here", "_law_some", "_law_left", "_law_found", "_law_turn"]
theorem sc_p_law_mixed : FnScope N_p_law_mixed ["_law_well_here", "_law_some"] (defScope s_p_law_mixed) := ⟨rfl, rfl, rfl, by decide +kernel, rfl, by decide +kernel, by decide +kernel⟩
def body_p_law_mixed (K : PySem.W.Frag) (A : Ads) : DS := (dSeq (dParOO 2 3 (dList (dVar 1)) (dLst dNil))
    (dSeq (dFor (diRng1 (dCB D.len (dCons (dVar 1) dNil))) (dgName 4) (dDrop (dAppend 3 (dPopAt 2 (dCall (noEr (dsp_p_law_draw K A)) (dN 2 (dCons (dVar 0) (dCons (dCB D.len (dCons (dVar 2) dNil)) dNil))))))))
    (dRet (dVar 3))))
def dsp_p_law_mixed (K : PySem.W.Frag) (A : Ads) : DSp := dBodyF 5 (body_p_law_mixed K A)
abbrev N_p_law_is_whole : List Str := ["_law_thing"]
theorem sc_p_law_is_whole : FnScope N_p_law_is_whole ["_law_thing"] (defScope s_p_law_is_whole) := ⟨rfl, rfl, rfl, by decide +kernel, rfl, by decide +kernel, by decide +kernel⟩
def body_p_law_is_whole (K : PySem.W.Frag) (A : Ads) : DS := (dRet (dAndV (dIsi K A.isis (dVar 0) (dC (.ty "int"))) (dNotV (dIsi K A.isis (dVar 0) (dC (.ty "bool"))))))
def dsp_p_law_is_whole (K : PySem.W.Frag) (A : Ads) : DSp := dBody 1 (body_p_law_is_whole K A)
abbrev N_p_law_is_name : List Str := ["_law_thing", "_law_signs", "_law_sign"]
theorem sc_p_law_is_name : FnScope N_p_law_is_name ["_law_thing"] (defScope s_p_law_is_name) := ⟨rfl, rfl, rfl, by decide +kernel, rfl, by decide +kernel, by decide +kernel⟩
def body_p_law_is_name (K : PySem.W.Frag) (A : Ads) : DS := (dSeq (dIfS (dOr (dNot (dTruth (dIsi K A.isis (dVar 0) (dC (.ty "str"))))) (dNot (dTest (dChain D.le D.le (dC (.int 1)) (dCB D.len (dCons (dVar 0) dNil)) (dC (.int 8)))))) (dRet (dC (.bl false))) dNext)
    (dSeq (dAsg (dV (dLc (diAny (dVar 0)) (dgName 2) (dTest (dOp D.notIn (dVar 2) (dC (.str (PySem.Str.ofString "abcdefghijklmnopqrstuvwxyz0123456789"))))) (dVar 2) [2])) (dgName 1))
    (dRet (dAndV (dOp D.eq (dVar 1) (dV (dLst dNil))) (dOp D.notIn (dOp D.ix (dVar 0) (dC (.int 0))) (dC (.str (PySem.Str.ofString "0123456789"))))))))
def dsp_p_law_is_name (K : PySem.W.Frag) (A : Ads) : DSp := dBody 3 (body_p_law_is_name K A)
abbrev N_p_law_is_value : List Str := ["_law_thing"]
theorem sc_p_law_is_value : FnScope N_p_law_is_value ["_law_thing"] (defScope s_p_law_is_value) := ⟨rfl, rfl, rfl, by decide +kernel, rfl, by decide +kernel, by decide +kernel⟩
def body_p_law_is_value (K : PySem.W.Frag) (A : Ads) : DS := (dRet (dAndV (dCall (noEr (dsp_p_law_is_whole K A)) (dN 1 (dCons (dVar 0) dNil))) (dChain D.le D.le (dOp D.sub (dC (.int 0)) (dOp D.pow (dC (.int 10)) (dC (.int 30)))) (dVar 0) (dOp D.pow (dC (.int 10)) (dC (.int 30))))))
def dsp_p_law_is_value (K : PySem.W.Frag) (A : Ads) : DSp := dBody 1 (body_p_law_is_value K A)
abbrev N_p_law_labels : List Str := ["_law_well_here", "_law_rows_so", "_law_found", "_law_line", "_law_counts", "_law_name", "_law_value_here", "_law_level", "_law_rank", "_law_label"]
theorem sc_p_law_labels : FnScope N_p_law_labels ["_law_well_here", "_law_rows_so"] (defScope s_p_law_labels) := ⟨rfl, rfl, rfl, by decide +kernel, rfl, by decide +kernel, by decide +kernel⟩
def body_p_law_labels (K : PySem.W.Frag) (A : Ads) : DS := (dSeq (dPar3V 2 3 4 (dLst dNil) (dV (dLst dNil)) (dMulF (dV (dLst (dCons (dC (.int 0)) dNil))) (dC (.int 61))))
    (dSeq (dFor (diAny (dVar 1)) (dgTup 3 (dgCons (dgName 5) (dgCons (dgName 6) (dgCons (dgName 7) dgNil)))) (dSeq (dOwn (dAddF (dSl (dVar 4) dNoP (dPart (dOp D.add (dVar 7) (dC (.int 1))))) (dOp D.mul (dV (dLst (dCons (dC (.int 0)) dNil))) (dOp D.sub (dC (.int 60)) (dVar 7)))) 4)
    (dSeq (dAsg (dOp D.ix (dVar 4) (dVar 7)) (dgName 8))
    (dSeq (dSetIx 4 (dVar 7) (dOp D.add (dVar 8) (dC (.int 1))))
    (dSeq (dAsg (dV (dLst (dCons (dOp D.add (dOp D.mul (dC (.int 2)) (dVar 8)) (dC (.int 2))) dNil))) (dgName 9))
    (dSeq (dIfS (dTest (dOp D.eq (dCall (noEr (dsp_p_law_draw K A)) (dN 2 (dCons (dVar 0) (dCons (dC (.int 3)) dNil)))) (dC (.int 0)))) (dAsg (dV (dLst (dCons (dOp D.add (dOp D.mul (dC (.int 2)) (dVar 8)) (dC (.int 1))) (dCons (dOp D.add (dOp D.mul (dC (.int 2)) (dCall (noEr (dsp_p_law_draw K A)) (dN 2 (dCons (dVar 0) (dCons (dC (.int 127)) dNil))))) (dC (.int 2))) dNil)))) (dgName 9)) dNext)
    (dSeq (dIfS (dTest (dOp D.eq (dCall (noEr (dsp_p_law_draw K A)) (dN 2 (dCons (dVar 0) (dCons (dC (.int 8)) dNil)))) (dC (.int 0)))) (dAsg (dV (dLst (dCons (dOp D.add (dOp D.mul (dC (.int 2)) (dVar 8)) (dC (.int 1))) (dCons (dOp D.add (dOp D.mul (dC (.int 2)) (dCall (noEr (dsp_p_law_draw K A)) (dN 2 (dCons (dVar 0) (dCons (dC (.int 128)) dNil))))) (dC (.int 1))) (dCons (dC (.int 255)) (dCons (dOp D.add (dOp D.mul (dC (.int 2)) (dCall (noEr (dsp_p_law_draw K A)) (dN 2 (dCons (dVar 0) (dCons (dC (.int 127)) dNil))))) (dC (.int 2))) dNil)))))) (dgName 9)) dNext)
    (dSeq (dAsg (dSl (dVar 3) dNoP (dPart (dVar 7))) (dgName 3))
    (dSeq (dDrop (dAppend 2 (dOp D.add (dIf (dTest (dOp D.ne0 (dVar 3) (dV (dLst dNil)))) (dOp D.ix (dVar 3) (dUn D.neg (dC (.int 1)))) (dV (dLst dNil))) (dVar 9))))
    (dAsg (dOp D.add (dVar 3) (dV (dLst (dCons (dOp D.ix (dVar 2) (dUn D.neg (dC (.int 1)))) dNil)))) (dgName 3)))))))))))
    (dFrz 2 (dRet (dVar 2)))))
def dsp_p_law_labels (K : PySem.W.Frag) (A : Ads) : DSp := dBody 10 (body_p_law_labels K A)
abbrev N_p_law_cut : List Str := ["_law_numbers", "_law_ends", "_law_at"]
theorem sc_p_law_cut : FnScope N_p_law_cut ["_law_numbers"] (defScope s_p_law_cut) := ⟨rfl, rfl, rfl, by decide +kernel, rfl, by decide +kernel, by decide +kernel⟩
def body_p_law_cut (K : PySem.W.Frag) (A : Ads) : DS := (dSeq (dAsg (dV (dLc (diRng1 (dOp D.sub (dCB D.len (dCons (dVar 0) dNil)) (dC (.int 1)))) (dgName 2) (dTest (dOp D.eq (dOp D.mod (dCB D.toInt (dCons (dOp D.ix (dVar 0) (dVar 2)) dNil)) (dC (.int 2))) (dC (.int 0)))) (dVar 2) [2])) (dgName 1))
    (dRet (dIf (dTest (dOp D.ne0 (dVar 1) (dV (dLst dNil)))) (dSl (dVar 0) dNoP (dPart (dOp D.add (dOp D.ix (dVar 1) (dUn D.neg (dC (.int 1)))) (dC (.int 1))))) (dV (dLst dNil)))))
def dsp_p_law_cut (K : PySem.W.Frag) (A : Ads) : DSp := dBody 3 (body_p_law_cut K A)
abbrev N_p_law_is_key : List Str := ["_law_thing"]
theorem sc_p_law_is_key : FnScope N_p_law_is_key ["_law_thing"] (defScope s_p_law_is_key) := ⟨rfl, rfl, rfl, by decide +kernel, rfl, by decide +kernel, by decide +kernel⟩
def body_p_law_is_key (K : PySem.W.Frag) (A : Ads) : DS := (dSeq (dIfS (dOr (dNot (dTruth (dIsi K A.isis (dVar 0) (dC (.ty "list"))))) (dOr (dTest (dOp D.eq (dVar 0) (dV (dLst dNil)))) (dTest (dOp D.isIn (dC (.int 0)) (dVar 0))))) (dRet (dC (.bl false))) dNext)
    (dRet (dOp D.eq (dOp D.mod (dCB D.toInt (dCons (dOp D.ix (dVar 0) (dUn D.neg (dC (.int 1)))) dNil)) (dC (.int 2))) (dC (.int 0)))))
def dsp_p_law_is_key (K : PySem.W.Frag) (A : Ads) : DSp := dBody 1 (body_p_law_is_key K A)
abbrev N_p_law_word : List Str := ["_law_rows_so", "_law_place", "_law_row", "_law_other"]
theorem sc_p_law_word : FnScope N_p_law_word ["_law_rows_so", "_law_place"] (defScope s_p_law_word) := ⟨rfl, rfl, rfl, by decide +kernel, rfl, by decide +kernel, by decide +kernel⟩
def body_p_law_word (K : PySem.W.Frag) (A : Ads) : DS := (dSeq (dAsg (dOp D.ix (dVar 0) (dVar 1)) (dgName 2))
    (dSeq (dIfS (dOr (dNot (dTruth (dIsi K A.isis (dVar 2) (dC (.ty "tuple"))))) (dTest (dOp D.ne (dCB D.len (dCons (dVar 2) dNil)) (dC (.int 3))))) (dRet (dC (.str (PySem.Str.ofString "row")))) dNext)
    (dSeq (dIfS (dNot (dTruth (dCall (noEr (dsp_p_law_is_name K A)) (dN 1 (dCons (dOp D.ix (dVar 2) (dC (.int 0))) dNil))))) (dRet (dC (.str (PySem.Str.ofString "name")))) dNext)
    (dSeq (dIfS (dNot (dTruth (dCall (noEr (dsp_p_law_is_value K A)) (dN 1 (dCons (dOp D.ix (dVar 2) (dC (.int 1))) dNil))))) (dRet (dC (.str (PySem.Str.ofString "value")))) dNext)
    (dSeq (dIfS (dNot (dTruth (dCall (noEr (dsp_p_law_is_key K A)) (dN 1 (dCons (dOp D.ix (dVar 2) (dC (.int 2))) dNil))))) (dRet (dC (.str (PySem.Str.ofString "key")))) dNext)
    (dSeq (dIfS (dTest (dOp D.isIn (dOp D.ix (dVar 2) (dC (.int 0))) (dV (dLc (diAny (dSl (dVar 0) dNoP (dPart (dVar 1)))) (dgName 3) (fun ρ q _ => q true ρ) (dOp D.ix (dVar 3) (dC (.int 0))) [3])))) (dRet (dC (.str (PySem.Str.ofString "twice")))) dNext)
    (dRet (dIf (dTest (dOp D.isIn (dOp D.ix (dVar 2) (dC (.int 2))) (dV (dLc (diAny (dSl (dVar 0) dNoP (dPart (dVar 1)))) (dgName 3) (fun ρ q _ => q true ρ) (dOp D.ix (dVar 3) (dC (.int 2))) [3])))) (dC (.str (PySem.Str.ofString "shared"))) (dC .non)))))))))
def dsp_p_law_word (K : PySem.W.Frag) (A : Ads) : DSp := dBody 4 (body_p_law_word K A)
abbrev N_p_law_due : List Str := ["_law_rows_so", "_law_place", "_law_word_here", "_law_known", "_law_row"]
theorem sc_p_law_due : FnScope N_p_law_due ["_law_rows_so"] (defScope s_p_law_due) := ⟨rfl, rfl, rfl, by decide +kernel, rfl, by decide +kernel, by decide +kernel⟩
def body_p_law_due (K : PySem.W.Frag) (A : Ads) : DS := (dSeq (dIfS (dTest (dOp D.gt (dCB D.len (dCons (dVar 0) dNil)) (dC (.int 60)))) (dRet (dTup (dCons (dUn D.neg (dC (.int 1))) (dCons (dC (.str (PySem.Str.ofString "rows"))) dNil)))) dNext)
    (dSeq (dFor (diRng1 (dCB D.len (dCons (dVar 0) dNil))) (dgName 1) (dSeq (dAsg (dCall (noEr (dsp_p_law_word K A)) (dN 2 (dCons (dVar 0) (dCons (dVar 1) dNil)))) (dgName 2))
    (dIfS (dTest (dOp D.isNotN (dVar 2) (dC .non))) (dRet (dTup (dCons (dVar 1) (dCons (dVar 2) dNil)))) dNext)))
    (dSeq (dAsg (dOp D.add (dV (dLc (diAny (dVar 0)) (dgName 4) (fun ρ q _ => q true ρ) (dOp D.ix (dVar 4) (dC (.int 2))) [4])) (dV (dLst (dCons (dV (dLst dNil)) dNil)))) (dgName 3))
    (dSeq (dFor (diEnumX (dVar 0)) (dgTup 2 (dgCons (dgName 1) (dgCons (dgName 4) dgNil))) (dIfS (dTest (dOp D.notIn (dCall (noEr (dsp_p_law_cut K A)) (dN 1 (dCons (dOp D.ix (dVar 4) (dC (.int 2))) dNil))) (dVar 3))) (dRet (dTup (dCons (dVar 1) (dCons (dC (.str (PySem.Str.ofString "parent"))) dNil)))) dNext))
    (dRet (dC .non))))))
def dsp_p_law_due (K : PySem.W.Frag) (A : Ads) : DSp := dBody 5 (body_p_law_due K A)
abbrev N_p_law_spoil : List Str := ["_law_well_here", "_law_rows_so", "_law_at", "_law_by", "_law_name", "_law_value_here", "_law_key", "_law_way", "_law_number", "_law_place"]
theorem sc_p_law_spoil : FnScope N_p_law_spoil ["_law_well_here", "_law_rows_so"] (defScope s_p_law_spoil) := ⟨rfl, rfl, rfl, by decide +kernel, rfl, by decide +kernel, by decide +kernel⟩
def body_p_law_spoil (K : PySem.W.Frag) (A : Ads) : DS := (dSeq (dPar 2 3 (dCons (dCall (noEr (dsp_p_law_draw K A)) (dN 2 (dCons (dVar 0) (dCons (dCB D.len (dCons (dVar 1) dNil)) dNil)))) (dCons (dCall (noEr (dsp_p_law_draw K A)) (dN 2 (dCons (dVar 0) (dCons (dCB D.len (dCons (dVar 1) dNil)) dNil)))) dNil)))
    (dSeq (dIfS (dOr (dNot (dTruth (dIsi K A.isis (dOp D.ix (dVar 1) (dVar 2)) (dC (.ty "tuple"))))) (dOr (dNot (dTruth (dIsi K A.isis (dOp D.ix (dVar 1) (dVar 3)) (dC (.ty "tuple"))))) (dNot (dTruth (dIsi K A.isis (dOp D.ix (dOp D.ix (dVar 1) (dVar 2)) (dC (.int 2))) (dC (.ty "list"))))))) dRetN dNext)
    (dSeq (dAsg (dOp D.ix (dVar 1) (dVar 2)) (dgTup 3 (dgCons (dgName 4) (dgCons (dgName 5) (dgCons (dgName 6) dgNil)))))
    (dSeq (dPar 7 8 (dCons (dCall (noEr (dsp_p_law_draw K A)) (dN 2 (dCons (dVar 0) (dCons (dC (.int 8)) dNil)))) (dCons (dCall (noEr (dsp_p_law_draw K A)) (dN 2 (dCons (dVar 0) (dCons (dC (.int 256)) dNil)))) dNil)))
    (dSeq (dIfS (dTest (dOp D.eq (dVar 7) (dC (.int 0)))) (dSetIx 1 (dVar 2) (dCall (noEr (dsp_p_law_one K A)) (dN 2 (dCons (dVar 0) (dCons (dV (dLst (dCons (dC .non) (dCons (dC (.str (PySem.Str.ofString "row"))) (dCons (dC (.int 5)) (dCons (dV dDNew) (dCons (dV (dLst dNil)) (dCons (dV (dLst (dCons (dVar 4) (dCons (dVar 5) dNil)))) (dCons (dV (dLst (dCons (dVar 4) (dCons (dVar 5) (dCons (dVar 6) (dCons (dC (.int 0)) dNil)))))) dNil))))))))) dNil))))) dNext)
    (dSeq (dIfS (dTest (dOp D.eq (dVar 7) (dC (.int 1)))) (dSetIx 1 (dVar 2) (dTup (dCons (dCall (noEr (dsp_p_law_one K A)) (dN 2 (dCons (dVar 0) (dCons (dV (dLst (dCons (dC (.str (PySem.Str.ofString ""))) (dCons (dC (.str (PySem.Str.ofString "A"))) (dCons (dC (.str (PySem.Str.ofString "1a"))) (dCons (dC (.str (PySem.Str.ofString "abcdefghi"))) (dCons (dTup (dCons (dVar 4) dNil)) (dCons (dC .non) (dCons (dC (.int 5)) (dCons (dC (.bl true)) (dCons (dC (.str (PySem.Str.ofString "a b"))) dNil))))))))))) dNil)))) (dCons (dVar 5) (dCons (dVar 6) dNil))))) dNext)
    (dSeq (dIfS (dTest (dOp D.eq (dVar 7) (dC (.int 2)))) (dSetIx 1 (dVar 2) (dTup (dCons (dVar 4) (dCons (dCall (noEr (dsp_p_law_one K A)) (dN 2 (dCons (dVar 0) (dCons (dV (dLst (dCons (dC .non) (dCons (dC (.bl true)) (dCons (dC (.str (PySem.Str.ofString "1"))) (dCons (dTup (dCons (dC (.int 1)) dNil)) (dCons (dV dDNew) (dCons (dOp D.add (dOp D.pow (dC (.int 10)) (dC (.int 30))) (dC (.int 1))) (dCons (dOp D.sub (dOp D.sub (dC (.int 0)) (dOp D.pow (dC (.int 10)) (dC (.int 30)))) (dC (.int 1))) dNil))))))))) dNil)))) (dCons (dVar 6) dNil))))) dNext)
    (dSeq (dIfS (dTest (dOp D.eq (dVar 7) (dC (.int 3)))) (dSetIx 1 (dVar 2) (dTup (dCons (dVar 4) (dCons (dVar 5) (dCons (dCall (noEr (dsp_p_law_one K A)) (dN 2 (dCons (dVar 0) (dCons (dV (dLst (dCons (dC .non) (dCons (dC (.str (PySem.Str.ofString "ab"))) (dCons (dC (.int 5)) (dCons (dTup (dCons (dC (.int 2)) dNil)) (dCons (dV dDNew) (dCons (dV (dLst dNil)) (dCons (dC (.bl true)) dNil))))))))) dNil)))) dNil))))) dNext)
    (dSeq (dIfS (dTest (dOp D.eq (dVar 7) (dC (.int 4)))) (dSetIx 1 (dVar 2) (dTup (dCons (dOp D.ix (dOp D.ix (dVar 1) (dVar 3)) (dC (.int 0))) (dCons (dVar 5) (dCons (dVar 6) dNil))))) dNext)
    (dSeq (dIfS (dTest (dOp D.eq (dVar 7) (dC (.int 5)))) (dSetIx 1 (dVar 2) (dTup (dCons (dVar 4) (dCons (dVar 5) (dCons (dOp D.ix (dOp D.ix (dVar 1) (dVar 3)) (dC (.int 2))) dNil))))) dNext)
    (dSeq (dIfS (dTest (dOp D.eq (dVar 7) (dC (.int 6)))) (dSetIx 1 (dVar 2) (dTup (dCons (dVar 4) (dCons (dVar 5) (dCons (dCall (noEr (dsp_p_law_one K A)) (dN 2 (dCons (dVar 0) (dCons (dV (dLst (dCons (dSl (dVar 6) dNoP (dPart (dUn D.neg (dC (.int 1))))) (dCons (dSl (dVar 6) (dPart (dC (.int 1))) dNoP) (dCons (dOp D.add (dVar 6) (dV (dLst (dCons (dVar 8) dNil)))) (dCons (dOp D.add (dVar 6) (dV (dLst (dCons (dC (.int 2)) dNil)))) (dCons (dOp D.add (dVar 6) (dV (dLst (dCons (dC (.int 3)) dNil)))) dNil))))))) dNil)))) dNil))))) dNext)
    (dIfS (dAnd (dTest (dOp D.eq (dVar 7) (dC (.int 7)))) (dTest (dOp D.ne0 (dVar 6) (dV (dLst dNil))))) (dSeq (dAsg (dCall (noEr (dsp_p_law_draw K A)) (dN 2 (dCons (dVar 0) (dCons (dCB D.len (dCons (dVar 6) dNil)) dNil)))) (dgName 9))
    (dSetIx 1 (dVar 2) (dTup (dCons (dVar 4) (dCons (dVar 5) (dCons (dOp D.add (dOp D.add (dSl (dVar 6) dNoP (dPart (dVar 9))) (dV (dLst (dCons (dVar 8) dNil)))) (dSl (dVar 6) (dPart (dOp D.add (dVar 9) (dC (.int 1)))) dNoP)) dNil)))))) dNext))))))))))))
def dsp_p_law_spoil (K : PySem.W.Frag) (A : Ads) : DSp := dBody 10 (body_p_law_spoil K A)
abbrev N_p_law_made : List Str := ["_law_rows_so", "_law_kind", "_law_found", "_law_row"]
theorem sc_p_law_made : FnScope N_p_law_made ["_law_rows_so", "_law_kind"] (defScope s_p_law_made) := ⟨rfl, rfl, rfl, by decide +kernel, rfl, by decide +kernel, by decide +kernel⟩
def body_p_law_made (K : PySem.W.Frag) (A : Ads) : DS := (dSeq (dOwn (dLst dNil) 2)
    (dSeq (dFor (diAny (dVar 0)) (dgName 3) (dSeq (dIfS (dAnd (dTruth (dIsi K A.isis (dVar 3) (dC (.ty "tuple")))) (dAnd (dTest (dOp D.eq (dCB D.len (dCons (dVar 3) dNil)) (dC (.int 3)))) (dTruth (dIsi K A.isis (dOp D.ix (dVar 3) (dC (.int 2))) (dC (.ty "list")))))) (dAsg (dTup (dCons (dOp D.ix (dVar 3) (dC (.int 0))) (dCons (dOp D.ix (dVar 3) (dC (.int 1))) (dCons (dCall (noEr (dsp_bytes_of K A)) (dN 1 (dCons (dOp D.ix (dVar 3) (dC (.int 2))) dNil))) dNil)))) (dgName 3)) dNext)
    (dDrop (dAppend 2 (dIf (dAnd (dTruth (dIsi K A.isis (dVar 3) (dC (.ty "tuple")))) (dTest (dOp D.eq (dVar 1) (dC (.int 1))))) (dV (dList (dVar 3))) (dVar 3))))))
    (dFrz 2 (dRet (dVar 2)))))
def dsp_p_law_made (K : PySem.W.Frag) (A : Ads) : DSp := dBody 4 (body_p_law_made K A)
abbrev N_law : List Str := ["_law_script", "_law_cell", "_law_well_here", "_law_forest", "_law_keys", "_law_rows_so", "_law_turn", "_law_due_here", "_law_handed", "_law_kept", "_law_some", "_law_told", "_law_at", "_law_row", "_law_odd"]
theorem sc_law : FnScope N_law ["_law_script"] (defScope s_law) := ⟨rfl, rfl, rfl, by decide +kernel, rfl, by decide +kernel, by decide +kernel⟩
def body_law (K : PySem.W.Frag) (A : Ads) : DS := (dSeq (dFor (diAny (dSl (dOp D.add (dVar 0) (dV (dLst (dCons (dC (.int 0)) dNil)))) dNoP (dPart (dC (.int 5))))) (dgName 1) (dSeq (dOwn (dCallF (noEr (dsp_p_law_well K A)) (dN 1 (dCons (dVar 1) dNil))) 2)
    (dSeq (dAsg (dV (dCallF (noEr (dsp_p_law_rows K A)) (dN 2 (dCons (dVar 2) (dCons (dCall (noEr (dsp_p_law_one K A)) (dN 2 (dCons (dVar 2) (dCons (dV (dLst (dCons (dC (.int 3)) (dCons (dC (.int 9)) (dCons (dC (.int 20)) dNil))))) dNil)))) dNil))))) (dgName 3))
    (dSeq (dAsg (dCall (noEr (dsp_p_law_labels K A)) (dN 2 (dCons (dVar 2) (dCons (dVar 3) dNil)))) (dgName 4))
    (dSeq (dOwn (dCallF (noEr (dsp_p_law_mixed K A)) (dN 2 (dCons (dVar 2) (dCons (dV (dLc (diEnumX (dVar 3)) (dgTup 2 (dgCons (dgName 12) (dgCons (dgName 13) dgNil))) (fun ρ q _ => q true ρ) (dTup (dCons (dOp D.ix (dVar 13) (dC (.int 0))) (dCons (dOp D.ix (dVar 13) (dC (.int 1))) (dCons (dOp D.ix (dVar 4) (dVar 12)) dNil)))) [12, 13])) dNil)))) 5)
    (dSeq (dIfFz 5 (dTest (dOp D.isNotN (dCall (noEr (dsp_judge_keys K A)) (dN 1 (dCons (dCall (noEr (dsp_p_law_made K A)) (dN 2 (dCons (dVar 5) (dCons (dC (.int 0)) dNil)))) dNil))) (dC .non))) (dRet (dC (.bl false))))
    (dSeq (dFor (diRng1 (dOp D.mul (dCall (noEr (dsp_p_law_draw K A)) (dN 2 (dCons (dVar 2) (dCons (dC (.int 4)) dNil)))) (dCB D.toInt (dCons (dOp D.ne0 (dVar 5) (dV (dLst dNil))) dNil)))) (dgName 6) (dIfS (dAnd (dTest (dOp D.eq (dCall (noEr (dsp_p_law_draw K A)) (dN 2 (dCons (dVar 2) (dCons (dC (.int 3)) dNil)))) (dC (.int 0)))) (dTest (dOp D.gt (dCB D.len (dCons (dVar 5) dNil)) (dC (.int 1))))) (dDrop (dPopAt 5 (dCall (noEr (dsp_p_law_draw K A)) (dN 2 (dCons (dVar 2) (dCons (dCB D.len (dCons (dVar 5) dNil)) dNil)))))) (dDrop (dCall (noEr (dsp_p_law_spoil K A)) (dN 2 (dCons (dVar 2) (dCons (dVar 5) dNil)))))))
    (dSeq (dFrz 5 (dPar 7 8 (dCons (dCall (noEr (dsp_p_law_due K A)) (dN 1 (dCons (dVar 5) dNil))) (dCons (dCall (noEr (dsp_p_law_made K A)) (dN 2 (dCons (dVar 5) (dCons (dCall (noEr (dsp_p_law_draw K A)) (dN 2 (dCons (dVar 2) (dCons (dC (.int 2)) dNil)))) dNil)))) dNil))))
    (dSeq (dAsg (dCB D.reprN (dCons (dVar 8) dNil)) (dgName 9))
    (dSeq (dFor (diAny (dV (dLst (dCons (dVar 8) (dCons (dCB D.toTuple (dCons (dVar 8) dNil)) (dCons (dVar 8) dNil)))))) (dgName 10) (dSeq (dAsg (dCall (noEr (dsp_judge_keys K A)) (dN 1 (dCons (dVar 10) dNil))) (dgName 11))
    (dSeq (dIfS (dOr (dTest (dOp D.ne (dOp D.isN (dVar 11) (dC .non)) (dOp D.isN (dVar 7) (dC .non)))) (dTest (dOp D.neS (dCB D.reprN (dCons (dVar 8) dNil)) (dVar 9)))) (dRet (dC (.bl false))) dNext)
    (dIfS (dAnd (dTest (dOp D.isNotN (dVar 7) (dC .non))) (dOr (dNot (dTruth (dIsi K A.isis (dVar 11) (dC (.ptr A.c_Fault))))) (dTest (dOp D.ne (dTup (dCons (dFld A.cs_place "place" (dVar 11)) (dCons (dFld A.cs_word "word" (dVar 11)) dNil))) (dVar 7))))) (dRet (dC (.bl false))) dNext))))
    (dIfS (dAnd (dTest (dOp D.ne0 (dVar 5) (dV (dLst dNil)))) (dTest (dEqO K (fun b => !b) A.isis A.c_Fault (dsp_Fault_eq K A) (dCall (noEr (dsp_judge_keys K A)) (dN 1 (dKw 0 1 [0] dNil (dCons (dOp D.mul (dVar 8) (dC (.int 61))) dNil)))) (dV (dMake A.c_Fault (noEr (dsp_Fault_init K A)) (dN 2 (dCons (dUn D.neg (dC (.int 1))) (dCons (dC (.str (PySem.Str.ofString "rows"))) dNil)))))))) (dRet (dC (.bl false))) dNext)))))))))))
    (dRet (dSelf true (l_eqm K A) (dV (dLc (diAny (dV (dLst (dCons (dC .non) (dCons (dC (.str (PySem.Str.ofString "rows"))) (dCons (dV dDNew) (dCons (dC (.int 5)) dNil))))))) (dgName 14) (fun ρ q _ => q true ρ) (dCall (noEr (dsp_judge_keys K A)) (dN 1 (dCons (dVar 14) dNil))) [14])) (dOp D.mul (dV (dLst (dCons (dV (dMake A.c_Fault (noEr (dsp_Fault_init K A)) (dN 2 (dCons (dUn D.neg (dC (.int 1))) (dCons (dC (.str (PySem.Str.ofString "rows"))) dNil))))) dNil))) (dC (.int 4))))))
def dsp_law (K : PySem.W.Frag) (A : Ads) : DSp := dBody 15 (body_law K A)
section
variable {P : Program} {w : World} {K : PySem.W.Frag} {mg : Str → Option Value} {base : Heap} {A : Ads}
theorem ok_is_integer (T : Txt K mg A) : FnOk P w K mg base CX0 1 A.a_is_integer A.d_is_integer ["x"] (SpV K 1 (dsp_is_integer K A)) :=
  T.F_is_integer.ok sc_is_integer (fun vs H Q E h => h.len) (fun cdv A' outer s H vs Q E hr h => ⟨_, (pss_one (ps_ret (pe_and (pe_callB call_isiX (by rfl) T.z_isinstance (by decide +kernel) (pa_cons (pv 0) (pa_cons (pe_bltn (v := .ty "int") (u := .type "int") (by rfl) T.z_int (by decide +kernel) rfl) pa_nil))) (pe_one (pe_not (pe_callB call_isiX (by rfl) T.z_isinstance (by decide +kernel) (pa_cons (pv 0) (pa_cons (pe_bltn (v := .ty "bool") (u := .type "bool") (by rfl) T.z_bool (by decide +kernel) rfl) pa_nil)))))))),
    bodyV (N := N_is_integer) (fun _ => (ss_ret (se_andV (se_isi T.isi T.ic se_var (se_c (fun _ => .ty "int"))) (se_notV (se_isi T.isi T.ic se_var (se_c (fun _ => .ty "bool"))))))) (by decide) h⟩)
theorem ok_is_sequence (T : Txt K mg A) : FnOk P w K mg base CX0 1 A.a_is_sequence A.d_is_sequence ["x"] (SpV K 1 (dsp_is_sequence K A)) :=
  T.F_is_sequence.ok sc_is_sequence (fun vs H Q E h => h.len) (fun cdv A' outer s H vs Q E hr h => ⟨_, (pss_one (ps_ret (pe_callB call_isiX (by rfl) T.z_isinstance (by decide +kernel) (pa_cons (pv 0) (pa_cons (pe_tup (pa_cons (pe_bltn (v := .ty "list") (u := .type "list") (by rfl) T.z_list (by decide +kernel) rfl) (pa_cons (pe_bltn (v := .ty "tuple") (u := .type "tuple") (by rfl) T.z_tuple (by decide +kernel) rfl) pa_nil))) pa_nil))))),
    bodyV (N := N_is_sequence) (fun _ => (ss_ret (se_isiT T.isi T.ic se_var (sa_cons (se_c (fun _ => .ty "list")) (sa_cons (se_c (fun _ => .ty "tuple")) sa_nil))))) (by decide) h⟩)
theorem ok_is_name (T : Txt K mg A) : FnOk P w K mg base CX0 1 A.a_is_name A.d_is_name ["x"] (SpV K 1 (dsp_is_name K A)) :=
  T.F_is_name.ok sc_is_name (fun vs H Q E h => h.len) (fun cdv A' outer s H vs Q E hr h => ⟨_, (pss_cons (ps_if (PW.pt (pw_or (pt_not (pt_truth (pe_callB call_isiX (by rfl) T.z_isinstance (by decide +kernel) (pa_cons (pv 0) (pa_cons (pe_bltn (v := .ty "str") (u := .type "str") (by rfl) T.z_str (by decide +kernel) rfl) pa_nil))) (by intro _; rfl))) (pw_or1 (pt_not (pt_chain op_leX op_leX pe_int (pe_callB call_lenX (by rfl) T.z_len (by decide +kernel) (pa_cons (pv 0) pa_nil)) (pe_glob rfl T.k_LONGEST_NAME.1 T.k_LONGEST_NAME.2)))))) (pss_one (ps_ret pe_bl)) pss_nil)
      (pss_one (ps_ret (pe_and (pe_cmpR (op_inX (hu65 hr)) (pe_ix ix_seq (pv 0) pe_int (fun _ _ => rfl)) (pe_glob rfl T.k_LETTERS.1 T.k_LETTERS.2) (by first | rfl | with_unfolding_all rfl)) (pe_one (pe_callB (cr_all rfl) (by rfl) T.z_all (by decide +kernel) (pa_cons (pe_lc (own := [("sign", 1)]) (by rfl) sc_is_name.nd (pi_any (pv 0)) (blkOk_by (own := [("sign", 1)]) (N := N_is_name) (sc := defScope s_is_name) (by decide +kernel)) (fun _ _ _ _ _ => (pg_name (i := 1) sc_is_name.nd rfl (Or.inl rfl))) (fun _ _ _ _ _ => pts_nil) (fun _ _ _ _ _ => (pe_cmpR (op_inX (hu65 hr)) (pv 1) (pe_op op_addX (pe_glob rfl T.k_LETTERS.1 T.k_LETTERS.2) (pe_glob rfl T.k_DIGITS.1 T.k_DIGITS.2)) (by first | rfl | with_unfolding_all rfl)))) pa_nil))))))),
    bodyV (N := N_is_name) (fun _ => (ss_seq (ss_if (st_or (st_not (st_truth (se_isi T.isi T.ic se_var (se_c (fun _ => .ty "str"))))) (st_not (st_test (se_chain sr_cmp sr_cmp (se_c (fun _ => .int 1)) (se_cb sc_len (sa_cons se_var sa_nil)) (se_c fun _ => .int _))))) (ss_ret (se_c (fun _ => .bl false))) ss_next)
      (ss_ret (se_andV (se_op sr_in (se_op sr_ix se_var (se_c (fun _ => .int 0))) (se_c fun _ => .str _)) (se_cb sc_all (sa_cons (se_new (sf_lc (vs := [1]) (by decide) (si_any se_var) sg_name st_yes (se_op sr_in se_var (se_op sr_add (se_c fun _ => .str _) (se_c fun _ => .str _))))) sa_nil)))))) (by decide) h⟩)
theorem ok_is_value (T : Txt K mg A) : FnOk P w K mg base CX0 2 A.a_is_value A.d_is_value ["x"] (SpV K 1 (dsp_is_value K A)) :=
  T.F_is_value.ok sc_is_value (fun vs H Q E h => h.len) (fun cdv A' outer s H vs Q E hr h => ⟨_, (pss_one (ps_ret (pe_and (pe_call (ok_is_integer T) (hr.mono (by decide)) rfl T.g_is_integer T.F_is_integer.kp T.b_is_integer .nil pass0 (pa_cons (pv 0) pa_nil)) (pe_one (pe_chain op_leX op_leX (pe_un un_negX (pe_glob rfl T.k_GREATEST_VALUE.1 T.k_GREATEST_VALUE.2)) (pv 0) (pe_glob rfl T.k_GREATEST_VALUE.1 T.k_GREATEST_VALUE.2)))))),
    bodyV (N := N_is_value) (fun _ => (ss_ret (se_andV (se_call (sa_cons se_var sa_nil)) (se_chain sr_cmp sr_cmp (se_un su_neg (se_c fun _ => .int _)) se_var (se_c fun _ => .int _))))) (by decide) h⟩)
theorem ok_split_key (T : Txt K mg A) : FnOk P w K mg base CX0 1 A.a_split_key A.d_split_key ["key"] (SpV K 1 (dsp_split_key K A)) :=
  T.F_split_key.ok sc_split_key (fun vs H Q E h => h.len) (fun cdv A' outer s H vs Q E hr h => ⟨_, (pss_cons (ps_if (PW.pt (pw_or (pt_not (pt_truth (pe_callB call_isiX (by rfl) T.z_isinstance (by decide +kernel) (pa_cons (pv 0) (pa_cons (pe_bltn (v := .ty "bytes") (u := .type "bytes") (by rfl) T.z_bytes (by decide +kernel) rfl) pa_nil))) (by intro _; rfl))) (pw_or1 (pt_cmpR (op_eqD hr.units) (pe_callB call_lenX (by rfl) T.z_len (by decide +kernel) (pa_cons (pv 0) pa_nil)) pe_int (nomark _))))) (pss_one ps_never) pss_nil)
      (pss_cons (ps_if (pt_cmpR op_inB pe_int (pv 0) (by first | rfl | with_unfolding_all rfl)) (pss_one ps_never) pss_nil)
      (pss_cons (ps_if (pt_truth (pe_op op_andB (pe_ix ix_byt (pv 0) (pe_un un_negX pe_int) (fun _ _ => rfl)) pe_int) (by intro _; rfl)) (pss_one ps_never) pss_nil)
      (pss_cons (ps_set (i := 1) sc_split_key.nd rfl (Or.inl rfl) (pe_lst pa_nil))
      (pss_cons (ps_set (i := 2) sc_split_key.nd rfl (Or.inl rfl) pe_int)
      (pss_cons (ps_for PassesOwn.never rfl (pi_enumB (by rfl) T.z_enumerate (pa_cons (pv 0) pa_nil)) (pg_tup rfl (pgs_cons (pg_name (i := 3) sc_split_key.nd rfl (Or.inl rfl)) (pgs_cons (pg_name (i := 4) sc_split_key.nd rfl (Or.inl rfl)) pgs_nil))) (pss_one (ps_if (pt_not (pt_truth (pe_op op_andB (pv 4) pe_int) (by intro _; rfl))) (pss_cons (ps_expr (pe_bm PySem.F.plainAttrs_list PySem.F.slot_list_append PySem.F.type_list_append mt_append (pv 1) (pa_cons (pe_slice sl_bytB (pv 0) (po_some (pv 2)) (po_some (pe_op op_addX (pv 3) pe_int))) pa_nil)))
      (pss_one (ps_set (i := 2) sc_split_key.nd rfl (Or.inl rfl) (pe_op op_addX (pv 3) pe_int)))) pss_nil)))
      (pss_one (ps_ret (pv 1))))))))),
    bodyV (N := N_split_key) (fun _ => (ss_seq (ss_if (st_or (st_not (st_truth (se_isi T.isi T.ic se_var (se_c (fun _ => .ty "bytes"))))) (st_test (se_op sr_eq (se_cb sc_len (sa_cons se_var sa_nil)) (se_c (fun _ => .int 0))))) ss_never ss_next)
      (ss_seq (ss_if (st_test (se_op sr_inB (se_c (fun _ => .int 0)) se_var)) ss_never ss_next)
      (ss_seq (ss_if (st_truth (se_op sr_band (se_op sr_ixB se_var (se_un su_neg (se_c (fun _ => .int 1)))) (se_c (fun _ => .int 1)))) ss_never ss_next)
      (ss_seq (ss_own (sf_lst sa_nil))
      (ss_seq (ss_asg (se_c (fun _ => .int 0)) sg_name)
      (ss_seq (ss_for (si_enumB (sa_cons se_var sa_nil)) (sg_tup (sgs_cons sg_name (sgs_cons sg_name sgs_nil))) (ss_if (st_not (st_truth (se_op sr_band se_var (se_c (fun _ => .int 1))))) (ss_seq (ss_drop (se_append (se_slB se_var (so_some se_var) (so_some (se_op sr_add se_var (se_c (fun _ => .int 1)))))))
      (ss_asg (se_op sr_add se_var (se_c (fun _ => .int 1))) sg_name)) ss_next))
      (ss_frz (i := 1) (ss_ret se_var))))))))) (by decide) h⟩)
theorem ok_is_key (T : Txt K mg A) : FnOk P w K mg base CX0 1 A.a_is_key A.d_is_key ["x"] (SpV K 1 (dsp_is_key K A)) :=
  T.F_is_key.ok sc_is_key (fun vs H Q E h => h.len) (fun cdv A' outer s H vs Q E hr h => ⟨_, (pss_one (ps_ret (pe_and (pe_callB call_isiX (by rfl) T.z_isinstance (by decide +kernel) (pa_cons (pv 0) (pa_cons (pe_bltn (v := .ty "bytes") (u := .type "bytes") (by rfl) T.z_bytes (by decide +kernel) rfl) pa_nil))) (pe_and (pe_cmpR op_gtX (pe_callB call_lenX (by rfl) T.z_len (by decide +kernel) (pa_cons (pv 0) pa_nil)) pe_int (nomark _)) (pe_and (pe_cmpR op_notInB pe_int (pv 0) (by first | rfl | with_unfolding_all rfl)) (pe_one (pe_notT (pe_op op_andB (pe_ix ix_byt (pv 0) (pe_un un_negX pe_int) (fun _ _ => rfl)) pe_int)))))))),
    bodyV (N := N_is_key) (fun _ => (ss_ret (se_andV (se_isi T.isi T.ic se_var (se_c (fun _ => .ty "bytes"))) (se_andV (se_op sr_cmp (se_cb sc_len (sa_cons se_var sa_nil)) (se_c (fun _ => .int 0))) (se_andV (se_op sr_notInB (se_c (fun _ => .int 0)) se_var) (se_notT (se_op sr_band (se_op sr_ixB se_var (se_un su_neg (se_c (fun _ => .int 1)))) (se_c (fun _ => .int 1))))))))) (by decide) h⟩)
theorem ok_bytes_of (T : Txt K mg A) : FnOk P w K mg base CX0 2 A.a_bytes_of A.d_bytes_of ["numbers"] (SpV K 1 (dsp_bytes_of K A)) :=
  T.F_bytes_of.ok sc_bytes_of (fun vs H Q E h => h.len) (fun cdv A' outer s H vs Q E hr h => ⟨_, (pss_cons (ps_if (pt_not (pt_truth (pe_call (ok_is_sequence T) (hr.mono (by decide)) rfl T.g_is_sequence T.F_is_sequence.kp T.b_is_sequence .nil pass0 (pa_cons (pv 0) pa_nil)) (by intro _; rfl))) (pss_one ps_never) pss_nil)
      (pss_cons (ps_for PassesOwn.never rfl (pi_enumX (by rfl) T.z_enumerate (pa_cons (pv 0) pa_nil)) (pg_tup rfl (pgs_cons (pg_name (i := 1) sc_bytes_of.nd rfl (Or.inl rfl)) (pgs_cons (pg_name (i := 2) sc_bytes_of.nd rfl (Or.inl rfl)) pgs_nil))) (pss_one (ps_if (PW.pt (pw_or (pt_not (pt_truth (pe_call (ok_is_integer T) (hr.mono (by decide)) rfl T.g_is_integer T.F_is_integer.kp T.b_is_integer .nil pass0 (pa_cons (pv 2) pa_nil)) (by intro _; rfl))) (pw_or1 (pt_not (pt_chain op_leX op_leX pe_int (pv 2) (pe_glob rfl T.k_GREATEST_BYTE.1 T.k_GREATEST_BYTE.2)))))) (pss_one ps_never) pss_nil)))
      (pss_one (ps_ret (pe_callTy (call_toB rfl) (by rfl) T.z_bytes (by decide +kernel) (pa_cons (pv 0) pa_nil)))))),
    bodyV (N := N_bytes_of) (fun _ => (ss_seq (ss_if (st_not (st_truth (se_call (sa_cons se_var sa_nil)))) ss_never ss_next)
      (ss_seq (ss_for (si_enumX se_var) (sg_tup (sgs_cons sg_name (sgs_cons sg_name sgs_nil))) (ss_if (st_or (st_not (st_truth (se_call (sa_cons se_var sa_nil)))) (st_not (st_test (se_chain sr_cmp sr_cmp (se_c (fun _ => .int 0)) se_var (se_c fun _ => .int _))))) ss_never ss_next))
      (ss_ret (se_cb sc_toByt (sa_cons se_var sa_nil)))))) (by decide) h⟩)
theorem ok_Fault_init (T : Txt K mg A) : FnOk P w K mg base CX0 1 A.a_Fault_init A.d_Fault_init ["self", "place", "word"] (SpV K 3 (dsp_Fault_init K A)) :=
  T.F_Fault_init.ok sc_Fault_init (fun vs H Q E h => h.len) (fun cdv A' outer s H vs Q E hr h => ⟨_, (pss_cons (ps_fld (pv 0) (pv 1) rfl)
      (pss_one (ps_fld (pv 0) (pv 2) rfl))),
    bodyV (N := N_Fault_init) (fun _ => (ss_seq (ss_setF T.f_place se_var)
      (ss_setF T.f_word se_var))) (by decide) h⟩)
theorem ok_Fault_eq (T : Txt K mg A) : FnOk P w K mg base CX0 1 A.a_Fault_eq A.d_Fault_eq ["self", "other"] (SpV K 2 (dsp_Fault_eq K A)) :=
  T.F_Fault_eq.ok sc_Fault_eq (fun vs H Q E h => h.len) (fun cdv A' outer s H vs Q E hr h => ⟨_, (pss_one (ps_ret (pe_and (pe_callB call_isiX (by rfl) T.z_isinstance (by decide +kernel) (pa_cons (pv 1) (pa_cons (pe_glob (v := .ref A.c_Fault) (by rfl) T.g_Fault rfl) pa_nil))) (pe_and (pe_cmpR (op_eqD hr.units) (pe_fld (pv 0) rfl) (pe_fld (pv 1) rfl) (nomark _)) (pe_one (pe_cmpR (op_eqD hr.units) (pe_fld (pv 0) rfl) (pe_fld (pv 1) rfl) (nomark _))))))),
    bodyV (N := N_Fault_eq) (fun _ => (ss_ret (se_andV (se_isi T.isi T.ic se_var (se_c (fun _ => .ptr A.c_Fault))) (se_andV (se_op sr_eq (se_fld T.f_place se_var) (se_fld T.f_place se_var)) (se_op sr_eq (se_fld T.f_word se_var) (se_fld T.f_word se_var)))))) (by decide) h⟩)
theorem eqm_all (T : Txt K mg A) : ∀ q ∈ (l_eqm K A).map (fun q => (q.1, SpV K 2 q.2)), EqM P w K mg base 1 q.1 q.2 := by
  intro q hq
  simp only [l_eqm, List.map_cons, List.map_nil, List.mem_cons, List.not_mem_nil, or_false] at hq
  rcases hq with rfl
  · exact ⟨_, _, _, T.q_Fault, ok_Fault_eq T, T.b_Fault_eq⟩
theorem ok_p_key_word (T : Txt K mg A) : FnOk P w K mg base CX0 3 A.a_p_key_word A.d_p_key_word ["row", "earlier"] (SpV K 2 (dsp_p_key_word K A)) :=
  T.F_p_key_word.ok sc_p_key_word (fun vs H Q E h => h.len) (fun cdv A' outer s H vs Q E hr h => ⟨_, (pss_cons (ps_if (PW.pt (pw_or (pt_not (pt_truth (pe_call (ok_is_sequence T) (hr.mono (by decide)) rfl T.g_is_sequence T.F_is_sequence.kp T.b_is_sequence .nil pass0 (pa_cons (pv 0) pa_nil)) (by intro _; rfl))) (pw_or1 (pt_cmpR (op_neD hr.units) (pe_callB call_lenX (by rfl) T.z_len (by decide +kernel) (pa_cons (pv 0) pa_nil)) pe_int (nomark _))))) (pss_one (ps_ret pe_str)) pss_nil)
      (pss_cons (ps_asg (pv 0) (pg_sq (pg_tup rfl (pgs_cons (pg_name (i := 2) sc_p_key_word.nd rfl (Or.inl rfl)) (pgs_cons (pg_name (i := 3) sc_p_key_word.nd rfl (Or.inl rfl)) (pgs_cons (pg_name (i := 4) sc_p_key_word.nd rfl (Or.inl rfl)) pgs_nil)))) (pg_lst rfl (pgs_cons (pg_name (i := 2) sc_p_key_word.nd rfl (Or.inl rfl)) (pgs_cons (pg_name (i := 3) sc_p_key_word.nd rfl (Or.inl rfl)) (pgs_cons (pg_name (i := 4) sc_p_key_word.nd rfl (Or.inl rfl)) pgs_nil))))))
      (pss_cons (ps_if (pt_not (pt_truth (pe_call (ok_is_name T) (hr.mono (by decide)) rfl T.g_is_name T.F_is_name.kp T.b_is_name .nil pass0 (pa_cons (pv 2) pa_nil)) (by intro _; rfl))) (pss_one (ps_ret pe_str)) pss_nil)
      (pss_cons (ps_if (pt_not (pt_truth (pe_call (ok_is_value T) (hr.mono (by decide)) rfl T.g_is_value T.F_is_value.kp T.b_is_value .nil pass0 (pa_cons (pv 3) pa_nil)) (by intro _; rfl))) (pss_one (ps_ret pe_str)) pss_nil)
      (pss_cons (ps_if (pt_not (pt_truth (pe_call (ok_is_key T) (hr.mono (by decide)) rfl T.g_is_key T.F_is_key.kp T.b_is_key .nil pass0 (pa_cons (pv 4) pa_nil)) (by intro _; rfl))) (pss_one (ps_ret pe_str)) pss_nil)
      (pss_cons (ps_if (pt_cmpR (op_inX (hu65 hr)) (pv 2) (pe_lc (own := [("one", 5)]) (by rfl) sc_p_key_word.nd (pi_any (pv 1)) (blkOk_by (own := [("one", 5)]) (N := N_p_key_word) (sc := defScope s_p_key_word) (by decide +kernel)) (fun _ _ _ _ _ => (pg_name (i := 5) sc_p_key_word.nd rfl (Or.inl rfl))) (fun _ _ _ _ _ => pts_nil) (fun _ _ _ _ _ => (pe_ix ix_seq (pv 5) pe_int (fun _ _ => rfl)))) (by first | rfl | with_unfolding_all rfl)) (pss_one (ps_ret pe_str)) pss_nil)
      (pss_cons (ps_if (pt_cmpR op_inBs (pv 4) (pe_lc (own := [("one", 5)]) (by rfl) sc_p_key_word.nd (pi_any (pv 1)) (blkOk_by (own := [("one", 5)]) (N := N_p_key_word) (sc := defScope s_p_key_word) (by decide +kernel)) (fun _ _ _ _ _ => (pg_name (i := 5) sc_p_key_word.nd rfl (Or.inl rfl))) (fun _ _ _ _ _ => pts_nil) (fun _ _ _ _ _ => (pe_ix ix_seq (pv 5) pe_int (fun _ _ => rfl)))) (by first | rfl | with_unfolding_all rfl)) (pss_one (ps_ret pe_str)) pss_nil)
      (pss_one (ps_ret pe_non))))))))),
    bodyV (N := N_p_key_word) (fun _ => (ss_seq (ss_if (st_or (st_not (st_truth (se_call (sa_cons se_var sa_nil)))) (st_test (se_op sr_ne (se_cb sc_len (sa_cons se_var sa_nil)) (se_c (fun _ => .int 3))))) (ss_ret (se_c (fun _ => .str _))) ss_next)
      (ss_seq (ss_asg se_var (sg_sq (sgs_cons sg_name (sgs_cons sg_name (sgs_cons sg_name sgs_nil)))))
      (ss_seq (ss_if (st_not (st_truth (se_call (sa_cons se_var sa_nil)))) (ss_ret (se_c (fun _ => .str _))) ss_next)
      (ss_seq (ss_if (st_not (st_truth (se_call (sa_cons se_var sa_nil)))) (ss_ret (se_c (fun _ => .str _))) ss_next)
      (ss_seq (ss_if (st_not (st_truth (se_call (sa_cons se_var sa_nil)))) (ss_ret (se_c (fun _ => .str _))) ss_next)
      (ss_seq (ss_if (st_test (se_op sr_in se_var (se_new (sf_lc (vs := [5]) (by decide) (si_any se_var) sg_name st_yes (se_op sr_ix se_var (se_c (fun _ => .int 0))))))) (ss_ret (se_c (fun _ => .str _))) ss_next)
      (ss_seq (ss_if (st_test (se_op sr_inBs se_var (se_new (sf_lc (vs := [5]) (by decide) (si_any se_var) sg_name st_yes (se_op sr_ix se_var (se_c (fun _ => .int 2))))))) (ss_ret (se_c (fun _ => .str _))) ss_next)
      (ss_ret (se_c (fun _ => .non))))))))))) (by decide) h⟩)
theorem ok_judge_keys (T : Txt K mg A) : FnOk P w K mg base CX0 4 A.a_judge_keys A.d_judge_keys ["rows"] (SpV K 1 (dsp_judge_keys K A)) :=
  T.F_judge_keys.ok sc_judge_keys (fun vs H Q E h => h.len) (fun cdv A' outer s H vs Q E hr h => ⟨_, (pss_cons (ps_if (PW.pt (pw_or (pt_not (pt_truth (pe_call (ok_is_sequence T) (hr.mono (by decide)) rfl T.g_is_sequence T.F_is_sequence.kp T.b_is_sequence .nil pass0 (pa_cons (pv 0) pa_nil)) (by intro _; rfl))) (pw_or1 (pt_cmpR op_gtX (pe_callB call_lenX (by rfl) T.z_len (by decide +kernel) (pa_cons (pv 0) pa_nil)) (pe_cval (pe_glob (v := .ref A.c_Forest) (by rfl) T.g_Forest rfl)) (nomark _))))) (pss_one (ps_ret (pe_make T.mk_Fault (ok_Fault_init T) (hr.mono (by decide)) rfl T.g_Fault T.b_Fault_init .nil pass0 (pa_cons (pe_un un_negX pe_int) (pa_cons pe_str pa_nil))))) pss_nil)
      (pss_cons (ps_for PassesOwn.never rfl (pi_enumX (by rfl) T.z_enumerate (pa_cons (pv 0) pa_nil)) (pg_tup rfl (pgs_cons (pg_name (i := 1) sc_judge_keys.nd rfl (Or.inl rfl)) (pgs_cons (pg_name (i := 2) sc_judge_keys.nd rfl (Or.inl rfl)) pgs_nil))) (pss_cons (ps_set (i := 3) sc_judge_keys.nd rfl (Or.inl rfl) (pe_call (ok_p_key_word T) (hr.mono (by decide)) rfl T.g_p_key_word T.F_p_key_word.kp T.b_p_key_word .nil pass0 (pa_cons (pv 2) (pa_cons (pe_slice sl_any (pv 0) po_none (po_some (pv 1))) pa_nil))))
      (pss_one (ps_if (pt_cmpR op_notNX (pv 3) pe_non (nomark _)) (pss_one (ps_ret (pe_make T.mk_Fault (ok_Fault_init T) (hr.mono (by decide)) rfl T.g_Fault T.b_Fault_init .nil pass0 (pa_cons (pv 1) (pa_cons (pv 3) pa_nil))))) pss_nil))))
      (pss_cons (Byt.ps_setBd (i := 4) (own := [("row", 2)]) (by rfl) sc_judge_keys.nd rfl rfl (Byt.sw_trueB rfl rfl rfl (by decide +kernel)) (pi_any (pv 0)) (blkOk_by (own := [("row", 2)]) (N := N_judge_keys) (sc := defScope s_judge_keys) (by decide +kernel)) (fun _ _ _ _ _ => ⟨(pg_name (i := 2) sc_judge_keys.nd rfl (Or.inl rfl)), (pe_ix ix_seq (pv 2) pe_int (fun _ _ => rfl)), pe_bl⟩))
      (pss_cons (ps_for PassesOwn.never rfl (pi_enumX (by rfl) T.z_enumerate (pa_cons (pv 0) pa_nil)) (pg_tup rfl (pgs_cons (pg_name (i := 1) sc_judge_keys.nd rfl (Or.inl rfl)) (pgs_cons (pg_name (i := 2) sc_judge_keys.nd rfl (Or.inl rfl)) pgs_nil))) (pss_cons (ps_set (i := 5) sc_judge_keys.nd rfl (Or.inl rfl) (pe_call (ok_split_key T) (hr.mono (by decide)) rfl T.g_split_key T.F_split_key.kp T.b_split_key .nil pass0 (pa_cons (pe_ix ix_seq (pv 2) pe_int (fun _ _ => rfl)) pa_nil)))
      (pss_one (ps_if (PW.pt (pw_and (pt_cmpR op_gtX (pe_callB call_lenX (by rfl) T.z_len (by decide +kernel) (pa_cons (pv 5) pa_nil)) pe_int (nomark _)) (pw_and1 (pt_cmpR Byt.op_notInDB (pe_joinB pe_byt (pe_slice sl_any (pv 5) po_none (po_some (pe_un un_negX pe_int)))) (pv 4) (by first | rfl | with_unfolding_all rfl))))) (pss_one (ps_ret (pe_make T.mk_Fault (ok_Fault_init T) (hr.mono (by decide)) rfl T.g_Fault T.b_Fault_init .nil pass0 (pa_cons (pv 1) (pa_cons pe_str pa_nil))))) pss_nil))))
      (pss_one (ps_ret pe_non)))))),
    bodyV (N := N_judge_keys) (fun _ => (ss_seq (ss_if (st_or (st_not (st_truth (se_call (sa_cons se_var sa_nil)))) (st_test (se_op sr_cmp (se_cb sc_len (sa_cons se_var sa_nil)) (se_cval T.cc_Forest_MOST)))) (ss_ret (se_new (sf_make (sa_cons (se_un su_neg (se_c (fun _ => .int 1))) (sa_cons (se_c (fun _ => .str _)) sa_nil))))) ss_next)
      (ss_seq (ss_for (si_enumX se_var) (sg_tup (sgs_cons sg_name (sgs_cons sg_name sgs_nil))) (ss_seq (ss_asg (se_call (sa_cons se_var (sa_cons (se_sl se_var so_none (so_some se_var)) sa_nil))) sg_name)
      (ss_if (st_test (se_op sr_notN se_var (se_c (fun _ => .non)))) (ss_ret (se_new (sf_make (sa_cons se_var (sa_cons se_var sa_nil))))) ss_next)))
      (ss_seqB (sb_bd (vs := [2]) (by decide) (si_any se_var) sg_name (se_op sr_ix se_var (se_c (fun _ => .int 2)))) (fun dbp dbk => (ss_seq (ss_for (si_enumX se_var) (sg_tup (sgs_cons sg_name (sgs_cons sg_name sgs_nil))) (ss_seq (ss_asg (se_call (sa_cons (se_op sr_ix se_var (se_c (fun _ => .int 2))) sa_nil)) sg_name)
      (ss_if (st_and (st_test (se_op sr_cmp (se_cb sc_len (sa_cons se_var sa_nil)) (se_c (fun _ => .int 1)))) (st_test (se_notDB (se_joinB (se_c (fun _ => .byt _)) (se_sl se_var so_none (so_some (se_un su_neg (se_c (fun _ => .int 1))))))))) (ss_ret (se_new (sf_make (sa_cons se_var (sa_cons (se_c (fun _ => .str _)) sa_nil))))) ss_next)))
      (ss_ret (se_c (fun _ => .non))))))))) (by decide) h⟩)
theorem ok_p_law_well (T : Txt K mg A) : FnOk P w K mg base CX0 1 A.a_p_law_well A.d_p_law_well ["_law_cell"] (SpF K 1 (dsp_p_law_well K A)) :=
  T.F_p_law_well.ok sc_p_law_well (fun vs H Q E h => h.len) (fun cdv A' outer s H vs Q E hr h => ⟨_, (pss_one (ps_ret (pe_lst (pa_cons (pe_op op_mulX (pv 0) (pe_callTy call_intX (by rfl) T.z_int (by decide +kernel) (pa_cons (pe_cmpR op_geX (pv 0) (pe_op op_powX pe_int pe_int) (nomark _)) pa_nil))) (pa_cons (pe_op op_modX (pe_callTy call_intX (by rfl) T.z_int (by decide +kernel) (pa_cons (pv 0) pa_nil)) pe_int) (pa_cons pe_int pa_nil)))))),
    bodyF (N := N_p_law_well) (fun _ => (ss_retF (sf_lst (sa_cons (se_op sr_mul se_var (se_cb sc_int (sa_cons (se_op sr_cmp se_var (se_op sr_pow (se_c (fun _ => .int 10)) (se_c (fun _ => .int 18)))) sa_nil))) (sa_cons (se_op sr_mod (se_cb sc_int (sa_cons se_var sa_nil)) (se_c (fun _ => .int 2147483629))) (sa_cons (se_c (fun _ => .int 0)) sa_nil)))))) (by decide) h⟩)
theorem ok_p_law_draw (T : Txt K mg A) : FnOk P w K mg base CX0 1 A.a_p_law_draw A.d_p_law_draw ["_law_well_here", "_law_many"] (SpV K 2 (dsp_p_law_draw K A)) :=
  T.F_p_law_draw.ok sc_p_law_draw (fun vs H Q E h => h.len) (fun cdv A' outer s H vs Q E hr h => ⟨_, (pss_cons (ps_if (pt_cmpR op_gtX (pe_ix ix_seq (pv 0) pe_int (fun _ _ => rfl)) pe_int (nomark _)) (pss_cons (ps_set (i := 2) sc_p_law_draw.nd rfl (Or.inl rfl) (pe_op op_modX (pe_callTy call_intX (by rfl) T.z_int (by decide +kernel) (pa_cons (pe_ix ix_seq (pv 0) pe_int (fun _ _ => rfl)) pa_nil)) (pv 1)))
      (pss_cons (ps_asg (pe_op op_divX (pe_ix ix_seq (pv 0) pe_int (fun _ _ => rfl)) (pv 1)) (pg_sub (pv 0) pe_int set_list))
      (pss_one (ps_ret (pv 2))))) pss_nil)
      (pss_cons (ps_asg (pe_op op_addX (pe_ix ix_seq (pv 0) pe_int (fun _ _ => rfl)) pe_int) (pg_sub (pv 0) pe_int set_list))
      (pss_cons (ps_set (i := 3) sc_p_law_draw.nd rfl (Or.inl rfl) (pe_op op_modX (pe_callTy call_intX (by rfl) T.z_int (by decide +kernel) (pa_cons (pe_op op_powX (pe_op op_addX (pe_op op_addX (pe_ix ix_seq (pv 0) pe_int (fun _ _ => rfl)) (pe_op op_mulX pe_int (pe_ix ix_seq (pv 0) pe_int (fun _ _ => rfl)))) pe_int) pe_int) pa_nil)) pe_int))
      (pss_cons (ps_set (i := 3) sc_p_law_draw.nd rfl (Or.inl rfl) (pe_op op_modX (pe_callTy call_intX (by rfl) T.z_int (by decide +kernel) (pa_cons (pe_op op_mulX (pe_op op_addX (pv 3) (pe_ix ix_seq (pv 0) pe_int (fun _ _ => rfl))) (pe_op op_addX (pe_op op_divX (pv 3) pe_int) pe_int)) pa_nil)) pe_int))
      (pss_one (ps_ret (pe_op op_modX (pe_callTy call_intX (by rfl) T.z_int (by decide +kernel) (pa_cons (pe_op op_divX (pe_op op_modX (pe_callTy call_intX (by rfl) T.z_int (by decide +kernel) (pa_cons (pe_op op_mulX (pv 3) (pe_op op_addX (pe_op op_divX (pv 3) pe_int) pe_int)) pa_nil)) pe_int) pe_int) pa_nil)) (pv 1)))))))),
    bodyV (N := N_p_law_draw) (fun _ => (ss_seq (ss_if (st_test (se_op sr_cmp (se_op sr_ix se_var (se_c (fun _ => .int 0))) (se_c (fun _ => .int 0)))) (ss_seq (ss_asg (se_op sr_mod (se_cb sc_int (sa_cons (se_op sr_ix se_var (se_c (fun _ => .int 0))) sa_nil)) se_var) sg_name)
      (ss_seq (ss_setIx (se_c (fun _ => .int 0)) (se_op sr_fdiv (se_op sr_ix se_var (se_c (fun _ => .int 0))) se_var))
      (ss_ret se_var))) ss_next)
      (ss_seq (ss_setIx (se_c (fun _ => .int 2)) (se_op sr_add (se_op sr_ix se_var (se_c (fun _ => .int 2))) (se_c (fun _ => .int 1))))
      (ss_seq (ss_asg (se_op sr_mod (se_cb sc_int (sa_cons (se_op sr_pow (se_op sr_add (se_op sr_add (se_op sr_ix se_var (se_c (fun _ => .int 1))) (se_op sr_mul (se_c (fun _ => .int 50021)) (se_op sr_ix se_var (se_c (fun _ => .int 2))))) (se_c (fun _ => .int 17))) (se_c (fun _ => .int 3))) sa_nil)) (se_c (fun _ => .int 2147483647))) sg_name)
      (ss_seq (ss_asg (se_op sr_mod (se_cb sc_int (sa_cons (se_op sr_mul (se_op sr_add se_var (se_op sr_ix se_var (se_c (fun _ => .int 2)))) (se_op sr_add (se_op sr_fdiv se_var (se_c (fun _ => .int 1021))) (se_c (fun _ => .int 69621)))) sa_nil)) (se_c (fun _ => .int 2147483587))) sg_name)
      (ss_ret (se_op sr_mod (se_cb sc_int (sa_cons (se_op sr_fdiv (se_op sr_mod (se_cb sc_int (sa_cons (se_op sr_mul se_var (se_op sr_add (se_op sr_fdiv se_var (se_c (fun _ => .int 2017))) (se_c (fun _ => .int 48271)))) sa_nil)) (se_c (fun _ => .int 2147483563))) (se_c (fun _ => .int 3))) sa_nil)) se_var))))))) (by decide) h⟩)
theorem ok_p_law_one (T : Txt K mg A) : FnOk P w K mg base CX0 2 A.a_p_law_one A.d_p_law_one ["_law_well_here", "_law_some"] (SpV K 2 (dsp_p_law_one K A)) :=
  T.F_p_law_one.ok sc_p_law_one (fun vs H Q E h => h.len) (fun cdv A' outer s H vs Q E hr h => ⟨_, (pss_one (ps_ret (pe_ix ix_seq (pv 1) (pe_call (ok_p_law_draw T) (hr.mono (by decide)) rfl T.g_p_law_draw T.F_p_law_draw.kp T.b_p_law_draw .nil pass0 (pa_cons (pv 0) (pa_cons (pe_callB call_lenX (by rfl) T.z_len (by decide +kernel) (pa_cons (pv 1) pa_nil)) pa_nil))) (fun _ _ => rfl)))),
    bodyV (N := N_p_law_one) (fun _ => (ss_ret (se_op sr_ix se_var (se_call (sa_cons se_var (sa_cons (se_cb sc_len (sa_cons se_var sa_nil)) sa_nil)))))) (by decide) h⟩)
theorem ok_p_law_names (T : Txt K mg A) : FnOk P w K mg base CX0 3 A.a_p_law_names A.d_p_law_names ["_law_well_here", "_law_many"] (SpF K 2 (dsp_p_law_names K A)) :=
  T.F_p_law_names.ok sc_p_law_names (fun vs H Q E h => h.len) (fun cdv A' outer s H vs Q E hr h => ⟨_, (pss_cons (ps_par (i := 2) (j := 3) (by rfl) sc_p_law_names.nd rfl rfl (by decide) rfl rfl (pa_cons pe_str (pa_cons (pe_lst pa_nil) pa_nil)) (by rfl))
      (pss_cons (ps_for PassesOwn.never rfl (pi_range1 rfl T.z_range (pa_cons (pv 1) pa_nil)) (pg_name (i := 4) sc_p_law_names.nd rfl (Or.inl rfl)) (pss_cons (ps_set (i := 5) sc_p_law_names.nd rfl (Or.inl rfl) (pe_call (ok_p_law_one T) (hr.mono (by decide)) rfl T.g_p_law_one T.F_p_law_one.kp T.b_p_law_one .nil pass0 (pa_cons (pv 0) (pa_cons (pv 2) pa_nil))))
      (pss_cons (ps_for PassesOwn.never rfl (pi_range1 rfl T.z_range (pa_cons (pe_call (ok_p_law_draw T) (hr.mono (by decide)) rfl T.g_p_law_draw T.F_p_law_draw.kp T.b_p_law_draw .nil pass0 (pa_cons (pv 0) (pa_cons pe_int pa_nil))) pa_nil)) (pg_name (i := 6) sc_p_law_names.nd rfl (Or.inl rfl)) (pss_one (ps_set (i := 5) sc_p_law_names.nd rfl (Or.inl rfl) (pe_op op_addX (pv 5) (pe_call (ok_p_law_one T) (hr.mono (by decide)) rfl T.g_p_law_one T.F_p_law_one.kp T.b_p_law_one .nil pass0 (pa_cons (pv 0) (pa_cons (pe_op op_addX (pv 2) pe_str) pa_nil)))))))
      (pss_cons (ps_if (PW.pt (pw_and (pt_cmpR (op_neD hr.units) (pv 3) (pe_lst pa_nil) (nomark _)) (pw_and1 (pt_cmpR (op_eqD hr.units) (pe_call (ok_p_law_draw T) (hr.mono (by decide)) rfl T.g_p_law_draw T.F_p_law_draw.kp T.b_p_law_draw .nil pass0 (pa_cons (pv 0) (pa_cons pe_int pa_nil))) pe_int (nomark _))))) (pss_cons (ps_set (i := 7) sc_p_law_names.nd rfl (Or.inl rfl) (pe_call (ok_p_law_one T) (hr.mono (by decide)) rfl T.g_p_law_one T.F_p_law_one.kp T.b_p_law_one .nil pass0 (pa_cons (pv 0) (pa_cons (pv 3) pa_nil))))
      (pss_cons (ps_set (i := 8) sc_p_law_names.nd rfl (Or.inl rfl) (pe_call (ok_p_law_draw T) (hr.mono (by decide)) rfl T.g_p_law_draw T.F_p_law_draw.kp T.b_p_law_draw .nil pass0 (pa_cons (pv 0) (pa_cons (pe_callB call_lenX (by rfl) T.z_len (by decide +kernel) (pa_cons (pv 7) pa_nil)) pa_nil))))
      (pss_one (ps_set (i := 5) sc_p_law_names.nd rfl (Or.inl rfl) (pe_op op_addX (pe_op op_addX (pe_slice sl_any (pv 7) po_none (po_some (pv 8))) (pe_call (ok_p_law_one T) (hr.mono (by decide)) rfl T.g_p_law_one T.F_p_law_one.kp T.b_p_law_one .nil pass0 (pa_cons (pv 0) (pa_cons (pv 2) pa_nil)))) (pe_slice sl_any (pv 7) (po_some (pe_op op_addX (pv 8) pe_int)) po_none)))))) pss_nil)
      (pss_one (ps_expr (pe_bm PySem.F.plainAttrs_list PySem.F.slot_list_append PySem.F.type_list_append mt_append (pv 3) (pa_cons (pe_ifExp (pt_cmpR (op_inX (hu65 hr)) (pv 5) (pv 3) (by first | rfl | with_unfolding_all rfl)) (pe_op op_addX pe_str (pe_callTy call_strX (by rfl) T.z_str (by decide +kernel) (pa_cons (pv 4) pa_nil))) (pv 5)) pa_nil))))))))
      (pss_one (ps_ret (pv 3))))),
    bodyF (N := N_p_law_names) (fun _ => (ss_seq (ss_parVO (se_c (fun _ => .str _)) (sf_lst sa_nil))
      (ss_seq (ss_for (si_rng1 se_var) sg_name (ss_seq (ss_asg (se_call (sa_cons se_var (sa_cons se_var sa_nil))) sg_name)
      (ss_seq (ss_for (si_rng1 (se_call (sa_cons se_var (sa_cons (se_c (fun _ => .int 8)) sa_nil)))) sg_name (ss_asg (se_op sr_add se_var (se_call (sa_cons se_var (sa_cons (se_op sr_add se_var (se_c (fun _ => .str _))) sa_nil)))) sg_name))
      (ss_seq (ss_if (st_and (st_test (se_op sr_ne se_var (se_new (sf_lst sa_nil)))) (st_test (se_op sr_eq (se_call (sa_cons se_var (sa_cons (se_c (fun _ => .int 3)) sa_nil))) (se_c (fun _ => .int 0))))) (ss_seq (ss_asg (se_call (sa_cons se_var (sa_cons se_var sa_nil))) sg_name)
      (ss_seq (ss_asg (se_call (sa_cons se_var (sa_cons (se_cb sc_len (sa_cons se_var sa_nil)) sa_nil))) sg_name)
      (ss_asg (se_op sr_add (se_op sr_add (se_sl se_var so_none (so_some se_var)) (se_call (sa_cons se_var (sa_cons se_var sa_nil)))) (se_sl se_var (so_some (se_op sr_add se_var (se_c (fun _ => .int 1)))) so_none)) sg_name))) ss_next)
      (ss_drop (se_append (se_if (st_test (se_op sr_in se_var se_var)) (se_op sr_add (se_c (fun _ => .str _)) (se_cb sc_str (sa_cons se_var sa_nil))) se_var)))))))
      (ss_ret se_var)))) (by decide) h⟩)
theorem ok_p_law_value (T : Txt K mg A) : FnOk P w K mg base CX0 3 A.a_p_law_value A.d_p_law_value ["_law_well_here"] (SpV K 1 (dsp_p_law_value K A)) :=
  T.F_p_law_value.ok sc_p_law_value (fun vs H Q E h => h.len) (fun cdv A' outer s H vs Q E hr h => ⟨_, (pss_cons (ps_if (pt_cmpR (op_eqD hr.units) (pe_call (ok_p_law_draw T) (hr.mono (by decide)) rfl T.g_p_law_draw T.F_p_law_draw.kp T.b_p_law_draw .nil pass0 (pa_cons (pv 0) (pa_cons pe_int pa_nil))) pe_int (nomark _)) (pss_one (ps_ret (pe_op op_subX (pe_call (ok_p_law_draw T) (hr.mono (by decide)) rfl T.g_p_law_draw T.F_p_law_draw.kp T.b_p_law_draw .nil pass0 (pa_cons (pv 0) (pa_cons pe_int pa_nil))) pe_int))) pss_nil)
      (pss_cons (ps_set (i := 1) sc_p_law_value.nd rfl (Or.inl rfl) (pe_op op_addX (pe_op op_mulX (pe_call (ok_p_law_draw T) (hr.mono (by decide)) rfl T.g_p_law_draw T.F_p_law_draw.kp T.b_p_law_draw .nil pass0 (pa_cons (pv 0) (pa_cons (pe_op op_powX pe_int pe_int) pa_nil))) (pe_op op_powX pe_int pe_int)) (pe_call (ok_p_law_draw T) (hr.mono (by decide)) rfl T.g_p_law_draw T.F_p_law_draw.kp T.b_p_law_draw .nil pass0 (pa_cons (pv 0) (pa_cons (pe_op op_powX pe_int pe_int) pa_nil)))))
      (pss_one (ps_ret (pe_call (ok_p_law_one T) (hr.mono (by decide)) rfl T.g_p_law_one T.F_p_law_one.kp T.b_p_law_one .nil pass0 (pa_cons (pv 0) (pa_cons (pe_lst (pa_cons (pv 1) (pa_cons (pe_op op_subX pe_int (pv 1)) (pa_cons (pe_op op_powX pe_int pe_int) (pa_cons (pe_op op_subX pe_int (pe_op op_powX pe_int pe_int)) pa_nil))))) pa_nil))))))),
    bodyV (N := N_p_law_value) (fun _ => (ss_seq (ss_if (st_test (se_op sr_eq (se_call (sa_cons se_var (sa_cons (se_c (fun _ => .int 2)) sa_nil))) (se_c (fun _ => .int 0)))) (ss_ret (se_op sr_sub (se_call (sa_cons se_var (sa_cons (se_c (fun _ => .int 19)) sa_nil))) (se_c (fun _ => .int 9)))) ss_next)
      (ss_seq (ss_asg (se_op sr_add (se_op sr_mul (se_call (sa_cons se_var (sa_cons (se_op sr_pow (se_c (fun _ => .int 10)) (se_c (fun _ => .int 15))) sa_nil))) (se_op sr_pow (se_c (fun _ => .int 10)) (se_c (fun _ => .int 15)))) (se_call (sa_cons se_var (sa_cons (se_op sr_pow (se_c (fun _ => .int 10)) (se_c (fun _ => .int 15))) sa_nil)))) sg_name)
      (ss_ret (se_call (sa_cons se_var (sa_cons (se_new (sf_lst (sa_cons se_var (sa_cons (se_op sr_sub (se_c (fun _ => .int 0)) se_var) (sa_cons (se_op sr_pow (se_c (fun _ => .int 10)) (se_c (fun _ => .int 30))) (sa_cons (se_op sr_sub (se_c (fun _ => .int 0)) (se_op sr_pow (se_c (fun _ => .int 10)) (se_c (fun _ => .int 30)))) sa_nil)))))) sa_nil))))))) (by decide) h⟩)
theorem ok_p_law_levels (T : Txt K mg A) : FnOk P w K mg base CX0 2 A.a_p_law_levels A.d_p_law_levels ["_law_well_here", "_law_many"] (SpF K 2 (dsp_p_law_levels K A)) :=
  T.F_p_law_levels.ok sc_p_law_levels (fun vs H Q E h => h.len) (fun cdv A' outer s H vs Q E hr h => ⟨_, (pss_cons (ps_par (i := 2) (j := 3) (by rfl) sc_p_law_levels.nd rfl rfl (by decide) rfl rfl (pa_cons (pe_lst pa_nil) (pa_cons (pe_call (ok_p_law_draw T) (hr.mono (by decide)) rfl T.g_p_law_draw T.F_p_law_draw.kp T.b_p_law_draw .nil pass0 (pa_cons (pv 0) (pa_cons pe_int pa_nil))) pa_nil)) (by rfl))
      (pss_cons (ps_for PassesOwn.never rfl (pi_range1 rfl T.z_range (pa_cons (pv 1) pa_nil)) (pg_name (i := 4) sc_p_law_levels.nd rfl (Or.inl rfl)) (pss_cons (ps_set (i := 5) sc_p_law_levels.nd rfl (Or.inl rfl) (pe_ifExp (pt_cmpR (op_neD hr.units) (pv 2) (pe_lst pa_nil) (nomark _)) (pe_op op_addX (pe_ix ix_seq (pv 2) (pe_un un_negX pe_int) (fun _ _ => rfl)) pe_int) pe_int))
      (pss_cons (ps_set (i := 6) sc_p_law_levels.nd rfl (Or.inl rfl) (pv 5))
      (pss_cons (ps_if (PW.pt (pw_or (pt_cmpR (op_eqD hr.units) (pv 3) pe_int (nomark _)) (pw_or1 (PW.pt (pw_and (pt_cmpR (op_eqD hr.units) (pv 3) pe_int (nomark _)) (pw_and1 (pt_cmpR (op_eqD hr.units) (pe_call (ok_p_law_draw T) (hr.mono (by decide)) rfl T.g_p_law_draw T.F_p_law_draw.kp T.b_p_law_draw .nil pass0 (pa_cons (pv 0) (pa_cons pe_int pa_nil))) pe_int (nomark _)))))))) (pss_one (ps_set (i := 6) sc_p_law_levels.nd rfl (Or.inl rfl) (pe_call (ok_p_law_draw T) (hr.mono (by decide)) rfl T.g_p_law_draw T.F_p_law_draw.kp T.b_p_law_draw .nil pass0 (pa_cons (pv 0) (pa_cons (pe_op op_addX (pv 5) pe_int) pa_nil))))) pss_nil)
      (pss_cons (ps_if (pt_cmpR (op_eqD hr.units) (pv 3) pe_int (nomark _)) (pss_one (ps_set (i := 6) sc_p_law_levels.nd rfl (Or.inl rfl) (pe_call (ok_p_law_draw T) (hr.mono (by decide)) rfl T.g_p_law_draw T.F_p_law_draw.kp T.b_p_law_draw .nil pass0 (pa_cons (pv 0) (pa_cons (pe_op op_addX pe_int (pe_ix ix_seq (pe_lst (pa_cons (pv 5) (pa_cons pe_int pa_nil))) (pe_callTy call_intX (by rfl) T.z_int (by decide +kernel) (pa_cons (pe_cmpR op_gtX (pv 5) pe_int (nomark _)) pa_nil)) (fun _ _ => rfl))) pa_nil))))) pss_nil)
      (pss_one (ps_expr (pe_bm PySem.F.plainAttrs_list PySem.F.slot_list_append PySem.F.type_list_append mt_append (pv 2) (pa_cons (pv 6) pa_nil)))))))))
      (pss_one (ps_ret (pv 2))))),
    bodyF (N := N_p_law_levels) (fun _ => (ss_seq (ss_parOV (sf_lst sa_nil) (se_call (sa_cons se_var (sa_cons (se_c (fun _ => .int 4)) sa_nil))))
      (ss_seq (ss_for (si_rng1 se_var) sg_name (ss_seq (ss_asg (se_if (st_test (se_op sr_ne se_var (se_new (sf_lst sa_nil)))) (se_op sr_add (se_op sr_ix se_var (se_un su_neg (se_c (fun _ => .int 1)))) (se_c (fun _ => .int 1))) (se_c (fun _ => .int 0))) sg_name)
      (ss_seq (ss_asg se_var sg_name)
      (ss_seq (ss_if (st_or (st_test (se_op sr_eq se_var (se_c (fun _ => .int 0)))) (st_and (st_test (se_op sr_eq se_var (se_c (fun _ => .int 1)))) (st_test (se_op sr_eq (se_call (sa_cons se_var (sa_cons (se_c (fun _ => .int 4)) sa_nil))) (se_c (fun _ => .int 0)))))) (ss_asg (se_call (sa_cons se_var (sa_cons (se_op sr_add se_var (se_c (fun _ => .int 1))) sa_nil))) sg_name) ss_next)
      (ss_seq (ss_if (st_test (se_op sr_eq se_var (se_c (fun _ => .int 2)))) (ss_asg (se_call (sa_cons se_var (sa_cons (se_op sr_add (se_c (fun _ => .int 1)) (se_op sr_ix (se_new (sf_lst (sa_cons se_var (sa_cons (se_c (fun _ => .int 2)) sa_nil)))) (se_cb sc_int (sa_cons (se_op sr_cmp se_var (se_c (fun _ => .int 2))) sa_nil)))) sa_nil))) sg_name) ss_next)
      (ss_drop (se_append se_var)))))))
      (ss_ret se_var)))) (by decide) h⟩)
theorem ok_p_law_rows (T : Txt K mg A) : FnOk P w K mg base CX0 4 A.a_p_law_rows A.d_p_law_rows ["_law_well_here", "_law_most"] (SpF K 2 (dsp_p_law_rows K A)) :=
  T.F_p_law_rows.ok sc_p_law_rows (fun vs H Q E h => h.len) (fun cdv A' outer s H vs Q E hr h => ⟨_, (pss_cons (ps_set (i := 2) sc_p_law_rows.nd rfl (Or.inl rfl) (pe_call (ok_p_law_draw T) (hr.mono (by decide)) rfl T.g_p_law_draw T.F_p_law_draw.kp T.b_p_law_draw .nil pass0 (pa_cons (pv 0) (pa_cons (pe_op op_addX (pv 1) pe_int) pa_nil))))
      (pss_cons (ps_asg (pe_tup (pa_cons (pe_call (ok_p_law_names T) (hr.mono (by decide)) rfl T.g_p_law_names T.F_p_law_names.kp T.b_p_law_names .nil pass0 (pa_cons (pv 0) (pa_cons (pv 2) pa_nil))) (pa_cons (pe_call (ok_p_law_levels T) (hr.mono (by decide)) rfl T.g_p_law_levels T.F_p_law_levels.kp T.b_p_law_levels .nil pass0 (pa_cons (pv 0) (pa_cons (pv 2) pa_nil))) pa_nil))) (pg_tup rfl (pgs_cons (pg_name (i := 3) sc_p_law_rows.nd rfl (Or.inr rfl)) (pgs_cons (pg_name (i := 4) sc_p_law_rows.nd rfl (Or.inr rfl)) pgs_nil))))
      (pss_one (ps_ret (pe_lc (own := [("_law_k", 5)]) (by rfl) sc_p_law_rows.nd (pi_range1 rfl T.z_range (pa_cons (pv 2) pa_nil)) (blkOk_by (own := [("_law_k", 5)]) (N := N_p_law_rows) (sc := defScope s_p_law_rows) (by decide +kernel)) (fun _ _ _ _ _ => (pg_name (i := 5) sc_p_law_rows.nd rfl (Or.inl rfl))) (fun _ _ _ _ _ => pts_nil) (fun _ _ _ _ _ => (pe_tup (pa_cons (pe_ix ix_seq (pv 3) (pv 5) (fun _ _ => rfl)) (pa_cons (pe_call (ok_p_law_value T) (hr.mono (by decide)) rfl T.g_p_law_value T.F_p_law_value.kp T.b_p_law_value .nil pass0 (pa_cons (pv 0) pa_nil)) (pa_cons (pe_ix ix_seq (pv 4) (pv 5) (fun _ _ => rfl)) pa_nil)))))))))),
    bodyF (N := N_p_law_rows) (fun _ => (ss_seq (ss_asg (se_call (sa_cons se_var (sa_cons (se_op sr_add se_var (se_c (fun _ => .int 1))) sa_nil))) sg_name)
      (ss_seq (ss_asg (se_tup (sa_cons (se_new (sf_call (sa_cons se_var (sa_cons se_var sa_nil)))) (sa_cons (se_new (sf_call (sa_cons se_var (sa_cons se_var sa_nil)))) sa_nil))) (sg_tup (sgs_cons sg_name (sgs_cons sg_name sgs_nil))))
      (ss_retF (sf_lc (vs := [5]) (by decide) (si_rng1 se_var) sg_name st_yes (se_tup (sa_cons (se_op sr_ix se_var se_var) (sa_cons (se_call (sa_cons se_var sa_nil)) (sa_cons (se_op sr_ix se_var se_var) sa_nil))))))))) (by decide) h⟩)
theorem ok_p_law_mixed (T : Txt K mg A) : FnOk P w K mg base CX0 2 A.a_p_law_mixed A.d_p_law_mixed ["_law_well_here", "_law_some"] (SpF K 2 (dsp_p_law_mixed K A)) :=
  T.F_p_law_mixed.ok sc_p_law_mixed (fun vs H Q E h => h.len) (fun cdv A' outer s H vs Q E hr h => ⟨_, (pss_cons (ps_par (i := 2) (j := 3) (by rfl) sc_p_law_mixed.nd rfl rfl (by decide) rfl rfl (pa_cons (pe_callTy call_listX (by rfl) T.z_list (by decide +kernel) (pa_cons (pv 1) pa_nil)) (pa_cons (pe_lst pa_nil) pa_nil)) (by rfl))
      (pss_cons (ps_for PassesOwn.never rfl (pi_range1 rfl T.z_range (pa_cons (pe_callB call_lenX (by rfl) T.z_len (by decide +kernel) (pa_cons (pv 1) pa_nil)) pa_nil)) (pg_name (i := 4) sc_p_law_mixed.nd rfl (Or.inl rfl)) (pss_one (ps_expr (pe_bm PySem.F.plainAttrs_list PySem.F.slot_list_append PySem.F.type_list_append mt_append (pv 3) (pa_cons (pe_bm PySem.F.plainAttrs_list PySem.F.slot_list_pop PySem.F.type_list_pop mt_popAt (pv 2) (pa_cons (pe_call (ok_p_law_draw T) (hr.mono (by decide)) rfl T.g_p_law_draw T.F_p_law_draw.kp T.b_p_law_draw .nil pass0 (pa_cons (pv 0) (pa_cons (pe_callB call_lenX (by rfl) T.z_len (by decide +kernel) (pa_cons (pv 2) pa_nil)) pa_nil))) pa_nil)) pa_nil)))))
      (pss_one (ps_ret (pv 3))))),
    bodyF (N := N_p_law_mixed) (fun _ => (ss_seq (ss_parOO (sf_list se_var) (sf_lst sa_nil) (by decide))
      (ss_seq (ss_for (si_rng1 (se_cb sc_len (sa_cons se_var sa_nil))) sg_name (ss_drop (se_append (se_popAt (se_call (sa_cons se_var (sa_cons (se_cb sc_len (sa_cons se_var sa_nil)) sa_nil)))))))
      (ss_ret se_var)))) (by decide) h⟩)
theorem ok_p_law_is_whole (T : Txt K mg A) : FnOk P w K mg base CX0 1 A.a_p_law_is_whole A.d_p_law_is_whole ["_law_thing"] (SpV K 1 (dsp_p_law_is_whole K A)) :=
  T.F_p_law_is_whole.ok sc_p_law_is_whole (fun vs H Q E h => h.len) (fun cdv A' outer s H vs Q E hr h => ⟨_, (pss_one (ps_ret (pe_and (pe_callB call_isiX (by rfl) T.z_isinstance (by decide +kernel) (pa_cons (pv 0) (pa_cons (pe_bltn (v := .ty "int") (u := .type "int") (by rfl) T.z_int (by decide +kernel) rfl) pa_nil))) (pe_one (pe_not (pe_callB call_isiX (by rfl) T.z_isinstance (by decide +kernel) (pa_cons (pv 0) (pa_cons (pe_bltn (v := .ty "bool") (u := .type "bool") (by rfl) T.z_bool (by decide +kernel) rfl) pa_nil)))))))),
    bodyV (N := N_p_law_is_whole) (fun _ => (ss_ret (se_andV (se_isi T.isi T.ic se_var (se_c (fun _ => .ty "int"))) (se_notV (se_isi T.isi T.ic se_var (se_c (fun _ => .ty "bool"))))))) (by decide) h⟩)
theorem ok_p_law_is_name (T : Txt K mg A) : FnOk P w K mg base CX0 1 A.a_p_law_is_name A.d_p_law_is_name ["_law_thing"] (SpV K 1 (dsp_p_law_is_name K A)) :=
  T.F_p_law_is_name.ok sc_p_law_is_name (fun vs H Q E h => h.len) (fun cdv A' outer s H vs Q E hr h => ⟨_, (pss_cons (ps_if (PW.pt (pw_or (pt_not (pt_truth (pe_callB call_isiX (by rfl) T.z_isinstance (by decide +kernel) (pa_cons (pv 0) (pa_cons (pe_bltn (v := .ty "str") (u := .type "str") (by rfl) T.z_str (by decide +kernel) rfl) pa_nil))) (by intro _; rfl))) (pw_or1 (pt_not (pt_chain op_leX op_leX pe_int (pe_callB call_lenX (by rfl) T.z_len (by decide +kernel) (pa_cons (pv 0) pa_nil)) pe_int))))) (pss_one (ps_ret pe_bl)) pss_nil)
      (pss_cons (ps_setLc (i := 1) (own := [("_law_sign", 2)]) (by rfl) sc_p_law_is_name.nd rfl rfl (sw_true rfl rfl rfl (by decide +kernel)) (pi_any (pv 0)) (blkOk_by (own := [("_law_sign", 2)]) (N := N_p_law_is_name) (sc := defScope s_p_law_is_name) (by decide +kernel)) (fun _ _ _ _ _ => (pg_name (i := 2) sc_p_law_is_name.nd rfl (Or.inl rfl))) (fun _ _ _ _ _ => pts_one (pt_cmpR (op_notInX (hu65 hr)) (pv 2) pe_str (by first | rfl | with_unfolding_all rfl))) (fun _ _ _ _ _ => (pv 2)))
      (pss_one (ps_ret (pe_and (pe_cmpR (op_eqD hr.units) (pv 1) (pe_lst pa_nil) (nomark _)) (pe_one (pe_cmpR (op_notInX (hu65 hr)) (pe_ix ix_seq (pv 0) pe_int (fun _ _ => rfl)) pe_str (by first | rfl | with_unfolding_all rfl)))))))),
    bodyV (N := N_p_law_is_name) (fun _ => (ss_seq (ss_if (st_or (st_not (st_truth (se_isi T.isi T.ic se_var (se_c (fun _ => .ty "str"))))) (st_not (st_test (se_chain sr_cmp sr_cmp (se_c (fun _ => .int 1)) (se_cb sc_len (sa_cons se_var sa_nil)) (se_c (fun _ => .int 8)))))) (ss_ret (se_c (fun _ => .bl false))) ss_next)
      (ss_seq (ss_asg (se_new (sf_lc (vs := [2]) (by decide) (si_any se_var) sg_name (st_test (se_op sr_notIn se_var (se_c (fun _ => .str _)))) se_var)) sg_name)
      (ss_ret (se_andV (se_op sr_eq se_var (se_new (sf_lst sa_nil))) (se_op sr_notIn (se_op sr_ix se_var (se_c (fun _ => .int 0))) (se_c (fun _ => .str _)))))))) (by decide) h⟩)
theorem ok_p_law_is_value (T : Txt K mg A) : FnOk P w K mg base CX0 2 A.a_p_law_is_value A.d_p_law_is_value ["_law_thing"] (SpV K 1 (dsp_p_law_is_value K A)) :=
  T.F_p_law_is_value.ok sc_p_law_is_value (fun vs H Q E h => h.len) (fun cdv A' outer s H vs Q E hr h => ⟨_, (pss_one (ps_ret (pe_and (pe_call (ok_p_law_is_whole T) (hr.mono (by decide)) rfl T.g_p_law_is_whole T.F_p_law_is_whole.kp T.b_p_law_is_whole .nil pass0 (pa_cons (pv 0) pa_nil)) (pe_one (pe_chain op_leX op_leX (pe_op op_subX pe_int (pe_op op_powX pe_int pe_int)) (pv 0) (pe_op op_powX pe_int pe_int)))))),
    bodyV (N := N_p_law_is_value) (fun _ => (ss_ret (se_andV (se_call (sa_cons se_var sa_nil)) (se_chain sr_cmp sr_cmp (se_op sr_sub (se_c (fun _ => .int 0)) (se_op sr_pow (se_c (fun _ => .int 10)) (se_c (fun _ => .int 30)))) se_var (se_op sr_pow (se_c (fun _ => .int 10)) (se_c (fun _ => .int 30))))))) (by decide) h⟩)
theorem ok_p_law_labels (T : Txt K mg A) : FnOk P w K mg base CX0 2 A.a_p_law_labels A.d_p_law_labels ["_law_well_here", "_law_rows_so"] (SpV K 2 (dsp_p_law_labels K A)) :=
  T.F_p_law_labels.ok sc_p_law_labels (fun vs H Q E h => h.len) (fun cdv A' outer s H vs Q E hr h => ⟨_, (pss_cons (ps_par3 (i := 2) (j := 3) (l := 4) (by rfl) sc_p_law_labels.nd rfl rfl rfl (by decide) (by decide) (by decide) rfl rfl rfl (pa_cons (pe_lst pa_nil) (pa_cons (pe_lst pa_nil) (pa_cons (pe_op op_mulX (pe_lst (pa_cons pe_int pa_nil)) pe_int) pa_nil))) (by rfl))
      (pss_cons (ps_for PassesOwn.never rfl (pi_any (pv 1)) (pg_tup rfl (pgs_cons (pg_name (i := 5) sc_p_law_labels.nd rfl (Or.inl rfl)) (pgs_cons (pg_name (i := 6) sc_p_law_labels.nd rfl (Or.inl rfl)) (pgs_cons (pg_name (i := 7) sc_p_law_labels.nd rfl (Or.inl rfl)) pgs_nil)))) (pss_cons (ps_set (i := 4) sc_p_law_labels.nd rfl (Or.inl rfl) (pe_op op_addX (pe_slice sl_any (pv 4) po_none (po_some (pe_op op_addX (pv 7) pe_int))) (pe_op op_mulX (pe_lst (pa_cons pe_int pa_nil)) (pe_op op_subX pe_int (pv 7)))))
      (pss_cons (ps_set (i := 8) sc_p_law_labels.nd rfl (Or.inl rfl) (pe_ix ix_seq (pv 4) (pv 7) (fun _ _ => rfl)))
      (pss_cons (ps_asg (pe_op op_addX (pv 8) pe_int) (pg_sub (pv 4) (pv 7) set_list))
      (pss_cons (ps_set (i := 9) sc_p_law_labels.nd rfl (Or.inl rfl) (pe_lst (pa_cons (pe_op op_addX (pe_op op_mulX pe_int (pv 8)) pe_int) pa_nil)))
      (pss_cons (ps_if (pt_cmpR (op_eqD hr.units) (pe_call (ok_p_law_draw T) (hr.mono (by decide)) rfl T.g_p_law_draw T.F_p_law_draw.kp T.b_p_law_draw .nil pass0 (pa_cons (pv 0) (pa_cons pe_int pa_nil))) pe_int (nomark _)) (pss_one (ps_set (i := 9) sc_p_law_labels.nd rfl (Or.inl rfl) (pe_lst (pa_cons (pe_op op_addX (pe_op op_mulX pe_int (pv 8)) pe_int) (pa_cons (pe_op op_addX (pe_op op_mulX pe_int (pe_call (ok_p_law_draw T) (hr.mono (by decide)) rfl T.g_p_law_draw T.F_p_law_draw.kp T.b_p_law_draw .nil pass0 (pa_cons (pv 0) (pa_cons pe_int pa_nil)))) pe_int) pa_nil))))) pss_nil)
      (pss_cons (ps_if (pt_cmpR (op_eqD hr.units) (pe_call (ok_p_law_draw T) (hr.mono (by decide)) rfl T.g_p_law_draw T.F_p_law_draw.kp T.b_p_law_draw .nil pass0 (pa_cons (pv 0) (pa_cons pe_int pa_nil))) pe_int (nomark _)) (pss_one (ps_set (i := 9) sc_p_law_labels.nd rfl (Or.inl rfl) (pe_lst (pa_cons (pe_op op_addX (pe_op op_mulX pe_int (pv 8)) pe_int) (pa_cons (pe_op op_addX (pe_op op_mulX pe_int (pe_call (ok_p_law_draw T) (hr.mono (by decide)) rfl T.g_p_law_draw T.F_p_law_draw.kp T.b_p_law_draw .nil pass0 (pa_cons (pv 0) (pa_cons pe_int pa_nil)))) pe_int) (pa_cons pe_int (pa_cons (pe_op op_addX (pe_op op_mulX pe_int (pe_call (ok_p_law_draw T) (hr.mono (by decide)) rfl T.g_p_law_draw T.F_p_law_draw.kp T.b_p_law_draw .nil pass0 (pa_cons (pv 0) (pa_cons pe_int pa_nil)))) pe_int) pa_nil))))))) pss_nil)
      (pss_cons (ps_set (i := 3) sc_p_law_labels.nd rfl (Or.inl rfl) (pe_slice sl_any (pv 3) po_none (po_some (pv 7))))
      (pss_cons (ps_expr (pe_bm PySem.F.plainAttrs_list PySem.F.slot_list_append PySem.F.type_list_append mt_append (pv 2) (pa_cons (pe_op op_addX (pe_ifExp (pt_cmpR (op_ne0 hr.units) (pv 3) (pe_lst pa_nil) (nomark _)) (pe_ix ix_seq (pv 3) (pe_un un_negX pe_int) (fun _ _ => rfl)) (pe_lst pa_nil)) (pv 9)) pa_nil)))
      (pss_one (ps_set (i := 3) sc_p_law_labels.nd rfl (Or.inl rfl) (pe_op op_addX (pv 3) (pe_lst (pa_cons (pe_ix ix_seq (pv 2) (pe_un un_negX pe_int) (fun _ _ => rfl)) pa_nil))))))))))))))
      (pss_one (ps_ret (pv 2))))),
    bodyV (N := N_p_law_labels) (fun _ => (ss_seq (ss_par3V (sf_lst sa_nil) (se_new (sf_lst sa_nil)) (sf_mulL (se_new (sf_lst (sa_cons (se_c (fun _ => .int 0)) sa_nil))) (se_c (fun _ => .int 61))) (by decide) (by decide) (by decide))
      (ss_seq (ss_for (si_any se_var) (sg_tup (sgs_cons sg_name (sgs_cons sg_name (sgs_cons sg_name sgs_nil)))) (ss_seq (ss_own (sf_addL (se_sl se_var so_none (so_some (se_op sr_add se_var (se_c (fun _ => .int 1))))) (se_op sr_mul (se_new (sf_lst (sa_cons (se_c (fun _ => .int 0)) sa_nil))) (se_op sr_sub (se_c (fun _ => .int 60)) se_var))))
      (ss_seq (ss_asg (se_op sr_ix se_var se_var) sg_name)
      (ss_seq (ss_setIx se_var (se_op sr_add se_var (se_c (fun _ => .int 1))))
      (ss_seq (ss_asg (se_new (sf_lst (sa_cons (se_op sr_add (se_op sr_mul (se_c (fun _ => .int 2)) se_var) (se_c (fun _ => .int 2))) sa_nil))) sg_name)
      (ss_seq (ss_if (st_test (se_op sr_eq (se_call (sa_cons se_var (sa_cons (se_c (fun _ => .int 3)) sa_nil))) (se_c (fun _ => .int 0)))) (ss_asg (se_new (sf_lst (sa_cons (se_op sr_add (se_op sr_mul (se_c (fun _ => .int 2)) se_var) (se_c (fun _ => .int 1))) (sa_cons (se_op sr_add (se_op sr_mul (se_c (fun _ => .int 2)) (se_call (sa_cons se_var (sa_cons (se_c (fun _ => .int 127)) sa_nil)))) (se_c (fun _ => .int 2))) sa_nil)))) sg_name) ss_next)
      (ss_seq (ss_if (st_test (se_op sr_eq (se_call (sa_cons se_var (sa_cons (se_c (fun _ => .int 8)) sa_nil))) (se_c (fun _ => .int 0)))) (ss_asg (se_new (sf_lst (sa_cons (se_op sr_add (se_op sr_mul (se_c (fun _ => .int 2)) se_var) (se_c (fun _ => .int 1))) (sa_cons (se_op sr_add (se_op sr_mul (se_c (fun _ => .int 2)) (se_call (sa_cons se_var (sa_cons (se_c (fun _ => .int 128)) sa_nil)))) (se_c (fun _ => .int 1))) (sa_cons (se_c (fun _ => .int 255)) (sa_cons (se_op sr_add (se_op sr_mul (se_c (fun _ => .int 2)) (se_call (sa_cons se_var (sa_cons (se_c (fun _ => .int 127)) sa_nil)))) (se_c (fun _ => .int 2))) sa_nil)))))) sg_name) ss_next)
      (ss_seq (ss_asg (se_sl se_var so_none (so_some se_var)) sg_name)
      (ss_seq (ss_drop (se_append (se_op sr_add (se_if (st_test (se_op sr_ne0 se_var (se_new (sf_lst sa_nil)))) (se_op sr_ix se_var (se_un su_neg (se_c (fun _ => .int 1)))) (se_new (sf_lst sa_nil))) se_var)))
      (ss_asg (se_op sr_add se_var (se_new (sf_lst (sa_cons (se_op sr_ix se_var (se_un su_neg (se_c (fun _ => .int 1)))) sa_nil)))) sg_name))))))))))
      (ss_frz (i := 2) (ss_ret se_var))))) (by decide) h⟩)
theorem ok_p_law_cut (T : Txt K mg A) : FnOk P w K mg base CX0 1 A.a_p_law_cut A.d_p_law_cut ["_law_numbers"] (SpV K 1 (dsp_p_law_cut K A)) :=
  T.F_p_law_cut.ok sc_p_law_cut (fun vs H Q E h => h.len) (fun cdv A' outer s H vs Q E hr h => ⟨_, (pss_cons (ps_setLc (i := 1) (own := [("_law_at", 2)]) (by rfl) sc_p_law_cut.nd rfl rfl (sw_true rfl rfl rfl (by decide +kernel)) (pi_range1 rfl T.z_range (pa_cons (pe_op op_subX (pe_callB call_lenX (by rfl) T.z_len (by decide +kernel) (pa_cons (pv 0) pa_nil)) pe_int) pa_nil)) (blkOk_by (own := [("_law_at", 2)]) (N := N_p_law_cut) (sc := defScope s_p_law_cut) (by decide +kernel)) (fun _ _ _ _ _ => (pg_name (i := 2) sc_p_law_cut.nd rfl (Or.inl rfl))) (fun _ _ _ _ _ => pts_one (pt_cmpR (op_eqD hr.units) (pe_op op_modX (pe_callTy call_intX (by rfl) T.z_int (by decide +kernel) (pa_cons (pe_ix ix_seq (pv 0) (pv 2) (fun _ _ => rfl)) pa_nil)) pe_int) pe_int (nomark _))) (fun _ _ _ _ _ => (pv 2)))
      (pss_one (ps_ret (pe_ifExp (pt_cmpR (op_ne0 hr.units) (pv 1) (pe_lst pa_nil) (nomark _)) (pe_slice sl_any (pv 0) po_none (po_some (pe_op op_addX (pe_ix ix_seq (pv 1) (pe_un un_negX pe_int) (fun _ _ => rfl)) pe_int))) (pe_lst pa_nil))))),
    bodyV (N := N_p_law_cut) (fun _ => (ss_seq (ss_asg (se_new (sf_lc (vs := [2]) (by decide) (si_rng1 (se_op sr_sub (se_cb sc_len (sa_cons se_var sa_nil)) (se_c (fun _ => .int 1)))) sg_name (st_test (se_op sr_eq (se_op sr_mod (se_cb sc_int (sa_cons (se_op sr_ix se_var se_var) sa_nil)) (se_c (fun _ => .int 2))) (se_c (fun _ => .int 0)))) se_var)) sg_name)
      (ss_ret (se_if (st_test (se_op sr_ne0 se_var (se_new (sf_lst sa_nil)))) (se_sl se_var so_none (so_some (se_op sr_add (se_op sr_ix se_var (se_un su_neg (se_c (fun _ => .int 1)))) (se_c (fun _ => .int 1))))) (se_new (sf_lst sa_nil)))))) (by decide) h⟩)
theorem ok_p_law_is_key (T : Txt K mg A) : FnOk P w K mg base CX0 1 A.a_p_law_is_key A.d_p_law_is_key ["_law_thing"] (SpV K 1 (dsp_p_law_is_key K A)) :=
  T.F_p_law_is_key.ok sc_p_law_is_key (fun vs H Q E h => h.len) (fun cdv A' outer s H vs Q E hr h => ⟨_, (pss_cons (ps_if (PW.pt (pw_or (pt_not (pt_truth (pe_callB call_isiX (by rfl) T.z_isinstance (by decide +kernel) (pa_cons (pv 0) (pa_cons (pe_bltn (v := .ty "list") (u := .type "list") (by rfl) T.z_list (by decide +kernel) rfl) pa_nil))) (by intro _; rfl))) (pw_or (pt_cmpR (op_eqD hr.units) (pv 0) (pe_lst pa_nil) (nomark _)) (pw_or1 (pt_cmpR (op_inX (hu65 hr)) pe_int (pv 0) (by first | rfl | with_unfolding_all rfl)))))) (pss_one (ps_ret pe_bl)) pss_nil)
      (pss_one (ps_ret (pe_cmpR (op_eqD hr.units) (pe_op op_modX (pe_callTy call_intX (by rfl) T.z_int (by decide +kernel) (pa_cons (pe_ix ix_seq (pv 0) (pe_un un_negX pe_int) (fun _ _ => rfl)) pa_nil)) pe_int) pe_int (nomark _))))),
    bodyV (N := N_p_law_is_key) (fun _ => (ss_seq (ss_if (st_or (st_not (st_truth (se_isi T.isi T.ic se_var (se_c (fun _ => .ty "list"))))) (st_or (st_test (se_op sr_eq se_var (se_new (sf_lst sa_nil)))) (st_test (se_op sr_in (se_c (fun _ => .int 0)) se_var)))) (ss_ret (se_c (fun _ => .bl false))) ss_next)
      (ss_ret (se_op sr_eq (se_op sr_mod (se_cb sc_int (sa_cons (se_op sr_ix se_var (se_un su_neg (se_c (fun _ => .int 1)))) sa_nil)) (se_c (fun _ => .int 2))) (se_c (fun _ => .int 0)))))) (by decide) h⟩)
theorem ok_p_law_word (T : Txt K mg A) : FnOk P w K mg base CX0 3 A.a_p_law_word A.d_p_law_word ["_law_rows_so", "_law_place"] (SpV K 2 (dsp_p_law_word K A)) :=
  T.F_p_law_word.ok sc_p_law_word (fun vs H Q E h => h.len) (fun cdv A' outer s H vs Q E hr h => ⟨_, (pss_cons (ps_set (i := 2) sc_p_law_word.nd rfl (Or.inl rfl) (pe_ix ix_seq (pv 0) (pv 1) (fun _ _ => rfl)))
      (pss_cons (ps_if (PW.pt (pw_or (pt_not (pt_truth (pe_callB call_isiX (by rfl) T.z_isinstance (by decide +kernel) (pa_cons (pv 2) (pa_cons (pe_bltn (v := .ty "tuple") (u := .type "tuple") (by rfl) T.z_tuple (by decide +kernel) rfl) pa_nil))) (by intro _; rfl))) (pw_or1 (pt_cmpR (op_neD hr.units) (pe_callB call_lenX (by rfl) T.z_len (by decide +kernel) (pa_cons (pv 2) pa_nil)) pe_int (nomark _))))) (pss_one (ps_ret pe_str)) pss_nil)
      (pss_cons (ps_if (pt_not (pt_truth (pe_call (ok_p_law_is_name T) (hr.mono (by decide)) rfl T.g_p_law_is_name T.F_p_law_is_name.kp T.b_p_law_is_name .nil pass0 (pa_cons (pe_ix ix_seq (pv 2) pe_int (fun _ _ => rfl)) pa_nil)) (by intro _; rfl))) (pss_one (ps_ret pe_str)) pss_nil)
      (pss_cons (ps_if (pt_not (pt_truth (pe_call (ok_p_law_is_value T) (hr.mono (by decide)) rfl T.g_p_law_is_value T.F_p_law_is_value.kp T.b_p_law_is_value .nil pass0 (pa_cons (pe_ix ix_seq (pv 2) pe_int (fun _ _ => rfl)) pa_nil)) (by intro _; rfl))) (pss_one (ps_ret pe_str)) pss_nil)
      (pss_cons (ps_if (pt_not (pt_truth (pe_call (ok_p_law_is_key T) (hr.mono (by decide)) rfl T.g_p_law_is_key T.F_p_law_is_key.kp T.b_p_law_is_key .nil pass0 (pa_cons (pe_ix ix_seq (pv 2) pe_int (fun _ _ => rfl)) pa_nil)) (by intro _; rfl))) (pss_one (ps_ret pe_str)) pss_nil)
      (pss_cons (ps_if (pt_cmpR (op_inX (hu65 hr)) (pe_ix ix_seq (pv 2) pe_int (fun _ _ => rfl)) (pe_lc (own := [("_law_other", 3)]) (by rfl) sc_p_law_word.nd (pi_any (pe_slice sl_any (pv 0) po_none (po_some (pv 1)))) (blkOk_by (own := [("_law_other", 3)]) (N := N_p_law_word) (sc := defScope s_p_law_word) (by decide +kernel)) (fun _ _ _ _ _ => (pg_name (i := 3) sc_p_law_word.nd rfl (Or.inl rfl))) (fun _ _ _ _ _ => pts_nil) (fun _ _ _ _ _ => (pe_ix ix_seq (pv 3) pe_int (fun _ _ => rfl)))) (by first | rfl | with_unfolding_all rfl)) (pss_one (ps_ret pe_str)) pss_nil)
      (pss_one (ps_ret (pe_ifExp (pt_cmpR (op_inX (hu65 hr)) (pe_ix ix_seq (pv 2) pe_int (fun _ _ => rfl)) (pe_lc (own := [("_law_other", 3)]) (by rfl) sc_p_law_word.nd (pi_any (pe_slice sl_any (pv 0) po_none (po_some (pv 1)))) (blkOk_by (own := [("_law_other", 3)]) (N := N_p_law_word) (sc := defScope s_p_law_word) (by decide +kernel)) (fun _ _ _ _ _ => (pg_name (i := 3) sc_p_law_word.nd rfl (Or.inl rfl))) (fun _ _ _ _ _ => pts_nil) (fun _ _ _ _ _ => (pe_ix ix_seq (pv 3) pe_int (fun _ _ => rfl)))) (by first | rfl | with_unfolding_all rfl)) pe_str pe_non))))))))),
    bodyV (N := N_p_law_word) (fun _ => (ss_seq (ss_asg (se_op sr_ix se_var se_var) sg_name)
      (ss_seq (ss_if (st_or (st_not (st_truth (se_isi T.isi T.ic se_var (se_c (fun _ => .ty "tuple"))))) (st_test (se_op sr_ne (se_cb sc_len (sa_cons se_var sa_nil)) (se_c (fun _ => .int 3))))) (ss_ret (se_c (fun _ => .str _))) ss_next)
      (ss_seq (ss_if (st_not (st_truth (se_call (sa_cons (se_op sr_ix se_var (se_c (fun _ => .int 0))) sa_nil)))) (ss_ret (se_c (fun _ => .str _))) ss_next)
      (ss_seq (ss_if (st_not (st_truth (se_call (sa_cons (se_op sr_ix se_var (se_c (fun _ => .int 1))) sa_nil)))) (ss_ret (se_c (fun _ => .str _))) ss_next)
      (ss_seq (ss_if (st_not (st_truth (se_call (sa_cons (se_op sr_ix se_var (se_c (fun _ => .int 2))) sa_nil)))) (ss_ret (se_c (fun _ => .str _))) ss_next)
      (ss_seq (ss_if (st_test (se_op sr_in (se_op sr_ix se_var (se_c (fun _ => .int 0))) (se_new (sf_lc (vs := [3]) (by decide) (si_any (se_sl se_var so_none (so_some se_var))) sg_name st_yes (se_op sr_ix se_var (se_c (fun _ => .int 0))))))) (ss_ret (se_c (fun _ => .str _))) ss_next)
      (ss_ret (se_if (st_test (se_op sr_in (se_op sr_ix se_var (se_c (fun _ => .int 2))) (se_new (sf_lc (vs := [3]) (by decide) (si_any (se_sl se_var so_none (so_some se_var))) sg_name st_yes (se_op sr_ix se_var (se_c (fun _ => .int 2))))))) (se_c (fun _ => .str _)) (se_c (fun _ => .non))))))))))) (by decide) h⟩)
theorem ok_p_law_due (T : Txt K mg A) : FnOk P w K mg base CX0 4 A.a_p_law_due A.d_p_law_due ["_law_rows_so"] (SpV K 1 (dsp_p_law_due K A)) :=
  T.F_p_law_due.ok sc_p_law_due (fun vs H Q E h => h.len) (fun cdv A' outer s H vs Q E hr h => ⟨_, (pss_cons (ps_if (pt_cmpR op_gtX (pe_callB call_lenX (by rfl) T.z_len (by decide +kernel) (pa_cons (pv 0) pa_nil)) pe_int (nomark _)) (pss_one (ps_ret (pe_tup (pa_cons (pe_un un_negX pe_int) (pa_cons pe_str pa_nil))))) pss_nil)
      (pss_cons (ps_for PassesOwn.never rfl (pi_range1 rfl T.z_range (pa_cons (pe_callB call_lenX (by rfl) T.z_len (by decide +kernel) (pa_cons (pv 0) pa_nil)) pa_nil)) (pg_name (i := 1) sc_p_law_due.nd rfl (Or.inl rfl)) (pss_cons (ps_set (i := 2) sc_p_law_due.nd rfl (Or.inl rfl) (pe_call (ok_p_law_word T) (hr.mono (by decide)) rfl T.g_p_law_word T.F_p_law_word.kp T.b_p_law_word .nil pass0 (pa_cons (pv 0) (pa_cons (pv 1) pa_nil))))
      (pss_one (ps_if (pt_cmpR op_notNX (pv 2) pe_non (nomark _)) (pss_one (ps_ret (pe_tup (pa_cons (pv 1) (pa_cons (pv 2) pa_nil))))) pss_nil))))
      (pss_cons (ps_set (i := 3) sc_p_law_due.nd rfl (Or.inl rfl) (pe_op op_addX (pe_lc (own := [("_law_row", 4)]) (by rfl) sc_p_law_due.nd (pi_any (pv 0)) (blkOk_by (own := [("_law_row", 4)]) (N := N_p_law_due) (sc := defScope s_p_law_due) (by decide +kernel)) (fun _ _ _ _ _ => (pg_name (i := 4) sc_p_law_due.nd rfl (Or.inl rfl))) (fun _ _ _ _ _ => pts_nil) (fun _ _ _ _ _ => (pe_ix ix_seq (pv 4) pe_int (fun _ _ => rfl)))) (pe_lst (pa_cons (pe_lst pa_nil) pa_nil))))
      (pss_cons (ps_for PassesOwn.never rfl (pi_enumX (by rfl) T.z_enumerate (pa_cons (pv 0) pa_nil)) (pg_tup rfl (pgs_cons (pg_name (i := 1) sc_p_law_due.nd rfl (Or.inl rfl)) (pgs_cons (pg_name (i := 4) sc_p_law_due.nd rfl (Or.inl rfl)) pgs_nil))) (pss_one (ps_if (pt_cmpR (op_notInX (hu65 hr)) (pe_call (ok_p_law_cut T) (hr.mono (by decide)) rfl T.g_p_law_cut T.F_p_law_cut.kp T.b_p_law_cut .nil pass0 (pa_cons (pe_ix ix_seq (pv 4) pe_int (fun _ _ => rfl)) pa_nil)) (pv 3) (by first | rfl | with_unfolding_all rfl)) (pss_one (ps_ret (pe_tup (pa_cons (pv 1) (pa_cons pe_str pa_nil))))) pss_nil)))
      (pss_one (ps_ret pe_non)))))),
    bodyV (N := N_p_law_due) (fun _ => (ss_seq (ss_if (st_test (se_op sr_cmp (se_cb sc_len (sa_cons se_var sa_nil)) (se_c (fun _ => .int 60)))) (ss_ret (se_tup (sa_cons (se_un su_neg (se_c (fun _ => .int 1))) (sa_cons (se_c (fun _ => .str _)) sa_nil)))) ss_next)
      (ss_seq (ss_for (si_rng1 (se_cb sc_len (sa_cons se_var sa_nil))) sg_name (ss_seq (ss_asg (se_call (sa_cons se_var (sa_cons se_var sa_nil))) sg_name)
      (ss_if (st_test (se_op sr_notN se_var (se_c (fun _ => .non)))) (ss_ret (se_tup (sa_cons se_var (sa_cons se_var sa_nil)))) ss_next)))
      (ss_seq (ss_asg (se_op sr_add (se_new (sf_lc (vs := [4]) (by decide) (si_any se_var) sg_name st_yes (se_op sr_ix se_var (se_c (fun _ => .int 2))))) (se_new (sf_lst (sa_cons (se_new (sf_lst sa_nil)) sa_nil)))) sg_name)
      (ss_seq (ss_for (si_enumX se_var) (sg_tup (sgs_cons sg_name (sgs_cons sg_name sgs_nil))) (ss_if (st_test (se_op sr_notIn (se_call (sa_cons (se_op sr_ix se_var (se_c (fun _ => .int 2))) sa_nil)) se_var)) (ss_ret (se_tup (sa_cons se_var (sa_cons (se_c (fun _ => .str _)) sa_nil)))) ss_next))
      (ss_ret (se_c (fun _ => .non)))))))) (by decide) h⟩)
theorem ok_p_law_spoil (T : Txt K mg A) : FnOk P w K mg base CX0 3 A.a_p_law_spoil A.d_p_law_spoil ["_law_well_here", "_law_rows_so"] (SpV K 2 (dsp_p_law_spoil K A)) :=
  T.F_p_law_spoil.ok sc_p_law_spoil (fun vs H Q E h => h.len) (fun cdv A' outer s H vs Q E hr h => ⟨_, (pss_cons (ps_par (i := 2) (j := 3) (by rfl) sc_p_law_spoil.nd rfl rfl (by decide) rfl rfl (pa_cons (pe_call (ok_p_law_draw T) (hr.mono (by decide)) rfl T.g_p_law_draw T.F_p_law_draw.kp T.b_p_law_draw .nil pass0 (pa_cons (pv 0) (pa_cons (pe_callB call_lenX (by rfl) T.z_len (by decide +kernel) (pa_cons (pv 1) pa_nil)) pa_nil))) (pa_cons (pe_call (ok_p_law_draw T) (hr.mono (by decide)) rfl T.g_p_law_draw T.F_p_law_draw.kp T.b_p_law_draw .nil pass0 (pa_cons (pv 0) (pa_cons (pe_callB call_lenX (by rfl) T.z_len (by decide +kernel) (pa_cons (pv 1) pa_nil)) pa_nil))) pa_nil)) (by rfl))
      (pss_cons (ps_if (PW.pt (pw_or (pt_not (pt_truth (pe_callB call_isiX (by rfl) T.z_isinstance (by decide +kernel) (pa_cons (pe_ix ix_seq (pv 1) (pv 2) (fun _ _ => rfl)) (pa_cons (pe_bltn (v := .ty "tuple") (u := .type "tuple") (by rfl) T.z_tuple (by decide +kernel) rfl) pa_nil))) (by intro _; rfl))) (pw_or (pt_not (pt_truth (pe_callB call_isiX (by rfl) T.z_isinstance (by decide +kernel) (pa_cons (pe_ix ix_seq (pv 1) (pv 3) (fun _ _ => rfl)) (pa_cons (pe_bltn (v := .ty "tuple") (u := .type "tuple") (by rfl) T.z_tuple (by decide +kernel) rfl) pa_nil))) (by intro _; rfl))) (pw_or1 (pt_not (pt_truth (pe_callB call_isiX (by rfl) T.z_isinstance (by decide +kernel) (pa_cons (pe_ix ix_seq (pe_ix ix_seq (pv 1) (pv 2) (fun _ _ => rfl)) pe_int (fun _ _ => rfl)) (pa_cons (pe_bltn (v := .ty "list") (u := .type "list") (by rfl) T.z_list (by decide +kernel) rfl) pa_nil))) (by intro _; rfl))))))) (pss_one ps_retN) pss_nil)
      (pss_cons (ps_asg (pe_ix ix_seq (pv 1) (pv 2) (fun _ _ => rfl)) (pg_tup rfl (pgs_cons (pg_name (i := 4) sc_p_law_spoil.nd rfl (Or.inl rfl)) (pgs_cons (pg_name (i := 5) sc_p_law_spoil.nd rfl (Or.inl rfl)) (pgs_cons (pg_name (i := 6) sc_p_law_spoil.nd rfl (Or.inl rfl)) pgs_nil)))))
      (pss_cons (ps_par (i := 7) (j := 8) (by rfl) sc_p_law_spoil.nd rfl rfl (by decide) rfl rfl (pa_cons (pe_call (ok_p_law_draw T) (hr.mono (by decide)) rfl T.g_p_law_draw T.F_p_law_draw.kp T.b_p_law_draw .nil pass0 (pa_cons (pv 0) (pa_cons pe_int pa_nil))) (pa_cons (pe_call (ok_p_law_draw T) (hr.mono (by decide)) rfl T.g_p_law_draw T.F_p_law_draw.kp T.b_p_law_draw .nil pass0 (pa_cons (pv 0) (pa_cons pe_int pa_nil))) pa_nil)) (by rfl))
      (pss_cons (ps_if (pt_cmpR (op_eqD hr.units) (pv 7) pe_int (nomark _)) (pss_one (ps_asg (pe_call (ok_p_law_one T) (hr.mono (by decide)) rfl T.g_p_law_one T.F_p_law_one.kp T.b_p_law_one .nil pass0 (pa_cons (pv 0) (pa_cons (pe_lst (pa_cons pe_non (pa_cons pe_str (pa_cons pe_int (pa_cons pe_dnewK (pa_cons (pe_lst pa_nil) (pa_cons (pe_lst (pa_cons (pv 4) (pa_cons (pv 5) pa_nil))) (pa_cons (pe_lst (pa_cons (pv 4) (pa_cons (pv 5) (pa_cons (pv 6) (pa_cons pe_int pa_nil))))) pa_nil)))))))) pa_nil))) (pg_sub (pv 1) (pv 2) set_list))) pss_nil)
      (pss_cons (ps_if (pt_cmpR (op_eqD hr.units) (pv 7) pe_int (nomark _)) (pss_one (ps_asg (pe_tup (pa_cons (pe_call (ok_p_law_one T) (hr.mono (by decide)) rfl T.g_p_law_one T.F_p_law_one.kp T.b_p_law_one .nil pass0 (pa_cons (pv 0) (pa_cons (pe_lst (pa_cons pe_str (pa_cons pe_str (pa_cons pe_str (pa_cons pe_str (pa_cons (pe_tup (pa_cons (pv 4) pa_nil)) (pa_cons pe_non (pa_cons pe_int (pa_cons pe_bl (pa_cons pe_str pa_nil)))))))))) pa_nil))) (pa_cons (pv 5) (pa_cons (pv 6) pa_nil)))) (pg_sub (pv 1) (pv 2) set_list))) pss_nil)
      (pss_cons (ps_if (pt_cmpR (op_eqD hr.units) (pv 7) pe_int (nomark _)) (pss_one (ps_asg (pe_tup (pa_cons (pv 4) (pa_cons (pe_call (ok_p_law_one T) (hr.mono (by decide)) rfl T.g_p_law_one T.F_p_law_one.kp T.b_p_law_one .nil pass0 (pa_cons (pv 0) (pa_cons (pe_lst (pa_cons pe_non (pa_cons pe_bl (pa_cons pe_str (pa_cons (pe_tup (pa_cons pe_int pa_nil)) (pa_cons pe_dnewK (pa_cons (pe_op op_addX (pe_op op_powX pe_int pe_int) pe_int) (pa_cons (pe_op op_subX (pe_op op_subX pe_int (pe_op op_powX pe_int pe_int)) pe_int) pa_nil)))))))) pa_nil))) (pa_cons (pv 6) pa_nil)))) (pg_sub (pv 1) (pv 2) set_list))) pss_nil)
      (pss_cons (ps_if (pt_cmpR (op_eqD hr.units) (pv 7) pe_int (nomark _)) (pss_one (ps_asg (pe_tup (pa_cons (pv 4) (pa_cons (pv 5) (pa_cons (pe_call (ok_p_law_one T) (hr.mono (by decide)) rfl T.g_p_law_one T.F_p_law_one.kp T.b_p_law_one .nil pass0 (pa_cons (pv 0) (pa_cons (pe_lst (pa_cons pe_non (pa_cons pe_str (pa_cons pe_int (pa_cons (pe_tup (pa_cons pe_int pa_nil)) (pa_cons pe_dnewK (pa_cons (pe_lst pa_nil) (pa_cons pe_bl pa_nil)))))))) pa_nil))) pa_nil)))) (pg_sub (pv 1) (pv 2) set_list))) pss_nil)
      (pss_cons (ps_if (pt_cmpR (op_eqD hr.units) (pv 7) pe_int (nomark _)) (pss_one (ps_asg (pe_tup (pa_cons (pe_ix ix_seq (pe_ix ix_seq (pv 1) (pv 3) (fun _ _ => rfl)) pe_int (fun _ _ => rfl)) (pa_cons (pv 5) (pa_cons (pv 6) pa_nil)))) (pg_sub (pv 1) (pv 2) set_list))) pss_nil)
      (pss_cons (ps_if (pt_cmpR (op_eqD hr.units) (pv 7) pe_int (nomark _)) (pss_one (ps_asg (pe_tup (pa_cons (pv 4) (pa_cons (pv 5) (pa_cons (pe_ix ix_seq (pe_ix ix_seq (pv 1) (pv 3) (fun _ _ => rfl)) pe_int (fun _ _ => rfl)) pa_nil)))) (pg_sub (pv 1) (pv 2) set_list))) pss_nil)
      (pss_cons (ps_if (pt_cmpR (op_eqD hr.units) (pv 7) pe_int (nomark _)) (pss_one (ps_asg (pe_tup (pa_cons (pv 4) (pa_cons (pv 5) (pa_cons (pe_call (ok_p_law_one T) (hr.mono (by decide)) rfl T.g_p_law_one T.F_p_law_one.kp T.b_p_law_one .nil pass0 (pa_cons (pv 0) (pa_cons (pe_lst (pa_cons (pe_slice sl_any (pv 6) po_none (po_some (pe_un un_negX pe_int))) (pa_cons (pe_slice sl_any (pv 6) (po_some pe_int) po_none) (pa_cons (pe_op op_addX (pv 6) (pe_lst (pa_cons (pv 8) pa_nil))) (pa_cons (pe_op op_addX (pv 6) (pe_lst (pa_cons pe_int pa_nil))) (pa_cons (pe_op op_addX (pv 6) (pe_lst (pa_cons pe_int pa_nil))) pa_nil)))))) pa_nil))) pa_nil)))) (pg_sub (pv 1) (pv 2) set_list))) pss_nil)
      (pss_one (ps_if (PW.pt (pw_and (pt_cmpR (op_eqD hr.units) (pv 7) pe_int (nomark _)) (pw_and1 (pt_cmpR (op_ne0 hr.units) (pv 6) (pe_lst pa_nil) (nomark _))))) (pss_cons (ps_set (i := 9) sc_p_law_spoil.nd rfl (Or.inl rfl) (pe_call (ok_p_law_draw T) (hr.mono (by decide)) rfl T.g_p_law_draw T.F_p_law_draw.kp T.b_p_law_draw .nil pass0 (pa_cons (pv 0) (pa_cons (pe_callB call_lenX (by rfl) T.z_len (by decide +kernel) (pa_cons (pv 6) pa_nil)) pa_nil))))
      (pss_one (ps_asg (pe_tup (pa_cons (pv 4) (pa_cons (pv 5) (pa_cons (pe_op op_addX (pe_op op_addX (pe_slice sl_any (pv 6) po_none (po_some (pv 9))) (pe_lst (pa_cons (pv 8) pa_nil))) (pe_slice sl_any (pv 6) (po_some (pe_op op_addX (pv 9) pe_int)) po_none)) pa_nil)))) (pg_sub (pv 1) (pv 2) set_list)))) pss_nil))))))))))))),
    bodyV (N := N_p_law_spoil) (fun _ => (ss_seq (ss_par (sa_cons (se_call (sa_cons se_var (sa_cons (se_cb sc_len (sa_cons se_var sa_nil)) sa_nil))) (sa_cons (se_call (sa_cons se_var (sa_cons (se_cb sc_len (sa_cons se_var sa_nil)) sa_nil))) sa_nil)))
      (ss_seq (ss_if (st_or (st_not (st_truth (se_isi T.isi T.ic (se_op sr_ix se_var se_var) (se_c (fun _ => .ty "tuple"))))) (st_or (st_not (st_truth (se_isi T.isi T.ic (se_op sr_ix se_var se_var) (se_c (fun _ => .ty "tuple"))))) (st_not (st_truth (se_isi T.isi T.ic (se_op sr_ix (se_op sr_ix se_var se_var) (se_c (fun _ => .int 2))) (se_c (fun _ => .ty "list"))))))) ss_retN ss_next)
      (ss_seq (ss_asg (se_op sr_ix se_var se_var) (sg_tup (sgs_cons sg_name (sgs_cons sg_name (sgs_cons sg_name sgs_nil)))))
      (ss_seq (ss_par (sa_cons (se_call (sa_cons se_var (sa_cons (se_c (fun _ => .int 8)) sa_nil))) (sa_cons (se_call (sa_cons se_var (sa_cons (se_c (fun _ => .int 256)) sa_nil))) sa_nil)))
      (ss_seq (ss_if (st_test (se_op sr_eq se_var (se_c (fun _ => .int 0)))) (ss_setIx se_var (se_call (sa_cons se_var (sa_cons (se_new (sf_lst (sa_cons (se_c (fun _ => .non)) (sa_cons (se_c (fun _ => .str _)) (sa_cons (se_c (fun _ => .int 5)) (sa_cons (se_new sf_dnew) (sa_cons (se_new (sf_lst sa_nil)) (sa_cons (se_new (sf_lst (sa_cons se_var (sa_cons se_var sa_nil)))) (sa_cons (se_new (sf_lst (sa_cons se_var (sa_cons se_var (sa_cons se_var (sa_cons (se_c (fun _ => .int 0)) sa_nil)))))) sa_nil))))))))) sa_nil)))) ss_next)
      (ss_seq (ss_if (st_test (se_op sr_eq se_var (se_c (fun _ => .int 1)))) (ss_setIx se_var (se_tup (sa_cons (se_call (sa_cons se_var (sa_cons (se_new (sf_lst (sa_cons (se_c (fun _ => .str _)) (sa_cons (se_c (fun _ => .str _)) (sa_cons (se_c (fun _ => .str _)) (sa_cons (se_c (fun _ => .str _)) (sa_cons (se_tup (sa_cons se_var sa_nil)) (sa_cons (se_c (fun _ => .non)) (sa_cons (se_c (fun _ => .int 5)) (sa_cons (se_c (fun _ => .bl true)) (sa_cons (se_c (fun _ => .str _)) sa_nil))))))))))) sa_nil))) (sa_cons se_var (sa_cons se_var sa_nil))))) ss_next)
      (ss_seq (ss_if (st_test (se_op sr_eq se_var (se_c (fun _ => .int 2)))) (ss_setIx se_var (se_tup (sa_cons se_var (sa_cons (se_call (sa_cons se_var (sa_cons (se_new (sf_lst (sa_cons (se_c (fun _ => .non)) (sa_cons (se_c (fun _ => .bl true)) (sa_cons (se_c (fun _ => .str _)) (sa_cons (se_tup (sa_cons (se_c (fun _ => .int 1)) sa_nil)) (sa_cons (se_new sf_dnew) (sa_cons (se_op sr_add (se_op sr_pow (se_c (fun _ => .int 10)) (se_c (fun _ => .int 30))) (se_c (fun _ => .int 1))) (sa_cons (se_op sr_sub (se_op sr_sub (se_c (fun _ => .int 0)) (se_op sr_pow (se_c (fun _ => .int 10)) (se_c (fun _ => .int 30)))) (se_c (fun _ => .int 1))) sa_nil))))))))) sa_nil))) (sa_cons se_var sa_nil))))) ss_next)
      (ss_seq (ss_if (st_test (se_op sr_eq se_var (se_c (fun _ => .int 3)))) (ss_setIx se_var (se_tup (sa_cons se_var (sa_cons se_var (sa_cons (se_call (sa_cons se_var (sa_cons (se_new (sf_lst (sa_cons (se_c (fun _ => .non)) (sa_cons (se_c (fun _ => .str _)) (sa_cons (se_c (fun _ => .int 5)) (sa_cons (se_tup (sa_cons (se_c (fun _ => .int 2)) sa_nil)) (sa_cons (se_new sf_dnew) (sa_cons (se_new (sf_lst sa_nil)) (sa_cons (se_c (fun _ => .bl true)) sa_nil))))))))) sa_nil))) sa_nil))))) ss_next)
      (ss_seq (ss_if (st_test (se_op sr_eq se_var (se_c (fun _ => .int 4)))) (ss_setIx se_var (se_tup (sa_cons (se_op sr_ix (se_op sr_ix se_var se_var) (se_c (fun _ => .int 0))) (sa_cons se_var (sa_cons se_var sa_nil))))) ss_next)
      (ss_seq (ss_if (st_test (se_op sr_eq se_var (se_c (fun _ => .int 5)))) (ss_setIx se_var (se_tup (sa_cons se_var (sa_cons se_var (sa_cons (se_op sr_ix (se_op sr_ix se_var se_var) (se_c (fun _ => .int 2))) sa_nil))))) ss_next)
      (ss_seq (ss_if (st_test (se_op sr_eq se_var (se_c (fun _ => .int 6)))) (ss_setIx se_var (se_tup (sa_cons se_var (sa_cons se_var (sa_cons (se_call (sa_cons se_var (sa_cons (se_new (sf_lst (sa_cons (se_sl se_var so_none (so_some (se_un su_neg (se_c (fun _ => .int 1))))) (sa_cons (se_sl se_var (so_some (se_c (fun _ => .int 1))) so_none) (sa_cons (se_op sr_add se_var (se_new (sf_lst (sa_cons se_var sa_nil)))) (sa_cons (se_op sr_add se_var (se_new (sf_lst (sa_cons (se_c (fun _ => .int 2)) sa_nil)))) (sa_cons (se_op sr_add se_var (se_new (sf_lst (sa_cons (se_c (fun _ => .int 3)) sa_nil)))) sa_nil))))))) sa_nil))) sa_nil))))) ss_next)
      (ss_if (st_and (st_test (se_op sr_eq se_var (se_c (fun _ => .int 7)))) (st_test (se_op sr_ne0 se_var (se_new (sf_lst sa_nil))))) (ss_seq (ss_asg (se_call (sa_cons se_var (sa_cons (se_cb sc_len (sa_cons se_var sa_nil)) sa_nil))) sg_name)
      (ss_setIx se_var (se_tup (sa_cons se_var (sa_cons se_var (sa_cons (se_op sr_add (se_op sr_add (se_sl se_var so_none (so_some se_var)) (se_new (sf_lst (sa_cons se_var sa_nil)))) (se_sl se_var (so_some (se_op sr_add se_var (se_c (fun _ => .int 1)))) so_none)) sa_nil)))))) ss_next))))))))))))) (by decide) h⟩)
theorem ok_p_law_made (T : Txt K mg A) : FnOk P w K mg base CX0 3 A.a_p_law_made A.d_p_law_made ["_law_rows_so", "_law_kind"] (SpV K 2 (dsp_p_law_made K A)) :=
  T.F_p_law_made.ok sc_p_law_made (fun vs H Q E h => h.len) (fun cdv A' outer s H vs Q E hr h => ⟨_, (pss_cons (ps_set (i := 2) sc_p_law_made.nd rfl (Or.inl rfl) (pe_lst pa_nil))
      (pss_cons (ps_for PassesOwn.never rfl (pi_any (pv 0)) (pg_name (i := 3) sc_p_law_made.nd rfl (Or.inl rfl)) (pss_cons (ps_if (PW.pt (pw_and (pt_truth (pe_callB call_isiX (by rfl) T.z_isinstance (by decide +kernel) (pa_cons (pv 3) (pa_cons (pe_bltn (v := .ty "tuple") (u := .type "tuple") (by rfl) T.z_tuple (by decide +kernel) rfl) pa_nil))) (by intro _; rfl)) (pw_and (pt_cmpR (op_eqD hr.units) (pe_callB call_lenX (by rfl) T.z_len (by decide +kernel) (pa_cons (pv 3) pa_nil)) pe_int (nomark _)) (pw_and1 (pt_truth (pe_callB call_isiX (by rfl) T.z_isinstance (by decide +kernel) (pa_cons (pe_ix ix_seq (pv 3) pe_int (fun _ _ => rfl)) (pa_cons (pe_bltn (v := .ty "list") (u := .type "list") (by rfl) T.z_list (by decide +kernel) rfl) pa_nil))) (by intro _; rfl)))))) (pss_one (ps_set (i := 3) sc_p_law_made.nd rfl (Or.inl rfl) (pe_tup (pa_cons (pe_ix ix_seq (pv 3) pe_int (fun _ _ => rfl)) (pa_cons (pe_ix ix_seq (pv 3) pe_int (fun _ _ => rfl)) (pa_cons (pe_call (ok_bytes_of T) (hr.mono (by decide)) rfl T.g_bytes_of T.F_bytes_of.kp T.b_bytes_of .nil pass0 (pa_cons (pe_ix ix_seq (pv 3) pe_int (fun _ _ => rfl)) pa_nil)) pa_nil)))))) pss_nil)
      (pss_one (ps_expr (pe_bm PySem.F.plainAttrs_list PySem.F.slot_list_append PySem.F.type_list_append mt_append (pv 2) (pa_cons (pe_ifExp (PW.pt (pw_and (pt_truth (pe_callB call_isiX (by rfl) T.z_isinstance (by decide +kernel) (pa_cons (pv 3) (pa_cons (pe_bltn (v := .ty "tuple") (u := .type "tuple") (by rfl) T.z_tuple (by decide +kernel) rfl) pa_nil))) (by intro _; rfl)) (pw_and1 (pt_cmpR (op_eqD hr.units) (pv 1) pe_int (nomark _))))) (pe_callTy call_listX (by rfl) T.z_list (by decide +kernel) (pa_cons (pv 3) pa_nil)) (pv 3)) pa_nil))))))
      (pss_one (ps_ret (pv 2))))),
    bodyV (N := N_p_law_made) (fun _ => (ss_seq (ss_own (sf_lst sa_nil))
      (ss_seq (ss_for (si_any se_var) sg_name (ss_seq (ss_if (st_and (st_truth (se_isi T.isi T.ic se_var (se_c (fun _ => .ty "tuple")))) (st_and (st_test (se_op sr_eq (se_cb sc_len (sa_cons se_var sa_nil)) (se_c (fun _ => .int 3)))) (st_truth (se_isi T.isi T.ic (se_op sr_ix se_var (se_c (fun _ => .int 2))) (se_c (fun _ => .ty "list")))))) (ss_asg (se_tup (sa_cons (se_op sr_ix se_var (se_c (fun _ => .int 0))) (sa_cons (se_op sr_ix se_var (se_c (fun _ => .int 1))) (sa_cons (se_call (sa_cons (se_op sr_ix se_var (se_c (fun _ => .int 2))) sa_nil)) sa_nil)))) sg_name) ss_next)
      (ss_drop (se_append (se_if (st_and (st_truth (se_isi T.isi T.ic se_var (se_c (fun _ => .ty "tuple")))) (st_test (se_op sr_eq se_var (se_c (fun _ => .int 1))))) (se_new (sf_list se_var)) se_var)))))
      (ss_frz (i := 2) (ss_ret se_var))))) (by decide) h⟩)
theorem ok_law (T : Txt K mg A) : FnG P w K mg base CX0 5 A.a_law A.d_law ["_law_script"] (SpV K 1 (dsp_law K A)) :=
  okG T.F_law sc_law (fun vs H Q E h => h.len) (fun cdv A' hgd outer s H vs Q E hr h => ⟨_, (pss_cons (ps_for PassesOwn.never rfl (pi_any (pe_slice sl_any (pe_op op_addX (pv 0) (pe_lst (pa_cons pe_int pa_nil))) po_none (po_some pe_int))) (pg_name (i := 1) sc_law.nd rfl (Or.inl rfl)) (pss_cons (ps_set (i := 2) sc_law.nd rfl (Or.inl rfl) (pe_call (ok_p_law_well T) (hr.mono (by decide)) rfl T.g_p_law_well T.F_p_law_well.kp T.b_p_law_well .nil pass0 (pa_cons (pv 1) pa_nil)))
      (pss_cons (ps_set (i := 3) sc_law.nd rfl (Or.inl rfl) (pe_call (ok_p_law_rows T) (hr.mono (by decide)) rfl T.g_p_law_rows T.F_p_law_rows.kp T.b_p_law_rows .nil pass0 (pa_cons (pv 2) (pa_cons (pe_call (ok_p_law_one T) (hr.mono (by decide)) rfl T.g_p_law_one T.F_p_law_one.kp T.b_p_law_one .nil pass0 (pa_cons (pv 2) (pa_cons (pe_lst (pa_cons pe_int (pa_cons pe_int (pa_cons pe_int pa_nil)))) pa_nil))) pa_nil))))
      (pss_cons (ps_set (i := 4) sc_law.nd rfl (Or.inr rfl) (pe_call (ok_p_law_labels T) (hr.mono (by decide)) rfl T.g_p_law_labels T.F_p_law_labels.kp T.b_p_law_labels .nil pass0 (pa_cons (pv 2) (pa_cons (pv 3) pa_nil))))
      (pss_cons (ps_set (i := 5) sc_law.nd rfl (Or.inl rfl) (pe_call (ok_p_law_mixed T) (hr.mono (by decide)) rfl T.g_p_law_mixed T.F_p_law_mixed.kp T.b_p_law_mixed .nil pass0 (pa_cons (pv 2) (pa_cons (pe_lc (own := [("_law_at", 12), ("_law_row", 13)]) (by rfl) sc_law.nd (pi_enumX (by rfl) T.z_enumerate (pa_cons (pv 3) pa_nil)) (blkOk_by (own := [("_law_at", 12), ("_law_row", 13)]) (N := N_law) (sc := defScope s_law) (by decide +kernel)) (fun _ _ _ _ _ => (pg_tup rfl (pgs_cons (pg_name (i := 12) sc_law.nd rfl (Or.inl rfl)) (pgs_cons (pg_name (i := 13) sc_law.nd rfl (Or.inl rfl)) pgs_nil)))) (fun _ _ _ _ _ => pts_nil) (fun _ _ _ _ _ => (pe_tup (pa_cons (pe_ix ix_seq (pv 13) pe_int (fun _ _ => rfl)) (pa_cons (pe_ix ix_seq (pv 13) pe_int (fun _ _ => rfl)) (pa_cons (pe_ix ix_seq (pv 4) (pv 12) (fun _ _ => rfl)) pa_nil)))))) pa_nil))))
      (pss_cons (ps_if (pt_cmpR op_notNX (pe_call (ok_judge_keys T) (hr.mono (by decide)) rfl T.g_judge_keys T.F_judge_keys.kp T.b_judge_keys .nil pass0 (pa_cons (pe_call (ok_p_law_made T) (hr.mono (by decide)) rfl T.g_p_law_made T.F_p_law_made.kp T.b_p_law_made .nil pass0 (pa_cons (pv 5) (pa_cons pe_int pa_nil))) pa_nil)) pe_non (nomark _)) (pss_one (ps_ret pe_bl)) pss_nil)
      (pss_cons (ps_for PassesOwn.never rfl (pi_range1 rfl T.z_range (pa_cons (pe_op op_mulX (pe_call (ok_p_law_draw T) (hr.mono (by decide)) rfl T.g_p_law_draw T.F_p_law_draw.kp T.b_p_law_draw .nil pass0 (pa_cons (pv 2) (pa_cons pe_int pa_nil))) (pe_callTy call_intX (by rfl) T.z_int (by decide +kernel) (pa_cons (pe_cmpR (op_ne0 hr.units) (pv 5) (pe_lst pa_nil) (nomark _)) pa_nil))) pa_nil)) (pg_name (i := 6) sc_law.nd rfl (Or.inl rfl)) (pss_one (ps_if (PW.pt (pw_and (pt_cmpR (op_eqD hr.units) (pe_call (ok_p_law_draw T) (hr.mono (by decide)) rfl T.g_p_law_draw T.F_p_law_draw.kp T.b_p_law_draw .nil pass0 (pa_cons (pv 2) (pa_cons pe_int pa_nil))) pe_int (nomark _)) (pw_and1 (pt_cmpR op_gtX (pe_callB call_lenX (by rfl) T.z_len (by decide +kernel) (pa_cons (pv 5) pa_nil)) pe_int (nomark _))))) (pss_one (ps_expr (pe_bm PySem.F.plainAttrs_list PySem.F.slot_list_pop PySem.F.type_list_pop mt_popAt (pv 5) (pa_cons (pe_call (ok_p_law_draw T) (hr.mono (by decide)) rfl T.g_p_law_draw T.F_p_law_draw.kp T.b_p_law_draw .nil pass0 (pa_cons (pv 2) (pa_cons (pe_callB call_lenX (by rfl) T.z_len (by decide +kernel) (pa_cons (pv 5) pa_nil)) pa_nil))) pa_nil)))) (pss_one (ps_expr (pe_call (ok_p_law_spoil T) (hr.mono (by decide)) rfl T.g_p_law_spoil T.F_p_law_spoil.kp T.b_p_law_spoil .nil pass0 (pa_cons (pv 2) (pa_cons (pv 5) pa_nil))))))))
      (pss_cons (ps_par (i := 7) (j := 8) (by rfl) sc_law.nd rfl rfl (by decide) rfl rfl (pa_cons (pe_call (ok_p_law_due T) (hr.mono (by decide)) rfl T.g_p_law_due T.F_p_law_due.kp T.b_p_law_due .nil pass0 (pa_cons (pv 5) pa_nil)) (pa_cons (pe_call (ok_p_law_made T) (hr.mono (by decide)) rfl T.g_p_law_made T.F_p_law_made.kp T.b_p_law_made .nil pass0 (pa_cons (pv 5) (pa_cons (pe_call (ok_p_law_draw T) (hr.mono (by decide)) rfl T.g_p_law_draw T.F_p_law_draw.kp T.b_p_law_draw .nil pass0 (pa_cons (pv 2) (pa_cons pe_int pa_nil))) pa_nil))) pa_nil)) (by rfl))
      (pss_cons (ps_set (i := 9) sc_law.nd rfl (Or.inl rfl) (pe_callB (call_reprN hgd (hu65 hr)) (by rfl) T.z_repr (by decide +kernel) (pa_cons (pv 8) pa_nil)))
      (pss_cons (ps_for PassesOwn.never rfl (pi_any (pe_lst (pa_cons (pv 8) (pa_cons (pe_callTy call_tupX (by rfl) T.z_tuple (by decide +kernel) (pa_cons (pv 8) pa_nil)) (pa_cons (pv 8) pa_nil))))) (pg_name (i := 10) sc_law.nd rfl (Or.inl rfl)) (pss_cons (ps_set (i := 11) sc_law.nd rfl (Or.inl rfl) (pe_call (ok_judge_keys T) (hr.mono (by decide)) rfl T.g_judge_keys T.F_judge_keys.kp T.b_judge_keys .nil pass0 (pa_cons (pv 10) pa_nil)))
      (pss_cons (ps_if (PW.pt (pw_or (pt_cmpR (op_neD hr.units) (pe_cmpR op_isNX (pv 11) pe_non (nomark _)) (pe_cmpR op_isNX (pv 7) pe_non (nomark _)) (nomark _)) (pw_or1 (pt_cmpR op_ne (pe_callB (call_reprN hgd (hu65 hr)) (by rfl) T.z_repr (by decide +kernel) (pa_cons (pv 8) pa_nil)) (pv 9) (nomark _))))) (pss_one (ps_ret pe_bl)) pss_nil)
      (pss_one (ps_if (PW.pt (pw_and (pt_cmpR op_notNX (pv 7) pe_non (nomark _)) (pw_and1 (PW.pt (pw_or (pt_not (pt_truth (pe_callB call_isiX (by rfl) T.z_isinstance (by decide +kernel) (pa_cons (pv 11) (pa_cons (pe_glob (v := .ref A.c_Fault) (by rfl) T.g_Fault rfl) pa_nil))) (by intro _; rfl))) (pw_or1 (pt_cmpR (op_neD hr.units) (pe_tup (pa_cons (pe_fld (pv 11) rfl) (pa_cons (pe_fld (pv 11) rfl) pa_nil))) (pv 7) (nomark _)))))))) (pss_one (ps_ret pe_bl)) pss_nil)))))
      (pss_one (ps_if (PW.pt (pw_and (pt_cmpR (op_ne0 hr.units) (pv 5) (pe_lst pa_nil) (nomark _)) (pw_and1 (pt_cmpR (op_neO T.q_Fault (ok_Fault_eq T) (hr.mono (by decide)) T.b_Fault_eq pass0) (pe_callK0 (ok_judge_keys T) (hr.mono (by decide)) rfl T.g_judge_keys T.F_judge_keys.kp T.kw_judge_keys_0_rows pass0 (pk_cons (pe_op op_mulX (pv 8) pe_int) pk_nil)) (pe_make T.mk_Fault (ok_Fault_init T) (hr.mono (by decide)) rfl T.g_Fault T.b_Fault_init .nil pass0 (pa_cons (pe_un un_negX pe_int) (pa_cons pe_str pa_nil))) (nomark _))))) (pss_one (ps_ret pe_bl)) pss_nil))))))))))))
      (pss_one (ps_ret (pe_cmpR (op_eqS (l := l_eqm K A) (eqm_all T) (hr.mono (by decide))) (pe_lc (own := [("_law_odd", 14)]) (by rfl) sc_law.nd (pi_any (pe_lst (pa_cons pe_non (pa_cons pe_str (pa_cons pe_dnewK (pa_cons pe_int pa_nil)))))) (blkOk_by (own := [("_law_odd", 14)]) (N := N_law) (sc := defScope s_law) (by decide +kernel)) (fun _ _ _ _ _ => (pg_name (i := 14) sc_law.nd rfl (Or.inl rfl))) (fun _ _ _ _ _ => pts_nil) (fun _ _ _ _ _ => (pe_call (ok_judge_keys T) (hr.mono (by decide)) rfl T.g_judge_keys T.F_judge_keys.kp T.b_judge_keys .nil pass0 (pa_cons (pv 14) pa_nil)))) (pe_op op_mulX (pe_lst (pa_cons (pe_make T.mk_Fault (ok_Fault_init T) (hr.mono (by decide)) rfl T.g_Fault T.b_Fault_init .nil pass0 (pa_cons (pe_un un_negX pe_int) (pa_cons pe_str pa_nil))) pa_nil)) pe_int) (nomark _))))),
    bodyV (N := N_law) (fun _ => (ss_seq (ss_for (si_any (se_sl (se_op sr_add se_var (se_new (sf_lst (sa_cons (se_c (fun _ => .int 0)) sa_nil)))) so_none (so_some (se_c (fun _ => .int 5))))) sg_name (ss_seq (ss_own (sf_call (sa_cons se_var sa_nil)))
      (ss_seq (ss_asg (se_new (sf_call (sa_cons se_var (sa_cons (se_call (sa_cons se_var (sa_cons (se_new (sf_lst (sa_cons (se_c (fun _ => .int 3)) (sa_cons (se_c (fun _ => .int 9)) (sa_cons (se_c (fun _ => .int 20)) sa_nil))))) sa_nil))) sa_nil)))) sg_name)
      (ss_seq (ss_asg (se_call (sa_cons se_var (sa_cons se_var sa_nil))) sg_name)
      (ss_seq (ss_own (sf_call (sa_cons se_var (sa_cons (se_new (sf_lc (vs := [12, 13]) (by decide) (si_enumX se_var) (sg_tup (sgs_cons sg_name (sgs_cons sg_name sgs_nil))) st_yes (se_tup (sa_cons (se_op sr_ix se_var (se_c (fun _ => .int 0))) (sa_cons (se_op sr_ix se_var (se_c (fun _ => .int 1))) (sa_cons (se_op sr_ix se_var se_var) sa_nil)))))) sa_nil))))
      (ss_seq (ss_ifFz (i := 5) (st_test (se_op sr_notN (se_call (sa_cons (se_call (sa_cons se_var (sa_cons (se_c (fun _ => .int 0)) sa_nil))) sa_nil)) (se_c (fun _ => .non)))) (ss_ret (se_c (fun _ => .bl false))))
      (ss_seq (ss_for (si_rng1 (se_op sr_mul (se_call (sa_cons se_var (sa_cons (se_c (fun _ => .int 4)) sa_nil))) (se_cb sc_int (sa_cons (se_op sr_ne0 se_var (se_new (sf_lst sa_nil))) sa_nil)))) sg_name (ss_if (st_and (st_test (se_op sr_eq (se_call (sa_cons se_var (sa_cons (se_c (fun _ => .int 3)) sa_nil))) (se_c (fun _ => .int 0)))) (st_test (se_op sr_cmp (se_cb sc_len (sa_cons se_var sa_nil)) (se_c (fun _ => .int 1))))) (ss_drop (se_popAt (se_call (sa_cons se_var (sa_cons (se_cb sc_len (sa_cons se_var sa_nil)) sa_nil))))) (ss_drop (se_call (sa_cons se_var (sa_cons se_var sa_nil))))))
      (ss_seq (ss_frz (i := 5) (ss_par (sa_cons (se_call (sa_cons se_var sa_nil)) (sa_cons (se_call (sa_cons se_var (sa_cons (se_call (sa_cons se_var (sa_cons (se_c (fun _ => .int 2)) sa_nil))) sa_nil))) sa_nil))))
      (ss_seq (ss_asg (se_cb sc_reprN (sa_cons se_var sa_nil)) sg_name)
      (ss_seq (ss_for (si_any (se_new (sf_lst (sa_cons se_var (sa_cons (se_cb sc_tuple (sa_cons se_var sa_nil)) (sa_cons se_var sa_nil)))))) sg_name (ss_seq (ss_asg (se_call (sa_cons se_var sa_nil)) sg_name)
      (ss_seq (ss_if (st_or (st_test (se_op sr_ne (se_op sr_isN se_var (se_c (fun _ => .non))) (se_op sr_isN se_var (se_c (fun _ => .non))))) (st_test (se_op sr_neS (se_cb sc_reprN (sa_cons se_var sa_nil)) se_var))) (ss_ret (se_c (fun _ => .bl false))) ss_next)
      (ss_if (st_and (st_test (se_op sr_notN se_var (se_c (fun _ => .non)))) (st_or (st_not (st_truth (se_isi T.isi T.ic se_var (se_c (fun _ => .ptr A.c_Fault))))) (st_test (se_op sr_ne (se_tup (sa_cons (se_fld T.f_place se_var) (sa_cons (se_fld T.f_word se_var) sa_nil))) se_var)))) (ss_ret (se_c (fun _ => .bl false))) ss_next))))
      (ss_if (st_and (st_test (se_op sr_ne0 se_var (se_new (sf_lst sa_nil)))) (st_test (se_eqO T.isi T.ic (se_call (sa_kw sa_nil (sa_cons (se_op sr_mul se_var (se_c (fun _ => .int 61))) sa_nil))) (se_new (sf_make (sa_cons (se_un su_neg (se_c (fun _ => .int 1))) (sa_cons (se_c (fun _ => .str _)) sa_nil))))))) (ss_ret (se_c (fun _ => .bl false))) ss_next)))))))))))
      (ss_ret (se_self (se_new (sf_lc (vs := [14]) (by decide) (si_any (se_new (sf_lst (sa_cons (se_c (fun _ => .non)) (sa_cons (se_c (fun _ => .str _)) (sa_cons (se_new sf_dnew) (sa_cons (se_c (fun _ => .int 5)) sa_nil))))))) sg_name st_yes (se_call (sa_cons se_var sa_nil)))) (se_op sr_mul (se_new (sf_lst (sa_cons (se_new (sf_make (sa_cons (se_un su_neg (se_c (fun _ => .int 1))) (sa_cons (se_c (fun _ => .str _)) sa_nil)))) sa_nil))) (se_c (fun _ => .int 4))))))) (by decide) h⟩)
end
local macro_rules | `(tactic| simp! only [$xs,*]) => `(tactic| simp -implicitDefEqProofs -dsimp only [idd_eq, Nat.reduceEqDiff, ↓w_seq, ↓w_if, ↓dTest, ↓dOp, ↓dUn, ↓w_var, ↓getS_val, ↓getS_own, ↓getS_par, ↓dC, rd_val, rd_bor, ownD_own, ownD_par, rds_nil, rds_cons, ↓w_asg, ↓dCB, ↓dCons, ↓dNil, ↓dgName, ↓dgTup, ↓dgCons, ↓dgNil, ↓w_setIx, ↓w_ret, ↓w_retF, ↓w_retN, ↓w_next, ↓w_drop, ↓w_own, ↓w_brk, ↓w_cnt, ↓w_setF, ↓w_dput, ↓w_body, ↓dN, ↓dCall, ↓dCallF, argsOf_nil, argsOf_val, argsOf_bor, bors, ↓dV, ↓dTup, ↓dLst, vals_nil, vals_val, ↓w_par, ↓w_par3, ↓w_parVO, ↓w_parOV, ↓w_parOO, ↓dTruth, ↓dIsi, ↓dIsiT, ↓dInO, insOf_ins, ↓dDNew, ↓dDGet, ↓dDIn, toTup_lst, toTup_tup, pf_nil, lk_self, key_str, key_int, isN_non, isNN_non, kno_int, kno_str, kno_lst, kno_tup, kno_bl, kno_non, tyV_int, tyV_bl, tyV_str, tyV_lst, tyV_tup, tyV_non, clV_ty, clVT_nil, clVT_val, kit_same, kit_int_bool, kit_bool_int, kits_list, kits_tuple, ↓dNot, ↓dAnd, ↓dOr, ↓dIf, ↓dAndV, ↓dOrV, ↓dNotV, ↓dChain, ↓dMeth, ↓dMethF, ↓dKw, ↓dSl, ↓dNoP, ↓dPart, ↓w_for, diRng1, diRng2, diRevR1, diEnumX, diAny, items_lst, items_tup, ↓dLc, ↓dDc, ↓dFld, ownAt_def, setD, Sl.setD, isPar0, isParS, isPN, isP_val, isP_own, isP_no, isP_par, ↓doF, outs_nil, outs_cons, parD_par, parIx, putOuts, wipeD, ↓dBodyF, ↓dAppend, D.isLst, cmp_int, bool_bl, toInt_int, toInt_bl, truth_bl, truth_int, truth_non, len_lst, len_tup, D_add, D_sub, D_mod, eq_int, ne_int, neg_int, ix0, ix1, ix2, ix3, ix4, tx0, tx1, tx2, sx0, sx1, sx2, List.length_cons, List.length_nil, List.cons_append, List.nil_append, List.replicate, Nat.reduceAdd, Nat.reduceSub, List.getElem?_cons_zero, List.getElem?_cons_succ, List.getElem?_nil, List.set_cons_zero, List.set_cons_succ, Option.bind_some, Option.map_some, Option.isSome_some, true_and, and_true, if_true, if_false, Bool.false_eq_true, reduceIte, Int.reduceBEq, Bool.not_true, Bool.not_false, List.nodup_cons, List.nodup_nil, List.not_mem_nil, not_false_eq_true, List.mem_cons, or_false, ↓opt_f, ↓optF_some, ↓ite_cd, ↓cd_true, ↓cd_false, ↓forL_f, ↓lcL_f, ↓dcL_f, ↓noEr_run, ↓w_frz, ↓getW_own, ↓dListRg1, ↓dIndex, ↓dCKw, ↓dMake, ↓dList, seq_lst, seq_tup, kwP1, kwP10, beq_self_eq_true, ↓dEqO, ↓dBinO, ↓dNev, tyV_dct, tyV_ins, kno_dct, clV_ptr, kit_sameR, nf_same, nf_none, nf_int, nf_bool, nf_str, nf_lst, nf_tup, nf_dct, ↓dLenO, eq_bl, ne_bl, ↓hot_run, ↓w_try, ↓w_try0, ↓erH_cons, ↓erH_nil, ↓shutD_mk, x1_mk, x2_mk, ↓w_rz, ↓dXf, ↓dIsX, ↓dBinS, ↓w_nest, ↓w_dnSeq, ↓w_dnT, ↓w_dnFrz, dnCons, dnNil, hideR, hid_val, hid_own, hid_par, hid_no, oL_none, oL_some, ltO_none, ltO_some, hidL_cons, hidL_nil, dgSq, ↓dLc2, lcL2_f, ↓dChain3, ↓w_seqP, ↓w_retT, ↓w_callT, ↓dIfF, ↓w_nestL, ↓w_dnSeq2, dnLc, ↓w_dnPar2, ↓w_dnFC, lcN_f, $xs,*])
section
variable {K : PySem.W.Frag} (A : Ads)
def Well (n : Nat) (d : D) : Prop := ∃ a b c : Int, d = .lst [.int a, .int b, .int c] ∧ 0 ≤ b ∧ b < 2147483629 ∧ 0 ≤ c ∧ c ≤ n
theorem Well.mono {n m : Nat} {d : D} (h : Well n d) (e : n ≤ m) : Well m d := by
  obtain ⟨a, b, c, h1, h2, h3, h4, h5⟩ := h
  exact ⟨a, b, c, h1, h2, h3, h4, by omega⟩
theorem draw_ok {n : Nat} (hn : n < 1000000000) {w : D} (hw : Well n w) {m : Int} (hm : 0 < m) (hm2 : m.natAbs.log2 < 9000) {q : D → List D → Prop} {er} (k : ∀ (x : Int) (w' : D), 0 ≤ x → x < m → Well (n + 1) w' → q (.int x) [w']) :
    dsp_p_law_draw K A [.par w, .val (.int m)] q er := by
  obtain ⟨a, b, c, rfl, b0, b1, c0, c1⟩ := hw
  unfold dsp_p_law_draw body_p_law_draw
  by_cases ha : 0 < a
  · simp! only [ha, D_mod hm, decide_true, D_div (show CDivW a m from ⟨hm, hm2⟩)]
    exact k _ _ (Int.emod_nonneg _ (by omega)) (Int.emod_lt_of_pos _ hm) ⟨_, _, _, rfl, b0, b1, c0, by omega⟩
  · have h1 : D.mul (.int 50021) (.int (c + 1)) = some (.int (50021 * (c + 1))) := D_mul (Or.inl ⟨by decide, by decide⟩)
    have h2 : D.pow (.int (b + 50021 * (c + 1) + 17)) (.int 3) = some (.int ((b + 50021 * (c + 1) + 17) ^ 3)) := D_pow ⟨by decide, by decide, by omega⟩
    generalize hX : (b + 50021 * (c + 1) + 17) ^ 3 % 2147483647 = X
    have x0 : 0 ≤ X := by rw [← hX]; exact Int.emod_nonneg _ (by decide)
    have x1 : X < 2147483647 := by rw [← hX]; exact Int.emod_lt_of_pos _ (by decide)
    have h3 : D.fdiv (.int X) (.int 1021) = some (.int (X / 1021)) := D_div ⟨by decide, by decide⟩
    have h4 : D.mul (.int (X + (c + 1))) (.int (X / 1021 + 69621)) = some (.int ((X + (c + 1)) * (X / 1021 + 69621))) := D_mul (Or.inl ⟨by omega, by omega⟩)
    generalize hY : (X + (c + 1)) * (X / 1021 + 69621) % 2147483587 = Y
    have y0 : 0 ≤ Y := by rw [← hY]; exact Int.emod_nonneg _ (by decide)
    have y1 : Y < 2147483587 := by rw [← hY]; exact Int.emod_lt_of_pos _ (by decide)
    have h5 : D.fdiv (.int Y) (.int 2017) = some (.int (Y / 2017)) := D_div ⟨by decide, by decide⟩
    have h6 : D.mul (.int Y) (.int (Y / 2017 + 48271)) = some (.int (Y * (Y / 2017 + 48271))) := D_mul (Or.inl ⟨by omega, by omega⟩)
    have h7 : ∀ z : Int, D.fdiv (.int z) (.int 3) = some (.int (z / 3)) := fun z => D_div ⟨by decide, by decide⟩
    have m1 : ∀ z : Int, D.mod (.int z) (.int 2147483647) = some (.int (z % 2147483647)) := fun z => D_mod (by decide)
    have m2 : ∀ z : Int, D.mod (.int z) (.int 2147483587) = some (.int (z % 2147483587)) := fun z => D_mod (by decide)
    have m3 : ∀ z : Int, D.mod (.int z) (.int 2147483563) = some (.int (z % 2147483563)) := fun z => D_mod (by decide)
    simp! only [ha, decide_false, h1, h2, m1, hX, h3, h4, m2, hY, h5, h6, m3, h7, D_mod hm]
    exact k _ _ (Int.emod_nonneg _ (by omega)) (Int.emod_lt_of_pos _ hm) ⟨_, _, _, rfl, b0, b1, by omega, by omega⟩
theorem log_int {z : Int} (h0 : 0 ≤ z) (h1 : z < 2 ^ 64) : z.natAbs.log2 < 9000 := by
  obtain ⟨n, rfl⟩ := Int.eq_ofNat_of_zero_le h0
  rw [Int.natAbs_natCast]
  rcases Nat.eq_zero_or_pos n with e | e
  · subst e; decide
  · have := (Nat.log2_lt (by omega)).mpr (show n < 2 ^ 64 by omega)
    omega
theorem log_small {n : Nat} (h : n < 2 ^ 64) : ((n : Int)).natAbs.log2 < 9000 := by
  rw [Int.natAbs_natCast]
  rcases Nat.eq_zero_or_pos n with e | e
  · subst e; decide
  · have := (Nat.log2_lt (by omega)).mpr h
    omega
theorem one_lst {n : Nat} (hn : n < 1000000000) {w : D} (hw : Well n w) {xs : List D} (hx : xs ≠ []) (hx2 : xs.length < 1000) {q : D → List D → Prop} {er} (k : ∀ (i : Nat) (h : i < xs.length) (w' : D), Well (n + 1) w' → q xs[i] [w']) :
    dsp_p_law_one K A [.par w, .val (.lst xs)] q er := by
  unfold dsp_p_law_one body_p_law_one
  have hp : 0 < xs.length := List.length_pos_iff.mpr hx
  simp! only [D.len]
  refine draw_ok A hn hw (by omega) (log_small (by omega)) fun x w' x0 x1 hw' => ?_
  obtain ⟨i, rfl⟩ := Int.eq_ofNat_of_zero_le x0
  have hi : i < xs.length := by omega
  simp! only [ixn (xs := xs) rfl hi, List.getElem?_eq_getElem hi]
  exact k i hi w' hw'
theorem one_par {n : Nat} (hn : n < 1000000000) {w : D} (hw : Well n w) {xs : List D} (hx : xs ≠ []) (hx2 : xs.length < 1000) {q : D → List D → Prop} {er} (k : ∀ (i : Nat) (h : i < xs.length) (w' : D), Well (n + 1) w' → q xs[i] [w', .lst xs]) :
    dsp_p_law_one K A [.par w, .par (.lst xs)] q er := by
  unfold dsp_p_law_one body_p_law_one
  have hp : 0 < xs.length := List.length_pos_iff.mpr hx
  simp! only [D.len]
  refine draw_ok A hn hw (by omega) (log_small (by omega)) fun x w' x0 x1 hw' => ?_
  obtain ⟨i, rfl⟩ := Int.eq_ofNat_of_zero_le x0
  have hi : i < xs.length := by omega
  simp! only [ixn (xs := xs) rfl hi, List.getElem?_eq_getElem hi]
  exact k i hi w' hw'
theorem one_str {n : Nat} (hn : n < 1000000000) {w : D} (hw : Well n w) {l : List Nat} (hx : l ≠ []) (hx2 : l.length < 1000) {q : D → List D → Prop} {er} (k : ∀ c ∈ l, ∀ w' : D, Well (n + 1) w' → q (.str (mk [c])) [w']) :
    dsp_p_law_one K A [.par w, .val (.str (mk l))] q er := by
  unfold dsp_p_law_one body_p_law_one
  have hp : 0 < l.length := List.length_pos_iff.mpr hx
  have hs : l.length ≤ sizeLine := Nat.le_trans (Nat.le_of_lt hx2) (by decide)
  simp! only [len_mk hs]
  refine draw_ok A hn hw (by omega) (log_small (by omega)) fun x w' x0 x1 hw' => ?_
  obtain ⟨i, rfl⟩ := Int.eq_ofNat_of_zero_le x0
  have hi : i < l.length := by omega
  simp! only [ixs (l := l) rfl hi hs]
  exact k _ (List.getElem_mem hi) w' hw'
theorem well_ok (c : Int) {q : D → List D → Prop} {er} (k : ∀ w', Well 0 w' → q w' []) : dsp_p_law_well K A [.val (.int c)] q er := by
  unfold dsp_p_law_well body_p_law_well
  have h1 : D.pow (.int 10) (.int 18) = some (.int (10 ^ 18)) := D_pow ⟨by decide, by decide, by decide⟩
  have h2 : ∀ b : Bool, D.mul (.int c) (.int (if b = true then 1 else 0)) = some (.int (c * (if b = true then 1 else 0))) := fun b => D_mul (Or.inr (by cases b <;> exact ⟨by decide, by decide⟩))
  have h3 : D.mod (.int c) (.int 2147483629) = some (.int (c % 2147483629)) := D_mod (by decide)
  have h4 : 0 + 1 + 1 + 1 ≤ sizeLine := by decide
  simp! only [h1, h2, h3, h4]
  exact k _ ⟨_, _, _, rfl, Int.emod_nonneg _ (by decide), Int.emod_lt_of_pos _ (by decide), by decide, by decide⟩
theorem value_ok {n : Nat} (hn : n < 900000000) {w : D} (hw : Well n w) {q : D → List D → Prop} {er} (k : ∀ (v : Int) (w' : D), -(10 ^ 30) ≤ v → v ≤ 10 ^ 30 → Well (n + 4) w' → q (.int v) [w']) : dsp_p_law_value K A [.par w] q er := by
  unfold dsp_p_law_value body_p_law_value
  simp! only [idd_eq]
  refine draw_ok A (by omega) hw (by decide) (by decide) fun x w1 x0 x1 hw1 => ?_
  have h15 : D.pow (.int 10) (.int 15) = some (.int (10 ^ 15)) := D_pow ⟨by decide, by decide, by decide⟩
  have h30 : D.pow (.int 10) (.int 30) = some (.int (10 ^ 30)) := D_pow ⟨by decide, by decide, by decide⟩
  by_cases hx : x = 0
  · simp! only [hx, beq_self_eq_true]
    refine draw_ok A (by omega) hw1 (by decide) (by decide) fun y w2 y0 y1 hw2 => ?_
    simp! only [idd_eq]
    exact k _ _ (by omega) (by omega) (hw2.mono (by omega))
  · have hb : (x == 0) = false := by simpa using hx
    simp! only [hb, h15]
    refine draw_ok A (by omega) hw1 (by decide) (by decide) fun y w2 y0 y1 hw2 => ?_
    have hm : D.mul (.int y) (.int (10 ^ 15)) = some (.int (y * 10 ^ 15)) := D_mul (Or.inl ⟨by omega, by omega⟩)
    simp! only [h15, hm]
    refine draw_ok A (by omega) hw2 (by decide) (by decide) fun z w3 z0 z1 hw3 => ?_
    have h4 : 0 + 1 + 1 + 1 + 1 ≤ sizeLine := by decide
    simp! only [h30, h4]
    refine one_lst A (by omega) hw3 (by simp) (by simp) fun i hi w4 hw4 => ?_
    have e : n + 1 + 1 + 1 + 1 = n + 4 := by omega
    rw [e] at hw4
    match i, hi with
    | 0, _ => simp! only [List.getElem_cons_zero]; exact k _ _ (by omega) (by omega) hw4
    | 1, _ => simp! only [List.getElem_cons_zero, List.getElem_cons_succ]; exact k _ _ (by omega) (by omega) hw4
    | 2, _ => simp! only [List.getElem_cons_zero, List.getElem_cons_succ]; exact k _ _ (by omega) (by omega) hw4
    | 3, _ => simp! only [List.getElem_cons_zero, List.getElem_cons_succ]; exact k _ _ (by omega) (by omega) hw4
inductive Lev : List Int → Int → Prop
  | nil : Lev [] 0
  | snoc {ls : List Int} {m l : Int} : Lev ls m → 0 ≤ l → l ≤ m → Lev (ls ++ [l]) (l + 1)
theorem Lev.le {ls : List Int} {m : Int} (h : Lev ls m) : 0 ≤ m ∧ m ≤ ls.length := by
  induction h with
  | nil => exact ⟨Int.le_refl _, Int.le_refl _⟩
  | snoc h h1 h2 ih => rw [List.length_append]; simp; omega
theorem levels_ok {n : Nat} (hn : n < 900000000) {w : D} (hw : Well n w) {nn : Nat} (hk : nn ≤ 60) {q : D → List D → Prop} {er} (k : ∀ (ls : List Int) (m : Int) (w' : D), ls.length = nn → Lev ls m → Well (n + 200) w' → q (.lst (ls.map .int)) [w']) :
    dsp_p_law_levels K A [.par w, .val (.int (nn : Int))] q er := by
  unfold dsp_p_law_levels body_p_law_levels
  simp! only [List.isEmpty_nil, show (0 : Nat) ≤ sizeLine from Nat.zero_le _]
  refine draw_ok A (by omega) hw (by decide) (by decide) fun x w1 x0 x1 hw1 => ?_
  simp! only [idd_eq]
  refine ⟨⟨by omega, by omega⟩, ?_⟩
  refine forL_inv (fun i ρ => ∃ (w' : D) (ls : List Int) (m : Int) (s4 s5 s6 : Sl), ρ = [.par w', .val (.int (nn : Int)), .own (.lst (ls.map .int)), .val (.int x), s4, s5, s6] ∧ (s4.isP = false ∧ s5.isP = false ∧ s6.isP = false) ∧ Well (n + 1 + 3 * i) w' ∧ ls.length = i ∧ Lev ls m)
    ⟨w1, [], 0, .no, .no, .no, rfl, ⟨rfl, rfl, rfl⟩, hw1, rfl, .nil⟩ ?_ ?_
  · rintro i d ρ nx hd ⟨w', ls, m, s4, s5, s6, rfl, ⟨p4, p5, p6⟩, hw', hl, hL⟩ hnx
    have hd' : i < nn ∧ d = .int (i : Int) := by
      rw [List.getElem?_map, Int.toNat_natCast] at hd
      by_cases hi : i < nn
      · rw [List.getElem?_range hi] at hd
        exact ⟨hi, (Option.some.inj hd).symm⟩
      · rw [List.getElem?_eq_none (by simpa using hi)] at hd
        cases hd
    obtain ⟨hi, rfl⟩ := hd'
    have hm := hL.le
    rw [hl] at hm
    have hlen : (ls.map D.int).length < sizeLine := by rw [List.length_map, hl]; exact Nat.lt_of_lt_of_le (by omega : i < 61) (by decide)
    have fin : ∀ (w2 : D) (l : Int) (t4 t5 t6 : Sl), t4.isP = false → t5.isP = false → t6.isP = false → Well (n + 1 + 3 * i + 3) w2 → 0 ≤ l → l ≤ m → nx [.par w2, .val (.int (nn : Int)), .own (.lst (ls.map .int ++ [.int l])), .val (.int x), t4, t5, t6] := fun w2 l t4 t5 t6 a b c hw2 l0 l1 =>
      hnx _ ⟨w2, ls ++ [l], l + 1, t4, t5, t6, by rw [List.map_append]; rfl, ⟨a, b, c⟩, by have e : n + 1 + 3 * (i + 1) = n + 1 + 3 * i + 3 := by omega
                                                                                           rw [e]; exact hw2, by rw [List.length_append, hl]; rfl, hL.snoc l0 l1⟩
    obtain ⟨b, hne, hsel⟩ : ∃ b, D.ne (.lst (ls.map .int)) (.lst []) = some (.bl b) ∧ ((b = false ∧ m = 0) ∨ (b = true ∧ ∃ l, D.ix (.lst (ls.map .int)) (.int (-1)) = some (.int l) ∧ m = l + 1)) := by
      refine ⟨_, (ne_nil (n := 0) (nices_map (fun _ => rfl) ls) (by decide)).1, ?_⟩
      cases hL with
      | nil => exact .inl ⟨rfl, rfl⟩
      | snoc h1 h2 h3 => exact .inr ⟨by simp, _, by rw [List.map_append]; exact ix_last, rfl⟩
    have wm : ∀ {w2 : D} {j : Nat}, Well j w2 → j ≤ n + 1 + 3 * i + 3 → Well (n + 1 + 3 * i + 3) w2 := fun h e => h.mono e
    have hl2 : 0 + 1 + 1 ≤ sizeLine := by decide
    have hl0 : 0 ≤ sizeLine := Nat.zero_le _
    have hx : x = 0 ∨ x = 1 ∨ x = 2 ∨ x = 3 := by omega
    rcases hsel with ⟨rfl, rfl⟩ | ⟨rfl, l, hix, rfl⟩
    · have e0 : (0 : Int) + 1 = 1 := rfl
      rcases hx with rfl | rfl | rfl | rfl
      · simp! only [p4, p5, p6, hlen, hne, hl2, hl0, D.gt, decide_true, decide_false]
        refine draw_ok A (m := 0 + 1) (by omega) hw' (by omega) (log_int (by omega) (by omega)) fun y w2 y0 y1 hw2 => ?_
        simp! only [p4, p5, p6, hlen, hne, hl2, hl0, D.gt, decide_true, decide_false]
        exact fin w2 y _ _ _ rfl rfl rfl (wm hw2 (by omega)) y0 (by omega)
      · simp! only [p4, p5, p6, hlen, hne, hl2, hl0, D.gt, decide_true, decide_false]
        refine draw_ok A (m := 4) (by omega) hw' (by decide) (by decide) fun y w2 y0 y1 hw2 => ?_
        by_cases hy : y = 0
        · simp! only [p4, p5, p6, hlen, hne, hl2, hl0, D.gt, decide_true, decide_false, hy]
          refine draw_ok A (m := 0 + 1) (by omega) hw2 (by omega) (log_int (by omega) (by omega)) fun z w3 z0 z1 hw3 => ?_
          simp! only [p4, p5, p6, hlen, hne, hl2, hl0, D.gt, decide_true, decide_false]
          exact fin w3 z _ _ _ rfl rfl rfl (wm hw3 (by omega)) z0 (by omega)
        · have hb : (y == 0) = false := by simpa using hy
          simp! only [p4, p5, p6, hlen, hne, hl2, hl0, D.gt, decide_true, decide_false, hb]
          exact fin w2 _ _ _ _ rfl rfl rfl (wm hw2 (by omega)) (by omega) (by omega)
      · by_cases hg : 2 < (0 : Int)
        · simp! only [p4, p5, p6, hlen, hne, hl2, hl0, D.gt, decide_true, decide_false, hg]
          refine draw_ok A (m := 1 + 2) (by omega) hw' (by decide) (by decide) fun y w2 y0 y1 hw2 => ?_
          simp! only [p4, p5, p6, hlen, hne, hl2, hl0, D.gt, decide_true, decide_false]
          exact fin w2 y _ _ _ rfl rfl rfl (wm hw2 (by omega)) y0 (by omega)
        · simp! only [p4, p5, p6, hlen, hne, hl2, hl0, D.gt, decide_true, decide_false, hg]
          refine draw_ok A (m := 1 + (0)) (by omega) hw' (by omega) (log_int (by omega) (by omega)) fun y w2 y0 y1 hw2 => ?_
          simp! only [p4, p5, p6, hlen, hne, hl2, hl0, D.gt, decide_true, decide_false]
          exact fin w2 y _ _ _ rfl rfl rfl (wm hw2 (by omega)) y0 (by omega)
      · simp! only [p4, p5, p6, hlen, hne, hl2, hl0, D.gt, decide_true, decide_false]
        exact fin w' _ _ _ _ rfl rfl rfl (wm hw' (by omega)) (by omega) (by omega)
    · have e0 : (0 : Int) + 1 = 1 := rfl
      rcases hx with rfl | rfl | rfl | rfl
      · simp! only [p4, p5, p6, hlen, hne, hix, hl2, hl0, D.gt, decide_true, decide_false]
        refine draw_ok A (m := l + 1 + 1) (by omega) hw' (by omega) (log_int (by omega) (by omega)) fun y w2 y0 y1 hw2 => ?_
        simp! only [p4, p5, p6, hlen, hne, hix, hl2, hl0, D.gt, decide_true, decide_false]
        exact fin w2 y _ _ _ rfl rfl rfl (wm hw2 (by omega)) y0 (by omega)
      · simp! only [p4, p5, p6, hlen, hne, hix, hl2, hl0, D.gt, decide_true, decide_false]
        refine draw_ok A (m := 4) (by omega) hw' (by decide) (by decide) fun y w2 y0 y1 hw2 => ?_
        by_cases hy : y = 0
        · simp! only [p4, p5, p6, hlen, hne, hix, hl2, hl0, D.gt, decide_true, decide_false, hy]
          refine draw_ok A (m := l + 1 + 1) (by omega) hw2 (by omega) (log_int (by omega) (by omega)) fun z w3 z0 z1 hw3 => ?_
          simp! only [p4, p5, p6, hlen, hne, hix, hl2, hl0, D.gt, decide_true, decide_false]
          exact fin w3 z _ _ _ rfl rfl rfl (wm hw3 (by omega)) z0 (by omega)
        · have hb : (y == 0) = false := by simpa using hy
          simp! only [p4, p5, p6, hlen, hne, hix, hl2, hl0, D.gt, decide_true, decide_false, hb]
          exact fin w2 _ _ _ _ rfl rfl rfl (wm hw2 (by omega)) (by omega) (by omega)
      · by_cases hg : 2 < (l + 1 : Int)
        · simp! only [p4, p5, p6, hlen, hne, hix, hl2, hl0, D.gt, decide_true, decide_false, hg]
          refine draw_ok A (m := 1 + 2) (by omega) hw' (by decide) (by decide) fun y w2 y0 y1 hw2 => ?_
          simp! only [p4, p5, p6, hlen, hne, hix, hl2, hl0, D.gt, decide_true, decide_false]
          exact fin w2 y _ _ _ rfl rfl rfl (wm hw2 (by omega)) y0 (by omega)
        · simp! only [p4, p5, p6, hlen, hne, hix, hl2, hl0, D.gt, decide_true, decide_false, hg]
          refine draw_ok A (m := 1 + (l + 1)) (by omega) hw' (by omega) (log_int (by omega) (by omega)) fun y w2 y0 y1 hw2 => ?_
          simp! only [p4, p5, p6, hlen, hne, hix, hl2, hl0, D.gt, decide_true, decide_false]
          exact fin w2 y _ _ _ rfl rfl rfl (wm hw2 (by omega)) y0 (by omega)
      · simp! only [p4, p5, p6, hlen, hne, hix, hl2, hl0, D.gt, decide_true, decide_false]
        exact fin w' _ _ _ _ rfl rfl rfl (wm hw' (by omega)) (by omega) (by omega)
  · rintro ρ ⟨w', ls, m, s4, s5, s6, rfl, _, hw', hl, hL⟩
    simp only [List.length_map, List.length_range, Int.toNat_natCast] at hl hw'
    simp! only [idd_eq]
    exact k ls m w' hl hL (hw'.mono (by omega))
theorem nm_len {l : List Nat} (h : IsNm l) : l.length ≤ sizeLine := Nat.le_trans h.ok.2.2 (by decide)
abbrev nmD (l : List Nat) : D := .str (mk l)
theorem nm_map (fs : List (List Nat)) : fs.map nmD = (fs.map mk).map .str := by rw [List.map_map]; rfl
theorem mem_mk {l : List Nat} {fs : List (List Nat)} : mk l ∈ fs.map mk ↔ l ∈ fs := by
  rw [List.mem_map]
  constructor
  · rintro ⟨a, h, e⟩; rw [← mk_inj e]; exact h
  · intro h; exact ⟨l, h, rfl⟩
section
variable {nx : Ro → Prop} {rt : T → Ro → Prop} {rf : D → Ro → Prop} {bk ct : Ro → Prop} {er : ER}
theorem names_tail {k : Fin 60} {fs : List (List Nat)} (N : Nms k.val fs) (hf : fs.length ≤ 60) {l : List Nat} (h1 : IsNm l) (h2 : NotQ l) {w : D} {a b t6 t7 t8 : Sl}
    (h : ∀ l', Nms (k.val + 1) (fs ++ [l']) → nx [.par w, a, b, .own (.lst (fs.map nmD ++ [nmD l'])), .val (.int ((k.val : Nat) : Int)), .val (nmD l), t6, t7, t8]) :
    dDrop (dAppend 3 (dIf (dTest (dOp D.isIn (dVar 5) (dVar 3))) (dOp D.add (dC (.str (PySem.Str.ofString "q"))) (dCB D.toStr (dCons (dVar 4) dNil))) (dVar 5))) ⟨nx, rt, rf, bk, ct, er⟩ [.par w, a, b, .own (.lst (fs.map nmD)), .val (.int ((k.val : Nat) : Int)), .val (nmD l), t6, t7, t8] := by
  have hi := (in_strs (x := mk l) (xs := fs.map mk) h1.ok.1 (fun y hy => by obtain ⟨z, hz, rfl⟩ := List.mem_map.mp hy; exact (N.nm z hz).ok.1)).1
  rw [← nm_map] at hi
  have hlen : (fs.map nmD).length < sizeLine := by rw [List.length_map]; exact Nat.lt_of_le_of_lt hf (by decide)
  by_cases hm : l ∈ fs
  · have e1 : decide (mk l ∈ fs.map mk) = true := decide_eq_true (mem_mk.mpr hm)
    rw [e1] at hi
    obtain ⟨q1, q2⟩ := N.q
    obtain ⟨_, _, q3, q4⟩ := qn_ok k
    have ea : D.add (.str (mk [113])) (.str (mk (qn k.val).tail)) = some (.str (mk (qn k.val))) := by
      rw [D_addS (by rw [mk_len, mk_len, List.length_tail]; exact Nat.le_trans (by simp; omega : _ ≤ 5) (by decide)), mk_app]
      show some (D.str (mk (113 :: (qn k.val).tail))) = _
      rw [q4]
    simp! only [hi, strq, toStr_small k, ea, hlen]
    exact h _ (N.snoc q1 q2 (.inr ⟨k, rfl, rfl⟩))
  · have e1 : decide (mk l ∈ fs.map mk) = false := decide_eq_false (fun z => hm (mem_mk.mp z))
    rw [e1] at hi
    simp! only [hi, hlen]
    exact h _ (N.snoc h1 hm (.inl h2))
theorem names_mid {n : Nat} (hn : n < 900000000) {k : Fin 60} {fs : List (List Nat)} (N : Nms k.val fs) (hf : fs.length ≤ 60) {l : List Nat} (h1 : IsNm l) (h2 : NotQ l) {w : D} (hw : Well n w) {a t6 t7 t8 : Sl} (p7 : t7.isP = false) (p8 : t8.isP = false)
    (h : ∀ (l' : List Nat) (w' : D) (t7 t8 : Sl), Well (n + 4) w' → IsNm l' → NotQ l' → t7.isP = false → t8.isP = false → nx [.par w', a, .val (.str (mk L25)), .own (.lst (fs.map nmD)), .val (.int ((k.val : Nat) : Int)), .val (nmD l'), t6, t7, t8]) :
    (dIfS (dAnd (dTest (dOp D.ne (dVar 3) (dV (dLst dNil)))) (dTest (dOp D.eq (dCall (noEr (dsp_p_law_draw K A)) (dN 2 (dCons (dVar 0) (dCons (dC (.int 3)) dNil)))) (dC (.int 0))))) (dSeq (dAsg (dCall (noEr (dsp_p_law_one K A)) (dN 2 (dCons (dVar 0) (dCons (dVar 3) dNil)))) (dgName 7))
    (dSeq (dAsg (dCall (noEr (dsp_p_law_draw K A)) (dN 2 (dCons (dVar 0) (dCons (dCB D.len (dCons (dVar 7) dNil)) dNil)))) (dgName 8))
    (dAsg (dOp D.add (dOp D.add (dSl (dVar 7) dNoP (dPart (dVar 8))) (dCall (noEr (dsp_p_law_one K A)) (dN 2 (dCons (dVar 0) (dCons (dVar 2) dNil))))) (dSl (dVar 7) (dPart (dOp D.add (dVar 8) (dC (.int 1)))) dNoP)) (dgName 5)))) dNext) ⟨nx, rt, rf, bk, ct, er⟩ [.par w, a, .val (.str (mk L25)), .own (.lst (fs.map nmD)), .val (.int ((k.val : Nat) : Int)), .val (nmD l), t6, t7, t8] := by
  have hne := (ne_nil (xs := fs.map nmD) (n := 0) (nices_all fun d hd => by obtain ⟨z, hz, rfl⟩ := List.mem_map.mp hd; exact (N.nm z hz).ok.1) (by decide)).1
  by_cases he : fs = []
  · subst he
    have hne : D.ne (.lst ([].map nmD)) (.lst []) = some (.bl false) := hne
    simp! only [hne, show 0 ≤ sizeLine from Nat.zero_le _, ↓reduceIte]
    exact h l w _ _ (hw.mono (by omega)) h1 h2 p7 p8
  · have hne' : D.ne (.lst (fs.map nmD)) (.lst []) = some (.bl true) := by rw [hne]; simp [he]
    simp! only [hne', show 0 ≤ sizeLine from Nat.zero_le _]
    refine draw_ok A (m := 3) (by omega) hw (by decide) (by decide) fun x w1 x0 x1 hw1 => ?_
    by_cases hx : x = 0
    · simp! only [hx]
      refine one_par A (xs := fs.map nmD) (by omega) hw1 (fun e => he (List.map_eq_nil_iff.mp e)) (by rw [List.length_map]; omega) fun i hi w2 hw2 => ?_
      have hi' : i < fs.length := by simpa using hi
      rw [List.getElem_map]
      have hel := N.nm _ (List.getElem_mem hi')
      generalize fs[i] = el at hel
      simp! only [len_mk (nm_len hel), p7, p8, nmD]
      refine draw_ok A (m := (el.length : Int)) (by omega) hw2 (by have := hel.ok; omega) (log_int (by omega) (by have := hel.ok; omega)) fun y w3 y0 y1 hw3 => ?_
      obtain ⟨j, rfl⟩ := Int.eq_ofNat_of_zero_le y0
      have hj : j < el.length := by omega
      have c1 := cut_lo (l := el) (n := j) (by omega) (nm_len hel)
      simp! only [p7, p8, c1]
      refine one_str A (by omega) hw3 (by decide) (by decide) fun c hc w4 hw4 => ?_
      have e1 : ((j : Int) + 1) = ((j + 1 : Nat) : Int) := by omega
      have c2 := cut_hi (l := el) (n := j + 1) (by omega) (nm_len hel)
      have hL := hel.ok
      have a1 : D.add (.str (mk (el.take j))) (.str (mk [c])) = some (.str (mk (el.take j ++ [c]))) := by
        rw [D_addS (by rw [mk_len, mk_len, List.length_take]; exact Nat.le_trans (by simp; omega : _ ≤ 20) (by decide)), mk_app]
      have a2 : D.add (.str (mk (el.take j ++ [c]))) (.str (mk (el.drop (j + 1)))) = some (.str (mk (el.take j ++ [c] ++ el.drop (j + 1)))) := by
        rw [D_addS (by rw [mk_len, mk_len, List.length_append, List.length_take, List.length_drop]; exact Nat.le_trans (by simp; omega : _ ≤ 30) (by decide)), mk_app]
      simp! only [p7, p8, a1, e1, c2, a2]
      have hl' : IsNm (el.take j ++ [c] ++ el.drop (j + 1)) ∧ NotQ (el.take j ++ [c] ++ el.drop (j + 1)) := by
        obtain ⟨c0, cs, rfl, g1, g2, g3⟩ := hel
        obtain ⟨z1, z2, z3⟩ := in25 c hc
        cases j with
        | zero => exact ⟨⟨c, cs, by simp, z1, g2, g3⟩, .inl (by simp; exact z2)⟩
        | succ j =>
          have hj : j < cs.length := by simpa using hj
          refine ⟨⟨c0, cs.take j ++ [c] ++ cs.drop (j + 1), by simp, g1, fun d hd => ?_, ?_⟩, .inr ⟨c, by simp, z3⟩⟩
          · rcases List.mem_append.mp hd with hd | hd
            · rcases List.mem_append.mp hd with hd | hd
              · exact g2 d (List.mem_of_mem_take hd)
              · rw [List.mem_singleton] at hd; subst hd; exact .inl z1
            · exact g2 d (List.mem_of_mem_drop hd)
          · simp; omega
      exact h _ w4 _ _ hw4 hl'.1 hl'.2 rfl rfl
    · have hb : (x == 0) = false := by simpa using hx
      simp! only [hb]
      exact h l w1 _ _ (hw1.mono (by omega)) h1 h2 p7 p8
theorem rng_get {nn i : Nat} {d : D} (hd : ((List.range (((nn : Nat) : Int)).toNat).map fun (k : Nat) => D.int (k : Int))[i]? = some d) : i < nn ∧ d = .int (i : Int) := by
  rw [List.getElem?_map, Int.toNat_natCast] at hd
  by_cases hi : i < nn
  · rw [List.getElem?_range hi] at hd
    exact ⟨hi, (Option.some.inj hd).symm⟩
  · rw [List.getElem?_eq_none (by simpa using hi)] at hd
    cases hd
theorem names_inner {n : Nat} (hn : n < 900000000) {c0 : Nat} (hc0 : c0 ∈ L25) {w : D} (hw : Well n w) {a b k t6 t7 t8 : Sl} (p6 : t6.isP = false)
    (h : ∀ (l' : List Nat) (w' : D) (t6 : Sl), Well (n + 10) w' → IsNm l' → NotQ l' → t6.isP = false → nx [.par w', a, .val (.str (mk L25)), b, k, .val (nmD l'), t6, t7, t8]) :
    (dFor (diRng1 (dCall (noEr (dsp_p_law_draw K A)) (dN 2 (dCons (dVar 0) (dCons (dC (.int 8)) dNil))))) (dgName 6) (dAsg (dOp D.add (dVar 5) (dCall (noEr (dsp_p_law_one K A)) (dN 2 (dCons (dVar 0) (dCons (dOp D.add (dVar 2) (dC (.str (PySem.Str.ofString "q0123456789")))) dNil))))) (dgName 5))) ⟨nx, rt, rf, bk, ct, er⟩ [.par w, a, .val (.str (mk L25)), b, k, .val (nmD [c0]), t6, t7, t8] := by
  simp! only [idd_eq]
  refine draw_ok A (m := 8) (by omega) hw (by decide) (by decide) fun x w1 x0 x1 hw1 => ?_
  obtain ⟨nn, rfl⟩ := Int.eq_ofNat_of_zero_le x0
  simp! only [idd_eq]
  refine ⟨⟨by omega, by omega⟩, ?_⟩
  refine forL_inv (fun i ρ => ∃ (w' : D) (cs : List Nat) (t6 : Sl), ρ = [.par w', a, .val (.str (mk L25)), b, k, .val (nmD (c0 :: cs)), t6, t7, t8] ∧ t6.isP = false ∧ Well (n + 1 + i) w' ∧ (∀ d ∈ cs, isAn d) ∧ cs.length ≤ i)
    ⟨w1, [], t6, rfl, p6, hw1, (fun d hd => by cases hd), Nat.le_refl _⟩ ?_ ?_
  · rintro i d ρ nx' hd ⟨w', cs, t6, rfl, p6, hw', g2, g3⟩ hnx
    obtain ⟨hi, rfl⟩ := rng_get hd
    have a1 : D.add (.str (mk L25)) (.str (PySem.Str.ofString "q0123456789")) = some (.str (mk (L25 ++ L11))) := by
      rw [str11, D_addS (by rw [mk_len, mk_len]; decide), mk_app]
    simp! only [p6, a1]
    refine one_str A (by omega) hw' (by decide) (by decide) fun c hc w2 hw2 => ?_
    have a2 : D.add (nmD (c0 :: cs)) (.str (mk [c])) = some (nmD (c0 :: (cs ++ [c]))) := by
      show D.add (.str (mk (c0 :: cs))) (.str (mk [c])) = _
      rw [D_addS (by rw [mk_len, mk_len]; exact Nat.le_trans (by simp; omega : _ ≤ 30) (by decide)), mk_app]
      rfl
    simp! only [p6, a2]
    refine hnx _ ⟨w2, cs ++ [c], _, rfl, rfl, hw2.mono (by omega), fun d hd => ?_, by rw [List.length_append]; simp; omega⟩
    rcases List.mem_append.mp hd with hd | hd
    · exact g2 d hd
    · rw [List.mem_singleton] at hd; subst hd; exact in36 d hc
  · rintro ρ ⟨w', cs, t6, rfl, p6, hw', g2, g3⟩
    simp only [List.length_map, List.length_range, Int.toNat_natCast] at g3 hw'
    obtain ⟨z1, z2, z3⟩ := in25 c0 hc0
    exact h _ w' t6 (hw'.mono (by omega)) ⟨c0, cs, rfl, z1, g2, by omega⟩ (.inl (by simp; exact z2)) p6
theorem names_ok {n : Nat} (hn : n < 800000000) {w : D} (hw : Well n w) {nn : Nat} (hk : nn ≤ 60) {q : D → List D → Prop} {er0} (kk : ∀ (fs : List (List Nat)) (w' : D), fs.length = nn → Nms nn fs → Well (n + 2000) w' → q (.lst (fs.map nmD)) [w']) :
    dsp_p_law_names K A [.par w, .val (.int (nn : Int))] q er0 := by
  unfold dsp_p_law_names body_p_law_names
  simp! only [show (0 : Nat) ≤ sizeLine from Nat.zero_le _, str25]
  refine ⟨⟨by omega, by omega⟩, ?_⟩
  refine forL_inv (fun i ρ => ∃ (w' : D) (fs : List (List Nat)) (s4 s5 s6 s7 s8 : Sl), ρ = [.par w', .val (.int (nn : Int)), .val (.str (mk L25)), .own (.lst (fs.map nmD)), s4, s5, s6, s7, s8] ∧ (s4.isP = false ∧ s5.isP = false ∧ s6.isP = false ∧ s7.isP = false ∧ s8.isP = false) ∧ Well (n + 20 * i) w' ∧ fs.length = i ∧ Nms i fs)
    ⟨w, [], .no, .no, .no, .no, .no, rfl, ⟨rfl, rfl, rfl, rfl, rfl⟩, hw, rfl, .nil⟩ ?_ ?_
  · rintro i d ρ nx' hd ⟨w', fs, s4, s5, s6, s7, s8, rfl, ⟨p4, p5, p6, p7, p8⟩, hw', hl, N⟩ hnx
    obtain ⟨hi, rfl⟩ := rng_get hd
    obtain ⟨k, rfl⟩ : ∃ k : Fin 60, k.val = i := ⟨⟨i, by omega⟩, rfl⟩
    rw [dgName, isParS, isParS, isParS, isParS, isPar0]
    refine ⟨p4, ?_⟩
    rw [w_seq, w_asg]
    simp -implicitDefEqProofs -dsimp only [↓dCall, ↓dN, ↓dCons, ↓dNil, ↓noEr, ↓w_var, idd_eq, Nat.reduceEqDiff, ↓getS_val, ↓getS_own, ↓getS_par, rd_val, rd_bor, ownD_own, ownD_par, rds_nil, rds_cons, ↓dgName, ↓dgTup, ↓dgCons, ↓dgNil, argsOf_nil, argsOf_val, argsOf_bor, bors, vals_nil, vals_val, insOf_ins, toTup_lst, toTup_tup, pf_nil, lk_self, key_str, key_int, isN_non, isNN_non, kno_int, kno_str, kno_lst, kno_tup, kno_bl, kno_non, tyV_int, tyV_bl, tyV_str, tyV_lst, tyV_tup, tyV_non, clV_ty, clVT_nil, clVT_val, kit_same, kit_int_bool, kit_bool_int, kits_list, kits_tuple, diRng1, diRng2, diRevR1, diEnumX, diAny, items_lst, items_tup, ownAt_def, setD, Sl.setD, isPar0, isParS, isPN, isP_val, isP_own, isP_no, isP_par, ↓doF, outs_nil, outs_cons, parD_par, parIx, putOuts, wipeD, D.isLst, cmp_int, bool_bl, toInt_int, toInt_bl, truth_bl, truth_int, truth_non, len_lst, len_tup, D_add, D_sub, D_mod, eq_int, ne_int, neg_int, ix0, ix1, ix2, ix3, ix4, tx0, tx1, tx2, sx0, sx1, sx2, List.length_cons, List.length_nil, List.cons_append, List.nil_append, List.replicate, Nat.reduceAdd, Nat.reduceSub, List.getElem?_cons_zero, List.getElem?_cons_succ, List.getElem?_nil, List.set_cons_zero, List.set_cons_succ, Option.bind_some, Option.map_some, Option.isSome_some, true_and, and_true, if_true, if_false, Bool.false_eq_true, reduceIte, Int.reduceBEq, Bool.not_true, Bool.not_false, List.nodup_cons, List.nodup_nil, List.not_mem_nil, not_false_eq_true, List.mem_cons, or_false, ↓opt_f, ↓optF_some, ↓ite_cd, ↓cd_true, ↓cd_false, ↓forL_f, ↓lcL_f, ↓dcL_f, ↓noEr_run, ↓getW_own, seq_lst, seq_tup, kwP1, kwP10, beq_self_eq_true, tyV_dct, tyV_ins, kno_dct, clV_ptr, kit_sameR, nf_same, nf_none, nf_int, nf_bool, nf_str, nf_lst, nf_tup, nf_dct, eq_bl, ne_bl, ↓hot_run, ↓erH_cons, ↓erH_nil, ↓shutD_mk, x1_mk, x2_mk, dnCons, dnNil, hideR, hid_val, hid_own, hid_par, hid_no, oL_none, oL_some, ltO_none, ltO_some, hidL_cons, hidL_nil, dgSq, lcL2_f, dnLc, lcN_f, p5]
    refine one_str A (by omega) hw' (by decide) (by decide) fun c hc w1 hw1 => ?_
    simp -implicitDefEqProofs -dsimp only [idd_eq, Nat.reduceEqDiff, ↓getS_val, ↓getS_own, ↓getS_par, rd_val, rd_bor, ownD_own, ownD_par, rds_nil, rds_cons, ↓dgName, ↓dgTup, ↓dgCons, ↓dgNil, argsOf_nil, argsOf_val, argsOf_bor, bors, vals_nil, vals_val, insOf_ins, toTup_lst, toTup_tup, pf_nil, lk_self, key_str, key_int, isN_non, isNN_non, kno_int, kno_str, kno_lst, kno_tup, kno_bl, kno_non, tyV_int, tyV_bl, tyV_str, tyV_lst, tyV_tup, tyV_non, clV_ty, clVT_nil, clVT_val, kit_same, kit_int_bool, kit_bool_int, kits_list, kits_tuple, diRng1, diRng2, diRevR1, diEnumX, diAny, items_lst, items_tup, ownAt_def, setD, Sl.setD, isPar0, isParS, isPN, isP_val, isP_own, isP_no, isP_par, ↓doF, outs_nil, outs_cons, parD_par, parIx, putOuts, wipeD, D.isLst, cmp_int, bool_bl, toInt_int, toInt_bl, truth_bl, truth_int, truth_non, len_lst, len_tup, D_add, D_sub, D_mod, eq_int, ne_int, neg_int, ix0, ix1, ix2, ix3, ix4, tx0, tx1, tx2, sx0, sx1, sx2, List.length_cons, List.length_nil, List.cons_append, List.nil_append, List.replicate, Nat.reduceAdd, Nat.reduceSub, List.getElem?_cons_zero, List.getElem?_cons_succ, List.getElem?_nil, List.set_cons_zero, List.set_cons_succ, Option.bind_some, Option.map_some, Option.isSome_some, true_and, and_true, if_true, if_false, Bool.false_eq_true, reduceIte, Int.reduceBEq, Bool.not_true, Bool.not_false, List.nodup_cons, List.nodup_nil, List.not_mem_nil, not_false_eq_true, List.mem_cons, or_false, ↓opt_f, ↓optF_some, ↓ite_cd, ↓cd_true, ↓cd_false, ↓forL_f, ↓lcL_f, ↓dcL_f, ↓noEr_run, ↓getW_own, seq_lst, seq_tup, kwP1, kwP10, beq_self_eq_true, tyV_dct, tyV_ins, kno_dct, clV_ptr, kit_sameR, nf_same, nf_none, nf_int, nf_bool, nf_str, nf_lst, nf_tup, nf_dct, eq_bl, ne_bl, ↓hot_run, ↓erH_cons, ↓erH_nil, ↓shutD_mk, x1_mk, x2_mk, dnCons, dnNil, hideR, hid_val, hid_own, hid_par, hid_no, oL_none, oL_some, ltO_none, ltO_some, hidL_cons, hidL_nil, dgSq, lcL2_f, dnLc, lcN_f, p5]
    rw [w_seq]
    refine names_inner A (by omega) hc hw1 p6 fun l' w2 t6 hw2 h1 h2 p6' => ?_
    rw [w_seq]
    refine names_mid A (by omega) N (by omega) h1 h2 hw2 p7 p8 fun l2 w3 t7 t8 hw3 h3 h4 p7' p8' => ?_
    refine names_tail N (by omega) h3 h4 fun l3 N' => ?_
    exact hnx _ ⟨w3, fs ++ [l3], _, _, _, _, _, by rw [List.map_append]; rfl, ⟨rfl, rfl, p6', p7', p8'⟩, hw3.mono (by omega), by rw [List.length_append, hl]; rfl, N'⟩
  · rintro ρ ⟨w', fs, s4, s5, s6, s7, s8, rfl, _, hw', hl, N⟩
    simp only [List.length_map, List.length_range, Int.toNat_natCast] at hl hw' N
    simp! only [idd_eq]
    exact kk fs w' hl N (hw'.mono (by omega))
end
abbrev Row := List Nat × Int × Int
def rowD (r : Row) : D := .tup [nmD r.1, .int r.2.1, .int r.2.2]
structure Rows (rs : List Row) : Prop where
  nd : (rs.map (·.1)).Nodup
  nm : ∀ r ∈ rs, IsNm r.1
  vl : ∀ r ∈ rs, -(10 ^ 30) ≤ r.2.1 ∧ r.2.1 ≤ 10 ^ 30
  lv : ∃ m, Lev (rs.map (·.2.2)) m
  len : rs.length ≤ 60
theorem q99_ne : ∀ j : Fin 60, [113, 57, 57] ≠ qn j.val := by decide +kernel
theorem rows_ok {n : Nat} (hn : n < 700000000) {w : D} (hw : Well n w) {mst : Nat} (hk : mst ≤ 60) {q : D → List D → Prop} {er0} (kk : ∀ (rs : List Row) (w' : D), Rows rs → (∀ r ∈ rs, r.1 ≠ [113, 57, 57]) → rs.length ≤ mst → Well (n + 5000) w' → q (.lst (rs.map rowD)) [w']) :
    dsp_p_law_rows K A [.par w, .val (.int (mst : Int))] q er0 := by
  unfold dsp_p_law_rows body_p_law_rows
  simp! only [idd_eq]
  refine draw_ok A (m := (mst : Int) + 1) (by omega) hw (by omega) (log_int (by omega) (by omega)) fun x w1 x0 x1 hw1 => ?_
  obtain ⟨nn, rfl⟩ := Int.eq_ofNat_of_zero_le x0
  simp! only [idd_eq]
  refine names_ok A (by omega) hw1 (by omega) fun fs w2 hfl N hw2 => ?_
  simp! only [idd_eq]
  refine levels_ok A (by omega) hw2 (by omega) fun ls m w3 hll L hw3 => ?_
  have h2 : 0 + 1 + 1 ≤ sizeLine := by decide
  simp! only [h2]
  refine ⟨⟨by omega, by omega⟩, ?_⟩
  refine lcL_inv (fun i acc ρ => ∃ (w' : D) (rs : List Row), acc = rs.map rowD ∧ ρ = [.par w', .val (.int (mst : Int)), .val (.int (nn : Int)), .val (.lst (fs.map nmD)), .val (.lst (ls.map .int)), .no] ∧ Well (n + 2201 + 4 * i) w' ∧ rs.map (·.1) = fs.take i ∧ rs.map (·.2.2) = ls.take i ∧ (∀ r ∈ rs, -(10 ^ 30) ≤ r.2.1 ∧ r.2.1 ≤ 10 ^ 30))
    ⟨w3, [], rfl, rfl, hw3.mono (by omega), rfl, rfl, (fun r hr => by cases hr)⟩ ?_ ?_
  · rintro i d acc ρ nx hd ⟨w', rs, rfl, rfl, hw', e1, e2, e3⟩ hnx
    obtain ⟨hi, rfl⟩ := rng_get hd
    have i1 : i < fs.length := by omega
    have i2 : i < ls.length := by omega
    have f1 : D.ix (.lst (fs.map nmD)) (.int (i : Int)) = some (nmD fs[i]) := by rw [ixn rfl (by simpa using i1), List.getElem?_map, List.getElem?_eq_getElem i1]; rfl
    have f2 : D.ix (.lst (ls.map D.int)) (.int (i : Int)) = some (.int ls[i]) := by rw [ixn rfl (by simpa using i2), List.getElem?_map, List.getElem?_eq_getElem i2]; rfl
    simp! only [f1]
    refine value_ok A (by omega) hw' fun v w4 v0 v1 hw4 => ?_
    have h3 : 0 + 1 + 1 + 1 ≤ sizeLine := by decide
    have hr : (rs.map rowD).length < sizeLine := by
      have := congrArg List.length e1
      rw [List.length_map, List.length_take] at this
      rw [List.length_map]
      exact Nat.lt_of_le_of_lt (by omega : rs.length ≤ 60) (by decide)
    simp! only [f2, h3, hr]
    refine hnx _ _ ⟨w4, rs ++ [(fs[i], v, ls[i])], by rw [List.map_append]; rfl, rfl, hw4.mono (by omega), ?_, ?_, fun r hr => ?_⟩
    · rw [List.map_append, e1, List.take_succ_eq_append_getElem i1]; rfl
    · rw [List.map_append, e2, List.take_succ_eq_append_getElem i2]; rfl
    · rcases List.mem_append.mp hr with hr | hr
      · exact e3 r hr
      · rw [List.mem_singleton] at hr; subst hr; exact ⟨v0, v1⟩
  · rintro acc ρ ⟨w', rs, rfl, rfl, hw', e1, e2, e3⟩
    simp only [List.length_map, List.length_range, Int.toNat_natCast] at e1 e2 hw'
    rw [List.take_of_length_le (by omega)] at e1 e2
    simp! only [idd_eq]
    have hlen : rs.length = nn := by have := congrArg List.length e1; rw [List.length_map] at this; omega
    refine kk rs w' ⟨by rw [e1]; exact N.nd, fun r hr => N.nm _ (by rw [← e1]; exact List.mem_map_of_mem hr), e3, ⟨m, by rw [e2]; exact L⟩, by omega⟩ (fun r hr e => ?_) (by omega) (hw'.mono (by omega))
    rcases N.kd r.1 (by rw [← e1]; exact List.mem_map_of_mem hr) with h | ⟨j, _, h⟩
    · rw [e] at h
      rcases h with h | ⟨d, h1, h2⟩
      · exact h rfl
      · exact h2 (by simp only [List.tail_cons, List.mem_cons, List.not_mem_nil, or_false] at h1; rcases h1 with rfl | rfl <;> exact ⟨by decide, by decide⟩)
    · rw [e] at h; exact q99_ne j h
end
def plain : D → Prop
  | .non => True
  | .bl _ => True
  | .int _ => True
  | .str x => x.length ≤ 1000 ∧ ∀ c ∈ x.cps.toList, c < 128
  | .lst _ => True
  | .tup _ => True
  | .dct _ => True
  | _ => False
def azB (c : Nat) : Bool := decide (97 ≤ c ∧ c ≤ 122)
def dgB (c : Nat) : Bool := decide (48 ≤ c ∧ c ≤ 57)
def anB (c : Nat) : Bool := azB c || dgB c
def nmB : List Nat → Bool
  | [] => false
  | c :: cs => azB c && cs.all anB && decide (cs.length ≤ 7)
theorem nmB_cons (c : Nat) (cs : List Nat) : nmB (c :: cs) = (azB c && cs.all anB && decide (cs.length ≤ 7)) := rfl
theorem azB_iff {c : Nat} : azB c = true ↔ isAz c := decide_eq_true_iff
theorem dgB_iff {c : Nat} : dgB c = true ↔ isDg c := decide_eq_true_iff
theorem anB_iff {c : Nat} : anB c = true ↔ isAn c := by unfold anB isAn; rw [Bool.or_eq_true, azB_iff, dgB_iff]
theorem nmB_iff {l : List Nat} : nmB l = true ↔ IsNm l := by
  cases l with
  | nil => exact ⟨(fun h => by cases h), (fun ⟨c, cs, h, _⟩ => by cases h)⟩
  | cons c cs =>
    unfold nmB
    rw [Bool.and_eq_true, Bool.and_eq_true, azB_iff, List.all_eq_true, decide_eq_true_iff]
    constructor
    · rintro ⟨⟨a, b⟩, d⟩; exact ⟨c, cs, rfl, a, fun x hx => anB_iff.mp (b x hx), d⟩
    · rintro ⟨c', cs', e, a, b, d⟩
      cases e
      exact ⟨⟨a, fun x hx => anB_iff.mpr (b x hx)⟩, d⟩
def isName : D → Bool
  | .str x => nmB x.cps.toList
  | _ => false
def isVal : D → Bool
  | .int i => decide (-1000000000000000000000000000000 ≤ i) && decide (i ≤ 1000000000000000000000000000000)
  | _ => false
theorem isVal_int (i : Int) : isVal (.int i) = (decide (-1000000000000000000000000000000 ≤ i) && decide (i ≤ 1000000000000000000000000000000)) := rfl
theorem isName_str (x : Str) : isName (.str x) = nmB x.cps.toList := rfl
def isInt : D → Bool
  | .int _ => true
  | _ => false
theorem occ128 : ∀ c : Fin 128, (!(Builtin.Str.occurrences (mk L26) (mk [c.val]) 0 (mk L26).length 1).isEmpty) = azB c.val := by decide +kernel
theorem occ128a : ∀ c : Fin 128, (!(Builtin.Str.occurrences (mk (L26 ++ L10)) (mk [c.val]) 0 (mk (L26 ++ L10)).length 1).isEmpty) = anB c.val := by decide +kernel
theorem occ128d : ∀ c : Fin 128, (!(Builtin.Str.occurrences (mk L10) (mk [c.val]) 0 (mk L10).length 1).isEmpty) = dgB c.val := by decide +kernel
theorem in_az {c : Nat} (h : c < 128) : D.isIn (.str (mk [c])) (.str (mk L26)) = some (.bl (azB c)) := by
  unfold D.isIn D.inStr
  simp only [Option.or_some, Option.map_some]
  rw [occ128 ⟨c, h⟩]; rfl
theorem in_an {c : Nat} (h : c < 128) : D.isIn (.str (mk [c])) (.str (mk (L26 ++ L10))) = some (.bl (anB c)) ∧ D.notIn (.str (mk [c])) (.str (mk (L26 ++ L10))) = some (.bl (!anB c)) := by
  unfold D.isIn D.notIn D.inStr
  simp only [Option.or_some, Option.map_some]
  rw [occ128a ⟨c, h⟩]
  exact ⟨rfl, rfl⟩
theorem notin_dg {c : Nat} (h : c < 128) : D.notIn (.str (mk [c])) (.str (mk L10)) = some (.bl (!dgB c)) := by
  unfold D.notIn D.inStr
  simp only [Option.or_some, Option.map_some]
  rw [occ128d ⟨c, h⟩]; rfl
theorem bls_map : ∀ bs : List Bool, D.bls (bs.map D.bl) = some bs
  | [] => rfl
  | b :: bs => by
    have e : D.bls (D.bl b :: bs.map D.bl) = (D.bls (bs.map D.bl)).map fun bs => b :: bs := rfl
    rw [List.map_cons, e, bls_map bs]; rfl
theorem all_map (l : List Nat) : D.all [.lst (l.map fun c => D.bl (anB c))] = some (.bl (l.all anB)) := by
  show (D.bls (l.map fun c => D.bl (anB c))).map _ = _
  rw [show (l.map fun c => D.bl (anB c)) = (l.map anB).map D.bl by rw [List.map_map]; rfl, bls_map]
  show some (D.bl ((l.map anB).all id)) = _
  rw [List.all_map]; rfl
theorem strAn : PySem.Str.ofString "abcdefghijklmnopqrstuvwxyz0123456789" = mk (L26 ++ L10) := by decide +kernel
def colBad : D → Option D
  | .str x => match x.cps.toList with
    | [c] => if anB c = true then none else some (.str x)
    | _ => none
  | _ => none
theorem colBad_at (c : Nat) : colBad (.str (mk [c])) = if anB c = true then none else some (.str (mk [c])) := rfl
theorem colBad_eq (l : List Nat) (h : ∀ c ∈ l, c < 128) : D.eq (.lst ((l.map fun c => D.str (mk [c])).filterMap colBad)) (.lst []) = some (.bl (l.all anB)) := by
  have hn : D.nices 0 ((l.map fun c => D.str (mk [c])).filterMap colBad) = true := nices_all fun d hd => by
    obtain ⟨x, hx, e⟩ := List.mem_filterMap.mp hd
    obtain ⟨c, hc, rfl⟩ := List.mem_map.mp hx
    rw [colBad_at] at e
    split at e
    · cases e
    · cases e
      exact strOk_mk fun b hb => by rw [List.mem_singleton] at hb; subst hb; have := h b hc; omega
  rw [(ne_nil (n := 0) hn (by decide)).2]
  congr 2
  clear hn
  induction l with
  | nil => rfl
  | cons c t ih =>
    rw [List.map_cons, List.filterMap_cons, colBad_at, List.all_cons]
    cases hb : anB c with
    | true => rw [if_pos rfl, Bool.true_and]; exact ih fun x hx => h x (List.mem_cons_of_mem _ hx)
    | false => rfl
section
variable {K : PySem.W.Frag} (A : Ads)
theorem k1 : PySem.W.kitOne K (.type "NoneType") (.type "str") = some false := by rfl
theorem k2 : PySem.W.kitOne K (.type "bool") (.type "str") = some false := by rfl
theorem k3 : PySem.W.kitOne K (.type "int") (.type "str") = some false := by rfl
theorem k4 : PySem.W.kitOne K (.type "list") (.type "str") = some false := by rfl
theorem k5 : PySem.W.kitOne K (.type "tuple") (.type "str") = some false := by rfl
theorem k6 : PySem.W.kitOne K (.type "dict") (.type "str") = some false := by rfl
theorem j1 : PySem.W.kitOne K (.type "NoneType") (.type "int") = some false := by rfl
theorem j3 : PySem.W.kitOne K (.type "str") (.type "int") = some false := by rfl
theorem j4 : PySem.W.kitOne K (.type "list") (.type "int") = some false := by rfl
theorem j5 : PySem.W.kitOne K (.type "tuple") (.type "int") = some false := by rfl
theorem j6 : PySem.W.kitOne K (.type "dict") (.type "int") = some false := by rfl
theorem i1 : PySem.W.kitAny K (.type "NoneType") [.type "list", .type "tuple"] = some false := by rfl
theorem i2 : PySem.W.kitAny K (.type "bool") [.type "list", .type "tuple"] = some false := by rfl
theorem i3 : PySem.W.kitAny K (.type "int") [.type "list", .type "tuple"] = some false := by rfl
theorem i4 : PySem.W.kitAny K (.type "str") [.type "list", .type "tuple"] = some false := by rfl
theorem i5 : PySem.W.kitAny K (.type "dict") [.type "list", .type "tuple"] = some false := by rfl
theorem is_int_any {d : D} (hd : plain d) {q : D → List D → Prop} {er} (k : q (.bl (isInt d)) []) : dsp_is_integer K A [.val d] q er := by
  unfold dsp_is_integer body_is_integer
  cases d <;> first
    | exact hd.elim
    | (simp! only [j1, j3, j4, j5, j6]; exact k)
def isSeq : D → Bool
  | .lst _ => true
  | .tup _ => true
  | _ => false
theorem is_seq_any {d : D} (hd : plain d) {q : D → List D → Prop} {er} (k : q (.bl (isSeq d)) []) : dsp_is_sequence K A [.val d] q er := by
  unfold dsp_is_sequence body_is_sequence
  have h : 0 + 1 + 1 ≤ sizeLine := by decide
  cases d <;> first
    | exact hd.elim
    | (simp! only [h, i1, i2, i3, i4, i5]; exact k)
theorem is_value_any {d : D} (hd : plain d) {q : D → List D → Prop} {er} (k : q (.bl (isVal d)) []) : dsp_is_value K A [.val d] q er := by
  unfold dsp_is_value body_is_value
  simp! only [idd_eq]
  refine is_int_any A hd ?_
  cases d with
  | int i =>
    simp! only [isInt]
    rw [isVal_int] at k
    cases h1 : decide (-1000000000000000000000000000000 ≤ i) with
    | false =>
      rw [h1] at k
      simp! only [idd_eq]
      exact k
    | true =>
      rw [h1] at k
      simp! only [idd_eq]
      exact k
  | _ => first | exact hd.elim | (simp! only [isInt]; exact k)
theorem is_name_any {d : D} (hd : plain d) {q : D → List D → Prop} {er} (k : q (.bl (isName d)) []) : dsp_is_name K A [.val d] q er := by
  unfold dsp_is_name body_is_name
  cases d with
  | str x =>
    obtain ⟨hl, hc⟩ := hd
    rw [mk_of x] at hl ⊢
    rw [isName_str] at k
    generalize x.cps.toList = l at hl hc k ⊢
    rw [mk_len] at hl
    have hlen : D.len [.str (mk l)] = some (.int (l.length : Int)) := len_mk (Nat.le_trans hl (by decide))
    cases h1 : decide ((1 : Int) ≤ (l.length : Int)) with
    | false =>
      have : l = [] := by have := of_decide_eq_false h1; exact List.eq_nil_of_length_eq_zero (by omega)
      subst this
      have h1' : decide ((1 : Int) ≤ ((0 : Nat) : Int)) = false := rfl
      simp! only [hlen, h1']
      exact k
    | true =>
      cases h2 : decide ((l.length : Int) ≤ 8) with
      | false =>
        have h3 := of_decide_eq_false h2
        have : nmB l = false := by
          cases l with
          | nil => rfl
          | cons c cs =>
            rw [List.length_cons] at h3
            rw [nmB_cons, show decide (cs.length ≤ 7) = false from decide_eq_false (by omega), Bool.and_false]
        rw [this] at k
        simp! only [hlen, h1, h2]
        exact k
      | true =>
        have h3 := of_decide_eq_true h2
        cases l with
        | nil => cases h1
        | cons c cs =>
          have hs : (c :: cs).length ≤ sizeLine := Nat.le_trans hl (by decide)
          have i0 : D.ix (.str (mk (c :: cs))) (.int 0) = some (.str (mk [c])) := ixs (n := 0) rfl (by simp) hs
          have hc0 : c < 128 := hc c List.mem_cons_self
          have e7 : decide (cs.length ≤ 7) = true := decide_eq_true (by rw [List.length_cons] at h3; omega)
          rw [nmB_cons, e7, Bool.and_true] at k
          cases hz : azB c with
          | false =>
            rw [hz, Bool.false_and] at k
            rw [List.length_cons] at h1 h2
            simp! only [hlen, h1, h2, i0, str26, str10, in_az hc0, hz]
            exact k
          | true =>
            rw [hz, Bool.true_and] at k
            have ha : anB c = true := by unfold anB; rw [hz]; rfl
            generalize hL : (c :: cs) = l at *
            have hall : l.all anB = cs.all anB := by rw [← hL, List.all_cons, ha, Bool.true_and]
            rw [← hall] at k
            simp! only [hlen, h1, h2, i0, str26, str10, in_az hc0, hz, items_str]
            refine lcL_inv (fun i acc ρ => acc = (l.take i).map (fun c => D.bl (anB c)) ∧ ρ = [.val (.str (mk l)), .no]) ⟨rfl, rfl⟩ ?_ ?_
            · rintro i d acc ρ nx hd ⟨rfl, rfl⟩ hnx
              rw [List.getElem?_map] at hd
              cases hg : l[i]? with
              | none => rw [hg] at hd; cases hd
              | some x =>
                rw [hg] at hd
                cases hd
                obtain ⟨hi, hx⟩ := List.getElem?_eq_some_iff.mp hg
                have hz2 : ((l.take i).map (fun c => D.bl (anB c))).length < sizeLine := by rw [List.length_map, List.length_take]; exact Nat.lt_of_le_of_lt (Nat.min_le_left ..) (Nat.lt_of_lt_of_le hi (Nat.le_trans hl (by decide)))
                simp! only [str26, str10, add36, (in_an (hc x (List.mem_of_getElem? hg))).1, hz2]
                refine hnx _ _ ⟨?_, rfl⟩
                rw [List.take_succ_eq_append_getElem hi, hx, List.map_append]; rfl
            · rintro acc ρ ⟨rfl, rfl⟩
              rw [List.length_map, List.take_length]
              simp! only [all_map]
              exact k
  | _ => first | exact hd.elim | (simp! only [k1, k2, k3, k4, k5, k6]; exact k)
end
theorem seq_nn {j n : Nat} (h : j < n) : seqIndex? (j : Int) n = some j := by
  have h0 : ¬ ((j : Int) < 0) := by omega
  have h1 : (0 : Int) ≤ (j : Int) ∧ (j : Int) < (n : Int) := by omega
  unfold seqIndex?
  simp [h0, h1, h]
theorem erase_perm : ∀ {ls : List D} {j : Nat} (h : j < ls.length), (ls[j] :: ls.eraseIdx j).Perm ls
  | a :: t, 0, _ => List.Perm.refl _
  | a :: t, j + 1, h => by
    have hj : j < t.length := Nat.lt_of_succ_lt_succ h
    have ih := erase_perm (ls := t) (j := j) hj
    exact (List.Perm.swap a t[j] (t.eraseIdx j)).trans (ih.cons a)
section
variable {K : PySem.W.Frag} (A : Ads)
theorem mixed_ok {n : Nat} (hn : n < 800000000) {w : D} (hw : Well n w) {xs : List D} (hl : xs.length ≤ 60) {q : D → List D → Prop} {er : Addr → List (Str × D) → List D → Prop} (k : ∀ ys w', ys.Perm xs → Well (n + 60) w' → q (.lst ys) [w']) : dsp_p_law_mixed K A [.par w, .val (.lst xs)] q er := by
  unfold dsp_p_law_mixed body_p_law_mixed
  have z0 : 0 ≤ sizeLine := by decide
  have z60 : 60 < sizeLine := by decide
  have h63 : (0 : Int) ≤ (xs.length : Int) ∧ (xs.length : Int) < 2 ^ 63 := by omega
  simp! only [Nat.reduceLT, z0]
  refine ⟨by omega, ?_⟩
  refine forL_inv (fun i ρ => ∃ w' ls ys s4, s4.isP = false ∧ Well (n + i) w' ∧ ls.length + i = xs.length ∧ ys.length = i ∧ (ls ++ ys).Perm xs ∧ ρ = [.par w', .val (.lst xs), .own (.lst ls), .own (.lst ys), s4]) ⟨w, xs, [], .no, rfl, hw, rfl, rfl, by rw [List.append_nil], rfl⟩ ?_ ?_
  · rintro i d ρ nx hd ⟨w', ls, ys, s4, p4, hw', hls, hys, hp, rfl⟩ hnx
    have hi : i < xs.length := by
      have := (List.getElem?_eq_some_iff.mp hd).1
      rw [List.length_map, List.length_range] at this
      omega
    have hll : 0 < ls.length := by omega
    simp! only [Nat.reduceLT, p4, ↓dPopAt]
    refine draw_ok A (by omega) hw' (by omega) (Nat.lt_of_le_of_lt (Nat.log2_le_self _) (by omega)) fun x w2 hx0 hx1 hw2 => ?_
    obtain ⟨j, rfl⟩ : ∃ j : Nat, x = (j : Int) := ⟨x.toNat, by omega⟩
    have hj : j < ls.length := by omega
    have e1 := seq_nn hj
    have e2 : ls[j]? = some ls[j] := List.getElem?_eq_getElem hj
    have e3 : (-(2 : Int) ^ 63 ≤ (j : Int) ∧ (j : Int) < 2 ^ 63) := by omega
    have e4 : ys.length < sizeLine := by omega
    simp! only [Nat.reduceLT, p4, e1, e2, e3, e4]
    refine hnx _ ⟨w2, ls.eraseIdx j, ys ++ [ls[j]], _, rfl, by rw [show n + (i + 1) = n + i + 1 by omega]; exact hw2, by rw [List.length_eraseIdx, if_pos hj]; omega, by rw [List.length_append, List.length_singleton]; omega, ?_, rfl⟩
    refine List.Perm.trans ?_ hp
    have h1 : (ls[j] :: ls.eraseIdx j).Perm ls := erase_perm hj
    refine List.Perm.trans ?_ (h1.append_right ys)
    rw [← List.append_assoc]
    exact (List.perm_append_comm.trans (List.Perm.refl _))
  · rintro ρ ⟨w', ls, ys, s4, p4, hw', hls, hys, hp, rfl⟩
    rw [List.length_map, List.length_range] at hls hys hw'
    have e0 : ((xs.length : Nat) : Int).toNat = xs.length := rfl
    have : ls = [] := List.length_eq_zero_iff.mp (by omega)
    subst this
    simp! only [Nat.reduceLT]
    exact k ys w' hp (hw'.mono (by omega))
end
theorem pow30 : D.pow (.int 10) (.int 30) = some (.int (10 ^ 30)) := D_pow ⟨by decide, by decide, by decide⟩
section
variable {K : PySem.W.Frag} (A : Ads)
theorem is_whole_any {d : D} (hd : plain d) {q : D → List D → Prop} {er} (k : q (.bl (isInt d)) []) : dsp_p_law_is_whole K A [.val d] q er := by
  unfold dsp_p_law_is_whole body_p_law_is_whole
  cases d <;> first
    | exact hd.elim
    | (simp! only [j1, j3, j4, j5, j6]; exact k)
theorem lvalue_any {d : D} (hd : plain d) {q : D → List D → Prop} {er} (k : q (.bl (isVal d)) []) : dsp_p_law_is_value K A [.val d] q er := by
  unfold dsp_p_law_is_value body_p_law_is_value
  simp! only [idd_eq]
  refine is_whole_any A hd ?_
  cases d with
  | int i =>
    rw [isVal_int] at k
    have e1 : decide ((0 - 10 ^ 30 : Int) ≤ i) = decide (-1000000000000000000000000000000 ≤ i) := decide_eq_decide.mpr (by constructor <;> intro h <;> omega)
    have e2 : decide (i ≤ (10 ^ 30 : Int)) = decide (i ≤ 1000000000000000000000000000000) := decide_eq_decide.mpr (by constructor <;> intro h <;> omega)
    rw [← e1, ← e2] at k
    cases h1 : decide ((0 - 10 ^ 30 : Int) ≤ i) with
    | false => rw [h1, Bool.false_and] at k; simp! only [isInt, pow30, h1]; exact k
    | true => rw [h1, Bool.true_and] at k; simp! only [isInt, pow30, h1]; exact k
  | _ => first | exact hd.elim | (simp! only [isInt]; exact k)
theorem law_name_any {d : D} (hd : plain d) {q : D → List D → Prop} {er} (k : q (.bl (isName d)) []) : dsp_p_law_is_name K A [.val d] q er := by
  unfold dsp_p_law_is_name body_p_law_is_name
  have h0 : 0 ≤ sizeLine := Nat.zero_le _
  cases d with
  | str x =>
    obtain ⟨hl, hc⟩ := hd
    rw [mk_of x] at hl ⊢
    rw [isName_str] at k
    generalize x.cps.toList = l at hl hc k ⊢
    rw [mk_len] at hl
    have hlen : D.len [.str (mk l)] = some (.int (l.length : Int)) := len_mk (Nat.le_trans hl (by decide))
    cases h1 : decide ((1 : Int) ≤ (l.length : Int)) with
    | false =>
      have : l = [] := by have := of_decide_eq_false h1; exact List.eq_nil_of_length_eq_zero (by omega)
      subst this
      have h1' : decide ((1 : Int) ≤ ((0 : Nat) : Int)) = false := rfl
      simp! only [hlen, h1']
      exact k
    | true =>
      cases h2 : decide ((l.length : Int) ≤ 8) with
      | false =>
        have h3 := of_decide_eq_false h2
        have : nmB l = false := by
          cases l with
          | nil => rfl
          | cons c cs =>
            rw [List.length_cons] at h3
            rw [nmB_cons, show decide (cs.length ≤ 7) = false from decide_eq_false (by omega), Bool.and_false]
        rw [this] at k
        simp! only [hlen, h1, h2]
        exact k
      | true =>
        have h3 := of_decide_eq_true h2
        simp! only [hlen, h1, h2, items_str, strAn]
        refine lcL_fm colBad (fun ρ => ∃ s2, s2.isP = false ∧ ρ = [.val (.str (mk l)), .no, s2]) ⟨.no, rfl, rfl⟩ (by rw [List.length_map]; exact Nat.le_trans hl (by decide)) ?_ ?_
        · rintro i d ρ nx el sm hd ⟨s2, p2, rfl⟩ hnx hel
          rw [List.getElem?_map] at hd
          cases hg : l[i]? with
          | none => rw [hg] at hd; cases hd
          | some x =>
            rw [hg] at hd
            cases hd
            have hx := (in_an (hc x (List.mem_of_getElem? hg))).2
            cases hb : anB x with
            | true =>
              simp! only [strAn, hx, hb, p2]
              have hcb : colBad (.str (mk [x])) = none := by rw [colBad_at, hb]; rfl
              exact hel hcb _ ⟨_, rfl, rfl⟩
            | false =>
              simp! only [strAn, hx, hb, p2]
              have hcb : colBad (.str (mk [x])) = some (.str (mk [x])) := by rw [colBad_at, hb]; rfl
              exact hnx _ hcb _ ⟨_, rfl, rfl⟩
        · rintro ρ ⟨s2, p2, rfl⟩
          have hcol := colBad_eq l hc
          cases l with
          | nil => cases h1
          | cons c cs =>
            have hs : (c :: cs).length ≤ sizeLine := Nat.le_trans hl (by decide)
            have i0 : D.ix (.str (mk (c :: cs))) (.int 0) = some (.str (mk [c])) := ixs (n := 0) rfl (by simp) hs
            have hc0 : c < 128 := hc c List.mem_cons_self
            have e7 : decide (cs.length ≤ 7) = true := decide_eq_true (by rw [List.length_cons] at h3; omega)
            rw [nmB_cons, e7, Bool.and_true] at k
            simp! only [Nat.reduceLT, h0, hcol, p2]
            cases ha : (c :: cs).all anB with
            | false =>
              have : (azB c && cs.all anB) = false := by
                rw [List.all_cons] at ha
                cases hz : azB c with
                | false => rfl
                | true =>
                  have : anB c = true := by unfold anB; rw [hz]; rfl
                  rw [this, Bool.true_and] at ha
                  rw [ha]; rfl
              rw [this] at k
              simp! only [idd_eq]
              exact k
            | true =>
              have : (azB c && cs.all anB) = !dgB c := by
                rw [List.all_cons, Bool.and_eq_true] at ha
                rw [ha.2, Bool.and_true]
                have h := ha.1
                unfold anB at h
                cases hz : azB c with
                | false => rw [hz, Bool.false_or] at h; rw [h]; rfl
                | true =>
                  have : dgB c = false := by
                    have := of_decide_eq_true hz
                    exact decide_eq_false (by omega)
                  rw [this]; rfl
              rw [this] at k
              simp! only [i0, str10, notin_dg hc0]
              exact k
  | _ => first | exact hd.elim | (simp! only [k1, k2, k3, k4, k5, k6]; exact k)
end
end My
namespace My.Ky
abbrev Key1 := List Nat
def stA (k : Key1) : Nat → Nat
  | 0 => 0
  | n + 1 => if k.getD n 1 % 2 = 0 then n + 1 else stA k n
def cutK (k : Key1) : Key1 := k.take (stA k (k.length - 1))
theorem stA_le (k : Key1) : ∀ n, stA k n ≤ n
  | 0 => Nat.le_refl _
  | n + 1 => by
    have := stA_le k n
    rw [stA]; split <;> omega
structure Val (k : Key1) : Prop where
  ne : k ≠ []
  b : ∀ c ∈ k, 1 ≤ c ∧ c ≤ 255
  ev : k.getD (k.length - 1) 1 % 2 = 0
structure Lb (r : Nat) (l : Key1) : Prop where
  b : ∀ c ∈ l, 1 ≤ c ∧ c ≤ 255
  ne : l ≠ []
  od : ∀ i, i + 1 < l.length → l.getD i 1 % 2 = 1
  ev : l.getD (l.length - 1) 1 % 2 = 0
  hd : (l.getD 0 0 - 1) / 2 = r
def EndE (P : Key1) : Prop := P = [] ∨ P.getD (P.length - 1) 1 % 2 = 0
theorem getD_app_l {P l : Key1} {i d : Nat} (h : i < P.length) : (P ++ l).getD i d = P.getD i d := by
  simp [List.getD, List.getElem?_append_left h]
theorem getD_app_r {P l : Key1} {i d : Nat} (h : P.length ≤ i) : (P ++ l).getD i d = l.getD (i - P.length) d := by
  simp [List.getD, List.getElem?_append_right h]
theorem st_app {P l : Key1} {r : Nat} (hP : EndE P) (hl : Lb r l) : ∀ j, j + 1 ≤ l.length → stA (P ++ l) (P.length + j) = P.length
  | 0, _ => by
    rw [Nat.add_zero]
    cases h : P.length with
    | zero => rfl
    | succ n =>
      rw [stA]
      have e : (P ++ l).getD n 1 = P.getD n 1 := getD_app_l (by omega)
      rcases hP with hP | hP
      · rw [hP] at h; cases h
      · rw [h, Nat.add_sub_cancel] at hP
        rw [e, if_pos hP]
  | j + 1, hj => by
    rw [← Nat.add_assoc, stA]
    have e : (P ++ l).getD (P.length + j) 1 = l.getD j 1 := by rw [getD_app_r (by omega)]; congr 1; omega
    rw [e, if_neg (by have := hl.od j (by omega); omega)]
    exact st_app hP hl j (by omega)
theorem cut_app {P l : Key1} {r : Nat} (hP : EndE P) (hl : Lb r l) : cutK (P ++ l) = P := by
  have hn : 0 < l.length := List.length_pos_iff.mpr hl.ne
  unfold cutK
  rw [show (P ++ l).length - 1 = P.length + (l.length - 1) by rw [List.length_append]; omega, st_app hP hl _ (by omega)]
  simp
def rkK (k : Key1) : Nat := (k.getD (cutK k).length 0 - 1) / 2
theorem rk_app {P l : Key1} {r : Nat} (hP : EndE P) (hl : Lb r l) : rkK (P ++ l) = r := by
  unfold rkK
  rw [cut_app hP hl, getD_app_r (Nat.le_refl _), Nat.sub_self]
  exact hl.hd
theorem Val.end_ {k : Key1} (h : Val k) : EndE k := .inr h.ev
theorem val_app {P l : Key1} {r : Nat} (hP : P = [] ∨ Val P) (hl : Lb r l) : Val (P ++ l) := by
  have hn : 0 < l.length := List.length_pos_iff.mpr hl.ne
  refine ⟨by simp [hl.ne], fun c hc => ?_, ?_⟩
  · rcases List.mem_append.mp hc with h | h
    · rcases hP with hP | hP
      · rw [hP] at h; cases h
      · exact hP.b c h
    · exact hl.b c h
  · rw [getD_app_r (by rw [List.length_append]; omega), show (P ++ l).length - 1 - P.length = l.length - 1 by rw [List.length_append]; omega]
    exact hl.ev
def upA (ln : List Key1) (i : Nat) : Key1 := if i = 0 then [] else ln.getD (i - 1) []
structure LI (fs ln : List Key1) (C : List Nat) : Prop where
  nd : fs.Nodup
  key : ∀ f ∈ fs, Val f
  par : ∀ f ∈ fs, cutK f = [] ∨ cutK f ∈ fs
  lin : ∀ k ∈ ln, k ∈ fs
  inc : ln.Pairwise fun a b => a.length < b.length
  len : C.length = 61
  cnt : ∀ i, i ≤ ln.length → ∀ f ∈ fs, cutK f = upA ln i → rkK f < C.getD i 0
  cb : ∀ i, C.getD i 0 ≤ fs.length
theorem LI.zero : LI [] [] (List.replicate 61 0) := ⟨List.nodup_nil, by simp, by simp, by simp, List.Pairwise.nil, rfl, by simp, fun i => by
  show ((List.replicate 61 0)[i]?).getD 0 ≤ 0
  rw [List.getElem?_replicate]; split <;> exact Nat.le_refl _⟩
section
variable {fs ln : List Key1} {C : List Nat}
theorem LI.up (h : LI fs ln C) {i : Nat} (hi : i ≤ ln.length) : upA ln i = [] ∨ (upA ln i ∈ fs ∧ Val (upA ln i)) := by
  unfold upA
  split
  · exact .inl rfl
  · right
    have e : ln.getD (i - 1) [] = ln[i - 1] := by simp [List.getD, List.getElem?_eq_getElem (show i - 1 < ln.length by omega)]
    have m : ln.getD (i - 1) [] ∈ fs := by rw [e]; exact h.lin _ (List.getElem_mem _)
    exact ⟨m, h.key _ m⟩
theorem LI.up_lt (h : LI fs ln C) {i j : Nat} (hij : i < j) (hj : j ≤ ln.length) : (upA ln i).length < (upA ln j).length := by
  have ej : upA ln j = ln[j - 1]'(by omega) := by unfold upA; rw [if_neg (by omega)]; simp [List.getD, List.getElem?_eq_getElem (show j - 1 < ln.length by omega)]
  have vj : 0 < (upA ln j).length := by
    rcases h.up hj with e | e
    · rw [ej] at e
      have := (h.key _ (h.lin _ (List.getElem_mem (show j - 1 < ln.length by omega)))).ne
      exact absurd e this
    · exact List.length_pos_iff.mpr e.2.ne
  by_cases i0 : i = 0
  · subst i0; exact vj
  · have ei : upA ln i = ln[i - 1]'(by omega) := by unfold upA; rw [if_neg i0]; simp [List.getD, List.getElem?_eq_getElem (show i - 1 < ln.length by omega)]
    rw [ei, ej]
    exact List.pairwise_iff_getElem.mp h.inc (i - 1) (j - 1) (by omega) (by omega) (by omega)
theorem upA_take {l : Nat} {k : Key1} {i : Nat} (hl : l ≤ ln.length) (hi : i ≤ l) : upA (ln.take l ++ [k]) i = upA ln i := by
  unfold upA
  split
  · rfl
  · have h1 : i - 1 < (ln.take l).length := by rw [List.length_take]; omega
    simp only [List.getD, List.getElem?_append_left h1, List.getElem?_take, if_pos (show i - 1 < l by omega)]
theorem upA_new {l : Nat} {k : Key1} (hl : l ≤ ln.length) : upA (ln.take l ++ [k]) (l + 1) = k := by
  unfold upA
  rw [if_neg (by omega)]
  have : (ln.take l).length = l := by rw [List.length_take]; omega
  simp [List.getD, List.getElem?_append_right (show (ln.take l).length ≤ l by omega), this]
def cnt2 (C : List Nat) (l : Nat) : List Nat := (C.take (l + 1) ++ List.replicate (60 - l) 0).set l (C.getD l 0 + 1)
theorem cnt2_at (hC : C.length = 61) {l : Nat} (hl : l ≤ 60) (i : Nat) : (cnt2 C l).getD i 0 = if i < l then C.getD i 0 else if i = l then C.getD l 0 + 1 else 0 := by
  unfold cnt2
  have hlen : (C.take (l + 1)).length = l + 1 := by rw [List.length_take]; omega
  simp only [List.getD]
  by_cases e : i = l
  · subst e
    rw [if_neg (Nat.lt_irrefl _), if_pos rfl, List.getElem?_set_self (by rw [List.length_append, hlen]; omega)]; rfl
  · rw [List.getElem?_set_ne (by omega), if_neg e]
    by_cases h : i < l
    · rw [if_pos h, List.getElem?_append_left (by omega), List.getElem?_take, if_pos (by omega)]
    · rw [if_neg h, List.getElem?_append_right (by omega), List.getElem?_replicate]
      split <;> rfl
theorem LI.step (h : LI fs ln C) {l : Nat} (hl : l ≤ ln.length) (h60 : l ≤ 60) {lb : Key1} (hb : Lb (C.getD l 0) lb) : LI (fs ++ [upA ln l ++ lb]) (ln.take l ++ [upA ln l ++ lb]) (cnt2 C l) := by
  have hP := h.up hl
  have hE : EndE (upA ln l) := hP.elim .inl fun z => z.2.end_
  have hV : upA ln l = [] ∨ Val (upA ln l) := hP.imp id (·.2)
  have c := cut_app hE hb
  have r := rk_app hE hb
  have v := val_app hV hb
  have lt : (upA ln l).length < (upA ln l ++ lb).length := by
    have := List.length_pos_iff.mpr hb.ne
    rw [List.length_append]; omega
  generalize hk : upA ln l ++ lb = k at c r v lt ⊢
  have nk : k ∉ fs := fun m => by have := h.cnt l hl k m c; omega
  refine ⟨List.nodup_append.mpr ⟨h.nd, by simp, fun a ha b hb => ?_⟩, fun f hf => ?_, fun f hf => ?_, fun f hf => ?_, ?_, ?_, fun i hi f hf e => ?_, fun i => ?_⟩
  · rw [List.mem_singleton.mp hb]; rintro rfl; exact nk ha
  · rcases List.mem_append.mp hf with m | m
    · exact h.key f m
    · rw [List.mem_singleton.mp m]; exact v
  · rcases List.mem_append.mp hf with m | m
    · exact (h.par f m).imp id fun z => List.mem_append_left _ z
    · rw [List.mem_singleton.mp m, c]
      exact hP.imp id fun z => List.mem_append_left _ z.1
  · rcases List.mem_append.mp hf with m | m
    · exact List.mem_append_left _ (h.lin f (List.mem_of_mem_take m))
    · exact List.mem_append_right _ m
  · refine List.pairwise_append.mpr ⟨h.inc.sublist (List.take_sublist _ _), by simp, fun a ha b hb => ?_⟩
    rw [List.mem_singleton.mp hb]
    obtain ⟨j, hj, rfl⟩ := List.getElem_of_mem ha
    rw [List.length_take] at hj
    have e : (ln.take l)[j]'(by rw [List.length_take]; exact hj) = upA ln (j + 1) := by
      unfold upA
      rw [if_neg (by omega), List.getElem_take]
      simp [List.getD, List.getElem?_eq_getElem (show j < ln.length by omega)]
    rw [e]
    by_cases z : j + 1 = l
    · rw [z]; exact lt
    · exact Nat.lt_trans (h.up_lt (show j + 1 < l by omega) hl) lt
  · unfold cnt2
    have := h.len
    rw [List.length_set, List.length_append, List.length_take, List.length_replicate]; omega
  · have hi : i ≤ l + 1 := by simpa [List.length_take, Nat.min_eq_left hl] using hi
    rw [cnt2_at h.len h60]
    by_cases h1 : i = l + 1
    · subst h1
      rw [upA_new hl] at e
      exfalso
      rcases List.mem_append.mp hf with m | m
      · rcases h.par f m with z | z
        · rw [z] at e; exact v.ne e.symm
        · rw [e] at z; exact nk z
      · rw [List.mem_singleton.mp m, c] at e
        rw [e] at lt
        exact Nat.lt_irrefl _ lt
    · rw [upA_take hl (by omega)] at e
      rcases List.mem_append.mp hf with m | m
      · have := h.cnt i (by omega) f m e
        split
        · exact this
        · rw [if_pos (by omega)]
          have z : i = l := by omega
          rw [z] at this
          omega
      · rw [List.mem_singleton.mp m] at e ⊢
        by_cases z : i = l
        · rw [if_neg (by omega), if_pos z]; omega
        · exfalso
          have := h.up_lt (show i < l by omega) hl
          rw [c] at e
          rw [e] at this
          exact Nat.lt_irrefl _ this
  · rw [cnt2_at h.len h60, List.length_append, List.length_singleton]
    have := h.cb i
    have := h.cb l
    split
    · omega
    · split <;> omega
end
theorem lb1 {r : Nat} (h : r ≤ 100) : Lb r [2 * r + 2] := ⟨fun c hc => by rw [List.mem_singleton.mp hc]; omega, List.cons_ne_nil _ _, fun i hi => by simp at hi, show (2 * r + 2) % 2 = 0 by omega, show (2 * r + 2 - 1) / 2 = r by omega⟩
theorem lb2 {r x : Nat} (h : r ≤ 100) (hx : x < 127) : Lb r [2 * r + 1, 2 * x + 2] := ⟨fun c hc => by
    simp only [List.mem_cons, List.not_mem_nil, or_false] at hc
    omega, List.cons_ne_nil _ _, fun i hi => by
  have : i = 0 := by simp at hi; omega
  subst this
  show (2 * r + 1) % 2 = 1
  omega, show (2 * x + 2) % 2 = 0 by omega, show (2 * r + 1 - 1) / 2 = r by omega⟩
theorem lb4 {r y x : Nat} (h : r ≤ 100) (hy : y < 128) (hx : x < 127) : Lb r [2 * r + 1, 2 * y + 1, 255, 2 * x + 2] := ⟨fun c hc => by
    simp only [List.mem_cons, List.not_mem_nil, or_false] at hc
    omega, List.cons_ne_nil _ _, fun i hi => by
  have : i = 0 ∨ i = 1 ∨ i = 2 := by simp at hi; omega
  rcases this with rfl | rfl | rfl
  · show (2 * r + 1) % 2 = 1; omega
  · show (2 * y + 1) % 2 = 1; omega
  · show 255 % 2 = 1; decide, show (2 * x + 2) % 2 = 0 by omega, show (2 * r + 1 - 1) / 2 = r by omega⟩
end My.Ky
set_option maxHeartbeats 2000000
namespace My
open PySem L2 Evl ClX DL
local macro_rules | `(tactic| simp! only [$xs,*]) => `(tactic| simp -implicitDefEqProofs -dsimp only [idd_eq, Nat.reduceEqDiff, ↓w_seq, ↓w_if, ↓dTest, ↓dOp, ↓dUn, ↓w_var, ↓getS_val, ↓getS_own, ↓getS_par, ↓dC, rd_val, rd_bor, ownD_own, ownD_par, rds_nil, rds_cons, ↓w_asg, ↓dCB, ↓dCons, ↓dNil, ↓dgName, ↓dgTup, ↓dgCons, ↓dgNil, ↓w_setIx, ↓w_ret, ↓w_retF, ↓w_retN, ↓w_next, ↓w_drop, ↓w_own, ↓w_brk, ↓w_cnt, ↓w_setF, ↓w_dput, ↓w_body, ↓dN, ↓dCall, ↓dCallF, argsOf_nil, argsOf_val, argsOf_bor, bors, ↓dV, ↓dTup, ↓dLst, vals_nil, vals_val, ↓w_par, ↓w_par3, ↓w_parVO, ↓w_parOV, ↓w_parOO, ↓dTruth, ↓dIsi, ↓dIsiT, ↓dInO, insOf_ins, ↓dDNew, ↓dDGet, ↓dDIn, toTup_lst, toTup_tup, pf_nil, lk_self, key_str, key_int, isN_non, isNN_non, kno_int, kno_str, kno_lst, kno_tup, kno_bl, kno_non, tyV_int, tyV_bl, tyV_str, tyV_lst, tyV_tup, tyV_non, clV_ty, clVT_nil, clVT_val, kit_same, kit_int_bool, kit_bool_int, kits_list, kits_tuple, ↓dNot, ↓dAnd, ↓dOr, ↓dIf, ↓dAndV, ↓dOrV, ↓dNotV, ↓dChain, ↓dMeth, ↓dMethF, ↓dKw, ↓dSl, ↓dNoP, ↓dPart, ↓w_for, diRng1, diRng2, diRevR1, diEnumX, diAny, items_lst, items_tup, ↓dLc, ↓dDc, ↓dFld, ownAt_def, setD, Sl.setD, isPar0, isParS, isPN, isP_val, isP_own, isP_no, isP_par, ↓doF, outs_nil, outs_cons, parD_par, parIx, putOuts, wipeD, ↓dBodyF, ↓dAppend, D.isLst, cmp_int, bool_bl, toInt_int, toInt_bl, truth_bl, truth_int, truth_non, len_lst, len_tup, D_add, D_sub, D_mod, eq_int, ne_int, neg_int, ix0, ix1, ix2, ix3, ix4, tx0, tx1, tx2, sx0, sx1, sx2, List.length_cons, List.length_nil, List.cons_append, List.nil_append, List.replicate, Nat.reduceAdd, Nat.reduceSub, List.getElem?_cons_zero, List.getElem?_cons_succ, List.getElem?_nil, List.set_cons_zero, List.set_cons_succ, Option.bind_some, Option.map_some, Option.isSome_some, true_and, and_true, if_true, if_false, Bool.false_eq_true, reduceIte, Int.reduceBEq, Bool.not_true, Bool.not_false, List.nodup_cons, List.nodup_nil, List.not_mem_nil, not_false_eq_true, List.mem_cons, or_false, ↓opt_f, ↓optF_some, ↓ite_cd, ↓cd_true, ↓cd_false, ↓forL_f, ↓lcL_f, ↓dcL_f, ↓noEr_run, ↓w_frz, ↓getW_own, ↓dListRg1, ↓dIndex, ↓dCKw, ↓dMake, ↓dList, seq_lst, seq_tup, kwP1, kwP10, beq_self_eq_true, ↓dEqO, ↓dBinO, ↓dNev, tyV_dct, tyV_ins, kno_dct, clV_ptr, kit_sameR, nf_same, nf_none, nf_int, nf_bool, nf_str, nf_lst, nf_tup, nf_dct, ↓dLenO, eq_bl, ne_bl, ↓hot_run, ↓w_try, ↓w_try0, ↓erH_cons, ↓erH_nil, ↓shutD_mk, x1_mk, x2_mk, ↓w_rz, ↓dXf, ↓dIsX, ↓dBinS, ↓w_nest, ↓w_dnSeq, ↓w_dnT, ↓w_dnFrz, dnCons, dnNil, hideR, hid_val, hid_own, hid_par, hid_no, oL_none, oL_some, ltO_none, ltO_some, hidL_cons, hidL_nil, dgSq, ↓dLc2, lcL2_f, ↓dChain3, ↓w_seqP, ↓w_retT, ↓w_callT, ↓dIfF, ↓w_nestL, ↓w_dnSeq2, dnLc, ↓w_dnPar2, ↓w_dnFC, lcN_f, $xs,*])
def natD (n : Nat) : D := .int (n : Int)
def kD (k : Ky.Key1) : D := .lst (k.map natD)
def zers (n : Nat) : List Nat := List.replicate n 0
theorem flat_one {α : Type} (x : α) : ∀ n : Nat, (List.replicate n [x]).flatten = List.replicate n x
  | 0 => rfl
  | n + 1 => by rw [List.replicate_succ, List.replicate_succ, List.flatten_cons, flat_one x n]; rfl
theorem mul_zers {n : Nat} (h : n ≤ 1000) : D.mul (.lst [.int 0]) (.int (n : Int)) = some (.lst ((zers n).map natD)) := by
  have e : (zers n).map natD = (List.replicate (n : Int).toNat [D.int 0]).flatten := by
    rw [Int.toNat_natCast, flat_one, zers, List.map_replicate]; rfl
  rw [e]
  unfold D.mul
  dsimp only
  rw [if_pos ⟨by omega, by omega, by rw [Int.toNat_natCast]; exact Nat.le_trans (by simp; omega : _ ≤ 1000) (by decide)⟩]
theorem w_mul0 {n : Nat} (h : n ≤ 1000) {ρ : List Sl} {q : D → List Sl → Prop} {er : ER} : dMulF (dV (dLst (dCons (dC (.int 0)) dNil))) (dC (.int (n : Int))) ρ q er = q (.lst ((zers n).map natD)) ρ := by
  have e : (zers n).map natD = (List.replicate (n : Int).toNat [D.int 0]).flatten := by
    rw [Int.toNat_natCast, flat_one, zers, List.map_replicate]; rfl
  rw [e]
  have z1 : 0 + 1 ≤ sizeLine := by decide
  unfold dMulF
  simp! only [z1]
  exact propext ⟨fun z => z.2, fun z => ⟨⟨by omega, by omega, by rw [Int.toNat_natCast]; exact Nat.le_trans (by omega : _ ≤ 1000) (by decide)⟩, z⟩⟩
theorem w_mul61 {ρ : List Sl} {q : D → List Sl → Prop} {er : ER} : dMulF (dV (dLst (dCons (dC (.int 0)) dNil))) (dC (.int 61)) ρ q er = q (.lst ((zers 61).map natD)) ρ := w_mul0 (n := 61) (by decide)
theorem lev_get {ls : List Int} {m : Int} (h : Lev ls m) : (∀ i (hi : i < ls.length), 0 ≤ ls[i] ∧ ls[i] ≤ (if i = 0 then 0 else ls.getD (i - 1) 0 + 1)) ∧ m = (if ls.length = 0 then 0 else ls.getD (ls.length - 1) 0 + 1) := by
  induction h with
  | nil => exact ⟨fun i hi => by simp at hi, rfl⟩
  | @snoc ls m l h h0 h1 ih =>
    obtain ⟨i1, i2⟩ := ih
    refine ⟨fun i hi => ?_, ?_⟩
    · rw [List.length_append, List.length_singleton] at hi
      by_cases z : i < ls.length
      · rw [List.getElem_append_left z]
        have := i1 i z
        refine ⟨this.1, Int.le_trans this.2 (Int.le_of_eq ?_)⟩
        split
        · rfl
        · simp only [List.getD, List.getElem?_append_left (show i - 1 < ls.length by omega)]
      · have z : i = ls.length := by omega
        subst z
        rw [List.getElem_concat_length rfl]
        refine ⟨h0, Int.le_trans h1 (Int.le_of_eq (i2.trans ?_))⟩
        split
        · rfl
        · simp only [List.getD, List.getElem?_append_left (show ls.length - 1 < ls.length by omega)]
    · rw [if_neg (by simp)]
      simp [List.getD]
theorem nat_ix {C : List Nat} {l : Nat} (h : l < C.length) : D.ix (.lst (C.map natD)) (.int (l : Int)) = some (natD (C.getD l 0)) := by
  rw [ixn rfl (by simpa using h), List.getElem?_map, List.getElem?_eq_getElem h]
  simp [List.getD, h]
theorem nat_set {C : List Nat} {l v : Nat} : (C.map natD).set l (natD v) = (C.set l v).map natD := by rw [List.map_set]
def labT (K : PySem.W.Frag) (A : Ads) : DS := (dSeq (dAsg (dSl (dVar 3) dNoP (dPart (dVar 7))) (dgName 3)) (dSeq (dDrop (dAppend 2 (dOp D.add (dIf (dTest (dOp D.ne0 (dVar 3) (dV (dLst dNil)))) (dOp D.ix (dVar 3) (dUn D.neg (dC (.int 1)))) (dV (dLst dNil))) (dVar 9)))) (dAsg (dOp D.add (dVar 3) (dV (dLst (dCons (dOp D.ix (dVar 2) (dUn D.neg (dC (.int 1)))) dNil)))) (dgName 3))))
def labU (K : PySem.W.Frag) (A : Ads) : DS := (dSeq (dIfS (dTest (dOp D.eq (dCall (noEr (dsp_p_law_draw K A)) (dN 2 (dCons (dVar 0) (dCons (dC (.int 8)) dNil)))) (dC (.int 0)))) (dAsg (dV (dLst (dCons (dOp D.add (dOp D.mul (dC (.int 2)) (dVar 8)) (dC (.int 1))) (dCons (dOp D.add (dOp D.mul (dC (.int 2)) (dCall (noEr (dsp_p_law_draw K A)) (dN 2 (dCons (dVar 0) (dCons (dC (.int 128)) dNil))))) (dC (.int 1))) (dCons (dC (.int 255)) (dCons (dOp D.add (dOp D.mul (dC (.int 2)) (dCall (noEr (dsp_p_law_draw K A)) (dN 2 (dCons (dVar 0) (dCons (dC (.int 127)) dNil))))) (dC (.int 2))) dNil)))))) (dgName 9)) dNext) (labT K A))
theorem labB (K : PySem.W.Frag) (A : Ads) : body_p_law_labels K A = (dSeq (dPar3V 2 3 4 (dLst dNil) (dV (dLst dNil)) (dMulF (dV (dLst (dCons (dC (.int 0)) dNil))) (dC (.int 61)))) (dSeq (dFor (diAny (dVar 1)) (dgTup 3 (dgCons (dgName 5) (dgCons (dgName 6) (dgCons (dgName 7) dgNil)))) (dSeq (dOwn (dAddF (dSl (dVar 4) dNoP (dPart (dOp D.add (dVar 7) (dC (.int 1))))) (dOp D.mul (dV (dLst (dCons (dC (.int 0)) dNil))) (dOp D.sub (dC (.int 60)) (dVar 7)))) 4) (dSeq (dAsg (dOp D.ix (dVar 4) (dVar 7)) (dgName 8)) (dSeq (dSetIx 4 (dVar 7) (dOp D.add (dVar 8) (dC (.int 1)))) (dSeq (dAsg (dV (dLst (dCons (dOp D.add (dOp D.mul (dC (.int 2)) (dVar 8)) (dC (.int 2))) dNil))) (dgName 9)) (dSeq (dIfS (dTest (dOp D.eq (dCall (noEr (dsp_p_law_draw K A)) (dN 2 (dCons (dVar 0) (dCons (dC (.int 3)) dNil)))) (dC (.int 0)))) (dAsg (dV (dLst (dCons (dOp D.add (dOp D.mul (dC (.int 2)) (dVar 8)) (dC (.int 1))) (dCons (dOp D.add (dOp D.mul (dC (.int 2)) (dCall (noEr (dsp_p_law_draw K A)) (dN 2 (dCons (dVar 0) (dCons (dC (.int 127)) dNil))))) (dC (.int 2))) dNil)))) (dgName 9)) dNext) (labU K A))))))) (dFrz 2 (dRet (dVar 2))))) := rfl
theorem sz_of {n : Nat} (h : n ≤ 10000) : n ≤ sizeLine := Nat.le_trans h (by decide)
theorem upA_ix {ln : List Ky.Key1} {l : Nat} (hl : l ≤ ln.length) (h : 0 < l) : D.ix (.lst ((ln.take l).map kD)) (.int (-1)) = some (kD (Ky.upA ln l)) := by
  have e : ((ln.take l).map kD).length = l := by simp; omega
  show (ixN ((ln.take l).map kD).length (-1)).bind (fun j => ((ln.take l).map kD)[j]?) = _
  rw [e]
  have : ixN l (-1) = some (l - 1) := by
    unfold ixN
    rw [if_neg (by omega), if_pos (by omega)]
    congr 1; omega
  rw [this]
  show ((ln.take l).map kD)[l - 1]? = _
  rw [List.getElem?_map, List.getElem?_take, if_pos (by omega), List.getElem?_eq_getElem (by omega)]
  unfold Ky.upA
  rw [if_neg (by omega)]
  simp [List.getD, List.getElem?_eq_getElem (show l - 1 < ln.length by omega)]
section
variable {K : PySem.W.Frag} (A : Ads)
theorem labT_ok {w : D} {rs : D} {fs ln : List Ky.Key1} {C : D} {l : Nat} (hl : l ≤ ln.length) (h60 : l ≤ 60) (hf : fs.length ≤ 60) (hk : ∀ f ∈ ln, f.length ≤ 300) {lb : Ky.Key1} (hlb : lb.length ≤ 4) {s5 s6 s8 : Sl} (p5 : s5.isP = false) (p6 : s6.isP = false) (p8 : s8.isP = false) {nx : Ro → Prop} {rt : T → Ro → Prop} {rf : D → Ro → Prop} {bk ct : Ro → Prop} {er : ER}
    (k : nx [.par w, .val rs, .own (.lst ((fs ++ [Ky.upA ln l ++ lb]).map kD)), .val (.lst ((ln.take l ++ [Ky.upA ln l ++ lb]).map kD)), .own C, s5, s6, .val (.int (l : Int)), s8, .val (kD lb)]) :
    labT K A ⟨nx, rt, rf, bk, ct, er⟩ [.par w, .val rs, .own (.lst (fs.map kD)), .val (.lst (ln.map kD)), .own C, s5, s6, .val (.int (l : Int)), s8, .val (kD lb)] := by
  unfold labT
  have c1 : D.cut (.lst (ln.map kD)) none (some (l : Int)) = some (.lst ((ln.take l).map kD)) := by rw [cutL_lo, List.map_take]
  have z1 : 0 + 1 ≤ sizeLine := by decide
  have z0 : 0 ≤ sizeLine := by decide
  have hfz : (fs.map kD).length < sizeLine := by rw [List.length_map]; exact Nat.lt_of_le_of_lt hf (by decide)
  have eK : ∀ k : Ky.Key1, kD k = .lst (k.map natD) := fun _ => rfl
  have hup : (Ky.upA ln l).length ≤ 300 := by
    unfold Ky.upA
    split
    · simp
    · rename_i h
      simp only [List.getD, List.getElem?_eq_getElem (show l - 1 < ln.length by omega), Option.getD_some]
      exact hk _ (List.getElem_mem _)
  have ad : D.add (kD (Ky.upA ln l)) (kD lb) = some (kD (Ky.upA ln l ++ lb)) := by
    rw [eK, eK, D_addL (by rw [List.length_map, List.length_map]; exact sz_of (by omega)), ← List.map_append]; rfl
  have ix2 : D.ix (.lst (fs.map kD ++ [kD (Ky.upA ln l ++ lb)])) (.int (-1)) = some (kD (Ky.upA ln l ++ lb)) := by
    show (ixN (fs.map kD ++ [kD (Ky.upA ln l ++ lb)]).length (-1)).bind (fun j => (fs.map kD ++ [kD (Ky.upA ln l ++ lb)])[j]?) = _
    have : ixN (fs.map kD ++ [kD (Ky.upA ln l ++ lb)]).length (-1) = some (fs.map kD).length := by
      unfold ixN
      rw [List.length_append, if_neg (by omega), if_pos (by simp; omega)]
      congr 1; simp; omega
    rw [this]
    show (fs.map kD ++ [kD (Ky.upA ln l ++ lb)])[(fs.map kD).length]? = _
    rw [List.getElem?_append_right (Nat.le_refl _)]; simp
  have ad2 : D.add (.lst ((ln.take l).map kD)) (.lst [kD (Ky.upA ln l ++ lb)]) = some (.lst ((ln.take l ++ [Ky.upA ln l ++ lb]).map kD)) := by
    rw [D_addL (by rw [List.length_map, List.length_take]; exact sz_of (by simp; omega)), List.map_append]; rfl
  rw [List.map_append] at k
  by_cases h0 : l = 0
  · subst h0
    have e0 : kD (Ky.upA ln 0) = .lst [] := rfl
    rw [e0] at ad
    have n0 : D.ne0 (.lst ((ln.take 0).map kD)) (.lst []) = some (.bl false) := rfl
    simp! only [c1, n0, ad, hfz, ix2, ad2, z1, z0, p5, p6, p8]
    exact k
  · have n0 : D.ne0 (.lst ((ln.take l).map kD)) (.lst []) = some (.bl true) := by
      cases e : (ln.take l).map kD with
      | nil =>
        have := congrArg List.length e
        rw [List.length_map, List.length_take, List.length_nil, Nat.min_eq_left hl] at this
        omega
      | cons => rfl
    have u := upA_ix hl (by omega : 0 < l)
    simp! only [c1, n0, u, ad, hfz, ix2, ad2, z1, z0, p5, p6, p8]
    exact k
end
set_option maxHeartbeats 2000000
theorem two_x (x : Int) : D.mul (.int 2) (.int x) = some (.int (2 * x)) := D_mul (.inl ⟨by decide, by decide⟩)
theorem kD1 (r : Nat) : D.lst [.int (2 * (r : Int) + 2)] = kD [2 * r + 2] := by unfold kD natD; simp
theorem kD2 (r x : Nat) : D.lst [.int (2 * (r : Int) + 1), .int (2 * (x : Int) + 2)] = kD [2 * r + 1, 2 * x + 2] := by unfold kD natD; simp
theorem kD4 (r y x : Nat) : D.lst [.int (2 * (r : Int) + 1), .int (2 * (y : Int) + 1), .int 255, .int (2 * (x : Int) + 2)] = kD [2 * r + 1, 2 * y + 1, 255, 2 * x + 2] := by unfold kD natD; simp
section
variable {K : PySem.W.Frag} (A : Ads)
theorem labU_ok {n : Nat} (hn : n < 900000000) {w : D} (hw : Well n w) {rs : D} {fs ln : List Ky.Key1} {C : D} {l r : Nat} (hr : r ≤ 60) (hl : l ≤ ln.length) (h60 : l ≤ 60) (hf : fs.length ≤ 60) (hk : ∀ f ∈ ln, f.length ≤ 300) {lb : Ky.Key1} (L : Ky.Lb r lb) (hlb : lb.length ≤ 4) {s5 s6 : Sl} (p5 : s5.isP = false) (p6 : s6.isP = false) {nx : Ro → Prop} {rt : T → Ro → Prop} {rf : D → Ro → Prop} {bk ct : Ro → Prop} {er : ER}
    (k : ∀ (w' : D) (lb : Ky.Key1) (s8 s9 : Sl), (s8.isP = false ∧ s9.isP = false) → Well (n + 3) w' → Ky.Lb r lb → lb.length ≤ 4 → nx [.par w', .val rs, .own (.lst ((fs ++ [Ky.upA ln l ++ lb]).map kD)), .val (.lst ((ln.take l ++ [Ky.upA ln l ++ lb]).map kD)), .own C, s5, s6, .val (.int (l : Int)), s8, s9]) :
    labU K A ⟨nx, rt, rf, bk, ct, er⟩ [.par w, .val rs, .own (.lst (fs.map kD)), .val (.lst (ln.map kD)), .own C, s5, s6, .val (.int (l : Int)), .val (.int (r : Int)), .val (kD lb)] := by
  unfold labU
  have z4 : 0 + 1 + 1 + 1 + 1 ≤ sizeLine := by decide
  simp! only [idd_eq]
  refine draw_ok A (by omega) hw (by decide) (by decide) fun x w1 x0 x1 hw1 => ?_
  simp! only [idd_eq]
  by_cases h : x = 0
  · subst h
    have e0 : ((0 : Int) == 0) = true := rfl
    simp! only [e0, two_x]
    refine draw_ok A (by omega) hw1 (by decide) (by decide) fun y w2 y0 y1 hw2 => ?_
    simp! only [two_x]
    refine draw_ok A (by omega) hw2 (by decide) (by decide) fun z w3 z0 z1 hw3 => ?_
    obtain ⟨y, rfl⟩ := Int.eq_ofNat_of_zero_le y0
    obtain ⟨z, rfl⟩ := Int.eq_ofNat_of_zero_le z0
    simp! only [two_x, z4, kD4]
    exact labT_ok A hl h60 hf hk (by simp) p5 p6 rfl (k w3 _ _ _ ⟨rfl, rfl⟩ hw3 (Ky.lb4 (by omega) (by omega) (by omega)) (by simp))
  · have e0 : (x == 0) = false := beq_eq_false_iff_ne.mpr h
    simp! only [e0]
    exact labT_ok A hl h60 hf hk hlb p5 p6 rfl (k w1 _ _ _ ⟨rfl, rfl⟩ (hw1.mono (by omega)) L hlb)
theorem labels_ok {rs : List Row} {m : Int} (L : Lev (rs.map (·.2.2)) m) (hr : rs.length ≤ 60) {n : Nat} (hn : n < 800000000) {w : D} (hw : Well n w) {q : D → List D → Prop} {er : Addr → List (Str × D) → List D → Prop}
    (k : ∀ (fs : List Ky.Key1) (w' : D), fs.length = rs.length → fs.Nodup → (∀ f ∈ fs, Ky.Val f) → (∀ f ∈ fs, Ky.cutK f = [] ∨ Ky.cutK f ∈ fs) → (∀ f ∈ fs, f.length ≤ 240) → Well (n + 300) w' → q (.lst (fs.map kD)) [w']) :
    dsp_p_law_labels K A [.par w, .val (.lst (rs.map rowD))] q er := by
  unfold dsp_p_law_labels
  rw [labB]
  have z0 : 0 ≤ sizeLine := by decide
  have z1 : 0 + 1 ≤ sizeLine := by decide
  have z2 : 0 + 1 + 1 ≤ sizeLine := by decide
  simp! only [↓w_par3V, ↓w_mul61, z0]
  refine forL_inv (I := fun i ρ => ∃ (w' : D) (fs ln : List Ky.Key1) (C : List Nat) (s5 s6 s7 s8 s9 : Sl), ρ = [.par w', .val (.lst (rs.map rowD)), .own (.lst (fs.map kD)), .val (.lst (ln.map kD)), .own (.lst (C.map natD)), s5, s6, s7, s8, s9] ∧ (s5.isP = false ∧ s6.isP = false ∧ s7.isP = false ∧ s8.isP = false ∧ s9.isP = false) ∧ Well (n + 5 * i) w' ∧ Ky.LI fs ln C ∧ fs.length = i ∧ ln.length ≤ i ∧ ((ln.length : Int) = if i = 0 then 0 else (rs.map (·.2.2)).getD (i - 1) 0 + 1) ∧ ∀ f ∈ fs, f.length ≤ 4 * fs.length)
    ⟨w, [], [], zers 61, _, _, _, _, _, rfl, ⟨rfl, rfl, rfl, rfl, rfl⟩, hw.mono (by omega), Ky.LI.zero, rfl, Nat.le_refl _, rfl, fun f hf => by cases hf⟩ ?_ ?_
  · rintro i d ρ nx hd ⟨w', fs, ln, C, s5, s6, s7, s8, s9, rfl, ⟨p5, p6, p7, p8, p9⟩, hw', I, hf, hli, hm, hs⟩ hnx
    have hi : i < rs.length := by have := (List.getElem?_eq_some_iff.mp hd).1; simpa using this
    rw [List.getElem?_map, List.getElem?_eq_getElem hi] at hd
    cases hd
    obtain ⟨l0, l1⟩ := (lev_get L).1 i (by simpa using hi)
    rw [List.getElem_map, ← hm] at l1
    rw [List.getElem_map] at l0
    have hnl : (if i + 1 = 0 then (0 : Int) else (rs.map (·.2.2)).getD (i + 1 - 1) 0 + 1) = rs[i].2.2 + 1 := by
      rw [if_neg (by omega), Nat.add_sub_cancel]
      simp [List.getD, hi]
    rw [hnl] at hnx
    clear hnl
    generalize rs[i] = r at l0 l1 hnx
    obtain ⟨nm, v, lv⟩ := r
    simp only at l0 l1 hnx
    obtain ⟨l, rfl⟩ := Int.eq_ofNat_of_zero_le l0
    have hl : l ≤ ln.length := by omega
    have h60 : l ≤ 60 := by omega
    have cb := I.cb l
    have cl := I.len
    have h1 : D.cut (.lst (C.map natD)) none (some ((l : Int) + 1)) = some (.lst ((C.take (l + 1)).map natD)) := by
      rw [show ((l : Int) + 1) = ((l + 1 : Nat) : Int) by omega, cutL_lo, List.map_take]
    have h2 : D.mul (.lst [.int 0]) (.int (60 - (l : Int))) = some (.lst ((zers (60 - l)).map natD)) := by
      rw [show (60 - (l : Int)) = ((60 - l : Nat) : Int) by omega]; exact mul_zers (by omega)
    obtain ⟨cw, hcw⟩ : ∃ cw, cw = C.take (l + 1) ++ zers (60 - l) := ⟨_, rfl⟩
    have ecl : cw.length = 61 := by rw [hcw, List.length_append, List.length_take, zers, List.length_replicate]; omega
    have hap : (C.take (l + 1)).map natD ++ (zers (60 - l)).map natD = cw.map natD := by rw [hcw, List.map_append]
    have hsz : ((C.take (l + 1)).map natD).length + ((zers (60 - l)).map natD).length ≤ sizeLine := by
      rw [List.length_map, List.length_map, List.length_take, zers, List.length_replicate]; exact sz_of (by omega)
    have h3 : D.ix (.lst (cw.map natD)) (.int (l : Int)) = some (.int ((C.getD l 0 : Nat) : Int)) := by
      rw [nat_ix (by omega)]
      have : cw.getD l 0 = C.getD l 0 := by
        rw [hcw]
        simp only [List.getD]
        rw [List.getElem?_append_left (by rw [List.length_take]; omega), List.getElem?_take, if_pos (by omega)]
      rw [this]; rfl
    have h4 : ixN (cw.map natD).length (l : Int) = some l := by
      rw [List.length_map, ecl]
      unfold ixN
      rw [if_pos (by omega), if_pos (by omega)]; rfl
    have h5 : (cw.map natD).set l (.int (((C.getD l 0 : Nat) : Int) + 1)) = (Ky.cnt2 C l).map natD := by
      unfold Ky.cnt2
      rw [← zers, ← hcw, ← nat_set]; rfl
    generalize hrk : C.getD l 0 = r at h3 h5 cb
    have hk : ∀ f ∈ ln, f.length ≤ 300 := fun f m => by have := hs f (I.lin f m); omega
    have fin : ∀ (w' : D) (lb : Ky.Key1) (s8 s9 : Sl), (s8.isP = false ∧ s9.isP = false) → Well (n + 5 * (i + 1)) w' → Ky.Lb r lb → lb.length ≤ 4 → nx [.par w', .val (.lst (rs.map rowD)), .own (.lst ((fs ++ [Ky.upA ln l ++ lb]).map kD)), .val (.lst ((ln.take l ++ [Ky.upA ln l ++ lb]).map kD)), .own (.lst ((Ky.cnt2 C l).map natD)), .val (nmD nm), .val (.int v), .val (.int (l : Int)), s8, s9] := fun w' lb s8 s9 ps hw' Lb hlb => by
      refine hnx _ ⟨w', _, _, _, _, _, _, _, _, rfl, ⟨rfl, rfl, rfl, ps.1, ps.2⟩, hw', I.step hl h60 (hrk ▸ Lb), ?_, ?_, ?_, fun f hf => ?_⟩
      · rw [List.length_append, List.length_singleton, hf]
      · rw [List.length_append, List.length_take, List.length_singleton]; omega
      · rw [List.length_append, List.length_take, List.length_singleton, Nat.min_eq_left hl]; omega
      · rw [List.length_append, List.length_singleton]
        rcases List.mem_append.mp hf with z | z
        · have := hs f z; omega
        · rw [List.mem_singleton.mp z, List.length_append]
          rcases I.up hl with e | e
          · rw [e]; simp; omega
          · have := hs _ e.1; omega
    simp! only [↓dAddF, rowD, p5, p6, p7, p8, p9, h1, h2, hap, hsz, h3, h4, h5, two_x, z1, kD1, Nat.reduceLT]
    refine draw_ok A (by omega) hw' (by decide) (by decide) fun x w1 x0 x1 hw1 => ?_
    simp! only [idd_eq]
    by_cases h : x = 0
    · subst h
      have e0 : ((0 : Int) == 0) = true := rfl
      simp! only [e0, two_x]
      refine draw_ok A (by omega) hw1 (by decide) (by decide) fun y w2 y0 y1 hw2 => ?_
      obtain ⟨y, rfl⟩ := Int.eq_ofNat_of_zero_le y0
      simp! only [two_x, z2, kD2]
      exact labU_ok A (by omega) hw2 (by omega) hl h60 (by omega) hk (Ky.lb2 (by omega) (by omega)) (by simp) rfl rfl fun w3 lb s8 s9 ps hw3 Lb hlb => (by rw [h5]; exact fin w3 lb s8 s9 ps (hw3.mono (by omega)) Lb hlb)
    · have e0 : (x == 0) = false := beq_eq_false_iff_ne.mpr h
      simp! only [e0]
      exact labU_ok A (by omega) hw1 (by omega) hl h60 (by omega) hk (Ky.lb1 (by omega)) (by simp) rfl rfl fun w3 lb s8 s9 ps hw3 Lb hlb => (by rw [h5]; exact fin w3 lb s8 s9 ps (hw3.mono (by omega)) Lb hlb)
  · rintro ρ ⟨w', fs, ln, C, s5, s6, s7, s8, s9, rfl, _, hw', I, hf, _, _, hs⟩
    rw [List.length_map] at hf hw'
    simp! only [idd_eq]
    exact k fs w' hf I.nd I.key I.par (fun f m => by have := hs f m; omega) (hw'.mono (by omega))
end
def Od (x : UInt8) : Prop := x.toNat % 2 = 1
structure Lb (h : List UInt8) (c : UInt8) : Prop where
  odd : ∀ x ∈ h, Od x
  ev : c.toNat % 2 = 0
  pos : 0 < c.toNat
theorem u8_lt {a b : UInt8} : a < b ↔ a.toNat < b.toNat := UInt8.lt_iff_toNat_lt
theorem lt_cons {x y : UInt8} {a b : List UInt8} : x :: a < y :: b ↔ x.toNat < y.toNat ∨ (x = y ∧ a < b) := by
  rw [List.cons_lt_cons_iff, u8_lt]
theorem Lb.tail {x : UInt8} {h : List UInt8} {c : UInt8} (l : Lb (x :: h) c) : Lb h c := ⟨fun y hy => l.odd y (List.mem_cons_of_mem _ hy), l.ev, l.pos⟩
abbrev LB := List UInt8
theorem app_lt : ∀ (h a b : LB), h ++ a < h ++ b ↔ a < b
  | [], a, b => Iff.rfl
  | x :: h, a, b => by
    rw [List.cons_append, List.cons_append, lt_cons, app_lt h a b]
    exact ⟨fun q => q.elim (fun q => absurd q (Nat.lt_irrefl _)) fun q => q.2, fun q => .inr ⟨rfl, q⟩⟩
theorem lt_trans {a b c : LB} (h : a < b) (g : b < c) : a < c := List.lt_trans h g
theorem lt_asymm {a b : LB} (h : a < b) : ¬ b < a := List.lt_asymm h
theorem lt_irr (a : LB) : ¬ a < a := List.lt_irrefl a
theorem pre_lt : ∀ {g t a b : LB}, g.length = t.length → (g ++ a < t ++ b ↔ g < t ∨ (g = t ∧ a < b))
  | [], [], a, b, _ => by simp
  | x :: g, y :: t, a, b, h => by
    rw [List.cons_append, List.cons_append, lt_cons, lt_cons, pre_lt (g := g) (t := t) (by simpa using h)]
    constructor
    · rintro (h | ⟨h, h2 | ⟨h2, h3⟩⟩)
      · exact .inl (.inl h)
      · exact .inl (.inr ⟨h, h2⟩)
      · exact .inr ⟨by rw [h, h2], h3⟩
    · rintro ((h | ⟨h, h2⟩) | ⟨h, h2⟩)
      · exact .inl h
      · exact .inr ⟨h, .inl h2⟩
      · cases h; exact .inr ⟨rfl, .inr ⟨rfl, h2⟩⟩
theorem one_lt {a b : UInt8} : [a] < [b] ↔ a.toNat < b.toNat := by
  rw [lt_cons]
  exact ⟨fun h => h.elim id fun h => absurd h.2 (lt_irr _), fun h => .inl h⟩
def odds : List UInt8 := (List.range 128).map fun i => UInt8.ofNat (2 * i + 1)
def evens : List UInt8 := (List.range 127).map fun i => UInt8.ofNat (2 * i + 2)
theorem onat {n : Nat} (h : n < 256) : (UInt8.ofNat n).toNat = n := by rw [UInt8.toNat_ofNat']; exact Nat.mod_eq_of_lt h
theorem mem_odds {x : UInt8} : x ∈ odds ↔ Od x := by
  unfold odds Od
  rw [List.mem_map]
  constructor
  · rintro ⟨i, hi, rfl⟩
    have := List.mem_range.mp hi
    rw [onat (by omega)]; omega
  · intro h
    have := UInt8.toNat_lt x
    exact ⟨x.toNat / 2, List.mem_range.mpr (by omega), UInt8.toNat_inj.mp (by rw [onat (by omega)]; omega)⟩
theorem pw_range (n : Nat) (f : Nat → Nat) (hf : ∀ i j, i < j → f i < f j) (hn : ∀ i, i < n → f i < 256) : ((List.range n).map fun i => UInt8.ofNat (f i)).Pairwise fun a b => a.toNat < b.toNat := by
  rw [List.pairwise_map]
  refine List.Pairwise.imp_of_mem (R := fun a b => a < b) (fun {a b} ha hb h => ?_) List.pairwise_lt_range
  have := List.mem_range.mp ha; have := List.mem_range.mp hb
  rw [onat (hn _ (by omega)), onat (hn _ (by omega))]
  exact hf _ _ h
theorem pw_odds : odds.Pairwise fun a b => a.toNat < b.toNat := pw_range 128 (fun i => 2 * i + 1) (fun i j h => by omega) fun i h => by omega
theorem pw_evens : evens.Pairwise fun a b => a.toNat < b.toNat := pw_range 127 (fun i => 2 * i + 2) (fun i j h => by omega) fun i h => by omega
def kids (h : LB) : List LB := odds.map fun x => h ++ [x]
def labs (h : LB) : List LB := evens.map fun x => h ++ [x]
def allOdd : Nat → List LB
  | 0 => [[]]
  | k + 1 => (allOdd k).flatMap kids
theorem mem_allOdd : ∀ {k : Nat} {h : LB}, h ∈ allOdd k ↔ (∀ x ∈ h, Od x) ∧ h.length = k
  | 0, h => by
    show h ∈ [[]] ↔ _
    rw [List.mem_singleton]
    constructor
    · rintro rfl; exact ⟨fun x hx => (by cases hx), rfl⟩
    · rintro ⟨_, h⟩; exact List.length_eq_zero_iff.mp h
  | k + 1, h => by
    show h ∈ (allOdd k).flatMap kids ↔ _
    rw [List.mem_flatMap]
    constructor
    · rintro ⟨g, hg, hh⟩
      obtain ⟨x, hx, rfl⟩ := List.mem_map.mp hh
      obtain ⟨g1, g2⟩ := mem_allOdd.mp hg
      refine ⟨fun y hy => ?_, by simp [g2]⟩
      rcases List.mem_append.mp hy with hy | hy
      · exact g1 y hy
      · rw [List.mem_singleton.mp hy]; exact mem_odds.mp hx
    · rintro ⟨h1, h2⟩
      have hne : h ≠ [] := by rintro rfl; cases h2
      refine ⟨h.dropLast, mem_allOdd.mpr ⟨fun x hx => h1 x ((List.dropLast_sublist h).subset hx), by simp [h2]⟩, List.mem_map.mpr ⟨h.getLast hne, mem_odds.mpr (h1 _ (List.getLast_mem hne)), List.dropLast_concat_getLast hne⟩⟩
def allLab (k : Nat) : List LB := (allOdd k).flatMap labs
theorem pw_snoc (h : LB) {xs : List UInt8} (hx : xs.Pairwise fun a b => a.toNat < b.toNat) : (xs.map fun x => h ++ [x]).Pairwise (· < ·) := by
  rw [List.pairwise_map]
  exact hx.imp fun {a b} q => (app_lt _ _ _).mpr (one_lt.mpr q)
theorem pw_flat {ls : List LB} {xs : List UInt8} {k : Nat} (h1 : ls.Pairwise (· < ·)) (h2 : ∀ h ∈ ls, h.length = k) (hx : xs.Pairwise fun a b => a.toNat < b.toNat) : (ls.flatMap fun h => xs.map fun x => h ++ [x]).Pairwise (· < ·) := by
  rw [List.pairwise_flatMap]
  refine ⟨fun h _ => pw_snoc h hx, h1.imp_of_mem fun {a b} ha hb q y hy z hz => ?_⟩
  obtain ⟨u, _, rfl⟩ := List.mem_map.mp hy
  obtain ⟨v, _, rfl⟩ := List.mem_map.mp hz
  exact (pre_lt ((h2 a ha).trans (h2 b hb).symm)).mpr (.inl q)
theorem pw_allOdd : ∀ k, (allOdd k).Pairwise (· < ·)
  | 0 => List.pairwise_singleton _ _
  | k + 1 => pw_flat (k := k) (pw_allOdd k) (fun h hh => (mem_allOdd.mp hh).2) pw_odds
theorem pw_allLab (k : Nat) : (allLab k).Pairwise (· < ·) := pw_flat (k := k) (pw_allOdd k) (fun h hh => (mem_allOdd.mp hh).2) pw_evens
abbrev Bd := Option LB
def abv (lo : Bd) (y : LB) : Bool := match lo with
  | none => true
  | some a => decide (a < y)
def bel (hi : Bd) (y : LB) : Bool := match hi with
  | none => true
  | some a => decide (y < a)
def FL (lo hi : Bd) (k : Nat) : List LB := ((allLab k).filter (abv lo)).filter (bel hi)
def FF (lo hi : Bd) : Nat → List LB
  | 0 => []
  | k + 1 => FF lo hi k ++ FL lo hi k
theorem FF_add {lo hi : Bd} {k : Nat} : ∀ m, ∃ t, FF lo hi (k + m) = FF lo hi k ++ t
  | 0 => ⟨[], by simp⟩
  | m + 1 => by
    obtain ⟨t, h⟩ := FF_add (lo := lo) (hi := hi) (k := k) m
    exact ⟨t ++ FL lo hi (k + m), by rw [← List.append_assoc, ← h]; rfl⟩
theorem FF_take {lo hi : Bd} {k j n : Nat} (h1 : n ≤ (FF lo hi k).length) (h2 : n ≤ (FF lo hi j).length) : (FF lo hi k).take n = (FF lo hi j).take n := by
  have key : ∀ {k j : Nat}, k ≤ j → n ≤ (FF lo hi k).length → (FF lo hi k).take n = (FF lo hi j).take n := fun {k j} hkj h => by
    obtain ⟨m, rfl⟩ := Nat.exists_eq_add_of_le hkj
    obtain ⟨t, e⟩ := FF_add (lo := lo) (hi := hi) (k := k) m
    rw [e, List.take_append_of_le_length h]
  rcases Nat.le_total k j with h | h
  · exact key h h1
  · exact (key h h2).symm
def Nx (k : Nat) (p : LB → Bool) (x : Option LB) : Prop := match x with
  | none => ∀ y ∈ allLab k, p y = false
  | some a => a ∈ allLab k ∧ p a = true ∧ ∀ y ∈ allLab k, p y = true → ¬ y < a
theorem flt_cons {p : LB → Bool} (hp : ∀ a b, a < b → p a = true → p b = true) {x : LB} : ∀ {l : List LB}, l.Pairwise (· < ·) → x ∈ l → p x = true → (∀ y ∈ l, p y = true → ¬ y < x) → l.filter p = x :: l.filter fun y => decide (x < y)
  | [], _, hx, _, _ => by cases hx
  | y :: l, hl, hx, hpx, hm => by
    rw [List.pairwise_cons] at hl
    rcases List.mem_cons.mp hx with rfl | hx
    · rw [List.filter_cons_of_pos hpx, List.filter_cons_of_neg (by rw [decide_eq_true_eq]; exact lt_irr _)]
      congr 1
      rw [List.filter_eq_self.mpr fun z hz => hp _ _ (hl.1 z hz) hpx, List.filter_eq_self.mpr fun z hz => decide_eq_true (hl.1 z hz)]
    · have hyx := hl.1 x hx
      have hpy : ¬ p y = true := fun h => hm y List.mem_cons_self h hyx
      rw [List.filter_cons_of_neg hpy, List.filter_cons_of_neg (by rw [decide_eq_true_eq]; exact lt_asymm hyx)]
      exact flt_cons hp hl.2 hx hpx fun z hz => hm z (List.mem_cons_of_mem _ hz)
theorem abv_up {lo : Bd} : ∀ a b, a < b → abv lo a = true → abv lo b = true := fun a b h q => by
  cases lo with
  | none => rfl
  | some z => exact decide_eq_true (lt_trans (of_decide_eq_true q) h)
theorem Nx.rest {k : Nat} {lo : Bd} {x : LB} (h : Nx k (abv lo) (some x)) : (allLab k).filter (abv lo) = x :: (allLab k).filter (abv (some x)) := flt_cons abv_up (pw_allLab k) h.1 h.2.1 h.2.2
theorem Nx.done {k : Nat} {lo : Bd} (h : Nx k (abv lo) none) : (allLab k).filter (abv lo) = [] := List.filter_eq_nil_iff.mpr fun y hy => by rw [h y hy]; simp
def toI (l : List UInt8) : List Int := l.map fun x => ((x.toNat : Nat) : Int)
def IsL (a : LB) : Prop := ∃ h c, a = h ++ [c] ∧ Lb h c
theorem IsL.pos {a : LB} (l : IsL a) : ∀ x ∈ a, 0 < x.toNat := by
  obtain ⟨h, c, rfl, l⟩ := l
  intro x hx
  rcases List.mem_append.mp hx with hx | hx
  · have := l.odd x hx
    unfold Od at this
    omega
  · rw [List.mem_singleton.mp hx]; exact l.pos
def lst (lo : Bd) (h : LB) : Nat := match lo with
  | none => 0
  | some a => if a.take h.length = h then (a.getD h.length 0).toNat else 0
def lim (hi : Bd) (h : LB) : Nat := match hi with
  | none => 255
  | some a => if a.take h.length = h then (a.getD h.length 0).toNat else 255
end My
namespace My
open PySem L2 Evl ClX DL PySem.W
abbrev byD (l : List UInt8) : D := .byt l.toArray
def nsL (l : List UInt8) : List D := l.map fun x => D.int ((x.toNat : Nat) : Int)
abbrev nsD (l : List UInt8) : D := .lst (nsL l)
theorem toByt_ns (l : List UInt8) : D.toByt [nsD l] = some (byD l) := by
  show (D.ints (nsL l)).bind (fun ns => if allB ns = true then some (D.byt (byteArr ns)) else none) = _
  unfold nsL
  rw [ints_map (f := fun x : UInt8 => ((x.toNat : Nat) : Int)) l]
  show (if allB (l.map fun x => ((x.toNat : Nat) : Int)) = true then some (D.byt (byteArr (l.map fun x => ((x.toNat : Nat) : Int)))) else none) = _
  rw [if_pos (of_b8 fun n hn => by
    obtain ⟨x, _, rfl⟩ := List.mem_map.mp hn
    have := UInt8.toNat_lt x
    omega)]
  have e : byteArr (l.map fun x => ((x.toNat : Nat) : Int)) = l.toArray := by
    unfold byteArr
    rw [List.map_map]
    congr 1
    have : ((fun n : Int => n.toNat.toUInt8) ∘ fun x : UInt8 => ((x.toNat : Nat) : Int)) = id := by
      funext x
      show (Int.toNat ((x.toNat : Nat) : Int)).toUInt8 = x
      rw [Int.toNat_natCast]
      exact UInt8.ofNat_toNat
    rw [this, List.map_id]
  rw [e]
theorem cut_ns {h : List UInt8} {c : UInt8} : D.cut (nsD (h ++ [c])) none (some (-1)) = some (nsD h) := by
  unfold nsD nsL
  rw [List.map_append, cutL, HT.sIx_none]
  have e : HT.sIx ((h.map fun x => D.int ((x.toNat : Nat) : Int)) ++ [c].map fun x => D.int ((x.toNat : Nat) : Int)).length ((h.map fun x => D.int ((x.toNat : Nat) : Int)) ++ [c].map fun x => D.int ((x.toNat : Nat) : Int)).length (some (-1)) = (h.map fun x => D.int ((x.toNat : Nat) : Int)).length := by
    rw [List.length_append, List.length_map, List.length_map, List.length_singleton]
    unfold HT.sIx
    simp
    omega
  rw [e, List.drop_zero, Nat.sub_zero, List.take_left]
theorem add_ns {a b : List UInt8} (h : a.length + b.length ≤ 5000) : D.add (nsD a) (nsD b) = some (nsD (a ++ b)) := by
  unfold nsD nsL
  rw [D_addL (by rw [List.length_map, List.length_map]; exact Nat.le_trans h (by decide)), List.map_append]
theorem enumD_mem {ds : List D} {i : Nat} {e : D} (h : (enumD ds)[i]? = some e) : ∃ d, d ∈ ds ∧ e = .tup [.int (i : Int), d] := by
  unfold enumD at h
  rw [List.getElem?_map] at h
  cases hz : ds.zipIdx[i]? with
  | none => rw [hz] at h; cases h
  | some p =>
    rw [hz] at h
    cases h
    rw [List.getElem?_zipIdx] at hz
    cases hd : ds[i]? with
    | none => rw [hd] at hz; cases hz
    | some d => rw [hd] at hz; cases hz; exact ⟨d, List.mem_of_getElem? hd, by simp⟩
def ip (l : List UInt8) : PyData := .list ((toI l).map .int)
theorem toPs_ns : ∀ l : List UInt8, D.toPs (nsL l) = some ((toI l).map PyData.int)
  | [] => by unfold nsL toI; rw [List.map_nil, D.toPs]; rfl
  | x :: l => by
    have ih := toPs_ns l
    unfold nsL toI at ih ⊢
    rw [List.map_cons, D.toPs, D.toP, ih]
    rfl
theorem toP_ns (l : List UInt8) : (nsD l).toP = some (ip l) := by rw [D.toP, toPs_ns]; rfl
theorem ns_nice (l : List UInt8) : (nsD l).nice 1 = true := nices_all fun d hd => by
  obtain ⟨x, _, rfl⟩ := List.mem_map.mp hd
  rfl
theorem eqvAll_ints : ∀ ns ms : List Int, PyData.eqvAll (ns.map PyData.int) (ms.map PyData.int) = decide (ns = ms)
  | [], [] => by simp [PyData.eqvAll]
  | [], _ :: _ => by simp [PyData.eqvAll]
  | _ :: _, [] => by simp [PyData.eqvAll]
  | a :: r, b :: t => by
    simp only [List.map_cons, PyData.eqvAll, PyData.eqv, eqvAll_ints r t]
    by_cases h : a = b <;> by_cases h' : r = t <;> simp [h, h']
theorem toI_inj {a b : LB} : toI a = toI b ↔ a = b := by
  constructor
  · intro h
    have e : ∀ a : LB, (toI a).map (fun z => UInt8.ofNat z.toNat) = a := fun a => by
      unfold toI
      rw [List.map_map]
      conv => rhs; rw [← List.map_id a]
      refine List.map_congr_left fun x _ => ?_
      show UInt8.ofNat (Int.toNat ((x.toNat : Nat) : Int)) = x
      rw [Int.toNat_natCast]
      exact UInt8.ofNat_toNat
    rw [← e a, ← e b, h]
  · rintro rfl; rfl
theorem eqv_ip (a b : LB) : PyData.eqv (ip a) (ip b) = decide (a = b) := by
  unfold ip
  have : PyData.eqv (.list ((toI a).map .int)) (.list ((toI b).map .int)) = PyData.eqvAll ((toI a).map .int) ((toI b).map .int) := by rw [PyData.eqv]
  rw [this, eqvAll_ints, Bool.eq_iff_iff, decide_eq_true_iff, decide_eq_true_iff]
  exact toI_inj
theorem eqB_ns (a b : LB) : D.eqB (nsD a) (nsD b) = some (decide (a = b)) := by
  obtain ⟨p, q, h1, h2, h⟩ := eqB_nice (ns_nice a) (ns_nice b) (by decide) (by decide)
  rw [toP_ns] at h1 h2
  cases h1; cases h2
  rw [h, eqv_ip]
theorem eq_ns (a b : LB) : D.eq (nsD a) (nsD b) = some (.bl (decide (a = b))) := by unfold D.eq; rw [eqB_ns]; rfl
theorem cutTo_ns (a : LB) (n : Nat) : D.cut (nsD a) none (some (n : Int)) = some (nsD (a.take n)) := by
  unfold nsD nsL
  rw [cutL_lo, List.map_take]
def Srt (lo hi : Bd) (n : Nat) (cs : List LB) : Prop := ∃ m, n ≤ (FF lo hi m).length ∧ cs.Perm ((FF lo hi m).take n) ∧ cs.Pairwise fun x y => ¬ y < x
theorem Srt.uniq {lo hi : Bd} {n : Nat} {cs es : List LB} (h : Srt lo hi n cs) (g : Srt lo hi n es) : cs = es := by
  obtain ⟨m, a1, a2, a3⟩ := h
  obtain ⟨k, b1, b2, b3⟩ := g
  rw [FF_take b1 a1] at b2
  refine List.Perm.eq_of_pairwise (fun a b _ _ h1 h2 => ?_) a3 b3 (a2.trans b2.symm)
  exact List.le_antisymm (List.not_lt.mp h1) (List.not_lt.mp h2)
end My
set_option maxHeartbeats 2000000
namespace My
open PySem L2 Evl ClX DL
local macro_rules | `(tactic| simp! only [$xs,*]) => `(tactic| simp -implicitDefEqProofs -dsimp only [idd_eq, Nat.reduceEqDiff, ↓w_seq, ↓w_if, ↓dTest, ↓dOp, ↓dUn, ↓w_var, ↓getS_val, ↓getS_own, ↓getS_par, ↓dC, rd_val, rd_bor, ownD_own, ownD_par, rds_nil, rds_cons, ↓w_asg, ↓dCB, ↓dCons, ↓dNil, ↓dgName, ↓dgTup, ↓dgCons, ↓dgNil, ↓w_setIx, ↓w_ret, ↓w_retF, ↓w_retN, ↓w_next, ↓w_drop, ↓w_own, ↓w_brk, ↓w_cnt, ↓w_setF, ↓w_dput, ↓w_body, ↓dN, ↓dCall, ↓dCallF, argsOf_nil, argsOf_val, argsOf_bor, bors, ↓dV, ↓dTup, ↓dLst, vals_nil, vals_val, ↓w_par, ↓w_par3, ↓w_parVO, ↓w_parOV, ↓w_parOO, ↓dTruth, ↓dIsi, ↓dIsiT, ↓dInO, insOf_ins, ↓dDNew, ↓dDGet, ↓dDIn, toTup_lst, toTup_tup, pf_nil, lk_self, key_str, key_int, isN_non, isNN_non, kno_int, kno_str, kno_lst, kno_tup, kno_bl, kno_non, tyV_int, tyV_bl, tyV_str, tyV_lst, tyV_tup, tyV_non, clV_ty, clVT_nil, clVT_val, kit_same, kit_int_bool, kit_bool_int, kits_list, kits_tuple, ↓dNot, ↓dAnd, ↓dOr, ↓dIf, ↓dAndV, ↓dOrV, ↓dNotV, ↓dChain, ↓dMeth, ↓dMethF, ↓dKw, ↓dSl, ↓dNoP, ↓dPart, ↓w_for, diRng1, diRng2, diRevR1, diEnumX, diAny, items_lst, items_tup, ↓dLc, ↓dDc, ↓dFld, ownAt_def, setD, Sl.setD, isPar0, isParS, isPN, isP_val, isP_own, isP_no, isP_par, ↓doF, outs_nil, outs_cons, parD_par, parIx, putOuts, wipeD, ↓dBodyF, ↓dAppend, D.isLst, cmp_int, bool_bl, toInt_int, toInt_bl, truth_bl, truth_int, truth_non, len_lst, len_tup, D_add, D_sub, D_mod, eq_int, ne_int, neg_int, ix0, ix1, ix2, ix3, ix4, tx0, tx1, tx2, sx0, sx1, sx2, List.length_cons, List.length_nil, List.cons_append, List.nil_append, List.replicate, Nat.reduceAdd, Nat.reduceSub, List.getElem?_cons_zero, List.getElem?_cons_succ, List.getElem?_nil, List.set_cons_zero, List.set_cons_succ, Option.bind_some, Option.map_some, Option.isSome_some, true_and, and_true, if_true, if_false, Bool.false_eq_true, reduceIte, Int.reduceBEq, Bool.not_true, Bool.not_false, List.nodup_cons, List.nodup_nil, List.not_mem_nil, not_false_eq_true, List.mem_cons, or_false, ↓opt_f, ↓optF_some, ↓ite_cd, ↓cd_true, ↓cd_false, ↓forL_f, ↓lcL_f, ↓dcL_f, ↓noEr_run, ↓w_frz, ↓getW_own, ↓dListRg1, ↓dIndex, ↓dCKw, ↓dMake, ↓dList, seq_lst, seq_tup, kwP1, kwP10, beq_self_eq_true, ↓dEqO, ↓dBinO, ↓dNev, tyV_dct, tyV_ins, kno_dct, clV_ptr, kit_sameR, nf_same, nf_none, nf_int, nf_bool, nf_str, nf_lst, nf_tup, nf_dct, ↓dLenO, eq_bl, ne_bl, ↓hot_run, ↓w_try, ↓w_try0, ↓erH_cons, ↓erH_nil, ↓shutD_mk, x1_mk, x2_mk, ↓w_rz, ↓dXf, ↓dIsX, ↓dBinS, ↓w_nest, ↓w_dnSeq, ↓w_dnT, ↓w_dnFrz, dnCons, dnNil, hideR, hid_val, hid_own, hid_par, hid_no, oL_none, oL_some, ltO_none, ltO_some, hidL_cons, hidL_nil, dgSq, ↓dLc2, lcL2_f, ↓dChain3, ↓w_seqP, ↓w_retT, ↓w_callT, ↓dIfF, ↓w_nestL, ↓w_dnSeq2, dnLc, ↓w_dnPar2, ↓w_dnFC, lcN_f, $xs,*])
theorem lenB {l : List UInt8} (h : l.length ≤ 10000) : D.len [byD l] = some (.int (l.length : Int)) := by
  show (if l.toArray.size ≤ sizeLine then some (D.int l.toArray.size) else none) = _
  rw [if_pos (by rw [List.size_toArray]; exact Nat.le_trans h (by decide)), List.size_toArray]
theorem ixB_last {h : List UInt8} {c : UInt8} (hl : h.length < 10000) : D.ixB (byD (h ++ [c])) (.int (-1)) = some (.int ((c.toNat : Nat) : Int)) := by
  show (if (h ++ [c]).toArray.size ≤ sizeLine then (atI (h ++ [c]).toArray.toList (-1)).map fun c => D.int ((c.toNat : Nat) : Int) else none) = _
  rw [if_pos (by rw [List.size_toArray, List.length_append, List.length_singleton]; exact Nat.le_trans (by omega : h.length + 1 ≤ 10000) (by decide))]
  have e : atI (h ++ [c]).toArray.toList (-1) = some c := by
    show (ixN (h ++ [c]).length (-1)).bind (fun j => (h ++ [c])[j]?) = _
    have e : ixN (h ++ [c]).length (-1) = some h.length := by
      unfold ixN
      rw [if_neg (by omega), if_pos (by simp; omega)]
      simp
      omega
    rw [e, Option.bind_some]
    simp
  rw [e]; rfl
theorem notInB_ok (l : List UInt8) : D.notInB (.int 0) (byD l) = some (.bl (!(l.contains 0))) := by
  show (if (0 : Int) ≤ 0 ∧ (0 : Int) < 256 then some (D.bl (!(l.toArray.contains (Int.toNat 0).toUInt8))) else none) = _
  rw [if_pos ⟨by decide, by decide⟩]
  have e : (Int.toNat 0).toUInt8 = 0 := rfl
  rw [e]; simp
section
variable {K : PySem.W.Frag} (A : Ads)
theorem key_nil {q : D → List D → Prop} {er} (k : q (.bl false) []) : dsp_is_key K A [.val (byD [])] q er := by
  unfold dsp_is_key body_is_key
  have hl : D.len [byD []] = some (.int 0) := lenB (l := []) (by decide)
  have hg : decide ((0 : Int) < 0) = false := rfl
  simp! only [tyV_byt, kno_byt, hl, hg]
  exact k
theorem key_ok {h : List UInt8} {c : UInt8} (hl : h.length < 2000) {q : D → List D → Prop} {er} (k : q (.bl (!((h ++ [c]).contains 0) && !(((c.toNat % 2 : Nat) : Int) != 0))) []) : dsp_is_key K A [.val (byD (h ++ [c]))] q er := by
  unfold dsp_is_key body_is_key
  have hlen : D.len [byD (h ++ [c])] = some (.int ((h.length : Int) + 1)) := by rw [lenB (by simp; omega)]; simp
  have hg : decide ((0 : Int) < (h.length : Int) + 1) = true := decide_eq_true (by omega)
  have hc := notInB_ok (h ++ [c])
  have hx : D.ixB (byD (h ++ [c])) (.int (-1)) = some (.int ((c.toNat : Nat) : Int)) := ixB_last (by omega)
  have hb := band1 c.toNat
  cases hz : (h ++ [c]).contains 0 with
  | true =>
    rw [hz] at hc k
    simp! only [tyV_byt, kno_byt, hlen, hg, hc, hx, hb, ↓dNotT]
    exact k
  | false =>
    rw [hz] at hc k
    simp! only [tyV_byt, kno_byt, hlen, hg, hc, hx, hb, ↓dNotT]
    exact k
theorem isint_i (n : Int) {q : D → List D → Prop} {er} (k : q (.bl true) []) : dsp_is_integer K A [.val (.int n)] q er := by
  unfold dsp_is_integer body_is_integer
  simp! only [idd_eq]
  exact k
theorem bytes_ok {l : List UInt8} (hl : l.length ≤ 2000) {q : D → List D → Prop} {er} (k : q (byD l) []) : dsp_bytes_of K A [.val (nsD l)] q er := by
  unfold dsp_bytes_of body_bytes_of
  have hsq : ∀ (q : D → List D → Prop) (er : Addr → List (Str × D) → List D → Prop), q (.bl true) [] → dsp_is_sequence K A [.val (nsD l)] q er := fun q er k => by
    unfold dsp_is_sequence body_is_sequence
    have h2 : 0 + 1 + 1 ≤ sizeLine := by decide
    simp! only [h2]
    exact k
  simp! only [Nat.reduceLT]
  refine hsq _ _ ?_
  simp! only [Nat.reduceLT]
  refine forL_inv (fun i ρ => ∃ s1 s2 : Sl, s1.isP = false ∧ s2.isP = false ∧ ρ = [.val (nsD l), s1, s2]) ⟨.no, .no, rfl, rfl, rfl⟩ ?_ ?_
  · rintro i e ρ nx he ⟨s1, s2, p1, p2, rfl⟩ hnx
    obtain ⟨d, hd, rfl⟩ := enumD_mem he
    obtain ⟨x, _, rfl⟩ := List.mem_map.mp hd
    have hx := UInt8.toNat_lt x
    have d0 : decide ((0 : Int) ≤ ((x.toNat : Nat) : Int)) = true := decide_eq_true (by omega)
    have d1 : decide (((x.toNat : Nat) : Int) ≤ (255 : Int)) = true := decide_eq_true (by omega)
    simp! only [Nat.reduceLT, p1, p2]
    refine isint_i A _ ?_
    simp! only [Nat.reduceLT, d0, d1]
    exact hnx _ ⟨_, _, rfl, rfl, rfl⟩
  · rintro ρ ⟨s1, s2, p1, p2, rfl⟩
    have ht := toByt_ns l
    simp! only [Nat.reduceLT, ht]
    exact k
end
set_option maxHeartbeats 2000000
def nn (l : LB) : List Nat := l.map UInt8.toNat
def st8 (l : LB) (n : Nat) : Nat := Ky.stA (nn l) n
def cut8 (l : LB) : LB := l.take (st8 l (l.length - 1))
theorem st8_succ {l : LB} {n : Nat} (h : n < l.length) : st8 l (n + 1) = if l[n].toNat % 2 = 0 then n + 1 else st8 l n := by
  unfold st8
  rw [Ky.stA]
  have : (nn l).getD n 1 = l[n].toNat := by unfold nn; simp [List.getD, h]
  rw [this]
theorem st8_le (l : LB) (n : Nat) : st8 l n ≤ n := Ky.stA_le _ n
def keyB (l : LB) : Bool := !l.isEmpty && (!(l.contains 0) && decide ((l.getLast?.getD 1).toNat % 2 = 0))
theorem keyB_snoc (h : LB) (c : UInt8) : keyB (h ++ [c]) = (!((h ++ [c]).contains 0) && decide (c.toNat % 2 = 0)) := by
  unfold keyB
  have : (h ++ [c]).isEmpty = false := by cases h <;> rfl
  rw [this]; simp
theorem key_split {l : LB} (k : keyB l = true) : ∃ h c, l = h ++ [c] ∧ c.toNat % 2 = 0 ∧ (h ++ [c]).contains 0 = false := by
  rcases List.eq_nil_or_concat l with rfl | ⟨h, c, rfl⟩
  · cases k
  · rw [List.concat_eq_append] at k ⊢
    rw [keyB_snoc] at k
    simp only [Bool.and_eq_true, Bool.not_eq_true', decide_eq_true_eq] at k
    exact ⟨h, c, rfl, k.2, k.1⟩
def evP (l : LB) (n : Nat) : List Nat := (List.range n).filter fun i => decide ((l.getD i 1).toNat % 2 = 0)
theorem evP_st {l : LB} : ∀ n, n ≤ l.length → (evP l n = [] ∧ st8 l n = 0) ∨ ∃ es e, evP l n = es ++ [e] ∧ st8 l n = e + 1
  | 0, _ => .inl ⟨rfl, rfl⟩
  | n + 1, h => by
    have e : evP l (n + 1) = evP l n ++ (if (l.getD n 1).toNat % 2 = 0 then [n] else []) := by
      unfold evP
      rw [List.range_succ, List.filter_append]
      congr 1
      by_cases q : (l.getD n 1).toNat % 2 = 0
      · rw [if_pos q, List.filter_cons, if_pos (decide_eq_true q)]; rfl
      · rw [if_neg q, List.filter_cons, if_neg (by rw [decide_eq_false q]; exact Bool.false_ne_true)]; rfl
    have g : l.getD n 1 = l[n] := by simp [List.getD, show n < l.length from h]
    rw [e, st8_succ (show n < l.length from h), g]
    by_cases q : l[n].toNat % 2 = 0
    · rw [if_pos q, if_pos q]; exact .inr ⟨_, _, rfl, rfl⟩
    · rw [if_neg q, if_neg q, List.append_nil]
      exact evP_st n (by omega)
theorem enumB_get {l : LB} {i : Nat} {d : D} (h : (enumKD 0 (l.toArray.toList.map fun c => D.int ((c.toNat : Nat) : Int)))[i]? = some d) : ∃ hi : i < l.length, d = .tup [.int (i : Int), .int ((l[i].toNat : Nat) : Int)] := by
  obtain ⟨e, he, rfl⟩ := enumKD_get h
  rw [List.getElem?_map] at he
  have hl : l.toArray.toList = l := rfl
  rw [hl] at he
  cases q : l[i]? with
  | none => rw [q] at he; cases he
  | some c =>
    rw [q] at he
    cases he
    obtain ⟨hi, rfl⟩ := List.getElem?_eq_some_iff.mp q
    exact ⟨hi, by simp⟩
theorem cut_mid {l : LB} {i j : Nat} (hi : i ≤ l.length) (hj : j ≤ l.length) (hl : l.length ≤ 10000) : D.cutB (byD l) (some (i : Int)) (some (j : Int)) = some (byD ((l.drop i).take (j - i))) := by
  show (if l.toArray.size ≤ 16777216 then some (D.byt (PySem.W.KBy.picked l.toArray (some (i : Int)) (some (j : Int)))) else none) = _
  rw [if_pos (by rw [List.size_toArray]; omega), pk_mid hi hj]
theorem inB0 (l : LB) : D.inB (.int 0) (byD l) = some (.bl (l.contains 0)) := by
  show (if (0 : Int) ≤ 0 ∧ (0 : Int) < 256 then some (D.bl (l.toArray.contains (Int.toNat 0).toUInt8)) else none) = _
  rw [if_pos ⟨by decide, by decide⟩]
  have e : (Int.toNat 0).toUInt8 = 0 := rfl
  rw [e]; simp
theorem in_nss (a : LB) (xs : List LB) : D.isIn (nsD a) (.lst (xs.map nsD)) = some (.bl (decide (a ∈ xs))) ∧ D.notIn (nsD a) (.lst (xs.map nsD)) = some (.bl (!decide (a ∈ xs))) := by
  obtain ⟨p, ps, h1, h2, h3⟩ := inLst_nice (x := nsD a) (xs := xs.map nsD) (n := 1) (m := 1) (ns_nice a) (nices_map (fun x => ns_nice x) xs) (by decide) (by decide)
  rw [toP_ns] at h1
  cases h1
  rw [toPs_map (g := ip) (fun x => toP_ns x)] at h2
  cases h2
  have e : ((xs.map ip).any fun z => PyData.eqv z (ip a)) = decide (a ∈ xs) := by
    rw [List.any_map, Bool.eq_iff_iff, List.any_eq_true, decide_eq_true_iff]
    constructor
    · rintro ⟨y, hy, e⟩
      have e : PyData.eqv (ip y) (ip a) = true := e
      rw [eqv_ip] at e
      rw [← of_decide_eq_true e]; exact hy
    · intro h; exact ⟨a, h, by show PyData.eqv (ip a) (ip a) = true; rw [eqv_ip]; exact decide_eq_true rfl⟩
  unfold D.isIn D.notIn
  rw [show D.inStr (nsD a) (.lst (xs.map nsD)) = none from rfl, h3, e]
  exact ⟨rfl, rfl⟩
section
variable {K : PySem.W.Frag} (A : Ads)
theorem is_key_ok {l : LB} (hl : l.length ≤ 2000) {q : D → List D → Prop} {er : Addr → List (Str × D) → List D → Prop} (k : q (.bl (keyB l)) []) : dsp_is_key K A [.val (byD l)] q er := by
  rcases List.eq_nil_or_concat l with rfl | ⟨h, c, rfl⟩
  · exact key_nil A k
  · rw [List.concat_eq_append] at hl k ⊢
    rw [keyB_snoc] at k
    refine key_ok A (by rw [List.length_append, List.length_singleton] at hl; omega) ?_
    have e : (!(((c.toNat % 2 : Nat) : Int) != 0)) = decide (c.toNat % 2 = 0) := by
      rcases Nat.mod_two_eq_zero_or_one c.toNat with z | z <;> rw [z] <;> rfl
    rw [e]
    exact k
end
set_option maxHeartbeats 2000000
structure Spl (l : LB) (i : Nat) (ps : List LB) : Prop where
  fl : ps.flatten = l.take (st8 l i)
  nil : ps = [] ↔ st8 l i = 0
  last : ∀ (h0 : 0 < i) (hi : i ≤ l.length), (l[i - 1]'(by omega)).toNat % 2 = 0 → ∃ qs p, ps = qs ++ [p] ∧ qs.flatten = l.take (st8 l (i - 1)) ∧ (qs = [] ↔ st8 l (i - 1) = 0)
  sz : ∀ p ∈ ps, p.length ≤ l.length
  len : ps.length ≤ i
theorem Spl.zero (l : LB) : Spl l 0 [] := ⟨rfl, ⟨fun _ => rfl, fun _ => rfl⟩, fun h => absurd h (Nat.lt_irrefl _), (fun _ h => by cases h), Nat.le_refl _⟩
theorem Spl.odd {l : LB} {i : Nat} {ps : List LB} (S : Spl l i ps) (hi : i < l.length) (h : ¬ l[i].toNat % 2 = 0) : Spl l (i + 1) ps := by
  have e := st8_succ hi
  rw [if_neg h] at e
  exact ⟨by rw [e]; exact S.fl, by rw [e]; exact S.nil, fun _ _ z => absurd (by simpa using z) h, S.sz, Nat.le_succ_of_le S.len⟩
theorem Spl.even {l : LB} {i : Nat} {ps : List LB} (S : Spl l i ps) (hi : i < l.length) (h : l[i].toNat % 2 = 0) : Spl l (i + 1) (ps ++ [(l.drop (st8 l i)).take (i + 1 - st8 l i)]) := by
  have e := st8_succ hi
  rw [if_pos h] at e
  have le := st8_le l i
  refine ⟨?_, ?_, fun _ _ _ => ⟨ps, _, rfl, by rw [Nat.add_sub_cancel]; exact S.fl, by rw [Nat.add_sub_cancel]; exact S.nil⟩, fun p hp => ?_, by rw [List.length_append, List.length_singleton]; exact Nat.succ_le_succ S.len⟩
  · rw [e, List.flatten_append, S.fl, List.flatten_singleton, ← List.take_add]
    congr 1; omega
  · rw [e]
    exact ⟨(fun z => by cases ps <;> cases z), fun z => by omega⟩
  · rcases List.mem_append.mp hp with z | z
    · exact S.sz p z
    · rw [List.mem_singleton.mp z, List.length_take, List.length_drop]; omega
section
variable {K : PySem.W.Frag} (A : Ads)
theorem split_ok {l : LB} (hk : keyB l = true) (hl : l.length ≤ 2000) {q : D → List D → Prop} {er : Addr → List (Str × D) → List D → Prop}
    (k : ∀ (ps : List LB) (p : LB), ps.flatten = cut8 l → (ps = [] ↔ cut8 l = []) → (∀ x ∈ ps, x.length ≤ 2000) → ps.length ≤ 2000 → q (.lst ((ps ++ [p]).map byD)) []) : dsp_split_key K A [.val (byD l)] q er := by
  unfold dsp_split_key body_split_key
  obtain ⟨h, c, rfl, hc, hz⟩ := key_split hk
  have hll : h.length + 1 ≤ 2000 := by simpa using hl
  have hlen : D.len [byD (h ++ [c])] = some (.int ((h.length : Int) + 1)) := by rw [lenB (by simp; omega)]; simp
  have hg : (((h.length : Int) + 1) == 0) = false := beq_eq_false_iff_ne.mpr (by omega)
  have hi0 := inB0 (h ++ [c])
  rw [hz] at hi0
  have hx : D.ixB (byD (h ++ [c])) (.int (-1)) = some (.int ((c.toNat : Nat) : Int)) := ixB_last (by omega)
  have hb := band1 c.toNat
  rw [hc] at hb
  have zt : D.truth (.int ((0 : Nat) : Int)) = some false := rfl
  have z0 : 0 ≤ sizeLine := by decide
  simp! only [tyV_byt, kno_byt, hlen, hg, hi0, hx, hb, zt, z0, ↓diEnumB, Nat.reduceLT]
  generalize hL : h ++ [c] = l at *
  refine forL_inv (I := fun i ρ => ∃ (ps : List LB) (s3 s4 : Sl), ρ = [.val (byD l), .own (.lst (ps.map byD)), .val (.int ((st8 l i : Nat) : Int)), s3, s4] ∧ (s3.isP = false ∧ s4.isP = false) ∧ Spl l i ps) ⟨[], _, _, rfl, ⟨rfl, rfl⟩, Spl.zero l⟩ ?_ ?_
  · rintro i d ρ nx hd ⟨ps, s3, s4, rfl, ⟨p3, p4⟩, S⟩ hnx
    obtain ⟨hi, rfl⟩ := enumB_get hd
    have hb2 := band1 l[i].toNat
    have le := st8_le l i
    have hcut : D.cutB (byD l) (some ((st8 l i : Nat) : Int)) (some ((i : Int) + 1)) = some (byD ((l.drop (st8 l i)).take (i + 1 - st8 l i))) := by
      rw [show ((i : Int) + 1) = ((i + 1 : Nat) : Int) by omega]
      exact cut_mid (by omega) (by omega) (by omega)
    have hsz : (ps.map byD).length < sizeLine := by
      have := S.len
      rw [List.length_map]; exact Nat.lt_of_le_of_lt (by omega : ps.length ≤ 2000) (by decide)
    by_cases hev : l[i].toNat % 2 = 0
    · rw [hev] at hb2
      have e := st8_succ hi
      rw [if_pos hev] at e
      simp! only [p3, p4, hb2, zt, hsz, hcut, ↓dSlB, Nat.reduceLT]
      refine hnx _ ⟨_, .val (.int (i : Int)), .val (.int ((l[i].toNat : Nat) : Int)), ?_, ⟨rfl, rfl⟩, S.even hi hev⟩
      rw [List.map_append, e, show ((i : Int) + 1) = ((i + 1 : Nat) : Int) by omega]; rfl
    · have o1 : l[i].toNat % 2 = 1 := by omega
      rw [o1] at hb2
      have e := st8_succ hi
      rw [if_neg hev] at e
      have z1 : D.truth (.int ((1 : Nat) : Int)) = some true := rfl
      simp! only [p3, p4, hb2, z1, Nat.reduceLT]
      exact hnx _ ⟨ps, _, _, by rw [e], ⟨rfl, rfl⟩, S.odd hi hev⟩
  · rintro ρ ⟨ps, s3, s4, rfl, _, S⟩
    have hn : (enumKD 0 (l.toArray.toList.map fun c => D.int ((c.toNat : Nat) : Int))).length = l.length := by rw [enumKD_length, List.length_map]
    rw [hn] at S
    have hpos : 0 < l.length := by rw [← hL]; simp
    have hlast : (l[l.length - 1]'(by omega)).toNat % 2 = 0 := by
      have : l[l.length - 1]'(by omega) = c := by simp [← hL]
      rw [this]; exact hc
    obtain ⟨qs, p, rfl, e1, e2⟩ := S.last hpos (Nat.le_refl _) hlast
    simp! only [Nat.reduceLT]
    refine k qs p e1 (e2.trans ?_) (fun x hx => Nat.le_trans (S.sz x (List.mem_append_left _ hx)) hl) (by have := S.len; rw [List.length_append] at this; omega)
    unfold cut8
    have le := st8_le l (l.length - 1)
    constructor
    · intro z; rw [z]; rfl
    · intro z
      have := congrArg List.length z
      rw [List.length_take, List.length_nil] at this
      omega
theorem law_key_ok {l : LB} {q : D → List D → Prop} {er : Addr → List (Str × D) → List D → Prop} (k : q (.bl (keyB l)) []) : dsp_p_law_is_key K A [.val (nsD l)] q er := by
  unfold dsp_p_law_is_key body_p_law_is_key
  have e0 : D.isIn (.int 0) (nsD l) = some (.bl (l.contains 0)) := by
    have := (in_ints 0 (toI l)).1
    have e : (toI l).map D.int = nsL l := by unfold toI nsL; rw [List.map_map]; rfl
    rw [e] at this
    rw [this]
    congr 2
    rw [Bool.eq_iff_iff, decide_eq_true_iff, List.contains_iff_mem]
    unfold toI
    constructor
    · intro h
      obtain ⟨x, hx, ex⟩ := List.mem_map.mp h
      have : x = 0 := UInt8.toNat_inj.mp (by have := Int.ofNat.inj ex; exact this)
      rw [← this]; exact hx
    · intro h
      exact List.mem_map.mpr ⟨0, h, rfl⟩
  have z0 : 0 ≤ sizeLine := by decide
  rcases List.eq_nil_or_concat l with rfl | ⟨h, c, rfl⟩
  · have en : D.eq (nsD []) (.lst []) = some (.bl true) := rfl
    simp! only [en, z0]
    exact k
  · rw [List.concat_eq_append] at k e0 ⊢
    rw [keyB_snoc] at k
    have en : D.eq (nsD (h ++ [c])) (.lst []) = some (.bl false) := by
      have := eq_ns (h ++ [c]) []
      rw [decide_eq_false (by simp)] at this
      exact this
    cases hz : (h ++ [c]).contains 0 with
    | true =>
      rw [hz] at e0 k
      simp! only [en, e0, z0]
      exact k
    | false =>
      rw [hz] at e0 k
      have ei : D.ix (nsD (h ++ [c])) (.int (-1)) = some (.int ((c.toNat : Nat) : Int)) := by
        unfold nsD nsL
        rw [List.map_append]
        show (ixN (h.map _ ++ [c].map _).length (-1)).bind (fun j => (h.map _ ++ [c].map _)[j]?) = _
        have : ixN ((h.map fun x => D.int ((x.toNat : Nat) : Int)) ++ [c].map fun x => D.int ((x.toNat : Nat) : Int)).length (-1) = some h.length := by
          unfold ixN
          rw [List.length_append, List.length_map, if_neg (by omega), if_pos (by simp; omega)]
          congr 1; simp; omega
        rw [this]
        show ((h.map fun x => D.int ((x.toNat : Nat) : Int)) ++ [c].map fun x => D.int ((x.toNat : Nat) : Int))[h.length]? = _
        rw [List.getElem?_append_right (by simp)]; simp
      have em : D.mod (.int ((c.toNat : Nat) : Int)) (.int 2) = some (.int (((c.toNat : Nat) : Int) % 2)) := D_mod (by decide)
      have ek : ((((c.toNat : Nat) : Int) % 2) == 0) = decide (c.toNat % 2 = 0) := by
        rw [Bool.eq_iff_iff, beq_iff_eq, decide_eq_true_iff]; omega
      simp! only [en, e0, ei, em, ek, z0]
      exact k
theorem law_cut_ok {l : LB} (hl : l.length ≤ 2000) {q : D → List D → Prop} {er : Addr → List (Str × D) → List D → Prop} (k : q (nsD (cut8 l)) []) : dsp_p_law_cut K A [.val (nsD l)] q er := by
  unfold dsp_p_law_cut body_p_law_cut
  have z0 : 0 ≤ sizeLine := by decide
  have hlen : D.len [nsD l] = some (.int (l.length : Int)) := by unfold nsD nsL; rw [len_lst, List.length_map]
  simp! only [hlen]
  refine ⟨⟨by omega, by omega⟩, ?_⟩
  have hn : (((l.length : Int) - 1)).toNat = l.length - 1 := by omega
  refine lcL_inv (fun i acc ρ => ∃ s2 : Sl, s2.isP = false ∧ acc = (evP l i).map natD ∧ ρ = [.val (nsD l), .no, s2]) ⟨.no, rfl, rfl, rfl⟩ ?_ ?_
  · rintro i d acc ρ nx hd ⟨s2, p2, rfl, rfl⟩ hnx
    rw [List.getElem?_map] at hd
    by_cases hi : i < l.length - 1
    · rw [List.getElem?_range (by omega)] at hd
      cases hd
      have ei : D.ix (nsD l) (.int (i : Int)) = some (.int ((l[i].toNat : Nat) : Int)) := by
        unfold nsD nsL
        rw [ixn rfl (by rw [List.length_map]; omega), List.getElem?_map, List.getElem?_eq_getElem (by omega)]; rfl
      have em : D.mod (.int ((l[i].toNat : Nat) : Int)) (.int 2) = some (.int (((l[i].toNat : Nat) : Int) % 2)) := D_mod (by decide)
      have hz : ((evP l i).map natD).length < sizeLine := by
        have : (evP l i).length ≤ i := by unfold evP; exact Nat.le_trans (List.length_filter_le _ _) (by simp)
        rw [List.length_map]; exact Nat.lt_of_le_of_lt (by omega : _ ≤ 2000) (by decide)
      have ev : evP l (i + 1) = evP l i ++ (if l[i].toNat % 2 = 0 then [i] else []) := by
        unfold evP
        rw [List.range_succ, List.filter_append]
        congr 1
        have g : l.getD i 1 = l[i] := by simp [List.getD, show i < l.length by omega]
        by_cases z : l[i].toNat % 2 = 0
        · rw [if_pos z, List.filter_cons, g, if_pos (decide_eq_true z)]; rfl
        · rw [if_neg z, List.filter_cons, g, if_neg (by rw [decide_eq_false z]; exact Bool.false_ne_true)]; rfl
      by_cases z : l[i].toNat % 2 = 0
      · have ek : ((((l[i].toNat : Nat) : Int) % 2) == 0) = true := beq_iff_eq.mpr (by omega)
        rw [if_pos z] at ev
        simp! only [p2, ei, em, ek, hz]
        exact hnx _ _ ⟨_, rfl, by rw [ev, List.map_append]; rfl, rfl⟩
      · have ek : ((((l[i].toNat : Nat) : Int) % 2) == 0) = false := beq_eq_false_iff_ne.mpr (by omega)
        rw [if_neg z, List.append_nil] at ev
        simp! only [p2, ei, em, ek, hz]
        exact hnx _ _ ⟨_, rfl, by rw [ev], rfl⟩
    · rw [List.getElem?_eq_none (by simp; omega)] at hd
      cases hd
  · rintro acc ρ ⟨s2, p2, rfl, rfl⟩
    have hm : ((List.range (((l.length : Int) - 1)).toNat).map fun (k : Nat) => D.int (k : Int)).length = l.length - 1 := by simp <;> omega
    rw [hm]
    rcases evP_st (l := l) (l.length - 1) (by omega) with ⟨e1, e2⟩ | ⟨es, e, e1, e2⟩
    · rw [e1]
      have n0 : D.ne0 (.lst (([] : List Nat).map natD)) (.lst []) = some (.bl false) := rfl
      simp! only [p2, n0, z0]
      have : cut8 l = [] := by unfold cut8; rw [e2]; rfl
      rw [this] at k
      exact k
    · rw [e1, List.map_append]
      have n0 : D.ne0 (.lst (es.map natD ++ [e].map natD)) (.lst []) = some (.bl true) := by cases es <;> rfl
      have ei : D.ix (.lst (es.map natD ++ [e].map natD)) (.int (-1)) = some (.int (e : Int)) := by
        show (ixN (es.map natD ++ [e].map natD).length (-1)).bind (fun j => (es.map natD ++ [e].map natD)[j]?) = _
        have : ixN (es.map natD ++ [e].map natD).length (-1) = some es.length := by
          unfold ixN
          rw [List.length_append, List.length_map, if_neg (by omega), if_pos (by simp; omega)]
          congr 1; simp; omega
        rw [this]
        show (es.map natD ++ [e].map natD)[es.length]? = _
        rw [List.getElem?_append_right (by simp)]; simp [natD]
      have ec : D.cut (nsD l) none (some ((e : Int) + 1)) = some (nsD (cut8 l)) := by
        rw [show ((e : Int) + 1) = ((e + 1 : Nat) : Int) by omega]
        unfold cut8
        rw [e2]
        exact cutTo_ns l (e + 1)
      simp! only [p2, n0, ei, ec, z0]
      exact k
end
set_option maxHeartbeats 2000000
theorem size60 {n : Nat} (h : n ≤ 60) : n ≤ sizeLine := Nat.le_trans h (by decide)
theorem size60' {n : Nat} (h : n ≤ 60) : n < sizeLine := Nat.lt_of_le_of_lt h (by decide)
theorem cutT_lo {l : List D} {n : Nat} : D.cut (.tup l) none (some (n : Int)) = some (.tup (l.take n)) := by
  have := cutL_lo (l := l) (n := n)
  rw [cutL] at this
  rw [cutT]
  injection this with h
  injection h with h
  rw [h]
abbrev wd (s : String) : D := .str (PySem.Str.ofString s)
def nameL : D → List Nat
  | .str x => x.cps.toList
  | _ => []
theorem isName_at {a : D} (h : isName a = true) : ∃ l, a = .str (mk l) ∧ IsNm l ∧ nameL a = l := by
  cases a with
  | str x => exact ⟨x.cps.toList, by rw [← mk_of x], nmB_iff.mp h, rfl⟩
  | _ => cases h
theorem isVal_at {a : D} (h : isVal a = true) : ∃ v, a = .int v ∧ -(10 ^ 30) ≤ v ∧ v ≤ 10 ^ 30 := by
  cases a with
  | int i =>
    rw [isVal_int, Bool.and_eq_true] at h
    exact ⟨i, rfl, of_decide_eq_true h.1, of_decide_eq_true h.2⟩
  | _ => cases h
inductive KF where
  | key (l : LB) | bad (d : D)
def KF.L : KF → D
  | .key l => nsD l
  | .bad d => d
def KF.P : KF → D
  | .key l => byD l
  | .bad d => d
inductive Rk where
  | full (a b : D) (c : KF) | oth (d : D)
def Rk.L : Rk → D
  | .full a b c => .tup [a, b, c.L]
  | .oth d => d
def Rk.P (kd : Bool) : Rk → D
  | .full a b c => if kd = true then .lst [a, b, c.P] else .tup [a, b, c.P]
  | .oth d => d
def isTup : D → Bool
  | .tup _ => true
  | _ => false
def isLst : D → Bool
  | .lst _ => true
  | _ => false
def KF.Ok : KF → Prop
  | .key l => l.length ≤ 2000
  | .bad d => plain d ∧ isLst d = false
def Rk.Ok : Rk → Prop
  | .full a b c => plain a ∧ plain b ∧ c.Ok
  | .oth d => plain d ∧ isTup d = false ∧ ∀ xs, d = .lst xs → xs.length ≠ 3
abbrev E2 := List Nat × LB
def EE : Rk → E2
  | .full a _ (.key l) => (nameL a, l)
  | _ => ([], [])
def Rt (r : Rk) : Prop := ∃ l v k, IsNm l ∧ keyB k = true ∧ k.length ≤ 2000 ∧ r = .full (nmD l) (.int v) (.key k)
def wordOf (r : Rk) (es : List E2) : D := match r with
  | .oth _ => wd "row"
  | .full a b c => if isName a = false then wd "name" else if isVal b = false then wd "value" else match c with
    | .bad _ => wd "key"
    | .key l => if keyB l = false then wd "key" else if decide (nameL a ∈ es.map (·.1)) = true then wd "twice" else if decide (l ∈ es.map (·.2)) = true then wd "shared" else .non
theorem nameL_mk (l : List Nat) : nameL (nmD l) = l := by simp [nameL, mk]
theorem Rt.ee {r : Rk} (h : Rt r) : IsNm (EE r).1 ∧ keyB (EE r).2 = true ∧ (EE r).2.length ≤ 2000 ∧ ∃ v, r = .full (nmD (EE r).1) (.int v) (.key (EE r).2) := by
  obtain ⟨l, v, k, h1, h2, h3, rfl⟩ := h
  have : EE (.full (nmD l) (.int v) (.key k)) = (l, k) := by show (nameL (nmD l), k) = _; rw [nameL_mk]
  rw [this]
  exact ⟨h1, h2, h3, v, rfl⟩
theorem Rt.pix {r : Rk} (h : Rt r) (kd : Bool) : D.ix (r.P kd) (.int 0) = some (nmD (EE r).1) ∧ D.ix (r.P kd) (.int 2) = some (byD (EE r).2) := by
  obtain ⟨_, _, _, v, e⟩ := h.ee
  rw [e]
  generalize EE r = p
  obtain ⟨l, k⟩ := p
  have : EE (.full (nmD l) (.int v) (.key k)) = (l, k) := by show (nameL (nmD l), k) = _; rw [nameL_mk]
  cases kd <;> exact ⟨rfl, rfl⟩
theorem Rt.lix {r : Rk} (h : Rt r) : D.ix r.L (.int 0) = some (nmD (EE r).1) ∧ D.ix r.L (.int 2) = some (nsD (EE r).2) := by
  obtain ⟨_, _, _, v, e⟩ := h.ee
  rw [e]
  generalize EE r = p
  obtain ⟨l, k⟩ := p
  exact ⟨rfl, rfl⟩
theorem right_at {r : Rk} (hr : r.Ok) {es : List E2} (h : wordOf r es = .non) : Rt r := by
  cases r with
  | oth d => cases h
  | full a b c =>
    unfold wordOf at h
    dsimp only at h
    cases ha : isName a with
    | false => rw [if_pos ha] at h; cases h
    | true =>
      rw [if_neg (by rw [ha]; decide)] at h
      cases hb : isVal b with
      | false => rw [if_pos hb] at h; cases h
      | true =>
        rw [if_neg (by rw [hb]; decide)] at h
        cases c with
        | bad d => cases h
        | key l =>
          dsimp only at h
          cases hk : keyB l with
          | false => rw [if_pos hk] at h; cases h
          | true =>
            obtain ⟨n, rfl, hn, _⟩ := isName_at ha
            obtain ⟨v, rfl, _⟩ := isVal_at hb
            exact ⟨n, v, l, hn, hk, hr.2.2, rfl⟩
theorem names_in {l : List Nat} (hl : IsNm l) {es : List E2} (hr : ∀ y ∈ es, IsNm y.1) : D.isIn (nmD l) (.lst (es.map fun e => nmD e.1)) = some (.bl (decide (l ∈ es.map (·.1)))) := by
  have h := (in_strs (x := mk l) (xs := (es.map (·.1)).map mk) hl.ok.1 (fun y hy => by
    obtain ⟨z, hz, rfl⟩ := List.mem_map.mp hy
    obtain ⟨e, he, rfl⟩ := List.mem_map.mp hz
    exact (hr e he).ok.1)).1
  have e1 : (((es.map (·.1)).map mk).map D.str) = es.map fun e => nmD e.1 := by rw [List.map_map, List.map_map]; rfl
  rw [e1] at h
  rw [h]
  congr 2
  refine decide_eq_decide.mpr ⟨fun h => ?_, fun h => List.mem_map.mpr ⟨l, h, rfl⟩⟩
  obtain ⟨z, hz, e⟩ := List.mem_map.mp h
  rw [← mk_inj e]; exact hz
theorem byts_of_map : ∀ ks : List LB, D.byts (ks.map byD) = some (ks.map List.toArray)
  | [] => rfl
  | k :: ks => by
    show (D.byts (ks.map byD)).map _ = _
    rw [byts_of_map ks]; rfl
theorem keys_in (k : LB) (ks : List LB) : D.inBs false (byD k) (.lst (ks.map byD)) = some (.bl (decide (k ∈ ks))) := by
  show (D.byts (ks.map byD)).map _ = _
  rw [byts_of_map]
  show some (D.bl ((ks.map List.toArray).any fun c => decide (c = k.toArray))) = _
  congr 2
  rw [List.any_map, Bool.eq_iff_iff, List.any_eq_true, decide_eq_true_iff]
  constructor
  · rintro ⟨y, hy, e⟩
    have e : y.toArray = k.toArray := of_decide_eq_true e
    have e := congrArg Array.toList e
    dsimp only at e
    rw [← e]; exact hy
  · intro h
    exact ⟨k, h, decide_eq_true rfl⟩
section
variable {K : PySem.W.Frag} (A : Ads)
theorem key_other {d : D} {t : Value} (ht : d.tyV = some t) (hk : PySem.W.kitOne K t (.type "bytes") = some false) (hn : d.kno A.isis = true) (q : D → List D → Prop) (er : Addr → List (Str × D) → List D → Prop) (k : q (.bl false) []) : dsp_is_key K A [.val d] q er := by
  unfold dsp_is_key body_is_key
  simp! only [ht, hk, hn]
  exact k
end
theorem is_key_plain {K : PySem.W.Frag} (A : Ads) {d : D} (hd : plain d) {q : D → List D → Prop} {er : Addr → List (Str × D) → List D → Prop} (k : q (.bl false) []) : dsp_is_key K A [.val d] q er := by
  cases d with
  | non => exact key_other A tyV_non (by rfl) rfl q er k
  | bl b => exact key_other A tyV_bl kit_bool_byt rfl q er k
  | int i => exact key_other A tyV_int kit_int_byt rfl q er k
  | str x => exact key_other A tyV_str kit_str_byt rfl q er k
  | lst xs => exact key_other A tyV_lst kit_list_byt rfl q er k
  | tup xs => exact key_other A tyV_tup kit_tuple_byt rfl q er k
  | dct xs => exact key_other A tyV_dct kit_dict_byt rfl q er k
  | _ => exact hd.elim
set_option maxHeartbeats 2000000
theorem pm_len {d : D} (h : isLst d = false) (h2 : isTup d = false) : isSeq d = false := by cases d <;> first | rfl | exact Bool.noConfusion h | exact Bool.noConfusion h2
theorem ee_map {β : Type} (f : E2 → β) (rs : List Rk) : (rs.map EE).map f = rs.map fun r => f (EE r) := by rw [List.map_map]; rfl
section
variable {K : PySem.W.Frag} (A : Ads)
theorem is_key_any {c : KF} (h : c.Ok) {q : D → List D → Prop} {er : Addr → List (Str × D) → List D → Prop} (k : q (.bl (match c with | .key l => keyB l | .bad _ => false)) []) : dsp_is_key K A [.val c.P] q er := by
  cases c with
  | key l => exact is_key_ok A h k
  | bad d => exact is_key_plain A h.1 k
theorem law_key_any {c : KF} (h : c.Ok) {q : D → List D → Prop} {er : Addr → List (Str × D) → List D → Prop} (k : q (.bl (match c with | .key l => keyB l | .bad _ => false)) []) : dsp_p_law_is_key K A [.val c.L] q er := by
  cases c with
  | key l => exact law_key_ok A k
  | bad d =>
    have z0 : 0 ≤ sizeLine := by decide
    unfold dsp_p_law_is_key body_p_law_is_key
    cases d with
    | lst xs => cases h.2
    | non => simp! only [KF.L, show PySem.W.kitOne K (.type "NoneType") (.type "list") = some false by rfl]; exact k
    | bl b => simp! only [KF.L, show PySem.W.kitOne K (.type "bool") (.type "list") = some false by rfl]; exact k
    | int b => simp! only [KF.L, show PySem.W.kitOne K (.type "int") (.type "list") = some false by rfl]; exact k
    | str b => simp! only [KF.L, show PySem.W.kitOne K (.type "str") (.type "list") = some false by rfl]; exact k
    | tup b => simp! only [KF.L, show PySem.W.kitOne K (.type "tuple") (.type "list") = some false by rfl]; exact k
    | dct b => simp! only [KF.L, show PySem.W.kitOne K (.type "dict") (.type "list") = some false by rfl]; exact k
    | _ => exact h.1.elim
theorem key_word_ok {kd : Bool} {r : Rk} (hr : r.Ok) {x : D} {rs : List Rk} (hit : D.items x = some (rs.map (Rk.P kd))) (hrs : ∀ y ∈ rs, Rt y) (hl : rs.length ≤ 60) {q : D → List D → Prop} {er : Addr → List (Str × D) → List D → Prop} (k : q (wordOf r (rs.map EE)) []) :
    dsp_p_key_word K A [.val (r.P kd), .val x] q er := by
  unfold dsp_p_key_word body_p_key_word
  unfold wordOf at k
  cases r with
  | oth d =>
    dsimp only at k
    rw [show (Rk.oth d).P kd = d from rfl]
    simp! only [idd_eq]
    refine is_seq_any A hr.1 ?_
    by_cases hs : isLst d = true
    · cases d with
      | lst xs =>
        have hb : (((xs.length : Nat) : Int) == 3) = false := beq_eq_false_iff_ne.mpr (by have := hr.2.2 xs rfl; omega)
        simp! only [isSeq, hb]
        exact k
      | _ => cases hs
    · have h : isSeq d = false := pm_len (by cases z : isLst d; rfl; exact absurd z hs) hr.2.1
      simp! only [h]
      exact k
  | full a b c =>
    dsimp only at k
    obtain ⟨pa, pb, pc⟩ := hr
    have e3 : (((0 + 1 + 1 + 1 : Nat) : Int) == 3) = true := by decide
    generalize hd : (Rk.full a b c).P kd = d
    have habc : d = .lst [a, b, c.P] ∨ d = .tup [a, b, c.P] := by rw [← hd]; cases kd; exact .inr rfl; exact .inl rfl
    have hp : plain d := by rcases habc with rfl | rfl <;> trivial
    simp! only [idd_eq]
    refine is_seq_any A hp ?_
    have hs : isSeq d = true := by rcases habc with rfl | rfl <;> rfl
    have hlen : D.len [d] = some (.int ((0 + 1 + 1 + 1 : Nat) : Int)) := by rcases habc with rfl | rfl <;> rfl
    have hgo : ∀ (ρ : Ro) (q : Ro → Prop), dgSq 3 (dgCons (dgName 2) (dgCons (dgName 3) (dgCons (dgName 4) dgNil))) (.val d) ρ q = dgSq 3 (dgCons (dgName 2) (dgCons (dgName 3) (dgCons (dgName 4) dgNil))) (.val (.tup [a, b, c.P])) ρ q := fun ρ q => by rcases habc with rfl | rfl <;> rfl
    simp -implicitDefEqProofs -dsimp only [↓hgo, idd_eq, Nat.reduceEqDiff, ↓w_seq, ↓w_if, ↓dTest, ↓dOp, ↓dUn, ↓w_var, ↓getS_val, ↓getS_own, ↓getS_par, ↓dC, rd_val, rd_bor, ownD_own, ownD_par, rds_nil, rds_cons, ↓w_asg, ↓dCB, ↓dCons, ↓dNil, ↓dgName, ↓dgTup, ↓dgCons, ↓dgNil, ↓w_setIx, ↓w_ret, ↓w_retF, ↓w_retN, ↓w_next, ↓w_drop, ↓w_own, ↓w_brk, ↓w_cnt, ↓w_setF, ↓w_dput, ↓w_body, ↓dN, ↓dCall, ↓dCallF, argsOf_nil, argsOf_val, argsOf_bor, bors, ↓dV, ↓dTup, ↓dLst, vals_nil, vals_val, ↓w_par, ↓w_par3, ↓w_parVO, ↓w_parOV, ↓w_parOO, ↓dTruth, ↓dIsi, ↓dIsiT, ↓dInO, insOf_ins, ↓dDNew, ↓dDGet, ↓dDIn, toTup_lst, toTup_tup, pf_nil, lk_self, key_str, key_int, isN_non, isNN_non, kno_int, kno_str, kno_lst, kno_tup, kno_bl, kno_non, tyV_int, tyV_bl, tyV_str, tyV_lst, tyV_tup, tyV_non, clV_ty, clVT_nil, clVT_val, kit_same, kit_int_bool, kit_bool_int, kits_list, kits_tuple, ↓dNot, ↓dAnd, ↓dOr, ↓dIf, ↓dAndV, ↓dOrV, ↓dNotV, ↓dChain, ↓dMeth, ↓dMethF, ↓dKw, ↓dSl, ↓dNoP, ↓dPart, ↓w_for, diRng1, diRng2, diRevR1, diEnumX, diAny, items_lst, items_tup, ↓dLc, ↓dDc, ↓dFld, ownAt_def, setD, Sl.setD, isPar0, isParS, isPN, isP_val, isP_own, isP_no, isP_par, ↓doF, outs_nil, outs_cons, parD_par, parIx, putOuts, wipeD, ↓dBodyF, ↓dAppend, D.isLst, cmp_int, bool_bl, toInt_int, toInt_bl, truth_bl, truth_int, truth_non, len_lst, len_tup, D_add, D_sub, D_mod, eq_int, ne_int, neg_int, ix0, ix1, ix2, ix3, ix4, tx0, tx1, tx2, sx0, sx1, sx2, List.length_cons, List.length_nil, List.cons_append, List.nil_append, List.replicate, Nat.reduceAdd, Nat.reduceSub, List.getElem?_cons_zero, List.getElem?_cons_succ, List.getElem?_nil, List.set_cons_zero, List.set_cons_succ, Option.bind_some, Option.map_some, Option.isSome_some, true_and, and_true, if_true, if_false, Bool.false_eq_true, reduceIte, Int.reduceBEq, Bool.not_true, Bool.not_false, List.nodup_cons, List.nodup_nil, List.not_mem_nil, not_false_eq_true, List.mem_cons, or_false, ↓opt_f, ↓optF_some, ↓ite_cd, ↓cd_true, ↓cd_false, ↓forL_f, ↓lcL_f, ↓dcL_f, ↓noEr_run, ↓w_frz, ↓getW_own, ↓dListRg1, ↓dIndex, ↓dCKw, ↓dMake, ↓dList, seq_lst, seq_tup, kwP1, kwP10, beq_self_eq_true, ↓dEqO, ↓dBinO, ↓dNev, tyV_dct, tyV_ins, kno_dct, clV_ptr, kit_sameR, nf_same, nf_none, nf_int, nf_bool, nf_str, nf_lst, nf_tup, nf_dct, ↓dLenO, eq_bl, ne_bl, ↓hot_run, ↓w_try, ↓w_try0, ↓erH_cons, ↓erH_nil, ↓shutD_mk, x1_mk, x2_mk, ↓w_rz, ↓dXf, ↓dIsX, ↓dBinS, ↓w_nest, ↓w_dnSeq, ↓w_dnT, ↓w_dnFrz, dnCons, dnNil, hideR, hid_val, hid_own, hid_par, hid_no, oL_none, oL_some, ltO_none, ltO_some, hidL_cons, hidL_nil, dgSq, ↓dLc2, lcL2_f, ↓dChain3, ↓w_seqP, ↓w_retT, ↓w_callT, ↓dIfF, ↓w_nestL, ↓w_dnSeq2, dnLc, ↓w_dnPar2, ↓w_dnFC, lcN_f, hs, hlen, e3]
    refine is_name_any A pa ?_
    cases ha : isName a with
    | false =>
      simp only [ha, if_true] at k
      simp! only [idd_eq]
      exact k
    | true =>
    simp only [ha, Bool.true_eq_false, if_false] at k
    simp! only [idd_eq]
    refine is_value_any A pb ?_
    cases hb : isVal b with
    | false =>
      simp only [hb, if_true] at k
      simp! only [idd_eq]
      exact k
    | true =>
    simp only [hb, Bool.true_eq_false, if_false] at k
    simp! only [idd_eq]
    refine is_key_any A pc ?_
    cases c with
    | bad z =>
      dsimp only at k ⊢
      simp! only [idd_eq]
      exact k
    | key l =>
    dsimp only at k ⊢
    cases hk : keyB l with
    | false =>
      simp only [hk, if_true] at k
      simp! only [idd_eq]
      exact k
    | true =>
    simp only [hk, Bool.true_eq_false, if_false] at k
    obtain ⟨n, rfl, hnm, en⟩ := isName_at ha
    rw [en] at k
    simp! only [hit]
    have hz : (rs.map (Rk.P kd)).length ≤ sizeLine := by rw [List.length_map]; exact size60 hl
    have hm : ∀ (y : D), y ∈ rs.map (Rk.P kd) → ∃ r ∈ rs, y = r.P kd := fun y hy => by obtain ⟨r, h, rfl⟩ := List.mem_map.mp hy; exact ⟨r, h, rfl⟩
    have hnms : ∀ y ∈ rs.map EE, IsNm y.1 := fun y hy => by obtain ⟨r, h, rfl⟩ := List.mem_map.mp hy; exact (hrs r h).ee.1
    refine lcL_inv (fun i acc ρ => ∃ t : Sl, t.isP = false ∧ acc = (rs.take i).map (fun r => nmD (EE r).1) ∧ ρ = [.val d, .val x, .val (nmD n), .val b, .val (byD l), t]) ⟨.no, rfl, rfl, rfl⟩ ?_ ?_
    · rintro i y acc ρ nx hy ⟨t, pt, rfl, rfl⟩ hnx
      rw [List.getElem?_map] at hy
      cases hg : rs[i]? with
      | none => rw [hg] at hy; cases hy
      | some r =>
        rw [hg] at hy
        cases hy
        obtain ⟨hi, er⟩ := List.getElem?_eq_some_iff.mp hg
        have R := hrs r (List.mem_of_getElem? hg)
        have hsz : ((rs.take i).map (fun r => nmD (EE r).1)).length < sizeLine := by rw [List.length_map, List.length_take]; exact size60' (by omega)
        simp! only [pt, (R.pix kd).1, hsz]
        refine hnx _ _ ⟨_, rfl, ?_, rfl⟩
        rw [List.take_succ_eq_append_getElem hi, List.map_append, er]; rfl
    rintro acc ρ ⟨t, pt, rfl, rfl⟩
    rw [List.length_map, List.take_length]
    have htw := names_in hnm hnms
    rw [ee_map (fun e => nmD e.1)] at htw
    cases hw : decide (n ∈ (rs.map EE).map (·.1)) with
    | true =>
      rw [hw] at htw k
      simp only [if_true] at k
      simp! only [pt, htw]
      exact k
    | false =>
    rw [hw] at htw k
    simp only [Bool.false_eq_true, if_false] at k
    simp! only [pt, htw, hit]
    refine lcL_inv (fun i acc ρ => ∃ t : Sl, t.isP = false ∧ acc = (rs.take i).map (fun r => byD (EE r).2) ∧ ρ = [.val d, .val x, .val (nmD n), .val b, .val (byD l), t]) ⟨_, pt, rfl, rfl⟩ ?_ ?_
    · rintro i y acc ρ nx hy ⟨t, pt, rfl, rfl⟩ hnx
      rw [List.getElem?_map] at hy
      cases hg : rs[i]? with
      | none => rw [hg] at hy; cases hy
      | some r =>
        rw [hg] at hy
        cases hy
        obtain ⟨hi, er⟩ := List.getElem?_eq_some_iff.mp hg
        have R := hrs r (List.mem_of_getElem? hg)
        have hsz : ((rs.take i).map (fun r => byD (EE r).2)).length < sizeLine := by rw [List.length_map, List.length_take]; exact size60' (by omega)
        simp! only [pt, (R.pix kd).2, hsz]
        refine hnx _ _ ⟨_, rfl, ?_, rfl⟩
        rw [List.take_succ_eq_append_getElem hi, List.map_append, er]; rfl
    rintro acc ρ ⟨t, pt, rfl, rfl⟩
    rw [List.length_map, List.take_length]
    have hke := keys_in l ((rs.map EE).map (·.2))
    rw [List.map_map, ee_map (byD ∘ fun e => e.2)] at hke
    have hke : D.inBs false (byD l) (.lst (rs.map fun r => byD (EE r).2)) = some (.bl (decide (l ∈ (rs.map EE).map (·.2)))) := hke
    cases hw2 : decide (l ∈ (rs.map EE).map (·.2)) with
    | true =>
      rw [hw2] at hke k
      simp only [if_true] at k
      simp! only [pt, hke]
      exact k
    | false =>
      rw [hw2] at hke k
      simp only [Bool.false_eq_true, if_false] at k
      simp! only [pt, hke]
      exact k
theorem tup_at {d : D} (h : plain d) (Cs : List Addr) (K : PySem.W.Frag) : ∃ ty, D.tyV d = some ty ∧ PySem.W.kitOne K ty (.type "tuple") = some (isTup d) ∧ D.kno Cs d = true := by
  cases d <;> first | exact h.elim | exact ⟨_, rfl, by rfl, rfl⟩
theorem law_word_ok {r : Rk} (hr : r.Ok) {rs all : List Rk} {n : Nat} (hn : all[n]? = some r) (ht : all.take n = rs) (hrs : ∀ y ∈ rs, Rt y) (hl : rs.length ≤ 60) {q : D → List D → Prop} {er : Addr → List (Str × D) → List D → Prop} (k : q (wordOf r (rs.map EE)) []) :
    dsp_p_law_word K A [.val (.lst (all.map Rk.L)), .val (.int (n : Int))] q er := by
  unfold dsp_p_law_word body_p_law_word
  unfold wordOf at k
  have hix : D.ix (.lst (all.map Rk.L)) (.int (n : Int)) = some r.L := by
    obtain ⟨h, e⟩ := List.getElem?_eq_some_iff.mp hn
    rw [ixn rfl (by rw [List.length_map]; exact h), List.getElem?_map, hn]; rfl
  have hcut : D.cut (.lst (all.map Rk.L)) none (some (n : Int)) = some (.lst (rs.map Rk.L)) := by rw [cutL_lo, ← List.map_take, ht]
  cases r with
  | oth d =>
    dsimp only at k
    obtain ⟨ty, t1, t2, t3⟩ := tup_at hr.1 A.isis K
    rw [hr.2.1] at t2
    rw [show (Rk.oth d).L = d from rfl] at hix
    simp! only [hix, t1, t2, t3]
    exact k
  | full a b c =>
    dsimp only at k
    obtain ⟨pa, pb, pc⟩ := hr
    have e3 : (((0 + 1 + 1 + 1 : Nat) : Int) == 3) = true := by decide
    rw [show (Rk.full a b c).L = .tup [a, b, c.L] from rfl] at hix
    have kt : PySem.W.kitOne K (.type "tuple") (.type "tuple") = some true := by rfl
    simp! only [hix, e3, kt]
    refine law_name_any A pa ?_
    cases ha : isName a with
    | false =>
      simp only [ha, if_true] at k
      simp! only [idd_eq]
      exact k
    | true =>
    simp only [ha, Bool.true_eq_false, if_false] at k
    simp! only [idd_eq]
    refine lvalue_any A pb ?_
    cases hb : isVal b with
    | false =>
      simp only [hb, if_true] at k
      simp! only [idd_eq]
      exact k
    | true =>
    simp only [hb, Bool.true_eq_false, if_false] at k
    simp! only [idd_eq]
    refine law_key_any A pc ?_
    cases c with
    | bad z =>
      dsimp only at k ⊢
      simp! only [idd_eq]
      exact k
    | key l =>
    dsimp only at k ⊢
    cases hk : keyB l with
    | false =>
      simp only [hk, if_true] at k
      simp! only [idd_eq]
      exact k
    | true =>
    simp only [hk, Bool.true_eq_false, if_false] at k
    obtain ⟨m, rfl, hnm, en⟩ := isName_at ha
    rw [en] at k
    rw [show (KF.key l).L = nsD l from rfl] at hix ⊢
    simp! only [hcut]
    have hnms : ∀ y ∈ rs.map EE, IsNm y.1 := fun y hy => by obtain ⟨r, h, rfl⟩ := List.mem_map.mp hy; exact (hrs r h).ee.1
    refine lcL_inv (fun i acc ρ => ∃ t : Sl, t.isP = false ∧ acc = (rs.take i).map (fun r => nmD (EE r).1) ∧ ρ = [.val (.lst (all.map Rk.L)), .val (.int (n : Int)), .val (.tup [.str (mk m), b, nsD l]), t]) ⟨.no, rfl, rfl, rfl⟩ ?_ ?_
    · rintro i y acc ρ nx hy ⟨t, pt, rfl, rfl⟩ hnx
      rw [List.getElem?_map] at hy
      cases hg : rs[i]? with
      | none => rw [hg] at hy; cases hy
      | some r =>
        rw [hg] at hy
        cases hy
        obtain ⟨hi, er⟩ := List.getElem?_eq_some_iff.mp hg
        have R := hrs r (List.mem_of_getElem? hg)
        have hsz : ((rs.take i).map (fun r => nmD (EE r).1)).length < sizeLine := by rw [List.length_map, List.length_take]; exact size60' (by omega)
        simp! only [pt, R.lix.1, hsz]
        refine hnx _ _ ⟨_, rfl, ?_, rfl⟩
        rw [List.take_succ_eq_append_getElem hi, List.map_append, er]; rfl
    rintro acc ρ ⟨t, pt, rfl, rfl⟩
    rw [List.length_map, List.take_length]
    have htw := names_in hnm hnms
    rw [ee_map (fun e => nmD e.1)] at htw
    cases hw : decide (m ∈ (rs.map EE).map (·.1)) with
    | true =>
      rw [hw] at htw k
      simp only [if_true] at k
      simp! only [pt, htw]
      exact k
    | false =>
    rw [hw] at htw k
    simp only [Bool.false_eq_true, if_false] at k
    simp! only [pt, htw, hcut]
    refine lcL_inv (fun i acc ρ => ∃ t : Sl, t.isP = false ∧ acc = (rs.take i).map (fun r => nsD (EE r).2) ∧ ρ = [.val (.lst (all.map Rk.L)), .val (.int (n : Int)), .val (.tup [.str (mk m), b, nsD l]), t]) ⟨_, pt, rfl, rfl⟩ ?_ ?_
    · rintro i y acc ρ nx hy ⟨t, pt, rfl, rfl⟩ hnx
      rw [List.getElem?_map] at hy
      cases hg : rs[i]? with
      | none => rw [hg] at hy; cases hy
      | some r =>
        rw [hg] at hy
        cases hy
        obtain ⟨hi, er⟩ := List.getElem?_eq_some_iff.mp hg
        have R := hrs r (List.mem_of_getElem? hg)
        have hsz : ((rs.take i).map (fun r => nsD (EE r).2)).length < sizeLine := by rw [List.length_map, List.length_take]; exact size60' (by omega)
        simp! only [pt, R.lix.2, hsz]
        refine hnx _ _ ⟨_, rfl, ?_, rfl⟩
        rw [List.take_succ_eq_append_getElem hi, List.map_append, er]; rfl
    rintro acc ρ ⟨t, pt, rfl, rfl⟩
    rw [List.length_map, List.take_length]
    have hke := (in_nss l ((rs.map EE).map (·.2))).1
    rw [List.map_map, ee_map (nsD ∘ fun e => e.2)] at hke
    have hke : D.isIn (nsD l) (.lst (rs.map fun r => nsD (EE r).2)) = some (.bl (decide (l ∈ (rs.map EE).map (·.2)))) := hke
    cases hw2 : decide (l ∈ (rs.map EE).map (·.2)) with
    | true =>
      rw [hw2] at hke k
      simp only [if_true] at k
      simp! only [pt, hke]
      exact k
    | false =>
      rw [hw2] at hke k
      simp only [Bool.false_eq_true, if_false] at k
      simp! only [pt, hke]
      exact k
end
set_option maxHeartbeats 2000000
def scan : Nat → List E2 → List Rk → Option (Int × D)
  | _, _, [] => none
  | i, es, d :: t => match wordOf d es with
    | .non => scan (i + 1) (es ++ [EE d]) t
    | w => some ((i : Int), w)
def parO (ks : List LB) : Nat → List Rk → Option (Int × D)
  | _, [] => none
  | i, r :: t => if cut8 (EE r).2 = [] ∨ cut8 (EE r).2 ∈ ks then parO ks (i + 1) t else some ((i : Int), wd "parent")
def dueO (xs : List Rk) : Option (Int × D) := if 60 < xs.length then some (-1, wd "rows") else match scan 0 [] xs with
  | some p => some p
  | none => parO ((xs.map EE).map (·.2)) 0 xs
theorem scan_go {i : Nat} {es : List E2} {d : Rk} {t : List Rk} (h : wordOf d es = .non) : scan i es (d :: t) = scan (i + 1) (es ++ [EE d]) t := by rw [scan, h]
theorem word_kind (d : Rk) (es : List E2) : wordOf d es = .non ∨ ∃ s, wordOf d es = wd s := by
  unfold wordOf
  cases d with
  | oth d => exact .inr ⟨_, rfl⟩
  | full a b c =>
    dsimp only
    split
    · exact .inr ⟨_, rfl⟩
    · split
      · exact .inr ⟨_, rfl⟩
      · cases c with
        | bad d => exact .inr ⟨_, rfl⟩
        | key l =>
          dsimp only
          split
          · exact .inr ⟨_, rfl⟩
          · split
            · exact .inr ⟨_, rfl⟩
            · split
              · exact .inr ⟨_, rfl⟩
              · exact .inl rfl
theorem scan_stop {i : Nat} {es : List E2} {d : Rk} {t : List Rk} {s : String} (h : wordOf d es = wd s) : scan i es (d :: t) = some ((i : Int), wd s) := by rw [scan, h]
structure Upto (xs : List Rk) (i : Nat) : Prop where
  sc : scan 0 [] xs = scan i ((xs.take i).map EE) (xs.drop i)
  rt : ∀ d ∈ xs.take i, Rt d
theorem Upto.zero (xs : List Rk) : Upto xs 0 := ⟨rfl, fun d h => by cases h⟩
theorem Upto.succ {xs : List Rk} {i : Nat} (U : Upto xs i) {d : Rk} (ho : d.Ok) (hd : xs[i]? = some d) (h : wordOf d ((xs.take i).map EE) = .non) : Upto xs (i + 1) := by
  obtain ⟨hi, e⟩ := List.getElem?_eq_some_iff.mp hd
  refine ⟨?_, fun y hy => ?_⟩
  · rw [U.sc, List.drop_eq_getElem_cons hi, e, scan_go h, List.take_succ_eq_append_getElem hi, List.map_append, e]; rfl
  · rw [List.take_succ_eq_append_getElem hi, e] at hy
    rcases List.mem_append.mp hy with z | z
    · exact U.rt y z
    · rw [List.mem_singleton.mp z]; exact right_at ho h
theorem Upto.stop {xs : List Rk} {i : Nat} (U : Upto xs i) {d : Rk} (hd : xs[i]? = some d) {s : String} (h : wordOf d ((xs.take i).map EE) = wd s) : scan 0 [] xs = some ((i : Int), wd s) := by
  obtain ⟨hi, e⟩ := List.getElem?_eq_some_iff.mp hd
  rw [U.sc, List.drop_eq_getElem_cons hi, e, scan_stop h]
theorem Upto.fin {xs : List Rk} (U : Upto xs xs.length) : scan 0 [] xs = none := by
  rw [U.sc, List.drop_length]; rfl
theorem par_go {ks : List LB} {xs : List Rk} {i : Nat} {d : Rk} (hd : xs[i]? = some d) (h : cut8 (EE d).2 = [] ∨ cut8 (EE d).2 ∈ ks) (U : parO ks 0 xs = parO ks i (xs.drop i)) : parO ks 0 xs = parO ks (i + 1) (xs.drop (i + 1)) := by
  obtain ⟨hi, e⟩ := List.getElem?_eq_some_iff.mp hd
  rw [U, List.drop_eq_getElem_cons hi, e, parO, if_pos h]
theorem par_stop {ks : List LB} {xs : List Rk} {i : Nat} {d : Rk} (hd : xs[i]? = some d) (h : ¬ (cut8 (EE d).2 = [] ∨ cut8 (EE d).2 ∈ ks)) (U : parO ks 0 xs = parO ks i (xs.drop i)) : parO ks 0 xs = some ((i : Int), wd "parent") := by
  obtain ⟨hi, e⟩ := List.getElem?_eq_some_iff.mp hd
  rw [U, List.drop_eq_getElem_cons hi, e, parO, if_neg h]
theorem dbL_inv {g : DG} {dk : DE} {vs : List Nat} {q : List (Array UInt8) → Ro → Prop} {ds : List D} {ρ : Ro} (I : Nat → List (Array UInt8) → Ro → Prop) (h0 : I 0 [] ρ)
    (step : ∀ (i : Nat) (d : D) (acc : List (Array UInt8)) (ρ : Ro) (nx : List (Array UInt8) → Ro → Prop), ds[i]? = some d → I i acc ρ → (∀ acc' ρ', I (i + 1) acc' ρ' → nx acc' ρ') → g (.val d) (wipeD ρ vs) fun ρ1 => dk ρ1 (fun u ρ2 => match u with
      | .val (.byt b) => acc.length < sizeLine ∧ nx (acc ++ [b]) (wipeD ρ2 vs)
      | _ => False) (fun _ _ _ => False))
    (fin : ∀ acc ρ, I ds.length acc ρ → q acc ρ) : dbL g dk vs q ds [] ρ := by
  have go : ∀ (n i : Nat) (acc : List (Array UInt8)) (ρ : Ro), ds.length - i = n → i ≤ ds.length → I i acc ρ → dbL g dk vs q (ds.drop i) acc ρ := by
    intro n
    induction n with
    | zero =>
      intro i acc ρ e hi h
      have ei : i = ds.length := by omega
      subst ei
      rw [List.drop_length]
      exact fin acc ρ h
    | succ n ih =>
      intro i acc ρ e hi h
      have hlt : i < ds.length := by omega
      rw [List.drop_eq_getElem_cons hlt]
      exact step i ds[i] acc ρ (fun acc' ρ' => dbL g dk vs q (ds.drop (i + 1)) acc' ρ') (by simp [hlt]) h fun acc' ρ' h' => ih (i + 1) acc' ρ' (by omega) hlt h'
  exact go ds.length 0 [] ρ rfl (Nat.zero_le _) h0
theorem w_seqB {i : Nat} {dm : DMB} {rest : Addr → List (Array UInt8) → DS} {nx : Ro → Prop} {rt : T → Ro → Prop} {rf : D → Ro → Prop} {bk ct : Ro → Prop} {er : ER} {ρ : Ro} : dSeqB i dm rest ⟨nx, rt, rf, bk, ct, er⟩ ρ = dm ρ (fun ks ρ1 => isPar ρ1 i = false ∧ ∀ p, rest p ks ⟨nx, rt, rf, bk, ct, er⟩ (ρ1.set i (.val (.ptr p)))) er := rfl
def seqL : D → Option (List D)
  | .lst xs => some xs
  | .tup xs => some xs
  | _ => none
def fltF (i : Int) (w : D) : List (Str × D) := [("place", .int i), ("word", w)]
theorem nPW : ¬ (("place" : Str) = "word") := by decide +kernel
theorem nWP : (("word" : Str) == "place") = false := by decide +kernel
theorem seqL_at {x : D} {xs : List D} (h : seqL x = some xs) : isSeq x = true ∧ D.items x = some xs ∧ D.len [x] = some (.int (xs.length : Int)) ∧ (∀ n : Nat, ∃ y, D.cut x none (some (n : Int)) = some y ∧ D.items y = some (xs.take n)) ∧ (∀ (n : Nat) (d : D), xs[n]? = some d → D.ix x (.int n) = some d) := by
  cases x with
  | lst ys =>
    have h := Option.some.inj h
    subst h
    refine ⟨rfl, rfl, rfl, fun n => ⟨_, cutL_lo, rfl⟩, fun n d hd => ?_⟩
    obtain ⟨hi, e⟩ := List.getElem?_eq_some_iff.mp hd
    rw [ixn (xs := ys) rfl hi, hd]
  | tup ys =>
    have h := Option.some.inj h
    subst h
    refine ⟨rfl, rfl, rfl, fun n => ⟨_, cutT_lo, rfl⟩, fun n d hd => ?_⟩
    obtain ⟨hi, e⟩ := List.getElem?_eq_some_iff.mp hd
    have := ixn (xs := ys) (n := n) rfl hi
    have e : D.ix (.tup ys) (.int n) = D.ix (.lst ys) (.int n) := rfl
    rw [e, this, hd]
  | _ => cases h
theorem seqL_or {x : D} {xs : List D} (h : seqL x = some xs) : x = .lst xs ∨ x = .tup xs := by
  cases x with
  | lst ys => exact .inl (congrArg D.lst (Option.some.inj h))
  | tup ys => exact .inr (congrArg D.tup (Option.some.inj h))
  | _ => cases h
theorem seqL_no {x : D} (h : seqL x = none) : isSeq x = false := by cases x <;> first | rfl | cases h
theorem notN_wd (s : String) : D.isNotN (wd s) .non = some (.bl true) := rfl
theorem cut_last {ps : List LB} {p : LB} : D.cut (.lst ((ps ++ [p]).map byD)) none (some (-1)) = some (.lst (ps.map byD)) := by
  rw [List.map_append, cutL, HT.sIx_none]
  have e : HT.sIx (ps.map byD ++ [p].map byD).length (ps.map byD ++ [p].map byD).length (some (-1)) = (ps.map byD).length := by
    rw [List.length_append, List.length_map, List.length_map, List.length_singleton]
    unfold HT.sIx
    simp
    omega
  rw [e, List.drop_zero, Nat.sub_zero, List.take_left]
theorem cat_flat (ps : List LB) : catB (ps.map List.toArray) = ps.flatten.toArray := by
  unfold catB
  rw [List.map_map]
  congr 2
  conv => rhs; rw [← List.map_id ps]
  rfl
theorem sum_le : ∀ {ps : List LB} {w : Nat}, (∀ x ∈ ps, x.length ≤ w) → ((ps.map List.toArray).map Array.size).sum ≤ ps.length * w
  | [], _, _ => Nat.zero_le _
  | p :: ps, w, h => by
    have h1 := h p List.mem_cons_self
    have h2 := sum_le (ps := ps) (w := w) fun x hx => h x (List.mem_cons_of_mem _ hx)
    rw [List.map_cons, List.map_cons, List.sum_cons, List.length_cons, Nat.succ_mul]
    show p.toArray.size + _ ≤ _
    rw [List.size_toArray]
    omega
section
variable {K : PySem.W.Frag} (A : Ads)
abbrev flt (i : Int) (w : D) : D := .ins A.c_Fault (fltF i w)
def fltO : Option (Int × D) → D
  | none => .non
  | some (i, w) => flt A i w
theorem fault_ok (i : Int) (w : D) {q : D → List D → Prop} {er} (k : q .non [flt A i w]) : dsp_Fault_init K A [.par (.ins A.c_Fault []), .val (.int i), .val w] q er := by
  unfold dsp_Fault_init body_Fault_init
  simp! only [Ads.cs_place, Ads.cs_word, Nat.reduceLT, pf_ne nPW]
  exact k
theorem judge_no {x : D} (hp : plain x) (hx : seqL x = none) {q : D → List D → Prop} {er : Addr → List (Str × D) → List D → Prop} (k : q (flt A (-1) (wd "rows")) []) : dsp_judge_keys K A [.val x] q er := by
  unfold dsp_judge_keys body_judge_keys
  simp! only [idd_eq]
  refine is_seq_any A hp ?_
  simp! only [seqL_no hx]
  refine fault_ok A _ _ ?_
  simp! only [idd_eq]
  exact k
theorem judge_ok {kd : Bool} {rs : List Rk} {x : D} (hx : seqL x = some (rs.map (Rk.P kd))) (ho : ∀ r ∈ rs, r.Ok) {q : D → List D → Prop} {er : Addr → List (Str × D) → List D → Prop} (k : q (fltO A (dueO rs)) []) : dsp_judge_keys K A [.val x] q er := by
  unfold dsp_judge_keys body_judge_keys
  obtain ⟨h1, h2, h3, h4, h5⟩ := seqL_at hx
  have hp : plain x := by rcases seqL_or hx with rfl | rfl <;> trivial
  have hen : ∀ (t : List Sl) (q : List D → Ro → Prop) (er : ER), diEnumX (dVar 0) (.val x :: t) q er = q (enumD (rs.map (Rk.P kd))) (.val x :: t) := fun t q er => by rcases seqL_or hx with rfl | rfl <;> rfl
  rw [List.length_map] at h3
  unfold dueO at k
  simp! only [idd_eq]
  refine is_seq_any A hp ?_
  cases hl : decide ((60 : Int) < (rs.length : Int)) with
  | true =>
    have hl' := of_decide_eq_true hl
    simp only [show 60 < rs.length by omega, if_true] at k
    simp! only [h1, h3, hl]
    refine fault_ok A _ _ ?_
    simp! only [idd_eq]
    exact k
  | false =>
    have hl' := of_decide_eq_false hl
    simp only [show ¬ 60 < rs.length by omega, if_false] at k
    simp -implicitDefEqProofs -dsimp only [idd_eq, Nat.reduceEqDiff, ↓w_seq, ↓w_if, ↓dTest, ↓dOp, ↓dUn, ↓w_var, ↓getS_val, ↓getS_own, ↓getS_par, ↓dC, rd_val, rd_bor, ownD_own, ownD_par, rds_nil, rds_cons, ↓w_asg, ↓dCB, ↓dCons, ↓dNil, ↓dgName, ↓dgTup, ↓dgCons, ↓dgNil, ↓w_setIx, ↓w_ret, ↓w_retF, ↓w_retN, ↓w_next, ↓w_drop, ↓w_own, ↓w_brk, ↓w_cnt, ↓w_setF, ↓w_dput, ↓w_body, ↓dN, ↓dCall, ↓dCallF, argsOf_nil, argsOf_val, argsOf_bor, bors, ↓dV, ↓dTup, ↓dLst, vals_nil, vals_val, ↓w_par, ↓w_par3, ↓w_parVO, ↓w_parOV, ↓w_parOO, ↓dTruth, ↓dIsi, ↓dIsiT, ↓dInO, insOf_ins, ↓dDNew, ↓dDGet, ↓dDIn, toTup_lst, toTup_tup, pf_nil, lk_self, key_str, key_int, isN_non, isNN_non, kno_int, kno_str, kno_lst, kno_tup, kno_bl, kno_non, tyV_int, tyV_bl, tyV_str, tyV_lst, tyV_tup, tyV_non, clV_ty, clVT_nil, clVT_val, kit_same, kit_int_bool, kit_bool_int, kits_list, kits_tuple, ↓dNot, ↓dAnd, ↓dOr, ↓dIf, ↓dAndV, ↓dOrV, ↓dNotV, ↓dChain, ↓dMeth, ↓dMethF, ↓dKw, ↓dSl, ↓dNoP, ↓dPart, ↓w_for, diRng1, diRng2, diRevR1, diAny, items_lst, items_tup, ↓dLc, ↓dDc, ↓dFld, ownAt_def, setD, Sl.setD, isPar0, isParS, isPN, isP_val, isP_own, isP_no, isP_par, ↓doF, outs_nil, outs_cons, parD_par, parIx, putOuts, wipeD, ↓dBodyF, ↓dAppend, D.isLst, cmp_int, bool_bl, toInt_int, toInt_bl, truth_bl, truth_int, truth_non, len_lst, len_tup, D_add, D_sub, D_mod, eq_int, ne_int, neg_int, ix0, ix1, ix2, ix3, ix4, tx0, tx1, tx2, sx0, sx1, sx2, List.length_cons, List.length_nil, List.cons_append, List.nil_append, List.replicate, Nat.reduceAdd, Nat.reduceSub, List.getElem?_cons_zero, List.getElem?_cons_succ, List.getElem?_nil, List.set_cons_zero, List.set_cons_succ, Option.bind_some, Option.map_some, Option.isSome_some, true_and, and_true, if_true, if_false, Bool.false_eq_true, reduceIte, Int.reduceBEq, Bool.not_true, Bool.not_false, List.nodup_cons, List.nodup_nil, List.not_mem_nil, not_false_eq_true, List.mem_cons, or_false, ↓opt_f, ↓optF_some, ↓ite_cd, ↓cd_true, ↓cd_false, ↓forL_f, ↓lcL_f, ↓dcL_f, ↓noEr_run, ↓w_frz, ↓getW_own, ↓dListRg1, ↓dIndex, ↓dCKw, ↓dMake, ↓dList, seq_lst, seq_tup, kwP1, kwP10, beq_self_eq_true, ↓dEqO, ↓dBinO, ↓dNev, tyV_dct, tyV_ins, kno_dct, clV_ptr, kit_sameR, nf_same, nf_none, nf_int, nf_bool, nf_str, nf_lst, nf_tup, nf_dct, ↓dLenO, eq_bl, ne_bl, ↓hot_run, ↓w_try, ↓w_try0, ↓erH_cons, ↓erH_nil, ↓shutD_mk, x1_mk, x2_mk, ↓w_rz, ↓dXf, ↓dIsX, ↓dBinS, ↓w_nest, ↓w_dnSeq, ↓w_dnT, ↓w_dnFrz, dnCons, dnNil, hideR, hid_val, hid_own, hid_par, hid_no, oL_none, oL_some, ltO_none, ltO_some, hidL_cons, hidL_nil, dgSq, ↓dLc2, lcL2_f, ↓dChain3, ↓w_seqP, ↓w_retT, ↓w_callT, ↓dIfF, ↓w_nestL, ↓w_dnSeq2, dnLc, ↓w_dnPar2, ↓w_dnFC, lcN_f, hen, h1, h2, h3, hl]
    refine forL_inv (fun i ρ => ∃ s1 s2 s3 : Sl, (s1.isP = false ∧ s2.isP = false ∧ s3.isP = false) ∧ Upto rs i ∧ ρ = [.val x, s1, s2, s3, .no, .no]) ⟨.no, .no, .no, ⟨rfl, rfl, rfl⟩, Upto.zero rs, rfl⟩ ?_ ?_
    · rintro i e ρ nx he ⟨s1, s2, s3, ⟨p1, p2, p3⟩, U, rfl⟩ hnx
      obtain ⟨d, hd, rfl⟩ := enumD_get he
      rw [List.getElem?_map] at hd
      cases hg : rs[i]? with
      | none => rw [hg] at hd; cases hd
      | some r =>
      rw [hg] at hd
      cases hd
      obtain ⟨hi, ed⟩ := List.getElem?_eq_some_iff.mp hg
      obtain ⟨y, ey, hy⟩ := h4 i
      rw [← List.map_take] at hy
      have hr := ho r (List.mem_of_getElem? hg)
      simp! only [p1, p2, p3, ey]
      refine key_word_ok A hr hy U.rt (by rw [List.length_take]; omega) ?_
      rcases word_kind r ((rs.take i).map EE) with hw | ⟨s, hw⟩
      · rw [hw]
        simp! only [p1, p2, p3]
        exact hnx _ ⟨_, _, _, ⟨rfl, rfl, rfl⟩, U.succ hr hg hw, rfl⟩
      · rw [hw]
        rw [U.stop hg hw] at k
        simp! only [p1, p2, p3, notN_wd]
        refine fault_ok A _ _ ?_
        simp! only [p1, p2, p3]
        exact k
    · rintro ρ ⟨s1, s2, s3, ⟨p1, p2, p3⟩, U, rfl⟩
      rw [enumD_length, List.length_map] at U
      rw [U.fin] at k
      have rt : ∀ d ∈ rs, Rt d := by have := U.rt; rwa [List.take_length] at this
      have k : q (fltO A (parO ((rs.map EE).map (·.2)) 0 rs)) [] := k
      simp -implicitDefEqProofs -dsimp only [idd_eq, Nat.reduceEqDiff, ↓w_seq, ↓w_if, ↓dTest, ↓dOp, ↓dUn, ↓w_var, ↓getS_val, ↓getS_own, ↓getS_par, ↓dC, rd_val, rd_bor, ownD_own, ownD_par, rds_nil, rds_cons, ↓w_asg, ↓dCB, ↓dCons, ↓dNil, ↓dgName, ↓dgTup, ↓dgCons, ↓dgNil, ↓w_setIx, ↓w_ret, ↓w_retF, ↓w_retN, ↓w_next, ↓w_drop, ↓w_own, ↓w_brk, ↓w_cnt, ↓w_setF, ↓w_dput, ↓w_body, ↓dN, ↓dCall, ↓dCallF, argsOf_nil, argsOf_val, argsOf_bor, bors, ↓dV, ↓dTup, ↓dLst, vals_nil, vals_val, ↓w_par, ↓w_par3, ↓w_parVO, ↓w_parOV, ↓w_parOO, ↓dTruth, ↓dIsi, ↓dIsiT, ↓dInO, insOf_ins, ↓dDNew, ↓dDGet, ↓dDIn, toTup_lst, toTup_tup, pf_nil, lk_self, key_str, key_int, isN_non, isNN_non, kno_int, kno_str, kno_lst, kno_tup, kno_bl, kno_non, tyV_int, tyV_bl, tyV_str, tyV_lst, tyV_tup, tyV_non, clV_ty, clVT_nil, clVT_val, kit_same, kit_int_bool, kit_bool_int, kits_list, kits_tuple, ↓dNot, ↓dAnd, ↓dOr, ↓dIf, ↓dAndV, ↓dOrV, ↓dNotV, ↓dChain, ↓dMeth, ↓dMethF, ↓dKw, ↓dSl, ↓dNoP, ↓dPart, ↓w_for, diRng1, diRng2, diRevR1, diAny, items_lst, items_tup, ↓dLc, ↓dDc, ↓dFld, ownAt_def, setD, Sl.setD, isPar0, isParS, isPN, isP_val, isP_own, isP_no, isP_par, ↓doF, outs_nil, outs_cons, parD_par, parIx, putOuts, wipeD, ↓dBodyF, ↓dAppend, D.isLst, cmp_int, bool_bl, toInt_int, toInt_bl, truth_bl, truth_int, truth_non, len_lst, len_tup, D_add, D_sub, D_mod, eq_int, ne_int, neg_int, ix0, ix1, ix2, ix3, ix4, tx0, tx1, tx2, sx0, sx1, sx2, List.length_cons, List.length_nil, List.cons_append, List.nil_append, List.replicate, Nat.reduceAdd, Nat.reduceSub, List.getElem?_cons_zero, List.getElem?_cons_succ, List.getElem?_nil, List.set_cons_zero, List.set_cons_succ, Option.bind_some, Option.map_some, Option.isSome_some, true_and, and_true, if_true, if_false, Bool.false_eq_true, reduceIte, Int.reduceBEq, Bool.not_true, Bool.not_false, List.nodup_cons, List.nodup_nil, List.not_mem_nil, not_false_eq_true, List.mem_cons, or_false, ↓opt_f, ↓optF_some, ↓ite_cd, ↓cd_true, ↓cd_false, ↓forL_f, ↓lcL_f, ↓dcL_f, ↓noEr_run, ↓w_frz, ↓getW_own, ↓dListRg1, ↓dIndex, ↓dCKw, ↓dMake, ↓dList, seq_lst, seq_tup, kwP1, kwP10, beq_self_eq_true, ↓dEqO, ↓dBinO, ↓dNev, tyV_dct, tyV_ins, kno_dct, clV_ptr, kit_sameR, nf_same, nf_none, nf_int, nf_bool, nf_str, nf_lst, nf_tup, nf_dct, ↓dLenO, eq_bl, ne_bl, ↓hot_run, ↓w_try, ↓w_try0, ↓erH_cons, ↓erH_nil, ↓shutD_mk, x1_mk, x2_mk, ↓w_rz, ↓dXf, ↓dIsX, ↓dBinS, ↓w_nest, ↓w_dnSeq, ↓w_dnT, ↓w_dnFrz, dnCons, dnNil, hideR, hid_val, hid_own, hid_par, hid_no, oL_none, oL_some, ltO_none, ltO_some, hidL_cons, hidL_nil, dgSq, ↓dLc2, lcL2_f, ↓dChain3, ↓w_seqP, ↓w_retT, ↓w_callT, ↓dIfF, ↓w_nestL, ↓w_dnSeq2, dnLc, ↓w_dnPar2, ↓w_dnFC, lcN_f, ↓w_seqB, ↓dBd, p1, p2, p3, h2]
      refine dbL_inv (fun i acc ρ => ∃ t : Sl, t.isP = false ∧ acc = (rs.take i).map (fun r => (EE r).2.toArray) ∧ ρ = [.val x, s1, t, s3, .no, .no]) ⟨s2, p2, rfl, rfl⟩ ?_ ?_
      · rintro i y acc ρ nx hy ⟨t, pt, rfl, rfl⟩ hnx
        rw [List.getElem?_map] at hy
        cases hg : rs[i]? with
        | none => rw [hg] at hy; cases hy
        | some r =>
          rw [hg] at hy
          cases hy
          obtain ⟨hi, er⟩ := List.getElem?_eq_some_iff.mp hg
          have R := rt r (List.mem_of_getElem? hg)
          have hsz : ((rs.take i).map (fun r => (EE r).2.toArray)).length < sizeLine := by rw [List.length_map, List.length_take]; exact size60' (by omega)
          simp! only [pt, p1, p3, (R.pix kd).2, hsz]
          refine hnx _ _ ⟨_, rfl, ?_, rfl⟩
          rw [List.take_succ_eq_append_getElem hi, List.map_append, er]; rfl
      rintro acc ρ ⟨t, pt, rfl, rfl⟩
      rw [List.length_map, List.take_length]
      refine ⟨rfl, fun p => ?_⟩
      generalize hks : rs.map (fun r => (EE r).2.toArray) = ks
      simp -implicitDefEqProofs -dsimp only [idd_eq, Nat.reduceEqDiff, ↓w_seq, ↓w_if, ↓dTest, ↓dOp, ↓dUn, ↓w_var, ↓getS_val, ↓getS_own, ↓getS_par, ↓dC, rd_val, rd_bor, ownD_own, ownD_par, rds_nil, rds_cons, ↓w_asg, ↓dCB, ↓dCons, ↓dNil, ↓dgName, ↓dgTup, ↓dgCons, ↓dgNil, ↓w_setIx, ↓w_ret, ↓w_retF, ↓w_retN, ↓w_next, ↓w_drop, ↓w_own, ↓w_brk, ↓w_cnt, ↓w_setF, ↓w_dput, ↓w_body, ↓dN, ↓dCall, ↓dCallF, argsOf_nil, argsOf_val, argsOf_bor, bors, ↓dV, ↓dTup, ↓dLst, vals_nil, vals_val, ↓w_par, ↓w_par3, ↓w_parVO, ↓w_parOV, ↓w_parOO, ↓dTruth, ↓dIsi, ↓dIsiT, ↓dInO, insOf_ins, ↓dDNew, ↓dDGet, ↓dDIn, toTup_lst, toTup_tup, pf_nil, lk_self, key_str, key_int, isN_non, isNN_non, kno_int, kno_str, kno_lst, kno_tup, kno_bl, kno_non, tyV_int, tyV_bl, tyV_str, tyV_lst, tyV_tup, tyV_non, clV_ty, clVT_nil, clVT_val, kit_same, kit_int_bool, kit_bool_int, kits_list, kits_tuple, ↓dNot, ↓dAnd, ↓dOr, ↓dIf, ↓dAndV, ↓dOrV, ↓dNotV, ↓dChain, ↓dMeth, ↓dMethF, ↓dKw, ↓dSl, ↓dNoP, ↓dPart, ↓w_for, diRng1, diRng2, diRevR1, diAny, items_lst, items_tup, ↓dLc, ↓dDc, ↓dFld, ownAt_def, setD, Sl.setD, isPar0, isParS, isPN, isP_val, isP_own, isP_no, isP_par, ↓doF, outs_nil, outs_cons, parD_par, parIx, putOuts, wipeD, ↓dBodyF, ↓dAppend, D.isLst, cmp_int, bool_bl, toInt_int, toInt_bl, truth_bl, truth_int, truth_non, len_lst, len_tup, D_add, D_sub, D_mod, eq_int, ne_int, neg_int, ix0, ix1, ix2, ix3, ix4, tx0, tx1, tx2, sx0, sx1, sx2, List.length_cons, List.length_nil, List.cons_append, List.nil_append, List.replicate, Nat.reduceAdd, Nat.reduceSub, List.getElem?_cons_zero, List.getElem?_cons_succ, List.getElem?_nil, List.set_cons_zero, List.set_cons_succ, Option.bind_some, Option.map_some, Option.isSome_some, true_and, and_true, if_true, if_false, Bool.false_eq_true, reduceIte, Int.reduceBEq, Bool.not_true, Bool.not_false, List.nodup_cons, List.nodup_nil, List.not_mem_nil, not_false_eq_true, List.mem_cons, or_false, ↓opt_f, ↓optF_some, ↓ite_cd, ↓cd_true, ↓cd_false, ↓forL_f, ↓lcL_f, ↓dcL_f, ↓noEr_run, ↓w_frz, ↓getW_own, ↓dListRg1, ↓dIndex, ↓dCKw, ↓dMake, ↓dList, seq_lst, seq_tup, kwP1, kwP10, beq_self_eq_true, ↓dEqO, ↓dBinO, ↓dNev, tyV_dct, tyV_ins, kno_dct, clV_ptr, kit_sameR, nf_same, nf_none, nf_int, nf_bool, nf_str, nf_lst, nf_tup, nf_dct, ↓dLenO, eq_bl, ne_bl, ↓hot_run, ↓w_try, ↓w_try0, ↓erH_cons, ↓erH_nil, ↓shutD_mk, x1_mk, x2_mk, ↓w_rz, ↓dXf, ↓dIsX, ↓dBinS, ↓w_nest, ↓w_dnSeq, ↓w_dnT, ↓w_dnFrz, dnCons, dnNil, hideR, hid_val, hid_own, hid_par, hid_no, oL_none, oL_some, ltO_none, ltO_some, hidL_cons, hidL_nil, dgSq, ↓dLc2, lcL2_f, ↓dChain3, ↓w_seqP, ↓w_retT, ↓w_callT, ↓dIfF, ↓w_nestL, ↓w_dnSeq2, dnLc, ↓w_dnPar2, ↓w_dnFC, lcN_f, hen, p1, pt, p3, h2]
      refine forL_inv (fun i ρ => ∃ s1 s2 s3 s5 : Sl, (s1.isP = false ∧ s2.isP = false ∧ s3.isP = false ∧ s5.isP = false) ∧ parO ((rs.map EE).map (·.2)) 0 rs = parO ((rs.map EE).map (·.2)) i (rs.drop i) ∧ ρ = [.val x, s1, s2, s3, .val (.ptr p), s5]) ⟨s1, t, s3, .no, ⟨p1, pt, p3, rfl⟩, rfl, rfl⟩ ?_ ?_
      · rintro i e ρ nx he ⟨s1, s2, s3, s5, ⟨p1, p2, p3, p5⟩, V, rfl⟩ hnx
        obtain ⟨d, hd, rfl⟩ := enumD_get he
        rw [List.getElem?_map] at hd
        cases hg : rs[i]? with
        | none => rw [hg] at hd; cases hd
        | some r =>
        rw [hg] at hd
        cases hd
        obtain ⟨hi, ed⟩ := List.getElem?_eq_some_iff.mp hg
        have R := rt r (List.mem_of_getElem? hg)
        simp! only [p1, p2, p3, p5, (R.pix kd).2]
        refine split_ok A R.ee.2.1 R.ee.2.2.1 fun ps z e1 e2 hz hn => ?_
        have hlen : D.len [.lst ((ps ++ [z]).map byD)] = some (.int ((ps.length : Int) + 1)) := by rw [len_lst, List.length_map, List.length_append, List.length_singleton]; simp
        by_cases hps : ps = []
        · subst hps
          have hg1 : decide ((1 : Int) < ((([] : List LB).length : Nat) : Int) + 1) = false := by decide
          simp! only [p1, p2, p3, p5, hlen, hg1]
          exact hnx _ ⟨_, _, _, _, ⟨rfl, rfl, p3, rfl⟩, par_go hg (.inl (e2.mp rfl)) V, rfl⟩
        · have hlp := List.length_pos_iff.mpr hps
          have hg1 : decide ((1 : Int) < (ps.length : Int) + 1) = true := decide_eq_true (by omega)
          have hb := byts_of_map ps
          have hs : ((ps.map List.toArray).map Array.size).sum ≤ 16777216 := Nat.le_trans (sum_le hz) (Nat.le_trans (Nat.mul_le_mul_right 2000 hn) (by decide))
          have hc := cat_flat ps
          rw [e1] at hc
          have hne : cut8 (EE r).2 ≠ [] := fun w => hps (e2.mpr w)
          have hmem : ((cut8 (EE r).2).toArray ∈ ks) ↔ cut8 (EE r).2 ∈ (rs.map EE).map (·.2) := by
            rw [← hks, List.map_map]
            constructor
            · intro w
              obtain ⟨y, hy, e⟩ := List.mem_map.mp w
              have e := congrArg Array.toList e
              dsimp only at e
              exact List.mem_map.mpr ⟨y, hy, e⟩
            · intro w
              obtain ⟨y, hy, e⟩ := List.mem_map.mp w
              exact List.mem_map.mpr ⟨y, hy, congrArg List.toArray e⟩
          by_cases hin : cut8 (EE r).2 ∈ (rs.map EE).map (·.2)
          · have hd0 : decide ((cut8 (EE r).2).toArray ∈ ks) = true := decide_eq_true (hmem.mpr hin)
            simp! only [p1, p2, p3, p5, hlen, hg1, ↓dNotDB, ↓dJoinB, cut_last, hb, hs, hc, hd0]
            exact hnx _ ⟨_, _, _, _, ⟨rfl, rfl, p3, rfl⟩, par_go hg (.inr hin) V, rfl⟩
          · have hd0 : decide ((cut8 (EE r).2).toArray ∈ ks) = false := decide_eq_false fun w => hin (hmem.mp w)
            rw [par_stop hg (fun w => w.elim hne hin) V] at k
            simp! only [p1, p2, p3, p5, hlen, hg1, ↓dNotDB, ↓dJoinB, cut_last, hb, hs, hc, hd0]
            refine fault_ok A _ _ ?_
            simp! only [p1, p2, p3, p5]
            exact k
      · rintro ρ ⟨s1, s2, s3, s5, ⟨p1, p2, p3, p5⟩, V, rfl⟩
        rw [enumD_length, List.length_map, List.drop_length] at V
        rw [V] at k
        simp! only [p1, p2, p3, p5]
        exact k
def dueD : Option (Int × D) → D
  | none => .non
  | some (i, w) => .tup [.int i, w]
theorem due_ok {rs : List Rk} (ho : ∀ r ∈ rs, r.Ok) {q : D → List D → Prop} {er : Addr → List (Str × D) → List D → Prop} (k : q (dueD (dueO rs)) []) : dsp_p_law_due K A [.val (.lst (rs.map Rk.L))] q er := by
  unfold dsp_p_law_due body_p_law_due
  have z2 : 0 + 1 + 1 ≤ sizeLine := by decide
  have z0 : 0 ≤ sizeLine := by decide
  have z1 : 0 + 1 ≤ sizeLine := by decide
  unfold dueO at k
  have hlen : D.len [.lst (rs.map Rk.L)] = some (.int (rs.length : Int)) := by rw [len_lst, List.length_map]
  cases hl : decide ((60 : Int) < (rs.length : Int)) with
  | true =>
    have hl' := of_decide_eq_true hl
    simp only [show 60 < rs.length by omega, if_true] at k
    simp! only [z2, hlen, hl]
    exact k
  | false =>
    have hl' := of_decide_eq_false hl
    simp only [show ¬ 60 < rs.length by omega, if_false] at k
    simp! only [z2, hlen, hl]
    refine ⟨⟨by omega, by omega⟩, ?_⟩
    refine forL_inv (fun i ρ => ∃ s1 s2 : Sl, (s1.isP = false ∧ s2.isP = false) ∧ Upto rs i ∧ ρ = [.val (.lst (rs.map Rk.L)), s1, s2, .no, .no]) ⟨.no, .no, ⟨rfl, rfl⟩, Upto.zero rs, rfl⟩ ?_ ?_
    · rintro i e ρ nx he ⟨s1, s2, ⟨p1, p2⟩, U, rfl⟩ hnx
      obtain ⟨hi, rfl⟩ := rng_get (nn := rs.length) (by simpa using he)
      have hd : rs[i]? = some rs[i] := List.getElem?_eq_getElem hi
      have hr := ho _ (List.getElem_mem hi)
      simp! only [p1, p2]
      refine law_word_ok A hr hd rfl U.rt (by rw [List.length_take]; omega) ?_
      rcases word_kind rs[i] ((rs.take i).map EE) with hw | ⟨s, hw⟩
      · rw [hw]
        simp! only [p1, p2]
        exact hnx _ ⟨_, _, ⟨rfl, rfl⟩, U.succ hr hd hw, rfl⟩
      · rw [hw]
        rw [U.stop hd hw] at k
        simp! only [p1, p2, notN_wd, z2]
        exact k
    · rintro ρ ⟨s1, s2, ⟨p1, p2⟩, U, rfl⟩
      have e : ((List.range ((rs.length : Int)).toNat).map fun k : Nat => D.int (k : Int)).length = rs.length := by simp
      rw [e] at U
      rw [U.fin] at k
      have rt : ∀ d ∈ rs, Rt d := by have := U.rt; rwa [List.take_length] at this
      have k : q (dueD (parO ((rs.map EE).map (·.2)) 0 rs)) [] := k
      simp! only [p1, p2]
      refine lcL_inv (fun i acc ρ => ∃ t : Sl, t.isP = false ∧ acc = (rs.take i).map (fun r => nsD (EE r).2) ∧ ρ = [.val (.lst (rs.map Rk.L)), s1, s2, .no, t]) ⟨.no, rfl, rfl, rfl⟩ ?_ ?_
      · rintro i y acc ρ nx hy ⟨t, pt, rfl, rfl⟩ hnx
        rw [List.getElem?_map] at hy
        cases hg : rs[i]? with
        | none => rw [hg] at hy; cases hy
        | some r =>
          rw [hg] at hy
          cases hy
          obtain ⟨hi, er⟩ := List.getElem?_eq_some_iff.mp hg
          have R := rt r (List.mem_of_getElem? hg)
          have hsz : ((rs.take i).map (fun r => nsD (EE r).2)).length < sizeLine := by rw [List.length_map, List.length_take]; exact size60' (by omega)
          simp! only [p1, p2, pt, R.lix.2, hsz]
          refine hnx _ _ ⟨_, rfl, ?_, rfl⟩
          rw [List.take_succ_eq_append_getElem hi, List.map_append, er]; rfl
      rintro acc ρ ⟨t, pt, rfl, rfl⟩
      rw [List.length_map, List.take_length]
      have had : D.add (.lst (rs.map (fun r => nsD (EE r).2))) (.lst [.lst []]) = some (.lst ((((rs.map EE).map fun e : E2 => e.2) ++ [[]]).map nsD)) := by
        rw [D_addL (by rw [List.length_map]; exact Nat.le_trans (by simp; omega : _ ≤ 61) (by decide)), List.map_append, List.map_map, List.map_map]; rfl
      simp! only [p1, p2, pt, had, z0, z1]
      refine forL_inv (fun i ρ => ∃ s1 s2 s4 : Sl, (s1.isP = false ∧ s2.isP = false ∧ s4.isP = false) ∧ parO ((rs.map EE).map (·.2)) 0 rs = parO ((rs.map EE).map (·.2)) i (rs.drop i) ∧ ρ = [.val (.lst (rs.map Rk.L)), s1, s2, .val (.lst ((((rs.map EE).map fun e : E2 => e.2) ++ [[]]).map nsD)), s4]) ⟨s1, s2, t, ⟨p1, p2, pt⟩, rfl, rfl⟩ ?_ ?_
      · rintro i e ρ nx he ⟨s1, s2, s4, ⟨p1, p2, p4⟩, V, rfl⟩ hnx
        obtain ⟨d, hd, rfl⟩ := enumD_get he
        rw [List.getElem?_map] at hd
        cases hg : rs[i]? with
        | none => rw [hg] at hd; cases hd
        | some r =>
        rw [hg] at hd
        cases hd
        have R := rt r (List.mem_of_getElem? hg)
        simp! only [p1, p2, p4, R.lix.2]
        refine law_cut_ok A R.ee.2.2.1 ?_
        have hni := (in_nss (cut8 (EE r).2) (((rs.map EE).map fun e : E2 => e.2) ++ [[]])).2
        by_cases hin : cut8 (EE r).2 = [] ∨ cut8 (EE r).2 ∈ (rs.map EE).map (·.2)
        · have hm : cut8 (EE r).2 ∈ ((rs.map EE).map fun e : E2 => e.2) ++ [[]] := by
            rcases hin with z | z
            · rw [z]; simp
            · exact List.mem_append_left _ z
          rw [decide_eq_true hm] at hni
          simp! only [p1, p2, p4, hni]
          exact hnx _ ⟨.val (.int (i : Int)), s2, .val r.L, ⟨rfl, p2, rfl⟩, par_go hg hin V, rfl⟩
        · have hm : cut8 (EE r).2 ∉ ((rs.map EE).map fun e : E2 => e.2) ++ [[]] := fun z => by
            rcases List.mem_append.mp z with z | z
            · exact hin (.inr z)
            · exact hin (.inl (List.mem_singleton.mp z))
          rw [decide_eq_false hm] at hni
          rw [par_stop hg hin V] at k
          simp! only [p1, p2, p4, hni, z2]
          exact k
      · rintro ρ ⟨s1, s2, s4, ⟨p1, p2, p4⟩, V, rfl⟩
        rw [enumD_length, List.length_map, List.drop_length] at V
        rw [V] at k
        simp! only [p1, p2, p4]
        exact k
end
set_option maxHeartbeats 2000000
theorem lst_at {d : D} (h : plain d) (Cs : List Addr) (K : PySem.W.Frag) : ∃ ty, D.tyV d = some ty ∧ PySem.W.kitOne K ty (.type "list") = some (isLst d) ∧ D.kno Cs d = true := by
  cases d <;> first | exact h.elim | exact ⟨_, rfl, by rfl, rfl⟩
section
variable {K : PySem.W.Frag} (A : Ads)
theorem made_ok {rs : List Rk} (ho : ∀ r ∈ rs, r.Ok) (hl : rs.length ≤ 60) {z : Int} {q : D → List D → Prop} {er : Addr → List (Str × D) → List D → Prop}
    (k : q (.lst (rs.map (Rk.P (z == 1)))) []) : dsp_p_law_made K A [.val (.lst (rs.map Rk.L)), .val (.int z)] q er := by
  unfold dsp_p_law_made body_p_law_made
  have z0 : 0 ≤ sizeLine := by decide
  have z3 : 0 + 1 + 1 + 1 ≤ sizeLine := by decide
  have kt : PySem.W.kitOne K (.type "tuple") (.type "tuple") = some true := by rfl
  have kl : PySem.W.kitOne K (.type "list") (.type "list") = some true := by rfl
  have e3 : (((0 + 1 + 1 + 1 : Nat) : Int) == 3) = true := by decide
  have turn : ∀ (p : D) (i : Nat) (r : Rk), rs[i]? = some r → ∀ (t : Sl), t.isP = false → ∀ (nx : Ro → Prop) (rt : T → Ro → Prop) (rf : D → Ro → Prop) (bk ct : Ro → Prop) (er : ER),
      (∀ t : Sl, t.isP = false → nx [.val p, .val (.int z), .own (.lst ((rs.take (i + 1)).map (Rk.P (z == 1)))), t]) →
      (dSeq (dIfS (dAnd (dTruth (dIsi K A.isis (dVar 3) (dC (.ty "tuple")))) (dAnd (dTest (dOp D.eq (dCB D.len (dCons (dVar 3) dNil)) (dC (.int 3)))) (dTruth (dIsi K A.isis (dOp D.ix (dVar 3) (dC (.int 2))) (dC (.ty "list")))))) (dAsg (dTup (dCons (dOp D.ix (dVar 3) (dC (.int 0))) (dCons (dOp D.ix (dVar 3) (dC (.int 1))) (dCons (dCall (noEr (dsp_bytes_of K A)) (dN 1 (dCons (dOp D.ix (dVar 3) (dC (.int 2))) dNil))) dNil)))) (dgName 3)) dNext)
        (dDrop (dAppend 2 (dIf (dAnd (dTruth (dIsi K A.isis (dVar 3) (dC (.ty "tuple")))) (dTest (dOp D.eq (dVar 1) (dC (.int 1))))) (dV (dList (dVar 3))) (dVar 3))))) ⟨nx, rt, rf, bk, ct, er⟩ [.val p, .val (.int z), .own (.lst ((rs.take i).map (Rk.P (z == 1)))), .val r.L] := by
    intro p i r hr t pt nx rt rf bk ct er hnx
    obtain ⟨hi, e⟩ := List.getElem?_eq_some_iff.mp hr
    have hok := ho r (List.mem_of_getElem? hr)
    have hz : ((rs.take i).map (Rk.P (z == 1))).length < sizeLine := by rw [List.length_map, List.length_take]; exact size60' (by omega)
    rw [List.take_succ_eq_append_getElem hi, List.map_append, e] at hnx
    cases hk : (z == 1) with
    | true =>
      rw [hk] at hz hnx
      cases r with
      | oth d =>
        obtain ⟨ty, t1, t2, t3⟩ := tup_at hok.1 A.isis K
        rw [hok.2.1] at t2
        rw [show (Rk.oth d).L = d from rfl]
        skip
        (simp! only [t1, t2, t3, hz, hk]
         exact hnx _ rfl)
      | full a b c =>
        obtain ⟨pa, pb, pc⟩ := hok
        rw [show (Rk.full a b c).L = .tup [a, b, c.L] from rfl]
        cases c with
        | key l =>
          rw [show (KF.key l).L = nsD l from rfl]
          skip
          (simp! only [kt, kl, e3, hz, hk]
           refine bytes_ok A pc ?_
           simp! only [kt, kl, e3, hz, hk, z3]
           exact hnx _ rfl)
        | bad d =>
          obtain ⟨ty, t1, t2, t3⟩ := lst_at pc.1 A.isis K
          rw [pc.2] at t2
          rw [show (KF.bad d).L = d from rfl]
          skip
          (simp! only [kt, e3, hz, hk, t1, t2, t3, z3]
           exact hnx _ rfl)
    | false =>
      rw [hk] at hz hnx
      cases r with
      | oth d =>
        obtain ⟨ty, t1, t2, t3⟩ := tup_at hok.1 A.isis K
        rw [hok.2.1] at t2
        rw [show (Rk.oth d).L = d from rfl]
        skip
        (simp! only [t1, t2, t3, hz, hk]
         exact hnx _ rfl)
      | full a b c =>
        obtain ⟨pa, pb, pc⟩ := hok
        rw [show (Rk.full a b c).L = .tup [a, b, c.L] from rfl]
        cases c with
        | key l =>
          rw [show (KF.key l).L = nsD l from rfl]
          skip
          (simp! only [kt, kl, e3, hz, hk]
           refine bytes_ok A pc ?_
           simp! only [kt, kl, e3, hz, hk, z3]
           exact hnx _ rfl)
        | bad d =>
          obtain ⟨ty, t1, t2, t3⟩ := lst_at pc.1 A.isis K
          rw [pc.2] at t2
          rw [show (KF.bad d).L = d from rfl]
          skip
          (simp! only [kt, e3, hz, hk, t1, t2, t3, z3]
           exact hnx _ rfl)
  simp! only [z0, Nat.reduceLT]
  refine forL_inv (fun i ρ => ∃ t : Sl, t.isP = false ∧ ρ = [.val (.lst (rs.map Rk.L)), .val (.int z), .own (.lst ((rs.take i).map (Rk.P (z == 1)))), t]) ⟨.no, rfl, rfl⟩ ?_ ?_
  · rintro i d ρ nx hd ⟨t, pt, rfl⟩ hnx
    rw [List.getElem?_map] at hd
    cases hg : rs[i]? with
    | none => rw [hg] at hd; cases hd
    | some r =>
      rw [hg] at hd
      cases hd
      show isPar _ 3 = false ∧ _
      refine ⟨(by cases t <;> first | rfl | cases pt), ?_⟩
      exact turn _ i r hg t pt _ _ _ _ _ _ fun t pt => hnx _ ⟨t, pt, rfl⟩
  · rintro ρ ⟨t, pt, rfl⟩
    rw [List.length_map, List.take_length]
    simp! only [idd_eq]
    exact k
end
set_option maxHeartbeats 4000000
def spL : DE := (dV (dLst (dCons (dC .non) (dCons (dC (.bl true)) (dCons (dC (.str (PySem.Str.ofString "1"))) (dCons (dTup (dCons (dC (.int 1)) dNil)) (dCons (dV dDNew) (dCons (dOp D.add (dOp D.pow (dC (.int 10)) (dC (.int 30))) (dC (.int 1))) (dCons (dOp D.sub (dOp D.sub (dC (.int 0)) (dOp D.pow (dC (.int 10)) (dC (.int 30)))) (dC (.int 1))) dNil)))))))))
theorem w_spL {ρ : List Sl} {q : T → List Sl → Prop} {er : ER} : spL ρ q er = q (.val (.lst [.non, .bl true, .str (PySem.Str.ofString "1"), .tup [.int 1], .dct [], .int (10 ^ 30 + 1), .int (0 - 10 ^ 30 - 1)])) ρ := by
  have z0 : 0 ≤ sizeLine := Nat.zero_le _
  have z1 : 0 + 1 ≤ sizeLine := by decide
  have z7 : 0 + 1 + 1 + 1 + 1 + 1 + 1 + 1 ≤ sizeLine := by decide
  unfold spL
  simp! only [Nat.reduceLT, z0, z1, z7, pow30]
theorem spL_ex : ∃ LL : List D, (∀ (ρ : List Sl) (q : T → List Sl → Prop) (er : ER), spL ρ q er = q (.val (.lst LL)) ρ) ∧ LL ≠ [] ∧ LL.length < 1000 ∧ ∀ d ∈ LL, d ∈ ([.non, .bl true, .str (PySem.Str.ofString "1"), .tup [.int 1], .dct [], .int (10 ^ 30 + 1), .int (0 - 10 ^ 30 - 1)] : List D) :=
  ⟨[.non, .bl true, .str (PySem.Str.ofString "1"), .tup [.int 1], .dct [], .int (10 ^ 30 + 1), .int (0 - 10 ^ 30 - 1)], fun _ _ _ => w_spL, List.cons_ne_nil _ _, by simp, fun _ h => h⟩
theorem spL_eq : ∃ LL : List D, spL = dC (.lst LL) ∧ LL ≠ [] ∧ LL.length < 1000 ∧ ∀ d ∈ LL, d ∈ ([.non, .bl true, .str (PySem.Str.ofString "1"), .tup [.int 1], .dct [], .int (10 ^ 30 + 1), .int (0 - 10 ^ 30 - 1)] : List D) := by
  obtain ⟨LL, h1, h2, h3, h4⟩ := spL_ex
  exact ⟨LL, (by funext ρ q er; exact h1 ρ q er), h2, h3, h4⟩
theorem spB (K : PySem.W.Frag) (A : Ads) : body_p_law_spoil K A = (dSeq (dPar 2 3 (dCons (dCall (noEr (dsp_p_law_draw K A)) (dN 2 (dCons (dVar 0) (dCons (dCB D.len (dCons (dVar 1) dNil)) dNil)))) (dCons (dCall (noEr (dsp_p_law_draw K A)) (dN 2 (dCons (dVar 0) (dCons (dCB D.len (dCons (dVar 1) dNil)) dNil)))) dNil))) (dSeq (dIfS (dOr (dNot (dTruth (dIsi K A.isis (dOp D.ix (dVar 1) (dVar 2)) (dC (.ty "tuple"))))) (dOr (dNot (dTruth (dIsi K A.isis (dOp D.ix (dVar 1) (dVar 3)) (dC (.ty "tuple"))))) (dNot (dTruth (dIsi K A.isis (dOp D.ix (dOp D.ix (dVar 1) (dVar 2)) (dC (.int 2))) (dC (.ty "list"))))))) dRetN dNext) (dSeq (dAsg (dOp D.ix (dVar 1) (dVar 2)) (dgTup 3 (dgCons (dgName 4) (dgCons (dgName 5) (dgCons (dgName 6) dgNil))))) (dSeq (dPar 7 8 (dCons (dCall (noEr (dsp_p_law_draw K A)) (dN 2 (dCons (dVar 0) (dCons (dC (.int 8)) dNil)))) (dCons (dCall (noEr (dsp_p_law_draw K A)) (dN 2 (dCons (dVar 0) (dCons (dC (.int 256)) dNil)))) dNil))) (dSeq (dIfS (dTest (dOp D.eq (dVar 7) (dC (.int 0)))) (dSetIx 1 (dVar 2) (dCall (noEr (dsp_p_law_one K A)) (dN 2 (dCons (dVar 0) (dCons (dV (dLst (dCons (dC .non) (dCons (dC (.str (PySem.Str.ofString "row"))) (dCons (dC (.int 5)) (dCons (dV dDNew) (dCons (dV (dLst dNil)) (dCons (dV (dLst (dCons (dVar 4) (dCons (dVar 5) dNil)))) (dCons (dV (dLst (dCons (dVar 4) (dCons (dVar 5) (dCons (dVar 6) (dCons (dC (.int 0)) dNil)))))) dNil))))))))) dNil))))) dNext) (dSeq (dIfS (dTest (dOp D.eq (dVar 7) (dC (.int 1)))) (dSetIx 1 (dVar 2) (dTup (dCons (dCall (noEr (dsp_p_law_one K A)) (dN 2 (dCons (dVar 0) (dCons (dV (dLst (dCons (dC (.str (PySem.Str.ofString ""))) (dCons (dC (.str (PySem.Str.ofString "A"))) (dCons (dC (.str (PySem.Str.ofString "1a"))) (dCons (dC (.str (PySem.Str.ofString "abcdefghi"))) (dCons (dTup (dCons (dVar 4) dNil)) (dCons (dC .non) (dCons (dC (.int 5)) (dCons (dC (.bl true)) (dCons (dC (.str (PySem.Str.ofString "a b"))) dNil))))))))))) dNil)))) (dCons (dVar 5) (dCons (dVar 6) dNil))))) dNext) (dSeq (dIfS (dTest (dOp D.eq (dVar 7) (dC (.int 2)))) (dSetIx 1 (dVar 2) (dTup (dCons (dVar 4) (dCons (dCall (noEr (dsp_p_law_one K A)) (dN 2 (dCons (dVar 0) (dCons spL dNil)))) (dCons (dVar 6) dNil))))) dNext) (dSeq (dIfS (dTest (dOp D.eq (dVar 7) (dC (.int 3)))) (dSetIx 1 (dVar 2) (dTup (dCons (dVar 4) (dCons (dVar 5) (dCons (dCall (noEr (dsp_p_law_one K A)) (dN 2 (dCons (dVar 0) (dCons (dV (dLst (dCons (dC .non) (dCons (dC (.str (PySem.Str.ofString "ab"))) (dCons (dC (.int 5)) (dCons (dTup (dCons (dC (.int 2)) dNil)) (dCons (dV dDNew) (dCons (dV (dLst dNil)) (dCons (dC (.bl true)) dNil))))))))) dNil)))) dNil))))) dNext) (dSeq (dIfS (dTest (dOp D.eq (dVar 7) (dC (.int 4)))) (dSetIx 1 (dVar 2) (dTup (dCons (dOp D.ix (dOp D.ix (dVar 1) (dVar 3)) (dC (.int 0))) (dCons (dVar 5) (dCons (dVar 6) dNil))))) dNext) (dSeq (dIfS (dTest (dOp D.eq (dVar 7) (dC (.int 5)))) (dSetIx 1 (dVar 2) (dTup (dCons (dVar 4) (dCons (dVar 5) (dCons (dOp D.ix (dOp D.ix (dVar 1) (dVar 3)) (dC (.int 2))) dNil))))) dNext) (dSeq (dIfS (dTest (dOp D.eq (dVar 7) (dC (.int 6)))) (dSetIx 1 (dVar 2) (dTup (dCons (dVar 4) (dCons (dVar 5) (dCons (dCall (noEr (dsp_p_law_one K A)) (dN 2 (dCons (dVar 0) (dCons (dV (dLst (dCons (dSl (dVar 6) dNoP (dPart (dUn D.neg (dC (.int 1))))) (dCons (dSl (dVar 6) (dPart (dC (.int 1))) dNoP) (dCons (dOp D.add (dVar 6) (dV (dLst (dCons (dVar 8) dNil)))) (dCons (dOp D.add (dVar 6) (dV (dLst (dCons (dC (.int 2)) dNil)))) (dCons (dOp D.add (dVar 6) (dV (dLst (dCons (dC (.int 3)) dNil)))) dNil))))))) dNil)))) dNil))))) dNext) (dIfS (dAnd (dTest (dOp D.eq (dVar 7) (dC (.int 7)))) (dTest (dOp D.ne0 (dVar 6) (dV (dLst dNil))))) (dSeq (dAsg (dCall (noEr (dsp_p_law_draw K A)) (dN 2 (dCons (dVar 0) (dCons (dCB D.len (dCons (dVar 6) dNil)) dNil)))) (dgName 9)) (dSetIx 1 (dVar 2) (dTup (dCons (dVar 4) (dCons (dVar 5) (dCons (dOp D.add (dOp D.add (dSl (dVar 6) dNoP (dPart (dVar 9))) (dV (dLst (dCons (dVar 8) dNil)))) (dSl (dVar 6) (dPart (dOp D.add (dVar 9) (dC (.int 1)))) dNoP)) dNil)))))) dNext)))))))))))) := rfl
set_option maxHeartbeats 4000000
theorem Tnl.small {i : Int} (h : i.natAbs < 10 ^ 3) : Tnl (.int i) 0 4 := by
  have hl : i.natAbs.log2 < 1920 := by
    rcases Nat.eq_zero_or_pos i.natAbs with e | e
    · rw [e]; decide
    · have : i.natAbs.log2 < 10 := (Nat.log2_lt (by omega)).mpr (Nat.lt_of_lt_of_le h (by decide))
      omega
  have e := int_text_length_le10 (k := 3) (by decide) h
  have e3 : (PyData.shown (.int i)).length ≤ 4 := by
    show (Str.ofString (toString i)).length ≤ 4
    rw [PySem.ofString_length]; exact e
  refine ⟨.lf (.int i), rfl, ⟨?_, Nat.le_trans e3 (by decide)⟩, Nat.le_refl _, e3⟩
  show decide (i.natAbs.log2 < 1920) = true
  exact decide_eq_true hl
theorem Tnl.ns {l : LB} (h : l.length ≤ 600) : Tnl (nsD l) 1 3700 := by
  refine (Tnl.lst (k := 0) (w := 4) (xs := nsL l) fun x hx => ?_).mono (Nat.le_refl _) (by unfold nsL; rw [List.length_map]; omega)
  obtain ⟨c, _, rfl⟩ := List.mem_map.mp hx
  have := UInt8.toNat_lt c
  exact Tnl.small (by omega)
structure Fl (t : Nat) (d : D) : Prop where
  intro ::
  pl : plain d
  to : Tnl d (t + 2) (6000 + 5 * t)
theorem Fl.up {t : Nat} {d : D} (h : Fl t d) : Fl (t + 1) d := ⟨h.pl, h.to.mono (by omega) (by omega)⟩
theorem Fl.int (t : Nat) {i : Int} (h : i.natAbs < 10 ^ 32) : Fl t (.int i) := ⟨trivial, (Tnl.int h).mono (by omega) (by omega)⟩
theorem Fl.non (t : Nat) : Fl t .non := ⟨trivial, Tnl.non.mono (by omega) (by omega)⟩
theorem Fl.bl (t : Nat) (b : Bool) : Fl t (.bl b) := ⟨trivial, (Tnl.bl b).mono (by omega) (by omega)⟩
theorem Fl.dct (t : Nat) : Fl t (.dct []) := ⟨trivial, Tnl.dct.mono (by omega) (by omega)⟩
theorem Fl.str (t : Nat) {l : List Nat} (h : l.length ≤ 100) (hc : ∀ c ∈ l, c < 128) : Fl t (.str (mk l)) := ⟨⟨by rw [mk_len]; omega, hc⟩, (Tnl.str (by rw [mk_len]; exact h) hc).mono (by omega) (by omega)⟩
theorem Fl.one {t : Nat} {d : D} (h : Fl t d) : Fl (t + 1) (.tup [d]) := ⟨trivial, (Tnl.tup (xs := [d]) fun x m => by rw [List.mem_singleton.mp m]; exact h.to).mono (by omega) (by simp; omega)⟩
theorem Fl.l0 (t : Nat) : Fl t (.lst []) := ⟨trivial, (Tnl.lst (k := 0) (w := 0) (xs := []) (fun x h => by cases h)).mono (by omega) (by simp; omega)⟩
theorem Fl.t1 (t : Nat) {i : Int} (h : i.natAbs < 10 ^ 3) : Fl t (.tup [.int i]) := ⟨trivial, (Tnl.tup (xs := [.int i]) fun x m => by rw [List.mem_singleton.mp m]; exact Tnl.small h).mono (by omega) (by simp; omega)⟩
def FK (t : Nat) : KF → Prop
  | .key l => l.length ≤ 240 + t
  | .bad d => Fl t d ∧ isLst d = false
def RowS (t : Nat) : Rk → Prop
  | .full a b c => Fl t a ∧ Fl t b ∧ FK t c
  | .oth d => plain d ∧ isTup d = false ∧ (∀ xs, d = .lst xs → xs.length ≠ 3) ∧ Tnl d (t + 4) 40000
theorem RowS.ok {t : Nat} (ht : t ≤ 100) : ∀ {r : Rk}, RowS t r → r.Ok
  | .full a b (.key l), h => ⟨h.1.pl, h.2.1.pl, Nat.le_trans h.2.2 (by omega)⟩
  | .full a b (.bad d), h => ⟨h.1.pl, h.2.1.pl, h.2.2.1.pl, h.2.2.2⟩
  | .oth d, h => ⟨h.1, h.2.1, h.2.2.1⟩
theorem RowS.up {t : Nat} : ∀ {r : Rk}, RowS t r → RowS (t + 1) r
  | .full a b (.key l), h => ⟨h.1.up, h.2.1.up, Nat.le_succ_of_le h.2.2⟩
  | .full a b (.bad d), h => ⟨h.1.up, h.2.1.up, h.2.2.1.up, h.2.2.2⟩
  | .oth d, h => ⟨h.1, h.2.1, h.2.2.1, h.2.2.2.mono (by omega) (Nat.le_refl _)⟩
theorem FK.to {t : Nat} (ht : t ≤ 100) : ∀ {c : KF}, FK t c → Tnl c.P (t + 2) (6000 + 5 * t)
  | .key l, h => (Tnl.byt (by rw [List.size_toArray]; have : l.length ≤ 240 + t := h; omega)).mono (by omega) (by omega)
  | .bad d, h => h.1.to
theorem RowS.tnl {t : Nat} (ht : t ≤ 100) (kd : Bool) : ∀ {r : Rk}, RowS t r → Tnl (r.P kd) (t + 4) 40000
  | .full a b c, h => by
    have hall : ∀ x ∈ [a, b, c.P], Tnl x (t + 2) (6000 + 5 * t) := by
      intro x hx
      simp only [List.mem_cons, List.not_mem_nil, or_false] at hx
      rcases hx with rfl | rfl | rfl
      · exact h.1.to
      · exact h.2.1.to
      · exact FK.to ht h.2.2
    cases kd with
    | true => exact (Tnl.lst hall).mono (by omega) (by simp; omega)
    | false => exact (Tnl.tup hall).mono (by omega) (by simp; omega)
  | .oth d, h => h.2.2.2
theorem oth_flat {t : Nat} {d : D} (h : Fl t d) (h1 : isTup d = false) (h2 : isLst d = false) (ht : t ≤ 100) : RowS t (.oth d) := ⟨h.pl, h1, (fun xs e => by rw [e] at h2; cases h2), h.to.mono (by omega) (by omega)⟩
theorem oth_lst {t : Nat} {xs : List D} (hn : xs.length ≠ 3) (hl : xs.length ≤ 4) (h : ∀ x ∈ xs, Tnl x (t + 2) (6000 + 5 * t)) (ht : t ≤ 100) : RowS t (.oth (.lst xs)) := by
  refine ⟨trivial, rfl, fun ys e => by cases e; exact hn, (Tnl.lst h).mono (by omega) ?_⟩
  have : xs.length * (6000 + 5 * t + 2) ≤ 4 * (6000 + 5 * t + 2) := Nat.mul_le_mul_right _ hl
  omega
theorem ixN_of {n i : Nat} (h : i < n) : ixN n (i : Int) = some i := by unfold ixN; rw [if_pos (by omega), if_pos (by omega)]; rfl
theorem sRow : PySem.Str.ofString "row" = mk [114, 111, 119] := by decide +kernel
theorem sE : PySem.Str.ofString "" = mk [] := by decide +kernel
theorem sA : PySem.Str.ofString "A" = mk [65] := by decide +kernel
theorem s1a : PySem.Str.ofString "1a" = mk [49, 97] := by decide +kernel
theorem s19 : PySem.Str.ofString "abcdefghi" = mk [97, 98, 99, 100, 101, 102, 103, 104, 105] := by decide +kernel
theorem sAb : PySem.Str.ofString "a b" = mk [97, 32, 98] := by decide +kernel
theorem s1 : PySem.Str.ofString "1" = mk [49] := by decide +kernel
theorem sab : PySem.Str.ofString "ab" = mk [97, 98] := by decide +kernel
theorem cutm1 (l : LB) : D.cut (nsD l) none (some (-1)) = some (nsD l.dropLast) := by
  rcases List.eq_nil_or_concat l with rfl | ⟨h, c, rfl⟩
  · rfl
  · rw [List.concat_eq_append, cut_ns, List.dropLast_concat]
theorem cutFrom_ns {l : LB} {n : Nat} (h : n ≤ l.length) : D.cut (nsD l) (some (n : Int)) none = some (nsD (l.drop n)) := by
  unfold nsD nsL
  rw [cutL_hi (by rw [List.length_map]; exact h), List.map_drop]
theorem cut1 (l : LB) : D.cut (nsD l) (some 1) none = some (nsD (l.drop 1)) := by
  cases l with
  | nil => rfl
  | cons c l => exact cutFrom_ns (n := 1) (by simp)
theorem add1 {l : LB} {n : Nat} (hn : n < 256) (hl : l.length ≤ 2000) : D.add (nsD l) (.lst [.int (n : Int)]) = some (nsD (l ++ [UInt8.ofNat n])) := by
  have e : D.lst [.int (n : Int)] = nsD [UInt8.ofNat n] := by
    unfold nsD nsL
    rw [List.map_cons, List.map_nil, onat hn]
  rw [e, add_ns (by simp; omega)]
section
variable {K : PySem.W.Frag} (A : Ads)
theorem spoil_ok {t : Nat} (ht : t ≤ 10) {xs : List Rk} (hx : ∀ d ∈ xs, RowS t d) (hne : xs ≠ []) (hl : xs.length ≤ 20) {n : Nat} (hn : n < 900000000) {w : D} (hw : Well n w)
    {q : D → List D → Prop} {er : Addr → List (Str × D) → List D → Prop} (k : ∀ (ys : List Rk) (w' : D), ys.length = xs.length → (∀ d ∈ ys, RowS (t + 1) d) → Well (n + 20) w' → q .non [w', .lst (ys.map Rk.L)]) :
    dsp_p_law_spoil K A [.par w, .par (.lst (xs.map Rk.L))] q er := by
  unfold dsp_p_law_spoil
  rw [spB]
  obtain ⟨LL, hW, hL0, hL1, hL2⟩ := spL_eq
  rw [hW]
  clear hW
  have hp : 0 < xs.length := List.length_pos_iff.mpr hne
  have hlen : D.len [.lst (xs.map Rk.L)] = some (.int (xs.length : Int)) := by rw [len_lst, List.length_map]
  simp! only [Nat.reduceLT, hlen]
  refine draw_ok A (n := n) (by omega) hw (by omega) (log_small (by omega)) fun a' w1 a0 a1 hw1 => ?_
  simp! only [Nat.reduceLT, hlen]
  refine draw_ok A (n := n + 1) (by omega) hw1 (by omega) (log_small (by omega)) fun b' w2 b0 b1 hw2 => ?_
  obtain ⟨a, rfl⟩ := Int.eq_ofNat_of_zero_le a0
  obtain ⟨b, rfl⟩ := Int.eq_ofNat_of_zero_le b0
  have ha : a < xs.length := by omega
  have hb : b < xs.length := by omega
  have hal : a < (xs.map Rk.L).length := by rw [List.length_map]; exact ha
  have hbl : b < (xs.map Rk.L).length := by rw [List.length_map]; exact hb
  have ia : D.ix (.lst (xs.map Rk.L)) (.int (a : Int)) = some xs[a].L := by rw [ixn rfl hal, List.getElem?_map, List.getElem?_eq_getElem ha]; rfl
  have ib : D.ix (.lst (xs.map Rk.L)) (.int (b : Int)) = some xs[b].L := by rw [ixn rfl hbl, List.getElem?_map, List.getElem?_eq_getElem hb]; rfl
  have na : ixN (xs.map Rk.L).length (a : Int) = some a := ixN_of hal
  have Ra := hx _ (List.getElem_mem ha)
  have Rb := hx _ (List.getElem_mem hb)
  have done : ∀ w', Well (n + 20) w' → q .non [w', .lst (xs.map Rk.L)] := fun w' h => k xs w' rfl (fun d hd => (hx d hd).up) h
  have fin : ∀ (r : Rk) (w' : D), RowS (t + 1) r → Well (n + 20) w' → q .non [w', .lst ((xs.map Rk.L).set a r.L)] := fun r w' hd h => by
    rw [← List.map_set]
    exact k _ w' (List.length_set ..) (fun y hy => by
      rcases List.mem_or_eq_of_mem_set hy with z | z
      · exact (hx y z).up
      · rw [z]; exact hd) h
  have kt : PySem.W.kitOne K (.type "tuple") (.type "tuple") = some true := by rfl
  have kl : PySem.W.kitOne K (.type "list") (.type "list") = some true := by rfl
  generalize xs[a] = ra at ia Ra
  generalize xs[b] = rb at ib Rb
  cases ra with
  | oth d =>
    obtain ⟨ty, t1, t2, t3⟩ := tup_at Ra.1 A.isis K
    rw [Ra.2.1] at t2
    rw [show (Rk.oth d).L = d from rfl] at ia
    simp! only [Nat.reduceLT, ia, t1, t2, t3]
    exact done _ (hw2.mono (by omega))
  | full nm va c =>
  rw [show (Rk.full nm va c).L = .tup [nm, va, c.L] from rfl] at ia
  cases rb with
  | oth d =>
    obtain ⟨ty, t1, t2, t3⟩ := tup_at Rb.1 A.isis K
    rw [Rb.2.1] at t2
    rw [show (Rk.oth d).L = d from rfl] at ib
    simp! only [Nat.reduceLT, ia, kt, ib, t1, t2, t3]
    exact done _ (hw2.mono (by omega))
  | full nm2 va2 c2 =>
  rw [show (Rk.full nm2 va2 c2).L = .tup [nm2, va2, c2.L] from rfl] at ib
  obtain ⟨f1, f2, f3⟩ := Ra
  obtain ⟨g1, g2, g3⟩ := Rb
  cases c with
  | bad d =>
    obtain ⟨ty, t1, t2, t3⟩ := lst_at f3.1.pl A.isis K
    rw [f3.2] at t2
    rw [show (KF.bad d).L = d from rfl] at ia
    simp! only [Nat.reduceLT, ia, kt, ib, t1, t2, t3]
    exact done _ (hw2.mono (by omega))
  | key l =>
  rw [show (KF.key l).L = nsD l from rfl] at ia
  have lk : l.length ≤ 240 + t := f3
  simp! only [Nat.reduceLT, ia, kt, kl, ib]
  refine draw_ok A (n := n + 2) (by omega) hw2 (by decide) (log_int (by decide) (by decide)) fun way w3 y0 y1 hw3 => ?_
  simp! only [Nat.reduceLT]
  refine draw_ok A (n := n + 3) (by omega) hw3 (by decide) (log_int (by decide) (by decide)) fun u w4 u0 u1 hw4 => ?_
  obtain ⟨u, rfl⟩ := Int.eq_ofNat_of_zero_le u0
  have hu : u < 256 := by omega
  have z0 : 0 ≤ sizeLine := Nat.zero_le _
  have z1 : 0 + 1 ≤ sizeLine := by decide
  have z2 : 0 + 1 + 1 ≤ sizeLine := by decide
  have z3 : 0 + 1 + 1 + 1 ≤ sizeLine := by decide
  have z4 : 0 + 1 + 1 + 1 + 1 ≤ sizeLine := by decide
  have z5 : 0 + 1 + 1 + 1 + 1 + 1 ≤ sizeLine := by decide
  have z7 : 0 + 1 + 1 + 1 + 1 + 1 + 1 + 1 ≤ sizeLine := by decide
  have z9 : 0 + 1 + 1 + 1 + 1 + 1 + 1 + 1 + 1 + 1 ≤ sizeLine := by decide
  have t1' : t + 1 ≤ 100 := by omega
  have hw5 : ∀ {w' : D}, Well (n + 5) w' → Well (n + 20) w' := fun h => h.mono (by omega)
  have : way = 0 ∨ way = 1 ∨ way = 2 ∨ way = 3 ∨ way = 4 ∨ way = 5 ∨ way = 6 ∨ way = 7 := by omega
  rcases this with rfl | rfl | rfl | rfl | rfl | rfl | rfl | rfl
  · simp! only [Nat.reduceLT, ia, z0, z2, z4, z7]
    refine one_lst A (n := n + 4) (by omega) hw4 (List.cons_ne_nil _ _) (by simp) fun i hi w5 h5 => ?_
    have fo := List.getElem_mem hi
    generalize (_ : List D)[i] = odd at fo ⊢
    have fo : RowS (t + 1) (.oth odd) := by
      simp only [List.mem_cons, List.not_mem_nil, or_false] at fo
      rcases fo with rfl | rfl | rfl | rfl | rfl | rfl | rfl
      · exact oth_flat (Fl.non _) rfl rfl t1'
      · rw [sRow]; exact oth_flat (Fl.str _ (by decide) (by decide)) rfl rfl t1'
      · exact oth_flat (Fl.int _ (by decide)) rfl rfl t1'
      · exact oth_flat (Fl.dct _) rfl rfl t1'
      · exact oth_lst (by decide) (by decide) (fun x h => by cases h) t1'
      · refine oth_lst (by simp) (by simp) (fun x h => ?_) t1'
        simp only [List.mem_cons, List.not_mem_nil, or_false] at h
        rcases h with rfl | rfl
        · exact f1.up.to
        · exact f2.up.to
      · refine oth_lst (by simp) (by simp) (fun x h => ?_) t1'
        simp only [List.mem_cons, List.not_mem_nil, or_false] at h
        rcases h with rfl | rfl | rfl | rfl
        · exact f1.up.to
        · exact f2.up.to
        · exact (Tnl.ns (by omega)).mono (by omega) (by omega)
        · exact (Fl.int (t + 1) (by decide)).to
    simp! only [Nat.reduceLT, na]
    exact fin (.oth odd) _ fo (hw5 h5)
  · simp! only [Nat.reduceLT, ia, z0, z1, z9]
    refine one_lst A (n := n + 4) (by omega) hw4 (List.cons_ne_nil _ _) (by simp) fun i hi w5 h5 => ?_
    have fo := List.getElem_mem hi
    generalize (_ : List D)[i] = odd at fo ⊢
    have fo : Fl (t + 1) odd := by
      simp only [List.mem_cons, List.not_mem_nil, or_false] at fo
      rcases fo with rfl | rfl | rfl | rfl | rfl | rfl | rfl | rfl | rfl
      · rw [sE]; exact Fl.str _ (by decide) (by decide)
      · rw [sA]; exact Fl.str _ (by decide) (by decide)
      · rw [s1a]; exact Fl.str _ (by decide) (by decide)
      · rw [s19]; exact Fl.str _ (by decide) (by decide)
      · exact f1.one
      · exact Fl.non _
      · exact Fl.int _ (by decide)
      · exact Fl.bl _ _
      · rw [sAb]; exact Fl.str _ (by decide) (by decide)
    simp! only [Nat.reduceLT, na, z3]
    exact fin (.full odd va (.key l)) _ ⟨fo, f2.up, Nat.le_succ_of_le lk⟩ (hw5 h5)
  · simp! only [Nat.reduceLT]
    refine one_lst A (n := n + 4) (by omega) hw4 hL0 hL1 fun i hi w5 h5 => ?_
    have fo := hL2 _ (List.getElem_mem hi)
    generalize LL[i] = odd at fo ⊢
    clear hL2
    have fo : Fl (t + 1) odd := by
      simp only [List.mem_cons, List.not_mem_nil, or_false] at fo
      rcases fo with rfl | rfl | rfl | rfl | rfl | rfl | rfl
      · exact Fl.non _
      · exact Fl.bl _ _
      · rw [s1]; exact Fl.str _ (by decide) (by decide)
      · exact Fl.t1 _ (by decide)
      · exact Fl.dct _
      · exact Fl.int _ (by omega)
      · exact Fl.int _ (by omega)
    simp! only [Nat.reduceLT, na, z3]
    exact fin (.full nm odd (.key l)) _ ⟨f1.up, fo, Nat.le_succ_of_le lk⟩ (hw5 h5)
  · simp! only [Nat.reduceLT, ia, z0, z1, z7]
    refine one_lst A (n := n + 4) (by omega) hw4 (List.cons_ne_nil _ _) (by simp) fun i hi w5 h5 => ?_
    have fo := List.getElem_mem hi
    generalize (_ : List D)[i] = odd at fo ⊢
    have fo : ∃ c : KF, FK (t + 1) c ∧ odd = c.L := by
      simp only [List.mem_cons, List.not_mem_nil, or_false] at fo
      rcases fo with rfl | rfl | rfl | rfl | rfl | rfl | rfl
      · exact ⟨.bad _, ⟨Fl.non _, rfl⟩, rfl⟩
      · exact ⟨.bad _, ⟨by rw [sab]; exact Fl.str _ (by decide) (by decide), rfl⟩, rfl⟩
      · exact ⟨.bad _, ⟨Fl.int _ (by decide), rfl⟩, rfl⟩
      · exact ⟨.bad _, ⟨Fl.t1 _ (by decide), rfl⟩, rfl⟩
      · exact ⟨.bad _, ⟨Fl.dct _, rfl⟩, rfl⟩
      · exact ⟨.key [], Nat.zero_le _, rfl⟩
      · exact ⟨.bad _, ⟨Fl.bl _ _, rfl⟩, rfl⟩
    obtain ⟨c, hc, rfl⟩ := fo
    simp! only [Nat.reduceLT, na, z3]
    exact fin (.full nm va c) _ ⟨f1.up, f2.up, hc⟩ (hw5 h5)
  · simp! only [Nat.reduceLT, ia, ib, na, z3]
    exact fin (.full nm2 va (.key l)) _ ⟨g1.up, f2.up, Nat.le_succ_of_le lk⟩ (hw4.mono (by omega))
  · simp! only [Nat.reduceLT, ia, ib, na, z3]
    refine fin (.full nm va c2) _ ⟨f1.up, f2.up, ?_⟩ (hw4.mono (by omega))
    cases c2 with
    | key l2 => exact Nat.le_succ_of_le (show l2.length ≤ 240 + t from g3)
    | bad d => exact ⟨g3.1.up, g3.2⟩
  · have m1 := cutm1 l
    have m2 := cut1 l
    have m3 := add1 (l := l) hu (by omega)
    have m4 := add1 (l := l) (n := 2) (by decide) (by omega)
    have m5 := add1 (l := l) (n := 3) (by decide) (by omega)
    simp! only [Nat.reduceLT, ia, z0, z1, z5, m1, m2, m3, show D.add (nsD l) (.lst [.int 2]) = _ from m4, show D.add (nsD l) (.lst [.int 3]) = _ from m5]
    refine one_lst A (n := n + 4) (by omega) hw4 (List.cons_ne_nil _ _) (by simp) fun i hi w5 h5 => ?_
    have fo := List.getElem_mem hi
    generalize (_ : List D)[i] = odd at fo ⊢
    have fo : ∃ l2 : LB, l2.length ≤ 240 + (t + 1) ∧ odd = nsD l2 := by
      simp only [List.mem_cons, List.not_mem_nil, or_false] at fo
      rcases fo with rfl | rfl | rfl | rfl | rfl
      · exact ⟨_, by rw [List.length_dropLast]; omega, rfl⟩
      · exact ⟨_, by rw [List.length_drop]; omega, rfl⟩
      · exact ⟨_, by rw [List.length_append, List.length_singleton]; omega, rfl⟩
      · exact ⟨_, by rw [List.length_append, List.length_singleton]; omega, rfl⟩
      · exact ⟨_, by rw [List.length_append, List.length_singleton]; omega, rfl⟩
    obtain ⟨l2, h2, rfl⟩ := fo
    simp! only [Nat.reduceLT, na, z3]
    exact fin (.full nm va (.key l2)) _ ⟨f1.up, f2.up, h2⟩ (hw5 h5)
  · by_cases hn0 : l = []
    · subst hn0
      have n0 : D.ne0 (nsD []) (.lst []) = some (.bl false) := rfl
      simp! only [Nat.reduceLT, ia, z0, n0]
      exact done _ (hw4.mono (by omega))
    · have hpl := List.length_pos_iff.mpr hn0
      have n0 : D.ne0 (nsD l) (.lst []) = some (.bl true) := by cases l with
        | nil => exact absurd rfl hn0
        | cons => rfl
      have ll : D.len [nsD l] = some (.int (l.length : Int)) := by unfold nsD nsL; rw [len_lst, List.length_map]
      simp! only [Nat.reduceLT, ia, z0, n0, ll]
      refine draw_ok A (n := n + 4) (by omega) hw4 (by omega) (log_small (by omega)) fun p w5 p0 p1 h5 => ?_
      obtain ⟨p, rfl⟩ := Int.eq_ofNat_of_zero_le p0
      have hpp : p < l.length := by omega
      have m1 := cutTo_ns l p
      have m2 := add1 (l := l.take p) hu (by rw [List.length_take]; omega)
      have m3 : D.cut (nsD l) (some ((p : Int) + 1)) none = some (nsD (l.drop (p + 1))) := by
        rw [show ((p : Int) + 1) = ((p + 1 : Nat) : Int) by omega]; exact cutFrom_ns (by omega)
      have m4 := add_ns (a := l.take p ++ [UInt8.ofNat u]) (b := l.drop (p + 1)) (by rw [List.length_append, List.length_take, List.length_drop, List.length_singleton]; omega)
      simp! only [Nat.reduceLT, ia, z0, z1, m1, m2, m3, m4, na, z3]
      refine fin (.full nm va (.key (l.take p ++ [UInt8.ofNat u] ++ l.drop (p + 1)))) _ ⟨f1.up, f2.up, ?_⟩ (hw5 h5)
      show (l.take p ++ [UInt8.ofNat u] ++ l.drop (p + 1)).length ≤ 240 + (t + 1)
      rw [List.length_append, List.length_append, List.length_take, List.length_drop, List.length_singleton]
      omega
end
set_option maxHeartbeats 2000000
def g8 (f : List Nat) : LB := f.map UInt8.ofNat
theorem nn_g8 {f : List Nat} (h : ∀ c ∈ f, 1 ≤ c ∧ c ≤ 255) : nn (g8 f) = f := by
  unfold nn g8
  rw [List.map_map]
  conv => rhs; rw [← List.map_id f]
  refine List.map_congr_left fun c hc => ?_
  exact onat (by have := (h c hc).2; omega)
theorem kD_g8 {f : List Nat} (h : ∀ c ∈ f, 1 ≤ c ∧ c ≤ 255) : kD f = nsD (g8 f) := by
  have e := nn_g8 h
  unfold kD nsD nsL
  conv => lhs; rw [← e]
  unfold nn
  rw [List.map_map]; rfl
theorem g8_len (f : List Nat) : (g8 f).length = f.length := by unfold g8; rw [List.length_map]
theorem cut8_g8 {f : List Nat} (h : ∀ c ∈ f, 1 ≤ c ∧ c ≤ 255) : cut8 (g8 f) = g8 (Ky.cutK f) := by
  unfold cut8 st8 Ky.cutK
  rw [nn_g8 h, g8_len]
  unfold g8
  rw [List.map_take]
theorem key_g8 {f : List Nat} (v : Ky.Val f) : keyB (g8 f) = true := by
  have hb := v.b
  have e := nn_g8 hb
  rcases List.eq_nil_or_concat (g8 f) with z | ⟨h, c, z⟩
  · exfalso
    have := g8_len f
    rw [z] at this
    exact v.ne (List.length_eq_zero_iff.mp this.symm)
  · rw [List.concat_eq_append] at z
    rw [z, keyB_snoc]
    rw [z] at e
    have ef : f = nn h ++ [c.toNat] := by rw [← e]; unfold nn; rw [List.map_append]; rfl
    have hv := v.ev
    have hc : c.toNat % 2 = 0 := by
      rw [ef] at hv
      have : (nn h ++ [c.toNat]).getD ((nn h ++ [c.toNat]).length - 1) 1 = c.toNat := by simp [List.getD]
      rw [this] at hv
      exact hv
    have h0 : (h ++ [c]).contains 0 = false := by
      refine Bool.eq_false_iff.mpr fun hz => ?_
      have m := List.contains_iff_mem.mp hz
      have : (0 : UInt8).toNat ∈ f := by rw [← e]; unfold nn; exact List.mem_map.mpr ⟨0, m, rfl⟩
      have := (hb _ this).1
      revert this; decide
    rw [h0, decide_eq_true hc]; rfl
theorem g8_inj {f g : List Nat} (hf : ∀ c ∈ f, 1 ≤ c ∧ c ≤ 255) (hg : ∀ c ∈ g, 1 ≤ c ∧ c ≤ 255) (e : g8 f = g8 g) : f = g := by rw [← nn_g8 hf, e, nn_g8 hg]
abbrev T3 := List Nat × Int × LB
def mkR (t : T3) : Rk := .full (nmD t.1) (.int t.2.1) (.key t.2.2)
theorem ee_mkR (t : T3) : EE (mkR t) = (t.1, t.2.2) := by show (nameL (nmD t.1), t.2.2) = _; rw [nameL_mk]
structure Good (ts : List T3) : Prop where
  nd : (ts.map (·.1)).Nodup
  kd : (ts.map (·.2.2)).Nodup
  one : ∀ t ∈ ts, IsNm t.1 ∧ -(10 ^ 30) ≤ t.2.1 ∧ t.2.1 ≤ 10 ^ 30 ∧ keyB t.2.2 = true ∧ t.2.2.length ≤ 240
  par : ∀ t ∈ ts, cut8 t.2.2 = [] ∨ cut8 t.2.2 ∈ ts.map (·.2.2)
theorem Good.perm {ts us : List T3} (h : Good ts) (p : ts.Perm us) : Good us :=
  ⟨(p.map _).nodup_iff.mp h.nd, (p.map _).nodup_iff.mp h.kd, fun t ht => h.one t (p.mem_iff.mpr ht), fun t ht => (h.par t (p.mem_iff.mpr ht)).imp id fun z => (p.map _).mem_iff.mp z⟩
theorem isName_nm {l : List Nat} (h : IsNm l) : isName (nmD l) = true := by
  show nmB (mk l).cps.toList = true
  have : (mk l).cps.toList = l := by simp [mk]
  rw [this]
  exact nmB_iff.mpr h
theorem word_right {t : T3} (h1 : IsNm t.1) (h2 : -(10 ^ 30) ≤ t.2.1) (h3 : t.2.1 ≤ 10 ^ 30) (h4 : keyB t.2.2 = true) {es : List E2} (n1 : t.1 ∉ es.map (·.1)) (n2 : t.2.2 ∉ es.map (·.2)) : wordOf (mkR t) es = .non := by
  unfold wordOf mkR
  dsimp only
  have hv : isVal (.int t.2.1) = true := by
    rw [isVal_int, Bool.and_eq_true]
    exact ⟨decide_eq_true h2, decide_eq_true h3⟩
  rw [if_neg (by rw [isName_nm h1]; decide), if_neg (by rw [hv]; decide), if_neg (by rw [h4]; decide), if_neg (by rw [nameL_mk, decide_eq_false n1]; decide), if_neg (by rw [decide_eq_false n2]; decide)]
theorem scan_none : ∀ (ts : List T3) (es : List E2) (i : Nat), (∀ t ∈ ts, IsNm t.1 ∧ -(10 ^ 30) ≤ t.2.1 ∧ t.2.1 ≤ 10 ^ 30 ∧ keyB t.2.2 = true ∧ t.2.2.length ≤ 240) → (es.map (·.1) ++ ts.map (·.1)).Nodup → (es.map (·.2) ++ ts.map (·.2.2)).Nodup → scan i es (ts.map mkR) = none
  | [], _, _, _, _, _ => rfl
  | t :: ts, es, i, h, n1, n2 => by
    obtain ⟨a1, a2, a3, a4, _⟩ := h t List.mem_cons_self
    have m1 : t.1 ∉ es.map (·.1) := fun z => by
      have := (List.nodup_append.mp n1).2.2 _ z t.1 (by simp)
      exact this rfl
    have m2 : t.2.2 ∉ es.map (·.2) := fun z => by
      have := (List.nodup_append.mp n2).2.2 _ z t.2.2 (by simp)
      exact this rfl
    rw [List.map_cons, scan_go (word_right a1 a2 a3 a4 m1 m2)]
    refine scan_none ts _ (i + 1) (fun u hu => h u (List.mem_cons_of_mem _ hu)) ?_ ?_
    · rw [ee_mkR, List.map_append]
      simpa [List.append_assoc] using n1
    · rw [ee_mkR, List.map_append]
      simpa [List.append_assoc] using n2
theorem par_none {ks : List LB} : ∀ (ts : List T3) (i : Nat), (∀ t ∈ ts, cut8 t.2.2 = [] ∨ cut8 t.2.2 ∈ ks) → parO ks i (ts.map mkR) = none
  | [], _, _ => rfl
  | t :: ts, i, h => by
    have := h t List.mem_cons_self
    rw [List.map_cons, parO, ee_mkR, if_pos this]
    exact par_none ts (i + 1) fun u hu => h u (List.mem_cons_of_mem _ hu)
theorem Good.due {ts : List T3} (h : Good ts) (hl : ts.length ≤ 60) : dueO (ts.map mkR) = none := by
  unfold dueO
  rw [List.length_map, if_neg (by omega), scan_none ts [] 0 h.one (by simpa using h.nd) (by simpa using h.kd)]
  have e : ((ts.map mkR).map EE).map (·.2) = ts.map (·.2.2) := by
    rw [List.map_map, List.map_map]
    refine List.map_congr_left fun t _ => ?_
    show (EE (mkR t)).2 = _
    rw [ee_mkR]
  show parO (((ts.map mkR).map EE).map (·.2)) 0 (ts.map mkR) = none
  rw [e]
  exact par_none ts 0 h.par
theorem nm_sm {l : List Nat} (h : IsNm l) : l.length ≤ 100 ∧ ∀ c ∈ l, c < 128 := by
  obtain ⟨c, cs, rfl, h1, h2, h3⟩ := h
  refine ⟨by rw [List.length_cons]; omega, fun x hx => ?_⟩
  rcases List.mem_cons.mp hx with rfl | hx
  · have := h1.2; omega
  · rcases h2 x hx with z | z
    · have := z.2; omega
    · have := z.2; omega
theorem Good.rowS {ts : List T3} (h : Good ts) : ∀ r ∈ ts.map mkR, RowS 0 r := fun r hr => by
  obtain ⟨t, ht, rfl⟩ := List.mem_map.mp hr
  obtain ⟨a1, a2, a3, a4, a5⟩ := h.one t ht
  exact ⟨Fl.str _ (nm_sm a1).1 (nm_sm a1).2, Fl.int _ (by omega), a5⟩
set_option maxHeartbeats 2000000
theorem ok_ofString (s : String) : PyData.strOk (PySem.Str.ofString s) = true := by
  rw [PySem.Str.ofString_eq_toList]
  unfold PyData.strOk
  simp only [List.all_toArray, List.all_eq_true, List.mem_map, decide_eq_true_eq]
  rintro x ⟨c, _, rfl⟩
  have h := c.valid
  rcases h with h | h
  · exact Nat.lt_trans h (by decide)
  · exact h.2
def lwS9 (K : PySem.W.Frag) (A : Ads) : DS := (dIfS (dAnd (dTest (dOp D.ne0 (dVar 5) (dV (dLst dNil)))) (dTest (dEqO K (fun b => !b) A.isis A.c_Fault (dsp_Fault_eq K A) (dCall (noEr (dsp_judge_keys K A)) (dN 1 (dKw 0 1 [0] dNil (dCons (dOp D.mul (dVar 8) (dC (.int 61))) dNil)))) (dV (dMake A.c_Fault (noEr (dsp_Fault_init K A)) (dN 2 (dCons (dUn D.neg (dC (.int 1))) (dCons (dC (.str (PySem.Str.ofString "rows"))) dNil)))))))) (dRet (dC (.bl false))) dNext)
def lwT9 (K : PySem.W.Frag) (A : Ads) : DS := lwS9 K A
def lwS8 (K : PySem.W.Frag) (A : Ads) : DS := (dFor (diAny (dV (dLst (dCons (dVar 8) (dCons (dCB D.toTuple (dCons (dVar 8) dNil)) (dCons (dVar 8) dNil)))))) (dgName 10) (dSeq (dAsg (dCall (noEr (dsp_judge_keys K A)) (dN 1 (dCons (dVar 10) dNil))) (dgName 11))
    (dSeq (dIfS (dOr (dTest (dOp D.ne (dOp D.isN (dVar 11) (dC .non)) (dOp D.isN (dVar 7) (dC .non)))) (dTest (dOp D.neS (dCB D.reprN (dCons (dVar 8) dNil)) (dVar 9)))) (dRet (dC (.bl false))) dNext)
    (dIfS (dAnd (dTest (dOp D.isNotN (dVar 7) (dC .non))) (dOr (dNot (dTruth (dIsi K A.isis (dVar 11) (dC (.ptr A.c_Fault))))) (dTest (dOp D.ne (dTup (dCons (dFld A.cs_place "place" (dVar 11)) (dCons (dFld A.cs_word "word" (dVar 11)) dNil))) (dVar 7))))) (dRet (dC (.bl false))) dNext))))
def lwT8 (K : PySem.W.Frag) (A : Ads) : DS := dSeq (lwS8 K A) (lwT9 K A)
def lwS7 (K : PySem.W.Frag) (A : Ads) : DS := (dAsg (dCB D.reprN (dCons (dVar 8) dNil)) (dgName 9))
def lwT7 (K : PySem.W.Frag) (A : Ads) : DS := dSeq (lwS7 K A) (lwT8 K A)
def lwS6 (K : PySem.W.Frag) (A : Ads) : DS := (dFrz 5 (dPar 7 8 (dCons (dCall (noEr (dsp_p_law_due K A)) (dN 1 (dCons (dVar 5) dNil))) (dCons (dCall (noEr (dsp_p_law_made K A)) (dN 2 (dCons (dVar 5) (dCons (dCall (noEr (dsp_p_law_draw K A)) (dN 2 (dCons (dVar 2) (dCons (dC (.int 2)) dNil)))) dNil)))) dNil))))
def lwT6 (K : PySem.W.Frag) (A : Ads) : DS := dSeq (lwS6 K A) (lwT7 K A)
def lwS5 (K : PySem.W.Frag) (A : Ads) : DS := (dFor (diRng1 (dOp D.mul (dCall (noEr (dsp_p_law_draw K A)) (dN 2 (dCons (dVar 2) (dCons (dC (.int 4)) dNil)))) (dCB D.toInt (dCons (dOp D.ne0 (dVar 5) (dV (dLst dNil))) dNil)))) (dgName 6) (dIfS (dAnd (dTest (dOp D.eq (dCall (noEr (dsp_p_law_draw K A)) (dN 2 (dCons (dVar 2) (dCons (dC (.int 3)) dNil)))) (dC (.int 0)))) (dTest (dOp D.gt (dCB D.len (dCons (dVar 5) dNil)) (dC (.int 1))))) (dDrop (dPopAt 5 (dCall (noEr (dsp_p_law_draw K A)) (dN 2 (dCons (dVar 2) (dCons (dCB D.len (dCons (dVar 5) dNil)) dNil)))))) (dDrop (dCall (noEr (dsp_p_law_spoil K A)) (dN 2 (dCons (dVar 2) (dCons (dVar 5) dNil)))))))
def lwT5 (K : PySem.W.Frag) (A : Ads) : DS := dSeq (lwS5 K A) (lwT6 K A)
def lwS4 (K : PySem.W.Frag) (A : Ads) : DS := (dIfFz 5 (dTest (dOp D.isNotN (dCall (noEr (dsp_judge_keys K A)) (dN 1 (dCons (dCall (noEr (dsp_p_law_made K A)) (dN 2 (dCons (dVar 5) (dCons (dC (.int 0)) dNil)))) dNil))) (dC .non))) (dRet (dC (.bl false))))
def lwT4 (K : PySem.W.Frag) (A : Ads) : DS := dSeq (lwS4 K A) (lwT5 K A)
def lwS3 (K : PySem.W.Frag) (A : Ads) : DS := (dOwn (dCallF (noEr (dsp_p_law_mixed K A)) (dN 2 (dCons (dVar 2) (dCons (dV (dLc (diEnumX (dVar 3)) (dgTup 2 (dgCons (dgName 12) (dgCons (dgName 13) dgNil))) (fun ρ q _ => q true ρ) (dTup (dCons (dOp D.ix (dVar 13) (dC (.int 0))) (dCons (dOp D.ix (dVar 13) (dC (.int 1))) (dCons (dOp D.ix (dVar 4) (dVar 12)) dNil)))) [12, 13])) dNil)))) 5)
def lwT3 (K : PySem.W.Frag) (A : Ads) : DS := dSeq (lwS3 K A) (lwT4 K A)
def lwS2 (K : PySem.W.Frag) (A : Ads) : DS := (dAsg (dCall (noEr (dsp_p_law_labels K A)) (dN 2 (dCons (dVar 2) (dCons (dVar 3) dNil)))) (dgName 4))
def lwT2 (K : PySem.W.Frag) (A : Ads) : DS := dSeq (lwS2 K A) (lwT3 K A)
def lwS1 (K : PySem.W.Frag) (A : Ads) : DS := (dAsg (dV (dCallF (noEr (dsp_p_law_rows K A)) (dN 2 (dCons (dVar 2) (dCons (dCall (noEr (dsp_p_law_one K A)) (dN 2 (dCons (dVar 2) (dCons (dV (dLst (dCons (dC (.int 3)) (dCons (dC (.int 9)) (dCons (dC (.int 20)) dNil))))) dNil)))) dNil))))) (dgName 3))
def lwT1 (K : PySem.W.Frag) (A : Ads) : DS := dSeq (lwS1 K A) (lwT2 K A)
def lwS0 (K : PySem.W.Frag) (A : Ads) : DS := (dOwn (dCallF (noEr (dsp_p_law_well K A)) (dN 1 (dCons (dVar 1) dNil))) 2)
def lwT0 (K : PySem.W.Frag) (A : Ads) : DS := dSeq (lwS0 K A) (lwT1 K A)
theorem lwbody (K : PySem.W.Frag) (A : Ads) : body_law K A = (dSeq (dFor (diAny (dSl (dOp D.add (dVar 0) (dV (dLst (dCons (dC (.int 0)) dNil)))) dNoP (dPart (dC (.int 5))))) (dgName 1) (lwT0 K A))
    (dRet (dSelf true (l_eqm K A) (dV (dLc (diAny (dV (dLst (dCons (dC .non) (dCons (dC (.str (PySem.Str.ofString "rows"))) (dCons (dV dDNew) (dCons (dC (.int 5)) dNil))))))) (dgName 14) (fun ρ q _ => q true ρ) (dCall (noEr (dsp_judge_keys K A)) (dN 1 (dCons (dVar 14) dNil))) [14])) (dOp D.mul (dV (dLst (dCons (dV (dMake A.c_Fault (noEr (dsp_Fault_init K A)) (dN 2 (dCons (dUn D.neg (dC (.int 1))) (dCons (dC (.str (PySem.Str.ofString "rows"))) dNil))))) dNil))) (dC (.int 4)))))) := rfl
theorem scan_kind : ∀ (t : List Rk) (i : Nat) (es : List E2), scan i es t = none ∨ ∃ k s, scan i es t = some (k, wd s)
  | [], _, _ => .inl rfl
  | d :: t, i, es => by
    rcases word_kind d es with h | ⟨s, h⟩
    · rw [scan_go h]; exact scan_kind t (i + 1) _
    · rw [scan_stop h]; exact .inr ⟨_, _, rfl⟩
theorem par_kind (ks : List LB) : ∀ (t : List Rk) (i : Nat), parO ks i t = none ∨ ∃ k s, parO ks i t = some (k, wd s)
  | [], _ => .inl rfl
  | d :: t, i => by
    rw [parO]
    split
    · exact par_kind ks t (i + 1)
    · exact .inr ⟨_, _, rfl⟩
theorem due_kind (x : List Rk) : dueO x = none ∨ ∃ i s, dueO x = some (i, wd s) := by
  unfold dueO
  split
  · exact .inr ⟨_, _, rfl⟩
  · rcases scan_kind x 0 [] with h | ⟨k, s, h⟩
    · rw [h]; exact par_kind _ x 0
    · rw [h]; exact .inr ⟨_, _, rfl⟩
theorem ne_pair (i : Int) (s : String) : D.ne (.tup [.int i, wd s]) (.tup [.int i, wd s]) = some (.bl false) := (DL.eq_self (n := 3) (by
  show D.nices 2 [D.int i, wd s] = true
  exact nices_all fun d hd => by
    simp only [List.mem_cons, List.not_mem_nil, or_false] at hd
    rcases hd with rfl | rfl
    · rfl
    · exact ok_ofString s) (by decide)).2
section
variable {K : PySem.W.Frag} (A : Ads)
theorem T8a_ok (fx : Fax K A) {rs : List Rk} {kd : Bool} (ho : ∀ r ∈ rs, r.Ok) {scr c : D} {st : Str} (hr : D.reprN [.lst (rs.map (Rk.P kd))] = some (.str st)) {s2 s3 s4 s5 s6 s10 s11 s12 s13 s14 : Sl} (p2 : s2.isP = false) (p3 : s3.isP = false) (p4 : s4.isP = false) (p5 : s5.isP = false) (p6 : s6.isP = false) (p10 : s10.isP = false) (p11 : s11.isP = false) (p12 : s12.isP = false) (p13 : s13.isP = false) (p14 : s14.isP = false)
    {nx : Ro → Prop} {rt : T → Ro → Prop} {rf : D → Ro → Prop} {bk ct : Ro → Prop} {er : ER} (k : ∀ s10 s11 : Sl, s10.isP = false → s11.isP = false → nx [.val scr, .val c, s2, s3, s4, s5, s6, .val (dueD (dueO rs)), .val (.lst (rs.map (Rk.P kd))), .val (.str st), s10, s11, s12, s13, s14]) :
    lwS8 K A ⟨nx, rt, rf, bk, ct, er⟩ [.val scr, .val c, s2, s3, s4, s5, s6, .val (dueD (dueO rs)), .val (.lst (rs.map (Rk.P kd))), .val (.str st), s10, s11, s12, s13, s14] := by
  unfold lwS8
  have z3 : 0 + 1 + 1 + 1 ≤ sizeLine := by decide
  have hst : D.neS (.str st) (.str st) = some (.bl false) := by show some (D.bl (!decide (st = st))) = _; rw [decide_eq_true rfl]; rfl
  simp! only [Nat.reduceLT, z3, p2, p3, p4, p5, p6, p10, p11, p12, p13, p14]
  refine forL_inv (fun i ρ => ∃ s10 s11 : Sl, (s10.isP = false ∧ s11.isP = false) ∧ ρ = [.val scr, .val c, s2, s3, s4, s5, s6, .val (dueD (dueO rs)), .val (.lst (rs.map (Rk.P kd))), .val (.str st), s10, s11, s12, s13, s14]) ⟨s10, s11, ⟨p10, p11⟩, rfl⟩ ?_ ?_
  · rintro i d ρ nx hd ⟨s10, s11, ⟨p10, p11⟩, rfl⟩ hnx
    have fs := List.mem_of_getElem? hd
    have hx : seqL d = some (rs.map (Rk.P kd)) := by
      simp only [List.mem_cons, List.not_mem_nil, or_false] at fs
      rcases fs with rfl | rfl | rfl <;> rfl
    simp! only [Nat.reduceLT, p2, p3, p4, p5, p6, p10, p11, p12, p13, p14]
    refine judge_ok A hx ho ?_
    rcases due_kind rs with h | ⟨j, s, h⟩
    · rw [h] at hnx ⊢
      simp! only [Nat.reduceLT, fltO, dueD, hr, hst, p2, p3, p4, p5, p6, p10, p11, p12, p13, p14]
      exact hnx _ ⟨.val d, .val .non, ⟨rfl, rfl⟩, rfl⟩
    · rw [h] at hnx ⊢
      have n1 : D.isN (.tup [.int j, wd s]) .non = some (.bl false) := rfl
      have n2 : D.isNotN (.tup [.int j, wd s]) .non = some (.bl true) := rfl
      have n3 : D.isN (flt A j (wd s)) .non = some (.bl false) := rfl
      have z2 : 0 + 1 + 1 ≤ sizeLine := by decide
      have hk : D.kno A.isis (flt A j (wd s)) = true := by show List.elem A.c_Fault A.isis = true; exact List.elem_eq_true_of_mem (List.mem_cons_self ..)
      simp! only [Nat.reduceLT, fltO, dueD, hk, fltF, lk_ne nWP, n1, n2, n3, hr, hst, z2, ne_pair, Ads.cs_place, Ads.cs_word, p2, p3, p4, p5, p6, p10, p11, p12, p13, p14]
      exact hnx _ ⟨.val d, .val (flt A j (wd s)), ⟨rfl, rfl⟩, rfl⟩
  · rintro ρ ⟨s10, s11, ⟨p10, p11⟩, rfl⟩
    exact k _ _ p10 p11
end
set_option maxHeartbeats 2000000
section
variable {K : PySem.W.Frag} (A : Ads)
theorem eq_flt (i : Int) (s : String) {q : D → List D → Prop} {er : Addr → List (Str × D) → List D → Prop} (k : q (.bl true) []) : dsp_Fault_eq K A [.val (flt A i (wd s)), .val (flt A i (wd s))] q er := by
  unfold dsp_Fault_eq body_Fault_eq
  have hk : D.kno A.isis (flt A i (wd s)) = true := by simp [D.kno]
  have hs : D.eq (wd s) (wd s) = some (.bl true) := (DL.eq_self (a := wd s) (n := 0) (ok_ofString s) (by decide)).1
  simp! only [hk, fltF, Ads.cs_place, Ads.cs_word, lk_ne nWP, hs]
  exact k
theorem T9_ok {rs : List Rk} {kd : Bool} (ho : ∀ r ∈ rs, r.Ok) (hl : rs.length ≤ 20) {scr c : D} {s2 s3 s4 s6 s7 s9 s10 s11 s12 s13 s14 : Sl} (p2 : s2.isP = false) (p3 : s3.isP = false) (p4 : s4.isP = false) (p6 : s6.isP = false) (p7 : s7.isP = false) (p9 : s9.isP = false) (p10 : s10.isP = false) (p11 : s11.isP = false) (p12 : s12.isP = false) (p13 : s13.isP = false) (p14 : s14.isP = false)
    {nx : Ro → Prop} {rt : T → Ro → Prop} {rf : D → Ro → Prop} {bk ct : Ro → Prop} {er : ER} (k : nx [.val scr, .val c, s2, s3, s4, .val (.lst (rs.map Rk.L)), s6, s7, .val (.lst (rs.map (Rk.P kd))), s9, s10, s11, s12, s13, s14]) :
    lwT9 K A ⟨nx, rt, rf, bk, ct, er⟩ [.val scr, .val c, s2, s3, s4, .val (.lst (rs.map Rk.L)), s6, s7, .val (.lst (rs.map (Rk.P kd))), s9, s10, s11, s12, s13, s14] := by
  unfold lwT9 lwS9
  have z0 : 0 ≤ sizeLine := by decide
  by_cases h : rs = []
  · subst h
    have n0 : D.ne0 (.lst (([] : List Rk).map Rk.L)) (.lst []) = some (.bl false) := rfl
    simp! only [Nat.reduceLT, n0, z0, p2, p3, p4, p6, p7, p9, p10, p11, p12, p13, p14]
    exact k
  · have n0 : D.ne0 (.lst (rs.map Rk.L)) (.lst []) = some (.bl true) := by cases rs with
      | nil => exact absurd rfl h
      | cons => rfl
    have hm : D.mul (.lst (rs.map (Rk.P kd))) (.int 61) = some (.lst (((List.replicate 61 rs).flatten).map (Rk.P kd))) := by
      have e : ((List.replicate 61 rs).flatten).map (Rk.P kd) = (List.replicate (61 : Int).toNat (rs.map (Rk.P kd))).flatten := by
        rw [List.map_flatten, List.map_replicate]; rfl
      rw [e]
      unfold D.mul
      dsimp only
      rw [if_pos ⟨by decide, by decide, by rw [List.length_map]; exact Nat.le_trans (Nat.mul_le_mul_right (61 : Int).toNat hl) (by decide)⟩]
    obtain ⟨bs, hbs⟩ : ∃ bs, bs = (List.replicate 61 rs).flatten := ⟨_, rfl⟩
    rw [← hbs] at hm
    have hb : ∀ r ∈ bs, r.Ok := fun r hr => by
      rw [hbs] at hr
      obtain ⟨l, h1, h2⟩ := List.mem_flatten.mp hr
      rw [(List.mem_replicate.mp h1).2] at h2
      exact ho r h2
    have hd : dueO bs = some (-1, wd "rows") := by
      have hp := List.length_pos_iff.mpr h
      have : bs.length = 61 * rs.length := by rw [hbs, List.length_flatten, List.map_replicate, List.sum_replicate_nat]
      unfold dueO
      rw [if_pos (by omega)]
    simp! only [Nat.reduceLT, n0, z0, hm, p2, p3, p4, p6, p7, p9, p10, p11, p12, p13, p14]
    refine judge_ok A (kd := kd) (rs := bs) rfl hb ?_
    rw [hd, show fltO A (some (-1, wd "rows")) = flt A (-1) (wd "rows") from rfl]
    have hk : D.kno A.isis (flt A (-1) (.str (PySem.Str.ofString "rows"))) = true := by simp [D.kno]
    simp! only [Nat.reduceLT, fltO, p2, p3, p4, p6, p7, p9, p10, p11, p12, p13, p14]
    refine fault_ok A _ _ ?_
    simp! only [Nat.reduceLT, hk, p2, p3, p4, p6, p7, p9, p10, p11, p12, p13, p14]
    refine eq_flt A _ _ ?_
    simp! only [Nat.reduceLT, p2, p3, p4, p6, p7, p9, p10, p11, p12, p13, p14]
    exact k
theorem T6_ok (fx : Fax K A) {n : Nat} (hn : n < 800000000) {w : D} (hw : Well n w) {rs : List Rk} {t : Nat} (ht : t ≤ 10) (hx : ∀ r ∈ rs, RowS t r) (hl : rs.length ≤ 20) {scr c : D} {s3 s4 s6 s7 s8 s9 s10 s11 s12 s13 s14 : Sl} (p3 : s3.isP = false) (p4 : s4.isP = false) (p6 : s6.isP = false) (p7 : s7.isP = false) (p8 : s8.isP = false) (p9 : s9.isP = false) (p10 : s10.isP = false) (p11 : s11.isP = false) (p12 : s12.isP = false) (p13 : s13.isP = false) (p14 : s14.isP = false)
    {nx : Ro → Prop} {rt : T → Ro → Prop} {rf : D → Ro → Prop} {bk ct : Ro → Prop} {er : ER} (k : ∀ s2 s5 s7 s8 s9 s10 s11 : Sl, (s2.isP = false ∧ s5.isP = false ∧ s7.isP = false ∧ s8.isP = false ∧ s9.isP = false ∧ s10.isP = false ∧ s11.isP = false) → nx [.val scr, .val c, s2, s3, s4, s5, s6, s7, s8, s9, s10, s11, s12, s13, s14]) :
    lwT6 K A ⟨nx, rt, rf, bk, ct, er⟩ [.val scr, .val c, .own w, s3, s4, .own (.lst (rs.map Rk.L)), s6, s7, s8, s9, s10, s11, s12, s13, s14] := by
  unfold lwT6 lwS6 lwT7 lwS7 lwT8
  have ho : ∀ r ∈ rs, r.Ok := fun r hr => (hx r hr).ok (by omega)
  simp! only [Nat.reduceLT, p3, p4, p6, p7, p8, p9, p10, p11, p12, p13, p14]
  refine due_ok A ho ?_
  simp! only [Nat.reduceLT, p3, p4, p6, p7, p8, p9, p10, p11, p12, p13, p14]
  refine draw_ok A (n := n) (by omega) hw (by decide) (by decide) fun z w1 z0 z1 hw1 => ?_
  simp! only [Nat.reduceLT, p3, p4, p6, p7, p8, p9, p10, p11, p12, p13, p14]
  refine made_ok A ho (by omega) ?_
  obtain ⟨st, hr⟩ := reprN_ok (xs := rs.map (Rk.P (z == 1))) (k := t + 4) (w := 40000) (fun d hd => by
    obtain ⟨r, h, rfl⟩ := List.mem_map.mp hd
    exact (hx r h).tnl (by omega) _) (by omega) (by
    rw [List.length_map]
    exact Nat.le_trans (by omega : _ ≤ 900000) (by decide))
  simp! only [Nat.reduceLT, hr, p3, p4, p6, p7, p8, p9, p10, p11, p12, p13, p14]
  refine T8a_ok A fx ho hr rfl p3 p4 rfl p6 p10 p11 p12 p13 p14 fun s10 s11 q10 q11 => ?_
  exact T9_ok A ho hl rfl p3 p4 p6 rfl rfl q10 q11 p12 p13 p14 (k _ _ _ _ _ _ _ ⟨rfl, rfl, rfl, rfl, rfl, q10, q11⟩)
end
set_option maxHeartbeats 2000000
theorem erase_map {α β : Type} (f : α → β) : ∀ (l : List α) (j : Nat), (l.map f).eraseIdx j = (l.eraseIdx j).map f
  | [], _ => rfl
  | _ :: _, 0 => rfl
  | a :: l, j + 1 => by rw [List.map_cons, List.eraseIdx_cons_succ, List.eraseIdx_cons_succ, List.map_cons, erase_map f l j]
section
variable {K : PySem.W.Frag} (A : Ads)
theorem T4_ok (fx : Fax K A) {n : Nat} (hn : n < 700000000) {w : D} (hw : Well n w) {ts : List T3} (G : Good ts) (hl : ts.length ≤ 20) {scr c : D} {s3 s4 s6 s7 s8 s9 s10 s11 s12 s13 s14 : Sl} (p3 : s3.isP = false) (p4 : s4.isP = false) (p6 : s6.isP = false) (p7 : s7.isP = false) (p8 : s8.isP = false) (p9 : s9.isP = false) (p10 : s10.isP = false) (p11 : s11.isP = false) (p12 : s12.isP = false) (p13 : s13.isP = false) (p14 : s14.isP = false)
    {nx : Ro → Prop} {rt : T → Ro → Prop} {rf : D → Ro → Prop} {bk ct : Ro → Prop} {er : ER} (k : ∀ s2 s5 s6 s7 s8 s9 s10 s11 : Sl, (s2.isP = false ∧ s5.isP = false ∧ s6.isP = false ∧ s7.isP = false ∧ s8.isP = false ∧ s9.isP = false ∧ s10.isP = false ∧ s11.isP = false) → nx [.val scr, .val c, s2, s3, s4, s5, s6, s7, s8, s9, s10, s11, s12, s13, s14]) :
    lwT4 K A ⟨nx, rt, rf, bk, ct, er⟩ [.val scr, .val c, .own w, s3, s4, .own (.lst ((ts.map mkR).map Rk.L)), s6, s7, s8, s9, s10, s11, s12, s13, s14] := by
  unfold lwT4 lwS4 lwT5 lwS5
  have hr := G.rowS
  have ho : ∀ r ∈ ts.map mkR, r.Ok := fun r h => (hr r h).ok (by omega)
  have hd := G.due (by omega)
  have hll : (ts.map mkR).length ≤ 20 := by rw [List.length_map]; exact hl
  generalize ts.map mkR = rs at hr ho hd hll ⊢
  simp! only [↓w_ifFz, Nat.reduceLT, p3, p4, p6, p7, p8, p9, p10, p11, p12, p13, p14]
  have hq : ∀ s : Sl, s.isP = false → s.hid.isP = false := fun s h => by cases s <;> first | rfl | exact h
  have r3 := hq s3 p3; have r4 := hq s4 p4; have r6 := hq s6 p6; have r7 := hq s7 p7; have r8 := hq s8 p8; have r9 := hq s9 p9; have r10 := hq s10 p10; have r11 := hq s11 p11; have r12 := hq s12 p12; have r13 := hq s13 p13; have r14 := hq s14 p14
  refine made_ok A ho (by omega) ?_
  simp! only [Nat.reduceLT, r3, r4, r6, r7, r8, r9, r10, r11, r12, r13, r14]
  refine judge_ok A (kd := (0 : Int) == 1) (rs := rs) rfl ho ?_
  rw [hd, show fltO A none = .non from rfl]
  simp! only [Nat.reduceLT, p3, p4, p6, p7, p8, p9, p10, p11, p12, p13, p14]
  refine draw_ok A (n := n) (by omega) hw (by decide) (by decide) fun x w2 x0 x1 hw2 => ?_
  have hti : ∀ b : Bool, D.toInt [.bl b] = some (.int (if b = true then 1 else 0)) := fun b => by cases b <;> rfl
  have hmul : D.mul (.int x) (.int (if (!(rs.map Rk.L).isEmpty) = true then 1 else 0)) = some (.int (x * (if (!(rs.map Rk.L).isEmpty) = true then 1 else 0))) := D_mul (by cases (!(rs.map Rk.L).isEmpty) <;> exact Or.inl (by constructor <;> simp <;> omega))
  have z0 : 0 ≤ sizeLine := Nat.zero_le _
  simp! only [Nat.reduceLT, z0, ne0_nil, hti, hmul, p3, p4, p6, p7, p8, p9, p10, p11, p12, p13, p14]
  generalize hrr : x * (if (!(rs.map Rk.L).isEmpty) = true then 1 else 0) = r
  have q4 : r ≤ 3 ∧ 0 ≤ r ∧ (0 < r → rs ≠ []) := by
    rw [← hrr]
    cases he : (rs.map Rk.L).isEmpty with
    | true => simp
    | false =>
      refine ⟨by simp; omega, by simp; omega, fun _ h => ?_⟩
      rw [h] at he; cases he
  refine ⟨⟨by omega, by omega⟩, ?_⟩
  refine forL_inv (fun i ρ => ∃ (w' : D) (xs : List Rk) (s6 : Sl), s6.isP = false ∧ (∀ d ∈ xs, RowS i d) ∧ (xs.length ≤ 20 ∧ (0 < r → xs ≠ [])) ∧ Well (n + 1 + 25 * i) w' ∧ ρ = [.val scr, .val c, .own w', s3, s4, .own (.lst (xs.map Rk.L)), s6, s7, s8, s9, s10, s11, s12, s13, s14]) ⟨w2, rs, s6, p6, hr, ⟨hll, q4.2.2⟩, hw2, rfl⟩ ?_ ?_
  · rintro i d ρ nx hdd ⟨w', xs, s6, p6, hx, ⟨hxl, hxe⟩, hw', rfl⟩ hnx
    have hi := (List.getElem?_eq_some_iff.mp hdd).1
    rw [List.length_map, List.length_range] at hi
    have hne : xs ≠ [] := hxe (by omega)
    have hpos := List.length_pos_iff.mpr hne
    have hlen : D.len [.lst (xs.map Rk.L)] = some (.int (xs.length : Int)) := by rw [len_lst, List.length_map]
    simp! only [Nat.reduceLT, p3, p4, p6, p7, p8, p9, p10, p11, p12, p13, p14]
    refine draw_ok A (by omega) hw' (by decide) (by decide) fun y w3 y0 y1 hw3 => ?_
    by_cases hy0 : y = 0
    · subst hy0
      have e0 : ((0 : Int) == 0) = true := rfl
      by_cases h1 : 1 < xs.length
      · have hg : decide ((1 : Int) < (xs.length : Int)) = true := decide_eq_true (by omega)
        simp! only [Nat.reduceLT, e0, hlen, hg, ↓dPopAt, p3, p4, p6, p7, p8, p9, p10, p11, p12, p13, p14]
        refine draw_ok A (by omega) hw3 (by omega) (log_small (by omega)) fun z w4 z0 z1 hw4 => ?_
        obtain ⟨j, rfl⟩ := Int.eq_ofNat_of_zero_le z0
        have hj : j < xs.length := by omega
        have e1 : seqIndex? (j : Int) (xs.map Rk.L).length = some j := seq_nn (by rw [List.length_map]; exact hj)
        have e2 : (xs.map Rk.L)[j]? = some xs[j].L := by rw [List.getElem?_map, List.getElem?_eq_getElem hj]; rfl
        have e3 : (-(2 : Int) ^ 63 ≤ (j : Int) ∧ (j : Int) < 2 ^ 63) := by omega
        simp! only [Nat.reduceLT, e1, e2, e3, p3, p4, p6, p7, p8, p9, p10, p11, p12, p13, p14]
        refine hnx _ ⟨w4, xs.eraseIdx j, .val d, rfl, fun d hd => (hx d (List.mem_of_mem_eraseIdx hd)).up, ⟨by rw [List.length_eraseIdx, if_pos hj]; omega, fun _ h => ?_⟩, hw4.mono (by omega), ?_⟩
        · have := congrArg List.length h
          rw [List.length_eraseIdx, if_pos hj, List.length_nil] at this
          omega
        · rw [erase_map]
      · have hg : decide ((1 : Int) < (xs.length : Int)) = false := decide_eq_false (by omega)
        simp! only [Nat.reduceLT, e0, hlen, hg, p3, p4, p6, p7, p8, p9, p10, p11, p12, p13, p14]
        refine spoil_ok A (t := i) (by omega) hx hne hxl (n := n + 1 + 25 * i + 1) (by omega) hw3 fun ys w4 hyl hy hw4 => ?_
        simp! only [Nat.reduceLT, p3, p4, p6, p7, p8, p9, p10, p11, p12, p13, p14]
        exact hnx _ ⟨w4, ys, _, rfl, hy, ⟨by omega, fun _ h => by rw [h] at hyl; exact hne (List.eq_nil_of_length_eq_zero hyl.symm)⟩, hw4.mono (by omega), rfl⟩
    · have e0 : (y == 0) = false := beq_eq_false_iff_ne.mpr hy0
      simp! only [Nat.reduceLT, e0, hlen, p3, p4, p6, p7, p8, p9, p10, p11, p12, p13, p14]
      refine spoil_ok A (t := i) (by omega) hx hne hxl (n := n + 1 + 25 * i + 1) (by omega) hw3 fun ys w4 hyl hy hw4 => ?_
      simp! only [Nat.reduceLT, p3, p4, p6, p7, p8, p9, p10, p11, p12, p13, p14]
      exact hnx _ ⟨w4, ys, _, rfl, hy, ⟨by omega, fun _ h => by rw [h] at hyl; exact hne (List.eq_nil_of_length_eq_zero hyl.symm)⟩, hw4.mono (by omega), rfl⟩
  · rintro ρ ⟨w', xs, s6, p6, hx, ⟨hxl, _⟩, hw', rfl⟩
    rw [List.length_map, List.length_range] at hx hw'
    exact T6_ok A fx (n := n + 1 + 25 * r.toNat) (by omega) hw' (t := r.toNat) (by omega) hx hxl p3 p4 p6 p7 p8 p9 p10 p11 p12 p13 p14 fun s2 s5 s7 s8 s9 s10 s11 h => k s2 s5 s6 s7 s8 s9 s10 s11 ⟨h.1, h.2.1, p6, h.2.2⟩
end
set_option maxHeartbeats 2000000
def t3L (t : T3) : D := (mkR t).L
def SelfQ (l : List (Addr × DSp)) (d e : D) (P : Prop) : Prop := e = d ∧ ∃ ds, d = .lst ds ∧ (∀ x ∈ ds, SelfEq l x) ∧ P
theorem w_self {b : Bool} {l : List (Addr × DSp)} {da dc : DE} {ρ : Ro} {q : T → Ro → Prop} {er : ER} : dSelf b l da dc ρ q er = da ρ (fun t ρ1 => dc ρ1 (fun u ρ2 => Opt (rd ρ2 t) fun d => Opt (rd ρ2 u) fun e => SelfQ l d e (q (.val (.bl b)) ρ2)) er) er := by
  unfold dSelf SelfQ
  rfl
theorem SelfQ.mk {l : List (Addr × DSp)} {ds : List D} {P : Prop} (h : ∀ x ∈ ds, SelfEq l x) (p : P) : SelfQ l (.lst ds) (.lst ds) P := ⟨rfl, ds, rfl, h, p⟩
theorem mul4 (F : D) : D.mul (.lst [F]) (.int 4) = some (.lst (List.replicate 4 F)) := by
  have e : (List.replicate (4 : Int).toNat [F]).flatten = List.replicate 4 F := rfl
  rw [← e]
  unfold D.mul
  dsimp only
  rw [if_pos ⟨by decide, by decide, (by show 1 * 4 ≤ sizeLine; decide)⟩]
theorem self_flt {K : PySem.W.Frag} (A : Ads) (i : Int) (s : String) : SelfEq (l_eqm K A) (flt A i (wd s)) := .ins (dsp := dsp_Fault_eq K A) (by unfold l_eqm; simp) (eq_flt A i s rfl)
theorem sRows : PySem.Str.ofString "rows" = mk [114, 111, 119, 115] := by decide +kernel
theorem perm_back {ts : List T3} {ys : List D} (p : ys.Perm (ts.map t3L)) : ∃ us, ys = us.map t3L ∧ ts.Perm us := by
  have : ∀ {xs ys : List D}, ys.Perm xs → ∀ ts : List T3, xs = ts.map t3L → ∃ us : List T3, ys = us.map t3L ∧ ts.Perm us := by
    intro xs ys p
    induction p with
    | nil => intro ts e; cases ts with
      | nil => exact ⟨[], rfl, List.Perm.refl _⟩
      | cons => cases e
    | cons x p ih =>
      intro ts e
      cases ts with
      | nil => cases e
      | cons t ts =>
        rw [List.map_cons] at e
        obtain ⟨e1, e2⟩ := List.cons.inj e
        obtain ⟨us, h1, h2⟩ := ih ts e2
        exact ⟨t :: us, by rw [List.map_cons, h1, e1], h2.cons _⟩
    | swap x y l =>
      intro ts e
      match ts, e with
      | a :: b :: ts, e =>
        rw [List.map_cons, List.map_cons] at e
        obtain ⟨e1, e2⟩ := List.cons.inj e
        obtain ⟨e2, e3⟩ := List.cons.inj e2
        exact ⟨b :: a :: ts, by rw [List.map_cons, List.map_cons, e1, e2, e3], List.Perm.swap _ _ _⟩
    | trans _ _ ih1 ih2 =>
      intro ts e
      obtain ⟨us, h1, h2⟩ := ih2 ts e
      obtain ⟨vs, h3, h4⟩ := ih1 us h1
      exact ⟨vs, h3, h2.trans h4⟩
  exact this p ts rfl
def put (rs : List Row) (fs : List (List Nat)) : List T3 := List.zipWith (fun r f => (r.1, r.2.1, g8 f)) rs fs
theorem put_names : ∀ (rs : List Row) (fs : List (List Nat)), fs.length = rs.length → (put rs fs).map (·.1) = rs.map (·.1) ∧ (put rs fs).map (·.2.2) = fs.map g8 ∧ (put rs fs).length = rs.length
  | [], [], _ => ⟨rfl, rfl, rfl⟩
  | r :: rs, f :: fs, h => by
    obtain ⟨h1, h2, h3⟩ := put_names rs fs (by simpa using h)
    refine ⟨?_, ?_, ?_⟩
    · show r.1 :: (put rs fs).map (·.1) = _
      rw [h1]; rfl
    · show g8 f :: (put rs fs).map (·.2.2) = _
      rw [h2]; rfl
    · show (put rs fs).length + 1 = _
      rw [h3]; rfl
  | [], _ :: _, h => by simp at h
  | _ :: _, [], h => by simp at h
theorem put_good {rs : List Row} (R : Rows rs) {fs : List (List Nat)} (hl : fs.length = rs.length) (nd : fs.Nodup) (hv : ∀ f ∈ fs, Ky.Val f) (hp : ∀ f ∈ fs, Ky.cutK f = [] ∨ Ky.cutK f ∈ fs) (h240 : ∀ f ∈ fs, f.length ≤ 240) : Good (put rs fs) := by
  obtain ⟨e1, e2, e3⟩ := put_names rs fs hl
  have hk : ∀ t ∈ put rs fs, ∃ f ∈ fs, t.2.2 = g8 f := fun t ht => by
    have : t.2.2 ∈ (put rs fs).map (·.2.2) := List.mem_map.mpr ⟨t, ht, rfl⟩
    rw [e2] at this
    obtain ⟨f, h1, h2⟩ := List.mem_map.mp this
    exact ⟨f, h1, h2.symm⟩
  have hr : ∀ t ∈ put rs fs, ∃ r ∈ rs, t.1 = r.1 ∧ t.2.1 = r.2.1 := fun t ht => by
    unfold put at ht
    obtain ⟨i, hi, rfl⟩ := List.getElem_of_mem ht
    rw [List.length_zipWith] at hi
    rw [List.getElem_zipWith]
    exact ⟨rs[i], List.getElem_mem _, rfl, rfl⟩
  refine ⟨by rw [e1]; exact R.nd, ?_, fun t ht => ?_, fun t ht => ?_⟩
  · rw [e2]
    exact List.pairwise_map.mpr (nd.imp_of_mem fun {a b} ha hb hab e => hab (g8_inj (hv a ha).b (hv b hb).b e))
  · obtain ⟨f, h1, h2⟩ := hk t ht
    obtain ⟨r, h3, h4, h5⟩ := hr t ht
    rw [h2, h4, h5]
    exact ⟨R.nm r h3, (R.vl r h3).1, (R.vl r h3).2, key_g8 (hv f h1), by rw [g8_len]; exact h240 f h1⟩
  · obtain ⟨f, h1, h2⟩ := hk t ht
    rw [h2, e2, cut8_g8 (hv f h1).b]
    rcases hp f h1 with z | z
    · left; rw [z]; rfl
    · right; exact List.mem_map.mpr ⟨_, z, rfl⟩
theorem law_true {K : PySem.W.Frag} (A : Ads) (fx : Fax K A) (ns : List Int) (hl : ns.length ≤ 63) : dsp_law K A [.val (.lst (ns.map D.int))] (fun d _ => d = .bl true) (fun _ _ _ => False) := by
  unfold dsp_law
  rw [lwbody]
  have z1 : 0 + 1 ≤ sizeLine := by decide
  have z3 : 0 + 1 + 1 + 1 ≤ sizeLine := by decide
  have z0 : 0 ≤ sizeLine := by decide
  have ha : D.add (.lst (ns.map D.int)) (.lst [.int 0]) = some (.lst ((ns ++ [0]).map D.int)) := by
    rw [D_addL (by rw [List.length_map, List.length_singleton]; exact Nat.le_trans (by omega : _ ≤ 64) (by decide)), List.map_append]; rfl
  have hc : D.cut (.lst ((ns ++ [0]).map D.int)) none (some 5) = some (.lst (((ns ++ [0]).take 5).map D.int)) := by
    rw [show (5 : Int) = ((5 : Nat) : Int) from rfl, cutL_lo, List.map_take]
  simp! only [z1, ha, hc]
  refine forL_inv (fun i ρ => ∃ s1 w s3 s4 s5 s6 s7 s8 s9 s10 s11 s12 s13 : Sl, (s1.isP = false ∧ w.isP = false ∧ s3.isP = false ∧ s4.isP = false ∧ s5.isP = false ∧ s6.isP = false ∧ s7.isP = false ∧ s8.isP = false ∧ s9.isP = false ∧ s10.isP = false ∧ s11.isP = false ∧ s12.isP = false ∧ s13.isP = false) ∧ ρ = [.val (.lst (ns.map D.int)), s1, w, s3, s4, s5, s6, s7, s8, s9, s10, s11, s12, s13, .no]) ⟨.no, .no, .no, .no, .no, .no, .no, .no, .no, .no, .no, .no, .no, ⟨rfl, rfl, rfl, rfl, rfl, rfl, rfl, rfl, rfl, rfl, rfl, rfl, rfl⟩, rfl⟩ ?_ ?_
  · rintro i d ρ nx hd ⟨s1, s2, s3, s4, s5, s6, s7, s8, s9, s10, s11, s12, s13, ⟨p1, p2, p3, p4, p5, p6, p7, p8, p9, p10, p11, p12, p13⟩, rfl⟩ hnx
    obtain ⟨c, -, rfl⟩ := List.mem_map.mp (List.mem_of_getElem? hd)
    unfold lwT0 lwS0 lwT1 lwS1 lwT2 lwS2 lwT3 lwS3
    simp! only [Nat.reduceLT, p1, p2, p3, p4, p5, p6, p7, p8, p9, p10, p11, p12, p13]
    refine well_ok A c fun w0 hw0 => ?_
    simp! only [Nat.reduceLT, z3, p1, p2, p3, p4, p5, p6, p7, p8, p9, p10, p11, p12, p13]
    refine one_lst A (n := 0) (xs := [D.int 3, .int 9, .int 20]) (by decide) hw0 (List.cons_ne_nil _ _) (by decide) ?_
    intro j hj w1 hw1
    have hm : ∃ m : Nat, m ≤ 20 ∧ [D.int 3, .int 9, .int 20][j] = .int (m : Int) := by
      match j, hj with
      | 0, _ => exact ⟨3, by decide, rfl⟩
      | 1, _ => exact ⟨9, by decide, rfl⟩
      | 2, _ => exact ⟨20, by decide, rfl⟩
    obtain ⟨mm, hm, em⟩ := hm
    rw [em]
    simp! only [Nat.reduceLT, p1, p2, p3, p4, p5, p6, p7, p8, p9, p10, p11, p12, p13]
    refine rows_ok A (n := 1) (by decide) hw1 (by omega) ?_
    intro rs w2 R hq hrs hw2
    simp! only [Nat.reduceLT, p1, p2, p3, p4, p5, p6, p7, p8, p9, p10, p11, p12, p13]
    obtain ⟨mz, L⟩ := R.lv
    refine labels_ok A L R.len (n := 5001) (by decide) hw2 fun fs w3 hfl nd hv hp h240 hw3 => ?_
    have G := put_good R hfl nd hv hp h240
    obtain ⟨e1, e2, e3⟩ := put_names rs fs hfl
    simp! only [Nat.reduceLT, p1, p2, p3, p4, p5, p6, p7, p8, p9, p10, p11, p12, p13]
    refine lcL_inv (fun i acc ρ => ∃ s12 s13 : Sl, (s12.isP = false ∧ s13.isP = false) ∧ acc = ((put rs fs).take i).map t3L ∧ ρ = [.val (.lst (ns.map D.int)), .val (.int c), .own w3, .val (.lst (rs.map rowD)), .val (.lst (fs.map kD)), s5, s6, s7, s8, s9, s10, s11, s12, s13, .no]) ⟨s12, s13, ⟨p12, p13⟩, rfl, rfl⟩ ?_ ?_
    · rintro i d acc ρ nx hd ⟨s12, s13, ⟨p12, p13⟩, rfl, rfl⟩ hnx
      obtain ⟨y, hy, rfl⟩ := enumD_get hd
      rw [List.getElem?_map] at hy
      cases hg : rs[i]? with
      | none => rw [hg] at hy; cases hy
      | some r =>
      rw [hg] at hy
      cases hy
      obtain ⟨hi, er⟩ := List.getElem?_eq_some_iff.mp hg
      have hif : i < fs.length := by omega
      have ek : D.ix (.lst (fs.map kD)) (.int (i : Int)) = some (nsD (g8 fs[i])) := by
        rw [ixn rfl (by rw [List.length_map]; exact hif), List.getElem?_map, List.getElem?_eq_getElem hif, ← kD_g8 (hv _ (List.getElem_mem hif)).b]; rfl
      have hz : (((put rs fs).take i).map t3L).length < sizeLine := by rw [List.length_map, List.length_take]; exact size60' (by omega)
      simp! only [Nat.reduceLT, rowD, ek, hz, z3, p5, p6, p7, p8, p9, p10, p11, p12, p13]
      refine hnx _ _ ⟨_, _, ⟨rfl, rfl⟩, ?_, rfl⟩
      have hip : i < (put rs fs).length := by omega
      rw [List.take_succ_eq_append_getElem hip, List.map_append]
      have hpg : (put rs fs)[i]? = some (r.1, r.2.1, g8 fs[i]) := by
        show (List.zipWith _ rs fs)[i]? = _
        rw [List.getElem?_zipWith, hg, List.getElem?_eq_getElem hif]
      have : (put rs fs)[i] = (r.1, r.2.1, g8 fs[i]) := by rw [List.getElem?_eq_getElem hip] at hpg; exact Option.some.inj hpg
      rw [this]; rfl
    rintro acc ρ ⟨s12, s13, ⟨p12, p13⟩, rfl, rfl⟩
    rw [enumD_length, List.length_map, ← e3, List.take_length]
    simp! only [Nat.reduceLT, p5, p6, p7, p8, p9, p10, p11, p12, p13]
    refine mixed_ok A (n := 5301) (by decide) hw3 (by rw [List.length_map, e3]; omega) fun ys w4 hpm hw4 => ?_
    obtain ⟨us, rfl, hpf⟩ := perm_back hpm
    have em2 : us.map t3L = (us.map mkR).map Rk.L := by rw [List.map_map]; rfl
    rw [em2]
    simp! only [Nat.reduceLT, p5, p6, p7, p8, p9, p10, p11, p12, p13]
    exact T4_ok A fx (n := 5361) (by decide) hw4 (G.perm hpf) (by rw [← hpf.length_eq, e3]; omega) rfl rfl p6 p7 p8 p9 p10 p11 p12 p13 rfl fun s2 s5 s6 s7 s8 s9 s10 s11 h => hnx _ ⟨.val (.int c), s2, _, _, s5, s6, s7, s8, s9, s10, s11, s12, s13, ⟨rfl, h.1, rfl, rfl, h.2.1, h.2.2.1, h.2.2.2.1, h.2.2.2.2.1, h.2.2.2.2.2.1, h.2.2.2.2.2.2.1, h.2.2.2.2.2.2.2, p12, p13⟩, rfl⟩
  · rintro ρ ⟨s1, s2, s3, s4, s5, s6, s7, s8, s9, s10, s11, s12, s13, ⟨p1, p2, p3, p4, p5, p6, p7, p8, p9, p10, p11, p12, p13⟩, rfl⟩
    simp! only [Nat.reduceLT, ↓w_self, z0, z1, p1, p2, p3, p4, p5, p6, p7, p8, p9, p10, p11, p12, p13]
    refine ⟨by decide, ?_⟩
    refine lcL_inv (fun i acc ρ => acc = List.replicate i (flt A (-1) (wd "rows")) ∧ ρ = [.val (.lst (ns.map D.int)), s1, s2, s3, s4, s5, s6, s7, s8, s9, s10, s11, s12, s13, .no]) ⟨rfl, rfl⟩ ?_ ?_
    · rintro i d acc ρ nx hd ⟨rfl, rfl⟩ hnx
      have hi : i < 4 := (List.getElem?_eq_some_iff.mp hd).1
      have hd2 := List.mem_of_getElem? hd
      have hz : (List.replicate i (flt A (-1) (wd "rows"))).length < sizeLine := by rw [List.length_replicate]; exact Nat.lt_of_lt_of_le hi (by decide)
      obtain ⟨pd, sd⟩ : plain d ∧ seqL d = none := by
        simp only [List.mem_cons, List.not_mem_nil, or_false] at hd2
        rcases hd2 with rfl | rfl | rfl | rfl
        · exact ⟨trivial, rfl⟩
        · exact ⟨by rw [sRows]; exact ⟨by rw [mk_len]; decide, by decide⟩, rfl⟩
        · exact ⟨trivial, rfl⟩
        · exact ⟨trivial, rfl⟩
      simp! only [Nat.reduceLT, p1, p2, p3, p4, p5, p6, p7, p8, p9, p10, p11, p12, p13]
      refine judge_no A pd sd ?_
      generalize hF : List.replicate i (flt A (-1) (wd "rows")) = acc at hz hnx ⊢
      simp! only [Nat.reduceLT, hz, p1, p2, p3, p4, p5, p6, p7, p8, p9, p10, p11, p12, p13]
      refine hnx _ _ ⟨?_, rfl⟩
      rw [← hF, List.replicate_succ']
    · rintro acc ρ ⟨rfl, rfl⟩
      have hm4 := mul4 (flt A (-1) (wd "rows"))
      obtain ⟨LL, hLL⟩ : ∃ LL, LL = List.replicate 4 (flt A (-1) (wd "rows")) := ⟨_, rfl⟩
      have hself : ∀ x ∈ LL, SelfEq (l_eqm K A) x := fun x hx => by
        rw [hLL] at hx
        rw [(List.mem_replicate.mp hx).2]; exact self_flt A (-1) "rows"
      rw [← hLL] at hm4
      rw [show List.replicate [D.non, D.str (PySem.Str.ofString "rows"), D.dct [], D.int 5].length (flt A (-1) (wd "rows")) = LL from hLL.symm]
      simp! only [Nat.reduceLT, z0, z1, p1, p2, p3, p4, p5, p6, p7, p8, p9, p10, p11, p12, p13]
      refine fault_ok A _ _ ?_
      simp! only [Nat.reduceLT, z0, z1, hm4, p1, p2, p3, p4, p5, p6, p7, p8, p9, p10, p11, p12, p13]
      exact SelfQ.mk hself trivial
set_option maxHeartbeats 2000000
section
variable {w : World} {K : PySem.W.Frag} {h : Heap} {mg : Str → Option Value}
theorem all_mk {fa : Addr} (X : K.In h) (G : h.Ns mainGlobals mg) (hfa : mg "law" = some (.ref fa)) {c_Fault c_Forest a_is_integer a_is_sequence a_is_name a_is_value a_split_key a_is_key a_bytes_of a_Fault_init a_Fault_eq a_p_key_word a_judge_keys a_p_law_well a_p_law_draw a_p_law_one a_p_law_names a_p_law_value a_p_law_levels a_p_law_rows a_p_law_mixed a_p_law_is_whole a_p_law_is_name a_p_law_is_value a_p_law_labels a_p_law_cut a_p_law_is_key a_p_law_word a_p_law_due a_p_law_spoil a_p_law_made a_law : Addr} {od_is_integer an_is_integer od_is_sequence an_is_sequence od_is_name an_is_name od_is_value an_is_value od_split_key an_split_key od_is_key an_is_key od_bytes_of an_bytes_of od_Fault_init an_Fault_init od_Fault_eq an_Fault_eq od_p_key_word an_p_key_word od_judge_keys an_judge_keys od_p_law_well an_p_law_well od_p_law_draw an_p_law_draw od_p_law_one an_p_law_one od_p_law_names an_p_law_names od_p_law_value an_p_law_value od_p_law_levels an_p_law_levels od_p_law_rows an_p_law_rows od_p_law_mixed an_p_law_mixed od_p_law_is_whole an_p_law_is_whole od_p_law_is_name an_p_law_is_name od_p_law_is_value an_p_law_is_value od_p_law_labels an_p_law_labels od_p_law_cut an_p_law_cut od_p_law_is_key an_p_law_is_key od_p_law_word an_p_law_word od_p_law_due an_p_law_due od_p_law_spoil an_p_law_spoil od_p_law_made an_p_law_made od_law an_law : Option Addr} {sl_is_integer sl_is_sequence sl_is_name sl_is_value sl_split_key sl_is_key sl_bytes_of sl_Fault_init sl_Fault_eq sl_p_key_word sl_judge_keys sl_p_law_well sl_p_law_draw sl_p_law_one sl_p_law_names sl_p_law_value sl_p_law_levels sl_p_law_rows sl_p_law_mixed sl_p_law_is_whole sl_p_law_is_name sl_p_law_is_value sl_p_law_labels sl_p_law_cut sl_p_law_is_key sl_p_law_word sl_p_law_due sl_p_law_spoil sl_p_law_made sl_law : Array (Option Value)} {oc_is_integer kV_is_integer dc_is_integer pm_is_integer cd_is_integer ct_is_integer oc_is_sequence kV_is_sequence dc_is_sequence pm_is_sequence cd_is_sequence ct_is_sequence oc_is_name kV_is_name dc_is_name pm_is_name cd_is_name ct_is_name oc_is_value kV_is_value dc_is_value pm_is_value cd_is_value ct_is_value oc_split_key kV_split_key dc_split_key pm_split_key cd_split_key ct_split_key oc_is_key kV_is_key dc_is_key pm_is_key cd_is_key ct_is_key oc_bytes_of kV_bytes_of dc_bytes_of pm_bytes_of cd_bytes_of ct_bytes_of oc_Fault_init kV_Fault_init dc_Fault_init pm_Fault_init cd_Fault_init ct_Fault_init oc_Fault_eq kV_Fault_eq dc_Fault_eq pm_Fault_eq cd_Fault_eq ct_Fault_eq oc_p_key_word kV_p_key_word dc_p_key_word pm_p_key_word cd_p_key_word ct_p_key_word oc_judge_keys kV_judge_keys dc_judge_keys pm_judge_keys cd_judge_keys ct_judge_keys oc_p_law_well kV_p_law_well dc_p_law_well pm_p_law_well cd_p_law_well ct_p_law_well oc_p_law_draw kV_p_law_draw dc_p_law_draw pm_p_law_draw cd_p_law_draw ct_p_law_draw oc_p_law_one kV_p_law_one dc_p_law_one pm_p_law_one cd_p_law_one ct_p_law_one oc_p_law_names kV_p_law_names dc_p_law_names pm_p_law_names cd_p_law_names ct_p_law_names oc_p_law_value kV_p_law_value dc_p_law_value pm_p_law_value cd_p_law_value ct_p_law_value oc_p_law_levels kV_p_law_levels dc_p_law_levels pm_p_law_levels cd_p_law_levels ct_p_law_levels oc_p_law_rows kV_p_law_rows dc_p_law_rows pm_p_law_rows cd_p_law_rows ct_p_law_rows oc_p_law_mixed kV_p_law_mixed dc_p_law_mixed pm_p_law_mixed cd_p_law_mixed ct_p_law_mixed oc_p_law_is_whole kV_p_law_is_whole dc_p_law_is_whole pm_p_law_is_whole cd_p_law_is_whole ct_p_law_is_whole oc_p_law_is_name kV_p_law_is_name dc_p_law_is_name pm_p_law_is_name cd_p_law_is_name ct_p_law_is_name oc_p_law_is_value kV_p_law_is_value dc_p_law_is_value pm_p_law_is_value cd_p_law_is_value ct_p_law_is_value oc_p_law_labels kV_p_law_labels dc_p_law_labels pm_p_law_labels cd_p_law_labels ct_p_law_labels oc_p_law_cut kV_p_law_cut dc_p_law_cut pm_p_law_cut cd_p_law_cut ct_p_law_cut oc_p_law_is_key kV_p_law_is_key dc_p_law_is_key pm_p_law_is_key cd_p_law_is_key ct_p_law_is_key oc_p_law_word kV_p_law_word dc_p_law_word pm_p_law_word cd_p_law_word ct_p_law_word oc_p_law_due kV_p_law_due dc_p_law_due pm_p_law_due cd_p_law_due ct_p_law_due oc_p_law_spoil kV_p_law_spoil dc_p_law_spoil pm_p_law_spoil cd_p_law_spoil ct_p_law_spoil oc_p_law_made kV_p_law_made dc_p_law_made pm_p_law_made cd_p_law_made ct_p_law_made oc_law kV_law dc_law pm_law cd_law ct_law vcc_Forest_MOST u_DIGITS u_GREATEST_BYTE u_GREATEST_VALUE u_LETTERS u_LONGEST_NAME : Value}
    (nC_Fault : PySem.W.nsIn K mainGlobals "Fault" = some (some (.ref c_Fault)))
    (nC_Forest : PySem.W.nsIn K mainGlobals "Forest" = some (some (.ref c_Forest)))
    (n_is_integer : PySem.W.nsIn K mainGlobals "is_integer" = some (some (.ref a_is_integer)))
    (l_is_integer : K.lookup a_is_integer = some ⟨oc_is_integer, od_is_integer, .func (PySem.W.fnOf "is_integer" "is_integer" (defArgs s_is_integer) (defBody s_is_integer) (defScope s_is_integer) .none kV_is_integer dc_is_integer pm_is_integer an_is_integer cd_is_integer ct_is_integer), sl_is_integer⟩)
    (c2_is_integer : PySem.W.codeIn K cd_is_integer "is_integer" = true)
    (k2_is_integer : PySem.W.keepIn K (.ref a_is_integer) = true)
    (n_is_sequence : PySem.W.nsIn K mainGlobals "is_sequence" = some (some (.ref a_is_sequence)))
    (l_is_sequence : K.lookup a_is_sequence = some ⟨oc_is_sequence, od_is_sequence, .func (PySem.W.fnOf "is_sequence" "is_sequence" (defArgs s_is_sequence) (defBody s_is_sequence) (defScope s_is_sequence) .none kV_is_sequence dc_is_sequence pm_is_sequence an_is_sequence cd_is_sequence ct_is_sequence), sl_is_sequence⟩)
    (c2_is_sequence : PySem.W.codeIn K cd_is_sequence "is_sequence" = true)
    (k2_is_sequence : PySem.W.keepIn K (.ref a_is_sequence) = true)
    (n_is_name : PySem.W.nsIn K mainGlobals "is_name" = some (some (.ref a_is_name)))
    (l_is_name : K.lookup a_is_name = some ⟨oc_is_name, od_is_name, .func (PySem.W.fnOf "is_name" "is_name" (defArgs s_is_name) (defBody s_is_name) (defScope s_is_name) .none kV_is_name dc_is_name pm_is_name an_is_name cd_is_name ct_is_name), sl_is_name⟩)
    (c2_is_name : PySem.W.codeIn K cd_is_name "is_name" = true)
    (k2_is_name : PySem.W.keepIn K (.ref a_is_name) = true)
    (n_is_value : PySem.W.nsIn K mainGlobals "is_value" = some (some (.ref a_is_value)))
    (l_is_value : K.lookup a_is_value = some ⟨oc_is_value, od_is_value, .func (PySem.W.fnOf "is_value" "is_value" (defArgs s_is_value) (defBody s_is_value) (defScope s_is_value) .none kV_is_value dc_is_value pm_is_value an_is_value cd_is_value ct_is_value), sl_is_value⟩)
    (c2_is_value : PySem.W.codeIn K cd_is_value "is_value" = true)
    (k2_is_value : PySem.W.keepIn K (.ref a_is_value) = true)
    (n_split_key : PySem.W.nsIn K mainGlobals "split_key" = some (some (.ref a_split_key)))
    (l_split_key : K.lookup a_split_key = some ⟨oc_split_key, od_split_key, .func (PySem.W.fnOf "split_key" "split_key" (defArgs s_split_key) (defBody s_split_key) (defScope s_split_key) .none kV_split_key dc_split_key pm_split_key an_split_key cd_split_key ct_split_key), sl_split_key⟩)
    (c2_split_key : PySem.W.codeIn K cd_split_key "split_key" = true)
    (k2_split_key : PySem.W.keepIn K (.ref a_split_key) = true)
    (n_is_key : PySem.W.nsIn K mainGlobals "is_key" = some (some (.ref a_is_key)))
    (l_is_key : K.lookup a_is_key = some ⟨oc_is_key, od_is_key, .func (PySem.W.fnOf "is_key" "is_key" (defArgs s_is_key) (defBody s_is_key) (defScope s_is_key) .none kV_is_key dc_is_key pm_is_key an_is_key cd_is_key ct_is_key), sl_is_key⟩)
    (c2_is_key : PySem.W.codeIn K cd_is_key "is_key" = true)
    (k2_is_key : PySem.W.keepIn K (.ref a_is_key) = true)
    (n_bytes_of : PySem.W.nsIn K mainGlobals "bytes_of" = some (some (.ref a_bytes_of)))
    (l_bytes_of : K.lookup a_bytes_of = some ⟨oc_bytes_of, od_bytes_of, .func (PySem.W.fnOf "bytes_of" "bytes_of" (defArgs s_bytes_of) (defBody s_bytes_of) (defScope s_bytes_of) .none kV_bytes_of dc_bytes_of pm_bytes_of an_bytes_of cd_bytes_of ct_bytes_of), sl_bytes_of⟩)
    (c2_bytes_of : PySem.W.codeIn K cd_bytes_of "bytes_of" = true)
    (k2_bytes_of : PySem.W.keepIn K (.ref a_bytes_of) = true)
    (n_Fault_init : PySem.W.findIn K (.ref c_Fault) "__init__" = some (some (.ref a_Fault_init)))
    (i_Fault_init : PySem.W.isFn K (.ref a_Fault_init) = true)
    (l_Fault_init : K.lookup a_Fault_init = some ⟨oc_Fault_init, od_Fault_init, .func (PySem.W.fnOf "__init__" "Fault.__init__" (defArgs s_Fault_init) (defBody s_Fault_init) (defScope s_Fault_init) .none kV_Fault_init dc_Fault_init pm_Fault_init an_Fault_init cd_Fault_init ct_Fault_init), sl_Fault_init⟩)
    (c2_Fault_init : PySem.W.codeIn K cd_Fault_init "Fault.__init__" = true)
    (k2_Fault_init : PySem.W.keepIn K (.ref a_Fault_init) = true)
    (n_Fault_eq : PySem.W.findIn K (.ref c_Fault) "__eq__" = some (some (.ref a_Fault_eq)))
    (i_Fault_eq : PySem.W.isFn K (.ref a_Fault_eq) = true)
    (l_Fault_eq : K.lookup a_Fault_eq = some ⟨oc_Fault_eq, od_Fault_eq, .func (PySem.W.fnOf "__eq__" "Fault.__eq__" (defArgs s_Fault_eq) (defBody s_Fault_eq) (defScope s_Fault_eq) .none kV_Fault_eq dc_Fault_eq pm_Fault_eq an_Fault_eq cd_Fault_eq ct_Fault_eq), sl_Fault_eq⟩)
    (c2_Fault_eq : PySem.W.codeIn K cd_Fault_eq "Fault.__eq__" = true)
    (k2_Fault_eq : PySem.W.keepIn K (.ref a_Fault_eq) = true)
    (n_p_key_word : PySem.W.nsIn K mainGlobals "_key_word" = some (some (.ref a_p_key_word)))
    (l_p_key_word : K.lookup a_p_key_word = some ⟨oc_p_key_word, od_p_key_word, .func (PySem.W.fnOf "_key_word" "_key_word" (defArgs s_p_key_word) (defBody s_p_key_word) (defScope s_p_key_word) .none kV_p_key_word dc_p_key_word pm_p_key_word an_p_key_word cd_p_key_word ct_p_key_word), sl_p_key_word⟩)
    (c2_p_key_word : PySem.W.codeIn K cd_p_key_word "_key_word" = true)
    (k2_p_key_word : PySem.W.keepIn K (.ref a_p_key_word) = true)
    (n_judge_keys : PySem.W.nsIn K mainGlobals "judge_keys" = some (some (.ref a_judge_keys)))
    (l_judge_keys : K.lookup a_judge_keys = some ⟨oc_judge_keys, od_judge_keys, .func (PySem.W.fnOf "judge_keys" "judge_keys" (defArgs s_judge_keys) (defBody s_judge_keys) (defScope s_judge_keys) .none kV_judge_keys dc_judge_keys pm_judge_keys an_judge_keys cd_judge_keys ct_judge_keys), sl_judge_keys⟩)
    (c2_judge_keys : PySem.W.codeIn K cd_judge_keys "judge_keys" = true)
    (k2_judge_keys : PySem.W.keepIn K (.ref a_judge_keys) = true)
    (n_p_law_well : PySem.W.nsIn K mainGlobals "_law_well" = some (some (.ref a_p_law_well)))
    (l_p_law_well : K.lookup a_p_law_well = some ⟨oc_p_law_well, od_p_law_well, .func (PySem.W.fnOf "_law_well" "_law_well" (defArgs s_p_law_well) (defBody s_p_law_well) (defScope s_p_law_well) .none kV_p_law_well dc_p_law_well pm_p_law_well an_p_law_well cd_p_law_well ct_p_law_well), sl_p_law_well⟩)
    (c2_p_law_well : PySem.W.codeIn K cd_p_law_well "_law_well" = true)
    (k2_p_law_well : PySem.W.keepIn K (.ref a_p_law_well) = true)
    (n_p_law_draw : PySem.W.nsIn K mainGlobals "_law_draw" = some (some (.ref a_p_law_draw)))
    (l_p_law_draw : K.lookup a_p_law_draw = some ⟨oc_p_law_draw, od_p_law_draw, .func (PySem.W.fnOf "_law_draw" "_law_draw" (defArgs s_p_law_draw) (defBody s_p_law_draw) (defScope s_p_law_draw) .none kV_p_law_draw dc_p_law_draw pm_p_law_draw an_p_law_draw cd_p_law_draw ct_p_law_draw), sl_p_law_draw⟩)
    (c2_p_law_draw : PySem.W.codeIn K cd_p_law_draw "_law_draw" = true)
    (k2_p_law_draw : PySem.W.keepIn K (.ref a_p_law_draw) = true)
    (n_p_law_one : PySem.W.nsIn K mainGlobals "_law_one" = some (some (.ref a_p_law_one)))
    (l_p_law_one : K.lookup a_p_law_one = some ⟨oc_p_law_one, od_p_law_one, .func (PySem.W.fnOf "_law_one" "_law_one" (defArgs s_p_law_one) (defBody s_p_law_one) (defScope s_p_law_one) .none kV_p_law_one dc_p_law_one pm_p_law_one an_p_law_one cd_p_law_one ct_p_law_one), sl_p_law_one⟩)
    (c2_p_law_one : PySem.W.codeIn K cd_p_law_one "_law_one" = true)
    (k2_p_law_one : PySem.W.keepIn K (.ref a_p_law_one) = true)
    (n_p_law_names : PySem.W.nsIn K mainGlobals "_law_names" = some (some (.ref a_p_law_names)))
    (l_p_law_names : K.lookup a_p_law_names = some ⟨oc_p_law_names, od_p_law_names, .func (PySem.W.fnOf "_law_names" "_law_names" (defArgs s_p_law_names) (defBody s_p_law_names) (defScope s_p_law_names) .none kV_p_law_names dc_p_law_names pm_p_law_names an_p_law_names cd_p_law_names ct_p_law_names), sl_p_law_names⟩)
    (c2_p_law_names : PySem.W.codeIn K cd_p_law_names "_law_names" = true)
    (k2_p_law_names : PySem.W.keepIn K (.ref a_p_law_names) = true)
    (n_p_law_value : PySem.W.nsIn K mainGlobals "_law_value" = some (some (.ref a_p_law_value)))
    (l_p_law_value : K.lookup a_p_law_value = some ⟨oc_p_law_value, od_p_law_value, .func (PySem.W.fnOf "_law_value" "_law_value" (defArgs s_p_law_value) (defBody s_p_law_value) (defScope s_p_law_value) .none kV_p_law_value dc_p_law_value pm_p_law_value an_p_law_value cd_p_law_value ct_p_law_value), sl_p_law_value⟩)
    (c2_p_law_value : PySem.W.codeIn K cd_p_law_value "_law_value" = true)
    (k2_p_law_value : PySem.W.keepIn K (.ref a_p_law_value) = true)
    (n_p_law_levels : PySem.W.nsIn K mainGlobals "_law_levels" = some (some (.ref a_p_law_levels)))
    (l_p_law_levels : K.lookup a_p_law_levels = some ⟨oc_p_law_levels, od_p_law_levels, .func (PySem.W.fnOf "_law_levels" "_law_levels" (defArgs s_p_law_levels) (defBody s_p_law_levels) (defScope s_p_law_levels) .none kV_p_law_levels dc_p_law_levels pm_p_law_levels an_p_law_levels cd_p_law_levels ct_p_law_levels), sl_p_law_levels⟩)
    (c2_p_law_levels : PySem.W.codeIn K cd_p_law_levels "_law_levels" = true)
    (k2_p_law_levels : PySem.W.keepIn K (.ref a_p_law_levels) = true)
    (n_p_law_rows : PySem.W.nsIn K mainGlobals "_law_rows" = some (some (.ref a_p_law_rows)))
    (l_p_law_rows : K.lookup a_p_law_rows = some ⟨oc_p_law_rows, od_p_law_rows, .func (PySem.W.fnOf "_law_rows" "_law_rows" (defArgs s_p_law_rows) (defBody s_p_law_rows) (defScope s_p_law_rows) .none kV_p_law_rows dc_p_law_rows pm_p_law_rows an_p_law_rows cd_p_law_rows ct_p_law_rows), sl_p_law_rows⟩)
    (c2_p_law_rows : PySem.W.codeIn K cd_p_law_rows "_law_rows" = true)
    (k2_p_law_rows : PySem.W.keepIn K (.ref a_p_law_rows) = true)
    (n_p_law_mixed : PySem.W.nsIn K mainGlobals "_law_mixed" = some (some (.ref a_p_law_mixed)))
    (l_p_law_mixed : K.lookup a_p_law_mixed = some ⟨oc_p_law_mixed, od_p_law_mixed, .func (PySem.W.fnOf "_law_mixed" "_law_mixed" (defArgs s_p_law_mixed) (defBody s_p_law_mixed) (defScope s_p_law_mixed) .none kV_p_law_mixed dc_p_law_mixed pm_p_law_mixed an_p_law_mixed cd_p_law_mixed ct_p_law_mixed), sl_p_law_mixed⟩)
    (c2_p_law_mixed : PySem.W.codeIn K cd_p_law_mixed "_law_mixed" = true)
    (k2_p_law_mixed : PySem.W.keepIn K (.ref a_p_law_mixed) = true)
    (n_p_law_is_whole : PySem.W.nsIn K mainGlobals "_law_is_whole" = some (some (.ref a_p_law_is_whole)))
    (l_p_law_is_whole : K.lookup a_p_law_is_whole = some ⟨oc_p_law_is_whole, od_p_law_is_whole, .func (PySem.W.fnOf "_law_is_whole" "_law_is_whole" (defArgs s_p_law_is_whole) (defBody s_p_law_is_whole) (defScope s_p_law_is_whole) .none kV_p_law_is_whole dc_p_law_is_whole pm_p_law_is_whole an_p_law_is_whole cd_p_law_is_whole ct_p_law_is_whole), sl_p_law_is_whole⟩)
    (c2_p_law_is_whole : PySem.W.codeIn K cd_p_law_is_whole "_law_is_whole" = true)
    (k2_p_law_is_whole : PySem.W.keepIn K (.ref a_p_law_is_whole) = true)
    (n_p_law_is_name : PySem.W.nsIn K mainGlobals "_law_is_name" = some (some (.ref a_p_law_is_name)))
    (l_p_law_is_name : K.lookup a_p_law_is_name = some ⟨oc_p_law_is_name, od_p_law_is_name, .func (PySem.W.fnOf "_law_is_name" "_law_is_name" (defArgs s_p_law_is_name) (defBody s_p_law_is_name) (defScope s_p_law_is_name) .none kV_p_law_is_name dc_p_law_is_name pm_p_law_is_name an_p_law_is_name cd_p_law_is_name ct_p_law_is_name), sl_p_law_is_name⟩)
    (c2_p_law_is_name : PySem.W.codeIn K cd_p_law_is_name "_law_is_name" = true)
    (k2_p_law_is_name : PySem.W.keepIn K (.ref a_p_law_is_name) = true)
    (n_p_law_is_value : PySem.W.nsIn K mainGlobals "_law_is_value" = some (some (.ref a_p_law_is_value)))
    (l_p_law_is_value : K.lookup a_p_law_is_value = some ⟨oc_p_law_is_value, od_p_law_is_value, .func (PySem.W.fnOf "_law_is_value" "_law_is_value" (defArgs s_p_law_is_value) (defBody s_p_law_is_value) (defScope s_p_law_is_value) .none kV_p_law_is_value dc_p_law_is_value pm_p_law_is_value an_p_law_is_value cd_p_law_is_value ct_p_law_is_value), sl_p_law_is_value⟩)
    (c2_p_law_is_value : PySem.W.codeIn K cd_p_law_is_value "_law_is_value" = true)
    (k2_p_law_is_value : PySem.W.keepIn K (.ref a_p_law_is_value) = true)
    (n_p_law_labels : PySem.W.nsIn K mainGlobals "_law_labels" = some (some (.ref a_p_law_labels)))
    (l_p_law_labels : K.lookup a_p_law_labels = some ⟨oc_p_law_labels, od_p_law_labels, .func (PySem.W.fnOf "_law_labels" "_law_labels" (defArgs s_p_law_labels) (defBody s_p_law_labels) (defScope s_p_law_labels) .none kV_p_law_labels dc_p_law_labels pm_p_law_labels an_p_law_labels cd_p_law_labels ct_p_law_labels), sl_p_law_labels⟩)
    (c2_p_law_labels : PySem.W.codeIn K cd_p_law_labels "_law_labels" = true)
    (k2_p_law_labels : PySem.W.keepIn K (.ref a_p_law_labels) = true)
    (n_p_law_cut : PySem.W.nsIn K mainGlobals "_law_cut" = some (some (.ref a_p_law_cut)))
    (l_p_law_cut : K.lookup a_p_law_cut = some ⟨oc_p_law_cut, od_p_law_cut, .func (PySem.W.fnOf "_law_cut" "_law_cut" (defArgs s_p_law_cut) (defBody s_p_law_cut) (defScope s_p_law_cut) .none kV_p_law_cut dc_p_law_cut pm_p_law_cut an_p_law_cut cd_p_law_cut ct_p_law_cut), sl_p_law_cut⟩)
    (c2_p_law_cut : PySem.W.codeIn K cd_p_law_cut "_law_cut" = true)
    (k2_p_law_cut : PySem.W.keepIn K (.ref a_p_law_cut) = true)
    (n_p_law_is_key : PySem.W.nsIn K mainGlobals "_law_is_key" = some (some (.ref a_p_law_is_key)))
    (l_p_law_is_key : K.lookup a_p_law_is_key = some ⟨oc_p_law_is_key, od_p_law_is_key, .func (PySem.W.fnOf "_law_is_key" "_law_is_key" (defArgs s_p_law_is_key) (defBody s_p_law_is_key) (defScope s_p_law_is_key) .none kV_p_law_is_key dc_p_law_is_key pm_p_law_is_key an_p_law_is_key cd_p_law_is_key ct_p_law_is_key), sl_p_law_is_key⟩)
    (c2_p_law_is_key : PySem.W.codeIn K cd_p_law_is_key "_law_is_key" = true)
    (k2_p_law_is_key : PySem.W.keepIn K (.ref a_p_law_is_key) = true)
    (n_p_law_word : PySem.W.nsIn K mainGlobals "_law_word" = some (some (.ref a_p_law_word)))
    (l_p_law_word : K.lookup a_p_law_word = some ⟨oc_p_law_word, od_p_law_word, .func (PySem.W.fnOf "_law_word" "_law_word" (defArgs s_p_law_word) (defBody s_p_law_word) (defScope s_p_law_word) .none kV_p_law_word dc_p_law_word pm_p_law_word an_p_law_word cd_p_law_word ct_p_law_word), sl_p_law_word⟩)
    (c2_p_law_word : PySem.W.codeIn K cd_p_law_word "_law_word" = true)
    (k2_p_law_word : PySem.W.keepIn K (.ref a_p_law_word) = true)
    (n_p_law_due : PySem.W.nsIn K mainGlobals "_law_due" = some (some (.ref a_p_law_due)))
    (l_p_law_due : K.lookup a_p_law_due = some ⟨oc_p_law_due, od_p_law_due, .func (PySem.W.fnOf "_law_due" "_law_due" (defArgs s_p_law_due) (defBody s_p_law_due) (defScope s_p_law_due) .none kV_p_law_due dc_p_law_due pm_p_law_due an_p_law_due cd_p_law_due ct_p_law_due), sl_p_law_due⟩)
    (c2_p_law_due : PySem.W.codeIn K cd_p_law_due "_law_due" = true)
    (k2_p_law_due : PySem.W.keepIn K (.ref a_p_law_due) = true)
    (n_p_law_spoil : PySem.W.nsIn K mainGlobals "_law_spoil" = some (some (.ref a_p_law_spoil)))
    (l_p_law_spoil : K.lookup a_p_law_spoil = some ⟨oc_p_law_spoil, od_p_law_spoil, .func (PySem.W.fnOf "_law_spoil" "_law_spoil" (defArgs s_p_law_spoil) (defBody s_p_law_spoil) (defScope s_p_law_spoil) .none kV_p_law_spoil dc_p_law_spoil pm_p_law_spoil an_p_law_spoil cd_p_law_spoil ct_p_law_spoil), sl_p_law_spoil⟩)
    (c2_p_law_spoil : PySem.W.codeIn K cd_p_law_spoil "_law_spoil" = true)
    (k2_p_law_spoil : PySem.W.keepIn K (.ref a_p_law_spoil) = true)
    (n_p_law_made : PySem.W.nsIn K mainGlobals "_law_made" = some (some (.ref a_p_law_made)))
    (l_p_law_made : K.lookup a_p_law_made = some ⟨oc_p_law_made, od_p_law_made, .func (PySem.W.fnOf "_law_made" "_law_made" (defArgs s_p_law_made) (defBody s_p_law_made) (defScope s_p_law_made) .none kV_p_law_made dc_p_law_made pm_p_law_made an_p_law_made cd_p_law_made ct_p_law_made), sl_p_law_made⟩)
    (c2_p_law_made : PySem.W.codeIn K cd_p_law_made "_law_made" = true)
    (k2_p_law_made : PySem.W.keepIn K (.ref a_p_law_made) = true)
    (n_law : PySem.W.nsIn K mainGlobals "law" = some (some (.ref a_law)))
    (l_law : K.lookup a_law = some ⟨oc_law, od_law, .func (PySem.W.fnOf "law" "law" (defArgs s_law) (defBody s_law) (defScope s_law) .none kV_law dc_law pm_law an_law cd_law ct_law), sl_law⟩)
    (c2_law : PySem.W.codeIn K cd_law "law" = true)
    (k2_law : PySem.W.keepIn K (.ref a_law) = true)
    (pg_Fault : PySem.W.plainGet K c_Fault Str.empty = true)
    (hd_Fault : PySem.W.hasDictIn K c_Fault = true)
    (po_Fault : PySem.W.plainOver K c_Fault = true)
    (sa_Fault : PySem.W.findIn K (.ref c_Fault) "__setattr__" = some (some (.builtin "object.__setattr__")))
    (rd_cc_Forest_MOST : PySem.W.readsIn K c_Forest (.type "type") = true)
    (ga_cc_Forest_MOST : PySem.W.specialIn K (.ref c_Forest) "__getattribute__" = some (some (.builtin "type.__getattribute__")))
    (at_cc_Forest_MOST : PySem.W.findCls K (.ref c_Forest) (.type "type") "MOST" = some (.val vcc_Forest_MOST))
    (re_cc_Forest_MOST : RelV (.int (60)) vcc_Forest_MOST)
    (nf_Fault_place : PySem.W.findIn K (.ref c_Fault) "place" = some none)
    (nf_Fault_word : PySem.W.findIn K (.ref c_Fault) "word" = some none)
    (ha_Fault : PySem.W.findIn K (.ref c_Fault) "__class__" = some (some (.builtin "object.__class__")))
    (hm_Fault : PySem.W.mroIn K c_Fault (.type "object") = some true)
    (isi_n : PySem.W.specialIn K (.builtin "object.__class__") "__get__" = some (some (.builtin "getset_descriptor.__get__")))
    (isi_t : PySem.W.takesIn K (.builtin "object.__class__") = some true)
    (nk_DIGITS : PySem.W.nsIn K mainGlobals "DIGITS" = some (some u_DIGITS))
    (rk_DIGITS : RelV (.str (PySem.Str.ofString "0123456789")) u_DIGITS)
    (nk_GREATEST_BYTE : PySem.W.nsIn K mainGlobals "GREATEST_BYTE" = some (some u_GREATEST_BYTE))
    (rk_GREATEST_BYTE : RelV (.int (255)) u_GREATEST_BYTE)
    (nk_GREATEST_VALUE : PySem.W.nsIn K mainGlobals "GREATEST_VALUE" = some (some u_GREATEST_VALUE))
    (rk_GREATEST_VALUE : RelV (.int (1000000000000000000000000000000)) u_GREATEST_VALUE)
    (nk_LETTERS : PySem.W.nsIn K mainGlobals "LETTERS" = some (some u_LETTERS))
    (rk_LETTERS : RelV (.str (PySem.Str.ofString "abcdefghijklmnopqrstuvwxyz")) u_LETTERS)
    (nk_LONGEST_NAME : PySem.W.nsIn K mainGlobals "LONGEST_NAME" = some (some u_LONGEST_NAME))
    (rk_LONGEST_NAME : RelV (.int (8)) u_LONGEST_NAME)
    (mk2_Fault : PySem.W.makesIn K c_Fault = true)
    (kc_Fault : PySem.W.keepIn K (.ref c_Fault) = true)
    (ne_Fault : PySem.W.findIn K (.ref c_Fault) "__ne__" = some (some (.builtin "object.__ne__")))
    (z_all : PySem.W.nsIn K mainGlobals "all" = some none)
    (z_bool : PySem.W.nsIn K mainGlobals "bool" = some none)
    (z_bytes : PySem.W.nsIn K mainGlobals "bytes" = some none)
    (z_enumerate : PySem.W.nsIn K mainGlobals "enumerate" = some none)
    (z_int : PySem.W.nsIn K mainGlobals "int" = some none)
    (z_isinstance : PySem.W.nsIn K mainGlobals "isinstance" = some none)
    (z_len : PySem.W.nsIn K mainGlobals "len" = some none)
    (z_list : PySem.W.nsIn K mainGlobals "list" = some none)
    (z_range : PySem.W.nsIn K mainGlobals "range" = some none)
    (z_repr : PySem.W.nsIn K mainGlobals "repr" = some none)
    (z_str : PySem.W.nsIn K mainGlobals "str" = some none)
    (z_tuple : PySem.W.nsIn K mainGlobals "tuple" = some none)
    (ik_Fault : PySem.W.isClsIn K c_Fault = true)
    (tk_Fault : PySem.W.typeIn K (.ref c_Fault) = some (.type "type"))
    (main : ∀ A : Ads, Fax K A → ∀ ns : List Int, ns.length ≤ 63 → dsp_law K A [.val (.lst (ns.map D.int))] (fun d _ => d = .bl true) (fun _ _ _ => False))
    : ∃ fd : FuncData, (∀ (s : Shared) (v : Value), BindsTo s fd ⟨[v], []⟩ [("_law_script", v)]) ∧ ∀ base : Heap, K.In base → base.Ns mainGlobals mg → FnG (PySem.Challenge.rw_forestrows_k20_key_rows_judged).prog w K mg base CX0 5 fa fd ["_law_script"] (spTrue K) := by
  have e := hfa.symm.trans (PySem.W.mg_of X G n_law)
  cases e
  have F_is_integer := fun_mk (st := s_is_integer) l_is_integer c2_is_integer k2_is_integer
  have b_is_integer := F_is_integer.binds (ps := ["x"]) fun _ _ _ _ _ _ us hl => match us, hl with | [_], _ => rfl
  have F_is_sequence := fun_mk (st := s_is_sequence) l_is_sequence c2_is_sequence k2_is_sequence
  have b_is_sequence := F_is_sequence.binds (ps := ["x"]) fun _ _ _ _ _ _ us hl => match us, hl with | [_], _ => rfl
  have F_is_name := fun_mk (st := s_is_name) l_is_name c2_is_name k2_is_name
  have b_is_name := F_is_name.binds (ps := ["x"]) fun _ _ _ _ _ _ us hl => match us, hl with | [_], _ => rfl
  have F_is_value := fun_mk (st := s_is_value) l_is_value c2_is_value k2_is_value
  have b_is_value := F_is_value.binds (ps := ["x"]) fun _ _ _ _ _ _ us hl => match us, hl with | [_], _ => rfl
  have F_split_key := fun_mk (st := s_split_key) l_split_key c2_split_key k2_split_key
  have b_split_key := F_split_key.binds (ps := ["key"]) fun _ _ _ _ _ _ us hl => match us, hl with | [_], _ => rfl
  have F_is_key := fun_mk (st := s_is_key) l_is_key c2_is_key k2_is_key
  have b_is_key := F_is_key.binds (ps := ["x"]) fun _ _ _ _ _ _ us hl => match us, hl with | [_], _ => rfl
  have F_bytes_of := fun_mk (st := s_bytes_of) l_bytes_of c2_bytes_of k2_bytes_of
  have b_bytes_of := F_bytes_of.binds (ps := ["numbers"]) fun _ _ _ _ _ _ us hl => match us, hl with | [_], _ => rfl
  have F_Fault_init := fun_mk (st := s_Fault_init) l_Fault_init c2_Fault_init k2_Fault_init
  have b_Fault_init := F_Fault_init.binds (ps := ["self", "place", "word"]) fun _ _ _ _ _ _ us hl => match us, hl with | [_, _, _], _ => rfl
  have F_Fault_eq := fun_mk (st := s_Fault_eq) l_Fault_eq c2_Fault_eq k2_Fault_eq
  have b_Fault_eq := F_Fault_eq.binds (ps := ["self", "other"]) fun _ _ _ _ _ _ us hl => match us, hl with | [_, _], _ => rfl
  have F_p_key_word := fun_mk (st := s_p_key_word) l_p_key_word c2_p_key_word k2_p_key_word
  have b_p_key_word := F_p_key_word.binds (ps := ["row", "earlier"]) fun _ _ _ _ _ _ us hl => match us, hl with | [_, _], _ => rfl
  have F_judge_keys := fun_mk (st := s_judge_keys) l_judge_keys c2_judge_keys k2_judge_keys
  have b_judge_keys := F_judge_keys.binds (ps := ["rows"]) fun _ _ _ _ _ _ us hl => match us, hl with | [_], _ => rfl
  have F_p_law_well := fun_mk (st := s_p_law_well) l_p_law_well c2_p_law_well k2_p_law_well
  have b_p_law_well := F_p_law_well.binds (ps := ["_law_cell"]) fun _ _ _ _ _ _ us hl => match us, hl with | [_], _ => rfl
  have F_p_law_draw := fun_mk (st := s_p_law_draw) l_p_law_draw c2_p_law_draw k2_p_law_draw
  have b_p_law_draw := F_p_law_draw.binds (ps := ["_law_well_here", "_law_many"]) fun _ _ _ _ _ _ us hl => match us, hl with | [_, _], _ => rfl
  have F_p_law_one := fun_mk (st := s_p_law_one) l_p_law_one c2_p_law_one k2_p_law_one
  have b_p_law_one := F_p_law_one.binds (ps := ["_law_well_here", "_law_some"]) fun _ _ _ _ _ _ us hl => match us, hl with | [_, _], _ => rfl
  have F_p_law_names := fun_mk (st := s_p_law_names) l_p_law_names c2_p_law_names k2_p_law_names
  have b_p_law_names := F_p_law_names.binds (ps := ["_law_well_here", "_law_many"]) fun _ _ _ _ _ _ us hl => match us, hl with | [_, _], _ => rfl
  have F_p_law_value := fun_mk (st := s_p_law_value) l_p_law_value c2_p_law_value k2_p_law_value
  have b_p_law_value := F_p_law_value.binds (ps := ["_law_well_here"]) fun _ _ _ _ _ _ us hl => match us, hl with | [_], _ => rfl
  have F_p_law_levels := fun_mk (st := s_p_law_levels) l_p_law_levels c2_p_law_levels k2_p_law_levels
  have b_p_law_levels := F_p_law_levels.binds (ps := ["_law_well_here", "_law_many"]) fun _ _ _ _ _ _ us hl => match us, hl with | [_, _], _ => rfl
  have F_p_law_rows := fun_mk (st := s_p_law_rows) l_p_law_rows c2_p_law_rows k2_p_law_rows
  have b_p_law_rows := F_p_law_rows.binds (ps := ["_law_well_here", "_law_most"]) fun _ _ _ _ _ _ us hl => match us, hl with | [_, _], _ => rfl
  have F_p_law_mixed := fun_mk (st := s_p_law_mixed) l_p_law_mixed c2_p_law_mixed k2_p_law_mixed
  have b_p_law_mixed := F_p_law_mixed.binds (ps := ["_law_well_here", "_law_some"]) fun _ _ _ _ _ _ us hl => match us, hl with | [_, _], _ => rfl
  have F_p_law_is_whole := fun_mk (st := s_p_law_is_whole) l_p_law_is_whole c2_p_law_is_whole k2_p_law_is_whole
  have b_p_law_is_whole := F_p_law_is_whole.binds (ps := ["_law_thing"]) fun _ _ _ _ _ _ us hl => match us, hl with | [_], _ => rfl
  have F_p_law_is_name := fun_mk (st := s_p_law_is_name) l_p_law_is_name c2_p_law_is_name k2_p_law_is_name
  have b_p_law_is_name := F_p_law_is_name.binds (ps := ["_law_thing"]) fun _ _ _ _ _ _ us hl => match us, hl with | [_], _ => rfl
  have F_p_law_is_value := fun_mk (st := s_p_law_is_value) l_p_law_is_value c2_p_law_is_value k2_p_law_is_value
  have b_p_law_is_value := F_p_law_is_value.binds (ps := ["_law_thing"]) fun _ _ _ _ _ _ us hl => match us, hl with | [_], _ => rfl
  have F_p_law_labels := fun_mk (st := s_p_law_labels) l_p_law_labels c2_p_law_labels k2_p_law_labels
  have b_p_law_labels := F_p_law_labels.binds (ps := ["_law_well_here", "_law_rows_so"]) fun _ _ _ _ _ _ us hl => match us, hl with | [_, _], _ => rfl
  have F_p_law_cut := fun_mk (st := s_p_law_cut) l_p_law_cut c2_p_law_cut k2_p_law_cut
  have b_p_law_cut := F_p_law_cut.binds (ps := ["_law_numbers"]) fun _ _ _ _ _ _ us hl => match us, hl with | [_], _ => rfl
  have F_p_law_is_key := fun_mk (st := s_p_law_is_key) l_p_law_is_key c2_p_law_is_key k2_p_law_is_key
  have b_p_law_is_key := F_p_law_is_key.binds (ps := ["_law_thing"]) fun _ _ _ _ _ _ us hl => match us, hl with | [_], _ => rfl
  have F_p_law_word := fun_mk (st := s_p_law_word) l_p_law_word c2_p_law_word k2_p_law_word
  have b_p_law_word := F_p_law_word.binds (ps := ["_law_rows_so", "_law_place"]) fun _ _ _ _ _ _ us hl => match us, hl with | [_, _], _ => rfl
  have F_p_law_due := fun_mk (st := s_p_law_due) l_p_law_due c2_p_law_due k2_p_law_due
  have b_p_law_due := F_p_law_due.binds (ps := ["_law_rows_so"]) fun _ _ _ _ _ _ us hl => match us, hl with | [_], _ => rfl
  have F_p_law_spoil := fun_mk (st := s_p_law_spoil) l_p_law_spoil c2_p_law_spoil k2_p_law_spoil
  have b_p_law_spoil := F_p_law_spoil.binds (ps := ["_law_well_here", "_law_rows_so"]) fun _ _ _ _ _ _ us hl => match us, hl with | [_, _], _ => rfl
  have F_p_law_made := fun_mk (st := s_p_law_made) l_p_law_made c2_p_law_made k2_p_law_made
  have b_p_law_made := F_p_law_made.binds (ps := ["_law_rows_so", "_law_kind"]) fun _ _ _ _ _ _ us hl => match us, hl with | [_, _], _ => rfl
  have F_law := fun_mk (st := s_law) l_law c2_law k2_law
  have b_law := F_law.binds (ps := ["_law_script"]) fun _ _ _ _ _ _ us hl => match us, hl with | [_], _ => rfl
  let A : Ads := { a_is_integer := a_is_integer, d_is_integer := (PySem.W.fnOf "is_integer" "is_integer" (defArgs s_is_integer) (defBody s_is_integer) (defScope s_is_integer) .none kV_is_integer dc_is_integer pm_is_integer an_is_integer cd_is_integer ct_is_integer), a_is_sequence := a_is_sequence, d_is_sequence := (PySem.W.fnOf "is_sequence" "is_sequence" (defArgs s_is_sequence) (defBody s_is_sequence) (defScope s_is_sequence) .none kV_is_sequence dc_is_sequence pm_is_sequence an_is_sequence cd_is_sequence ct_is_sequence), a_is_name := a_is_name, d_is_name := (PySem.W.fnOf "is_name" "is_name" (defArgs s_is_name) (defBody s_is_name) (defScope s_is_name) .none kV_is_name dc_is_name pm_is_name an_is_name cd_is_name ct_is_name), a_is_value := a_is_value, d_is_value := (PySem.W.fnOf "is_value" "is_value" (defArgs s_is_value) (defBody s_is_value) (defScope s_is_value) .none kV_is_value dc_is_value pm_is_value an_is_value cd_is_value ct_is_value), a_split_key := a_split_key, d_split_key := (PySem.W.fnOf "split_key" "split_key" (defArgs s_split_key) (defBody s_split_key) (defScope s_split_key) .none kV_split_key dc_split_key pm_split_key an_split_key cd_split_key ct_split_key), a_is_key := a_is_key, d_is_key := (PySem.W.fnOf "is_key" "is_key" (defArgs s_is_key) (defBody s_is_key) (defScope s_is_key) .none kV_is_key dc_is_key pm_is_key an_is_key cd_is_key ct_is_key), a_bytes_of := a_bytes_of, d_bytes_of := (PySem.W.fnOf "bytes_of" "bytes_of" (defArgs s_bytes_of) (defBody s_bytes_of) (defScope s_bytes_of) .none kV_bytes_of dc_bytes_of pm_bytes_of an_bytes_of cd_bytes_of ct_bytes_of), a_Fault_init := a_Fault_init, d_Fault_init := (PySem.W.fnOf "__init__" "Fault.__init__" (defArgs s_Fault_init) (defBody s_Fault_init) (defScope s_Fault_init) .none kV_Fault_init dc_Fault_init pm_Fault_init an_Fault_init cd_Fault_init ct_Fault_init), a_Fault_eq := a_Fault_eq, d_Fault_eq := (PySem.W.fnOf "__eq__" "Fault.__eq__" (defArgs s_Fault_eq) (defBody s_Fault_eq) (defScope s_Fault_eq) .none kV_Fault_eq dc_Fault_eq pm_Fault_eq an_Fault_eq cd_Fault_eq ct_Fault_eq), a_p_key_word := a_p_key_word, d_p_key_word := (PySem.W.fnOf "_key_word" "_key_word" (defArgs s_p_key_word) (defBody s_p_key_word) (defScope s_p_key_word) .none kV_p_key_word dc_p_key_word pm_p_key_word an_p_key_word cd_p_key_word ct_p_key_word), a_judge_keys := a_judge_keys, d_judge_keys := (PySem.W.fnOf "judge_keys" "judge_keys" (defArgs s_judge_keys) (defBody s_judge_keys) (defScope s_judge_keys) .none kV_judge_keys dc_judge_keys pm_judge_keys an_judge_keys cd_judge_keys ct_judge_keys), a_p_law_well := a_p_law_well, d_p_law_well := (PySem.W.fnOf "_law_well" "_law_well" (defArgs s_p_law_well) (defBody s_p_law_well) (defScope s_p_law_well) .none kV_p_law_well dc_p_law_well pm_p_law_well an_p_law_well cd_p_law_well ct_p_law_well), a_p_law_draw := a_p_law_draw, d_p_law_draw := (PySem.W.fnOf "_law_draw" "_law_draw" (defArgs s_p_law_draw) (defBody s_p_law_draw) (defScope s_p_law_draw) .none kV_p_law_draw dc_p_law_draw pm_p_law_draw an_p_law_draw cd_p_law_draw ct_p_law_draw), a_p_law_one := a_p_law_one, d_p_law_one := (PySem.W.fnOf "_law_one" "_law_one" (defArgs s_p_law_one) (defBody s_p_law_one) (defScope s_p_law_one) .none kV_p_law_one dc_p_law_one pm_p_law_one an_p_law_one cd_p_law_one ct_p_law_one), a_p_law_names := a_p_law_names, d_p_law_names := (PySem.W.fnOf "_law_names" "_law_names" (defArgs s_p_law_names) (defBody s_p_law_names) (defScope s_p_law_names) .none kV_p_law_names dc_p_law_names pm_p_law_names an_p_law_names cd_p_law_names ct_p_law_names), a_p_law_value := a_p_law_value, d_p_law_value := (PySem.W.fnOf "_law_value" "_law_value" (defArgs s_p_law_value) (defBody s_p_law_value) (defScope s_p_law_value) .none kV_p_law_value dc_p_law_value pm_p_law_value an_p_law_value cd_p_law_value ct_p_law_value), a_p_law_levels := a_p_law_levels, d_p_law_levels := (PySem.W.fnOf "_law_levels" "_law_levels" (defArgs s_p_law_levels) (defBody s_p_law_levels) (defScope s_p_law_levels) .none kV_p_law_levels dc_p_law_levels pm_p_law_levels an_p_law_levels cd_p_law_levels ct_p_law_levels), a_p_law_rows := a_p_law_rows, d_p_law_rows := (PySem.W.fnOf "_law_rows" "_law_rows" (defArgs s_p_law_rows) (defBody s_p_law_rows) (defScope s_p_law_rows) .none kV_p_law_rows dc_p_law_rows pm_p_law_rows an_p_law_rows cd_p_law_rows ct_p_law_rows), a_p_law_mixed := a_p_law_mixed, d_p_law_mixed := (PySem.W.fnOf "_law_mixed" "_law_mixed" (defArgs s_p_law_mixed) (defBody s_p_law_mixed) (defScope s_p_law_mixed) .none kV_p_law_mixed dc_p_law_mixed pm_p_law_mixed an_p_law_mixed cd_p_law_mixed ct_p_law_mixed), a_p_law_is_whole := a_p_law_is_whole, d_p_law_is_whole := (PySem.W.fnOf "_law_is_whole" "_law_is_whole" (defArgs s_p_law_is_whole) (defBody s_p_law_is_whole) (defScope s_p_law_is_whole) .none kV_p_law_is_whole dc_p_law_is_whole pm_p_law_is_whole an_p_law_is_whole cd_p_law_is_whole ct_p_law_is_whole), a_p_law_is_name := a_p_law_is_name, d_p_law_is_name := (PySem.W.fnOf "_law_is_name" "_law_is_name" (defArgs s_p_law_is_name) (defBody s_p_law_is_name) (defScope s_p_law_is_name) .none kV_p_law_is_name dc_p_law_is_name pm_p_law_is_name an_p_law_is_name cd_p_law_is_name ct_p_law_is_name), a_p_law_is_value := a_p_law_is_value, d_p_law_is_value := (PySem.W.fnOf "_law_is_value" "_law_is_value" (defArgs s_p_law_is_value) (defBody s_p_law_is_value) (defScope s_p_law_is_value) .none kV_p_law_is_value dc_p_law_is_value pm_p_law_is_value an_p_law_is_value cd_p_law_is_value ct_p_law_is_value), a_p_law_labels := a_p_law_labels, d_p_law_labels := (PySem.W.fnOf "_law_labels" "_law_labels" (defArgs s_p_law_labels) (defBody s_p_law_labels) (defScope s_p_law_labels) .none kV_p_law_labels dc_p_law_labels pm_p_law_labels an_p_law_labels cd_p_law_labels ct_p_law_labels), a_p_law_cut := a_p_law_cut, d_p_law_cut := (PySem.W.fnOf "_law_cut" "_law_cut" (defArgs s_p_law_cut) (defBody s_p_law_cut) (defScope s_p_law_cut) .none kV_p_law_cut dc_p_law_cut pm_p_law_cut an_p_law_cut cd_p_law_cut ct_p_law_cut), a_p_law_is_key := a_p_law_is_key, d_p_law_is_key := (PySem.W.fnOf "_law_is_key" "_law_is_key" (defArgs s_p_law_is_key) (defBody s_p_law_is_key) (defScope s_p_law_is_key) .none kV_p_law_is_key dc_p_law_is_key pm_p_law_is_key an_p_law_is_key cd_p_law_is_key ct_p_law_is_key), a_p_law_word := a_p_law_word, d_p_law_word := (PySem.W.fnOf "_law_word" "_law_word" (defArgs s_p_law_word) (defBody s_p_law_word) (defScope s_p_law_word) .none kV_p_law_word dc_p_law_word pm_p_law_word an_p_law_word cd_p_law_word ct_p_law_word), a_p_law_due := a_p_law_due, d_p_law_due := (PySem.W.fnOf "_law_due" "_law_due" (defArgs s_p_law_due) (defBody s_p_law_due) (defScope s_p_law_due) .none kV_p_law_due dc_p_law_due pm_p_law_due an_p_law_due cd_p_law_due ct_p_law_due), a_p_law_spoil := a_p_law_spoil, d_p_law_spoil := (PySem.W.fnOf "_law_spoil" "_law_spoil" (defArgs s_p_law_spoil) (defBody s_p_law_spoil) (defScope s_p_law_spoil) .none kV_p_law_spoil dc_p_law_spoil pm_p_law_spoil an_p_law_spoil cd_p_law_spoil ct_p_law_spoil), a_p_law_made := a_p_law_made, d_p_law_made := (PySem.W.fnOf "_law_made" "_law_made" (defArgs s_p_law_made) (defBody s_p_law_made) (defScope s_p_law_made) .none kV_p_law_made dc_p_law_made pm_p_law_made an_p_law_made cd_p_law_made ct_p_law_made), a_law := fa, d_law := (PySem.W.fnOf "law" "law" (defArgs s_law) (defBody s_law) (defScope s_law) .none kV_law dc_law pm_law an_law cd_law ct_law), c_Fault := c_Fault, c_Forest := c_Forest, u_DIGITS := u_DIGITS, u_GREATEST_BYTE := u_GREATEST_BYTE, u_GREATEST_VALUE := u_GREATEST_VALUE, u_LETTERS := u_LETTERS, u_LONGEST_NAME := u_LONGEST_NAME }
  have T : Txt K mg A := {
    F_is_integer := F_is_integer,
    b_is_integer := b_is_integer,
    g_is_integer := PySem.W.mg_of X G n_is_integer,
    F_is_sequence := F_is_sequence,
    b_is_sequence := b_is_sequence,
    g_is_sequence := PySem.W.mg_of X G n_is_sequence,
    F_is_name := F_is_name,
    b_is_name := b_is_name,
    g_is_name := PySem.W.mg_of X G n_is_name,
    F_is_value := F_is_value,
    b_is_value := b_is_value,
    g_is_value := PySem.W.mg_of X G n_is_value,
    F_split_key := F_split_key,
    b_split_key := b_split_key,
    g_split_key := PySem.W.mg_of X G n_split_key,
    F_is_key := F_is_key,
    b_is_key := b_is_key,
    g_is_key := PySem.W.mg_of X G n_is_key,
    F_bytes_of := F_bytes_of,
    b_bytes_of := b_bytes_of,
    g_bytes_of := PySem.W.mg_of X G n_bytes_of,
    F_Fault_init := F_Fault_init,
    b_Fault_init := b_Fault_init,
    F_Fault_eq := F_Fault_eq,
    b_Fault_eq := b_Fault_eq,
    F_p_key_word := F_p_key_word,
    b_p_key_word := b_p_key_word,
    g_p_key_word := PySem.W.mg_of X G n_p_key_word,
    F_judge_keys := F_judge_keys,
    b_judge_keys := b_judge_keys,
    g_judge_keys := PySem.W.mg_of X G n_judge_keys,
    F_p_law_well := F_p_law_well,
    b_p_law_well := b_p_law_well,
    g_p_law_well := PySem.W.mg_of X G n_p_law_well,
    F_p_law_draw := F_p_law_draw,
    b_p_law_draw := b_p_law_draw,
    g_p_law_draw := PySem.W.mg_of X G n_p_law_draw,
    F_p_law_one := F_p_law_one,
    b_p_law_one := b_p_law_one,
    g_p_law_one := PySem.W.mg_of X G n_p_law_one,
    F_p_law_names := F_p_law_names,
    b_p_law_names := b_p_law_names,
    g_p_law_names := PySem.W.mg_of X G n_p_law_names,
    F_p_law_value := F_p_law_value,
    b_p_law_value := b_p_law_value,
    g_p_law_value := PySem.W.mg_of X G n_p_law_value,
    F_p_law_levels := F_p_law_levels,
    b_p_law_levels := b_p_law_levels,
    g_p_law_levels := PySem.W.mg_of X G n_p_law_levels,
    F_p_law_rows := F_p_law_rows,
    b_p_law_rows := b_p_law_rows,
    g_p_law_rows := PySem.W.mg_of X G n_p_law_rows,
    F_p_law_mixed := F_p_law_mixed,
    b_p_law_mixed := b_p_law_mixed,
    g_p_law_mixed := PySem.W.mg_of X G n_p_law_mixed,
    F_p_law_is_whole := F_p_law_is_whole,
    b_p_law_is_whole := b_p_law_is_whole,
    g_p_law_is_whole := PySem.W.mg_of X G n_p_law_is_whole,
    F_p_law_is_name := F_p_law_is_name,
    b_p_law_is_name := b_p_law_is_name,
    g_p_law_is_name := PySem.W.mg_of X G n_p_law_is_name,
    F_p_law_is_value := F_p_law_is_value,
    b_p_law_is_value := b_p_law_is_value,
    g_p_law_is_value := PySem.W.mg_of X G n_p_law_is_value,
    F_p_law_labels := F_p_law_labels,
    b_p_law_labels := b_p_law_labels,
    g_p_law_labels := PySem.W.mg_of X G n_p_law_labels,
    F_p_law_cut := F_p_law_cut,
    b_p_law_cut := b_p_law_cut,
    g_p_law_cut := PySem.W.mg_of X G n_p_law_cut,
    F_p_law_is_key := F_p_law_is_key,
    b_p_law_is_key := b_p_law_is_key,
    g_p_law_is_key := PySem.W.mg_of X G n_p_law_is_key,
    F_p_law_word := F_p_law_word,
    b_p_law_word := b_p_law_word,
    g_p_law_word := PySem.W.mg_of X G n_p_law_word,
    F_p_law_due := F_p_law_due,
    b_p_law_due := b_p_law_due,
    g_p_law_due := PySem.W.mg_of X G n_p_law_due,
    F_p_law_spoil := F_p_law_spoil,
    b_p_law_spoil := b_p_law_spoil,
    g_p_law_spoil := PySem.W.mg_of X G n_p_law_spoil,
    F_p_law_made := F_p_law_made,
    b_p_law_made := b_p_law_made,
    g_p_law_made := PySem.W.mg_of X G n_p_law_made,
    F_law := F_law,
    b_law := b_law,
    g_law := PySem.W.mg_of X G n_law,
    cc_Forest_MOST := ⟨_, _, _, ⟨rd_cc_Forest_MOST, ga_cc_Forest_MOST⟩, ⟨at_cc_Forest_MOST, re_cc_Forest_MOST⟩, fun _ => .int _⟩,
    f_place := by intro C hC; simp only [Ads.cs_place, List.mem_cons, List.not_mem_nil, or_false] at hC; subst hC; exact ⟨⟨pg_Fault, hd_Fault, po_Fault, sa_Fault⟩, nf_Fault_place⟩,
    f_word := by intro C hC; simp only [Ads.cs_word, List.mem_cons, List.not_mem_nil, or_false] at hC; subst hC; exact ⟨⟨pg_Fault, hd_Fault, po_Fault, sa_Fault⟩, nf_Fault_word⟩,
    g_Fault := PySem.W.mg_of X G nC_Fault,
    g_Forest := PySem.W.mg_of X G nC_Forest,
    ic := by intro C hC; simp only [Ads.isis, List.mem_cons, List.not_mem_nil, or_false] at hC; subst hC; exact ⟨⟨pg_Fault, hd_Fault, po_Fault, sa_Fault⟩, ha_Fault, hm_Fault⟩,
    isi := ⟨isi_n, isi_t⟩,
    k_DIGITS := ⟨PySem.W.mg_of X G nk_DIGITS, rk_DIGITS⟩,
    k_GREATEST_BYTE := ⟨PySem.W.mg_of X G nk_GREATEST_BYTE, rk_GREATEST_BYTE⟩,
    k_GREATEST_VALUE := ⟨PySem.W.mg_of X G nk_GREATEST_VALUE, rk_GREATEST_VALUE⟩,
    k_LETTERS := ⟨PySem.W.mg_of X G nk_LETTERS, rk_LETTERS⟩,
    k_LONGEST_NAME := ⟨PySem.W.mg_of X G nk_LONGEST_NAME, rk_LONGEST_NAME⟩,
    kw_judge_keys_0_rows := fun s us ws X0 l1 l2 => match us, ws, l1, l2 with | [], [_], _, _ => .of_eq rfl,
    mk_Fault := ⟨mk2_Fault, n_Fault_init, i_Fault_init, kc_Fault⟩,
    q_Fault := ⟨n_Fault_eq, i_Fault_eq, ne_Fault, hm_Fault⟩,
    z_all := PySem.W.mg_none_of X G z_all,
    z_bool := PySem.W.mg_none_of X G z_bool,
    z_bytes := PySem.W.mg_none_of X G z_bytes,
    z_enumerate := PySem.W.mg_none_of X G z_enumerate,
    z_int := PySem.W.mg_none_of X G z_int,
    z_isinstance := PySem.W.mg_none_of X G z_isinstance,
    z_len := PySem.W.mg_none_of X G z_len,
    z_list := PySem.W.mg_none_of X G z_list,
    z_range := PySem.W.mg_none_of X G z_range,
    z_repr := PySem.W.mg_none_of X G z_repr,
    z_str := PySem.W.mg_none_of X G z_str,
    z_tuple := PySem.W.mg_none_of X G z_tuple }
  exact ⟨_, fun s v => .of_eq rfl, fun base _ _ => (ok_law (base := base) T).imp (spTrue_of (main A ⟨kitB_of ik_Fault tk_Fault⟩))⟩
end
section
variable {w : World} {K : PySem.W.Frag} {h : Heap} {mg : Str → Option Value}
theorem all_mk2 {fa : Addr} (X : K.In h) (G : h.Ns mainGlobals mg) (hfa : mg "law" = some (.ref fa)) (c : DH.SaysB factsL fnL K)
    (main : ∀ A : Ads, Fax K A → ∀ ns : List Int, ns.length ≤ 63 → dsp_law K A [.val (.lst (ns.map D.int))] (fun d _ => d = .bl true) (fun _ _ _ => False))
    : ∃ fd : FuncData, (∀ (s : Shared) (v : Value), BindsTo s fd ⟨[v], []⟩ [("_law_script", v)]) ∧ ∀ base : Heap, K.In base → base.Ns mainGlobals mg → FnG (PySem.Challenge.rw_forestrows_k20_key_rows_judged).prog w K mg base CX0 5 fa fd ["_law_script"] (spTrue K) := by
  have g0 : (PySem.W.nsIn K mainGlobals "Fault" = some (some (.ref (Z_c_Fault K)))) ∧ (PySem.W.nsIn K mainGlobals "Forest" = some (some (.ref (Z_c_Forest K)))) ∧ (PySem.W.nsIn K mainGlobals "is_integer" = some (some (.ref (Z_a_is_integer K)))) ∧ (PySem.W.keepIn K (.ref (Z_a_is_integer K)) = true) ∧ (PySem.W.nsIn K mainGlobals "is_sequence" = some (some (.ref (Z_a_is_sequence K)))) ∧ (PySem.W.keepIn K (.ref (Z_a_is_sequence K)) = true) ∧ (PySem.W.nsIn K mainGlobals "is_name" = some (some (.ref (Z_a_is_name K)))) ∧ (PySem.W.keepIn K (.ref (Z_a_is_name K)) = true) ∧ (PySem.W.nsIn K mainGlobals "is_value" = some (some (.ref (Z_a_is_value K)))) ∧ (PySem.W.keepIn K (.ref (Z_a_is_value K)) = true) ∧ (PySem.W.nsIn K mainGlobals "split_key" = some (some (.ref (Z_a_split_key K)))) ∧ (PySem.W.keepIn K (.ref (Z_a_split_key K)) = true) ∧ (PySem.W.nsIn K mainGlobals "is_key" = some (some (.ref (Z_a_is_key K)))) ∧ (PySem.W.keepIn K (.ref (Z_a_is_key K)) = true) ∧ (PySem.W.nsIn K mainGlobals "bytes_of" = some (some (.ref (Z_a_bytes_of K)))) := of_decide_eq_true (c.fact 0 rfl)
  have g1 : (PySem.W.keepIn K (.ref (Z_a_bytes_of K)) = true) ∧ (PySem.W.findIn K (.ref (Z_c_Fault K)) "__init__" = some (some (.ref (Z_a_Fault_init K)))) ∧ (PySem.W.isFn K (.ref (Z_a_Fault_init K)) = true) ∧ (PySem.W.keepIn K (.ref (Z_a_Fault_init K)) = true) ∧ (PySem.W.findIn K (.ref (Z_c_Fault K)) "__eq__" = some (some (.ref (Z_a_Fault_eq K)))) ∧ (PySem.W.isFn K (.ref (Z_a_Fault_eq K)) = true) ∧ (PySem.W.keepIn K (.ref (Z_a_Fault_eq K)) = true) ∧ (PySem.W.nsIn K mainGlobals "_key_word" = some (some (.ref (Z_a_p_key_word K)))) ∧ (PySem.W.keepIn K (.ref (Z_a_p_key_word K)) = true) ∧ (PySem.W.nsIn K mainGlobals "judge_keys" = some (some (.ref (Z_a_judge_keys K)))) ∧ (PySem.W.keepIn K (.ref (Z_a_judge_keys K)) = true) ∧ (PySem.W.nsIn K mainGlobals "_law_well" = some (some (.ref (Z_a_p_law_well K)))) ∧ (PySem.W.keepIn K (.ref (Z_a_p_law_well K)) = true) ∧ (PySem.W.nsIn K mainGlobals "_law_draw" = some (some (.ref (Z_a_p_law_draw K)))) ∧ (PySem.W.keepIn K (.ref (Z_a_p_law_draw K)) = true) := of_decide_eq_true (c.fact 1 rfl)
  have g2 : (PySem.W.nsIn K mainGlobals "_law_one" = some (some (.ref (Z_a_p_law_one K)))) ∧ (PySem.W.keepIn K (.ref (Z_a_p_law_one K)) = true) ∧ (PySem.W.nsIn K mainGlobals "_law_names" = some (some (.ref (Z_a_p_law_names K)))) ∧ (PySem.W.keepIn K (.ref (Z_a_p_law_names K)) = true) ∧ (PySem.W.nsIn K mainGlobals "_law_value" = some (some (.ref (Z_a_p_law_value K)))) ∧ (PySem.W.keepIn K (.ref (Z_a_p_law_value K)) = true) ∧ (PySem.W.nsIn K mainGlobals "_law_levels" = some (some (.ref (Z_a_p_law_levels K)))) ∧ (PySem.W.keepIn K (.ref (Z_a_p_law_levels K)) = true) ∧ (PySem.W.nsIn K mainGlobals "_law_rows" = some (some (.ref (Z_a_p_law_rows K)))) ∧ (PySem.W.keepIn K (.ref (Z_a_p_law_rows K)) = true) ∧ (PySem.W.nsIn K mainGlobals "_law_mixed" = some (some (.ref (Z_a_p_law_mixed K)))) ∧ (PySem.W.keepIn K (.ref (Z_a_p_law_mixed K)) = true) ∧ (PySem.W.nsIn K mainGlobals "_law_is_whole" = some (some (.ref (Z_a_p_law_is_whole K)))) ∧ (PySem.W.keepIn K (.ref (Z_a_p_law_is_whole K)) = true) ∧ (PySem.W.nsIn K mainGlobals "_law_is_name" = some (some (.ref (Z_a_p_law_is_name K)))) := of_decide_eq_true (c.fact 2 rfl)
  have g3 : (PySem.W.keepIn K (.ref (Z_a_p_law_is_name K)) = true) ∧ (PySem.W.nsIn K mainGlobals "_law_is_value" = some (some (.ref (Z_a_p_law_is_value K)))) ∧ (PySem.W.keepIn K (.ref (Z_a_p_law_is_value K)) = true) ∧ (PySem.W.nsIn K mainGlobals "_law_labels" = some (some (.ref (Z_a_p_law_labels K)))) ∧ (PySem.W.keepIn K (.ref (Z_a_p_law_labels K)) = true) ∧ (PySem.W.nsIn K mainGlobals "_law_cut" = some (some (.ref (Z_a_p_law_cut K)))) ∧ (PySem.W.keepIn K (.ref (Z_a_p_law_cut K)) = true) ∧ (PySem.W.nsIn K mainGlobals "_law_is_key" = some (some (.ref (Z_a_p_law_is_key K)))) ∧ (PySem.W.keepIn K (.ref (Z_a_p_law_is_key K)) = true) ∧ (PySem.W.nsIn K mainGlobals "_law_word" = some (some (.ref (Z_a_p_law_word K)))) ∧ (PySem.W.keepIn K (.ref (Z_a_p_law_word K)) = true) ∧ (PySem.W.nsIn K mainGlobals "_law_due" = some (some (.ref (Z_a_p_law_due K)))) ∧ (PySem.W.keepIn K (.ref (Z_a_p_law_due K)) = true) ∧ (PySem.W.nsIn K mainGlobals "_law_spoil" = some (some (.ref (Z_a_p_law_spoil K)))) ∧ (PySem.W.keepIn K (.ref (Z_a_p_law_spoil K)) = true) := of_decide_eq_true (c.fact 3 rfl)
  have g4 : (PySem.W.nsIn K mainGlobals "_law_made" = some (some (.ref (Z_a_p_law_made K)))) ∧ (PySem.W.keepIn K (.ref (Z_a_p_law_made K)) = true) ∧ (PySem.W.nsIn K mainGlobals "law" = some (some (.ref (Z_a_law K)))) ∧ (PySem.W.keepIn K (.ref (Z_a_law K)) = true) ∧ (PySem.W.plainGet K (Z_c_Fault K) Str.empty = true) ∧ (PySem.W.hasDictIn K (Z_c_Fault K) = true) ∧ (PySem.W.plainOver K (Z_c_Fault K) = true) ∧ (PySem.W.findIn K (.ref (Z_c_Fault K)) "__setattr__" = some (some (.builtin "object.__setattr__"))) ∧ (PySem.W.readsIn K (Z_c_Forest K) (.type "type") = true) ∧ (PySem.W.specialIn K (.ref (Z_c_Forest K)) "__getattribute__" = some (some (.builtin "type.__getattribute__"))) ∧ (DH.conIn K (Z_c_Forest K) "MOST" (.int (60)) = true) ∧ (PySem.W.findIn K (.ref (Z_c_Fault K)) "place" = some none) ∧ (PySem.W.findIn K (.ref (Z_c_Fault K)) "word" = some none) ∧ (PySem.W.findIn K (.ref (Z_c_Fault K)) "__class__" = some (some (.builtin "object.__class__"))) ∧ (PySem.W.mroIn K (Z_c_Fault K) (.type "object") = some true) := of_decide_eq_true (c.fact 4 rfl)
  have g5 : (PySem.W.specialIn K (.builtin "object.__class__") "__get__" = some (some (.builtin "getset_descriptor.__get__"))) ∧ (PySem.W.takesIn K (.builtin "object.__class__") = some true) ∧ (DH.cstIn K "DIGITS" ((.str (PySem.Str.ofString "0123456789"))) = true) ∧ (DH.cstIn K "GREATEST_BYTE" ((.int (255))) = true) ∧ (DH.cstIn K "GREATEST_VALUE" ((.int (1000000000000000000000000000000))) = true) ∧ (DH.cstIn K "LETTERS" ((.str (PySem.Str.ofString "abcdefghijklmnopqrstuvwxyz"))) = true) ∧ (DH.cstIn K "LONGEST_NAME" ((.int (8))) = true) ∧ (PySem.W.makesIn K (Z_c_Fault K) = true) ∧ (PySem.W.keepIn K (.ref (Z_c_Fault K)) = true) ∧ (PySem.W.findIn K (.ref (Z_c_Fault K)) "__ne__" = some (some (.builtin "object.__ne__"))) ∧ (PySem.W.nsIn K mainGlobals "all" = some none) ∧ (PySem.W.nsIn K mainGlobals "bool" = some none) ∧ (PySem.W.nsIn K mainGlobals "bytes" = some none) ∧ (PySem.W.nsIn K mainGlobals "enumerate" = some none) ∧ (PySem.W.nsIn K mainGlobals "int" = some none) := of_decide_eq_true (c.fact 5 rfl)
  have g6 : (PySem.W.nsIn K mainGlobals "isinstance" = some none) ∧ (PySem.W.nsIn K mainGlobals "len" = some none) ∧ (PySem.W.nsIn K mainGlobals "list" = some none) ∧ (PySem.W.nsIn K mainGlobals "range" = some none) ∧ (PySem.W.nsIn K mainGlobals "repr" = some none) ∧ (PySem.W.nsIn K mainGlobals "str" = some none) ∧ (PySem.W.nsIn K mainGlobals "tuple" = some none) ∧ (PySem.W.isClsIn K (Z_c_Fault K) = true) ∧ (PySem.W.typeIn K (.ref (Z_c_Fault K)) = some (.type "type")) := of_decide_eq_true (c.fact 6 rfl)
  obtain ⟨oc_is_integer, od_is_integer, sl_is_integer, kV_is_integer, dc_is_integer, pm_is_integer, an_is_integer, cd_is_integer, ct_is_integer, l_is_integer, c2_is_integer⟩ := c.def_ 0 (d := fnd_is_integer) rfl
  obtain ⟨oc_is_sequence, od_is_sequence, sl_is_sequence, kV_is_sequence, dc_is_sequence, pm_is_sequence, an_is_sequence, cd_is_sequence, ct_is_sequence, l_is_sequence, c2_is_sequence⟩ := c.def_ 1 (d := fnd_is_sequence) rfl
  obtain ⟨oc_is_name, od_is_name, sl_is_name, kV_is_name, dc_is_name, pm_is_name, an_is_name, cd_is_name, ct_is_name, l_is_name, c2_is_name⟩ := c.def_ 2 (d := fnd_is_name) rfl
  obtain ⟨oc_is_value, od_is_value, sl_is_value, kV_is_value, dc_is_value, pm_is_value, an_is_value, cd_is_value, ct_is_value, l_is_value, c2_is_value⟩ := c.def_ 3 (d := fnd_is_value) rfl
  obtain ⟨oc_split_key, od_split_key, sl_split_key, kV_split_key, dc_split_key, pm_split_key, an_split_key, cd_split_key, ct_split_key, l_split_key, c2_split_key⟩ := c.def_ 4 (d := fnd_split_key) rfl
  obtain ⟨oc_is_key, od_is_key, sl_is_key, kV_is_key, dc_is_key, pm_is_key, an_is_key, cd_is_key, ct_is_key, l_is_key, c2_is_key⟩ := c.def_ 5 (d := fnd_is_key) rfl
  obtain ⟨oc_bytes_of, od_bytes_of, sl_bytes_of, kV_bytes_of, dc_bytes_of, pm_bytes_of, an_bytes_of, cd_bytes_of, ct_bytes_of, l_bytes_of, c2_bytes_of⟩ := c.def_ 6 (d := fnd_bytes_of) rfl
  obtain ⟨oc_Fault_init, od_Fault_init, sl_Fault_init, kV_Fault_init, dc_Fault_init, pm_Fault_init, an_Fault_init, cd_Fault_init, ct_Fault_init, l_Fault_init, c2_Fault_init⟩ := c.def_ 7 (d := fnd_Fault_init) rfl
  obtain ⟨oc_Fault_eq, od_Fault_eq, sl_Fault_eq, kV_Fault_eq, dc_Fault_eq, pm_Fault_eq, an_Fault_eq, cd_Fault_eq, ct_Fault_eq, l_Fault_eq, c2_Fault_eq⟩ := c.def_ 8 (d := fnd_Fault_eq) rfl
  obtain ⟨oc_p_key_word, od_p_key_word, sl_p_key_word, kV_p_key_word, dc_p_key_word, pm_p_key_word, an_p_key_word, cd_p_key_word, ct_p_key_word, l_p_key_word, c2_p_key_word⟩ := c.def_ 9 (d := fnd_p_key_word) rfl
  obtain ⟨oc_judge_keys, od_judge_keys, sl_judge_keys, kV_judge_keys, dc_judge_keys, pm_judge_keys, an_judge_keys, cd_judge_keys, ct_judge_keys, l_judge_keys, c2_judge_keys⟩ := c.def_ 10 (d := fnd_judge_keys) rfl
  obtain ⟨oc_p_law_well, od_p_law_well, sl_p_law_well, kV_p_law_well, dc_p_law_well, pm_p_law_well, an_p_law_well, cd_p_law_well, ct_p_law_well, l_p_law_well, c2_p_law_well⟩ := c.def_ 11 (d := fnd_p_law_well) rfl
  obtain ⟨oc_p_law_draw, od_p_law_draw, sl_p_law_draw, kV_p_law_draw, dc_p_law_draw, pm_p_law_draw, an_p_law_draw, cd_p_law_draw, ct_p_law_draw, l_p_law_draw, c2_p_law_draw⟩ := c.def_ 12 (d := fnd_p_law_draw) rfl
  obtain ⟨oc_p_law_one, od_p_law_one, sl_p_law_one, kV_p_law_one, dc_p_law_one, pm_p_law_one, an_p_law_one, cd_p_law_one, ct_p_law_one, l_p_law_one, c2_p_law_one⟩ := c.def_ 13 (d := fnd_p_law_one) rfl
  obtain ⟨oc_p_law_names, od_p_law_names, sl_p_law_names, kV_p_law_names, dc_p_law_names, pm_p_law_names, an_p_law_names, cd_p_law_names, ct_p_law_names, l_p_law_names, c2_p_law_names⟩ := c.def_ 14 (d := fnd_p_law_names) rfl
  obtain ⟨oc_p_law_value, od_p_law_value, sl_p_law_value, kV_p_law_value, dc_p_law_value, pm_p_law_value, an_p_law_value, cd_p_law_value, ct_p_law_value, l_p_law_value, c2_p_law_value⟩ := c.def_ 15 (d := fnd_p_law_value) rfl
  obtain ⟨oc_p_law_levels, od_p_law_levels, sl_p_law_levels, kV_p_law_levels, dc_p_law_levels, pm_p_law_levels, an_p_law_levels, cd_p_law_levels, ct_p_law_levels, l_p_law_levels, c2_p_law_levels⟩ := c.def_ 16 (d := fnd_p_law_levels) rfl
  obtain ⟨oc_p_law_rows, od_p_law_rows, sl_p_law_rows, kV_p_law_rows, dc_p_law_rows, pm_p_law_rows, an_p_law_rows, cd_p_law_rows, ct_p_law_rows, l_p_law_rows, c2_p_law_rows⟩ := c.def_ 17 (d := fnd_p_law_rows) rfl
  obtain ⟨oc_p_law_mixed, od_p_law_mixed, sl_p_law_mixed, kV_p_law_mixed, dc_p_law_mixed, pm_p_law_mixed, an_p_law_mixed, cd_p_law_mixed, ct_p_law_mixed, l_p_law_mixed, c2_p_law_mixed⟩ := c.def_ 18 (d := fnd_p_law_mixed) rfl
  obtain ⟨oc_p_law_is_whole, od_p_law_is_whole, sl_p_law_is_whole, kV_p_law_is_whole, dc_p_law_is_whole, pm_p_law_is_whole, an_p_law_is_whole, cd_p_law_is_whole, ct_p_law_is_whole, l_p_law_is_whole, c2_p_law_is_whole⟩ := c.def_ 19 (d := fnd_p_law_is_whole) rfl
  obtain ⟨oc_p_law_is_name, od_p_law_is_name, sl_p_law_is_name, kV_p_law_is_name, dc_p_law_is_name, pm_p_law_is_name, an_p_law_is_name, cd_p_law_is_name, ct_p_law_is_name, l_p_law_is_name, c2_p_law_is_name⟩ := c.def_ 20 (d := fnd_p_law_is_name) rfl
  obtain ⟨oc_p_law_is_value, od_p_law_is_value, sl_p_law_is_value, kV_p_law_is_value, dc_p_law_is_value, pm_p_law_is_value, an_p_law_is_value, cd_p_law_is_value, ct_p_law_is_value, l_p_law_is_value, c2_p_law_is_value⟩ := c.def_ 21 (d := fnd_p_law_is_value) rfl
  obtain ⟨oc_p_law_labels, od_p_law_labels, sl_p_law_labels, kV_p_law_labels, dc_p_law_labels, pm_p_law_labels, an_p_law_labels, cd_p_law_labels, ct_p_law_labels, l_p_law_labels, c2_p_law_labels⟩ := c.def_ 22 (d := fnd_p_law_labels) rfl
  obtain ⟨oc_p_law_cut, od_p_law_cut, sl_p_law_cut, kV_p_law_cut, dc_p_law_cut, pm_p_law_cut, an_p_law_cut, cd_p_law_cut, ct_p_law_cut, l_p_law_cut, c2_p_law_cut⟩ := c.def_ 23 (d := fnd_p_law_cut) rfl
  obtain ⟨oc_p_law_is_key, od_p_law_is_key, sl_p_law_is_key, kV_p_law_is_key, dc_p_law_is_key, pm_p_law_is_key, an_p_law_is_key, cd_p_law_is_key, ct_p_law_is_key, l_p_law_is_key, c2_p_law_is_key⟩ := c.def_ 24 (d := fnd_p_law_is_key) rfl
  obtain ⟨oc_p_law_word, od_p_law_word, sl_p_law_word, kV_p_law_word, dc_p_law_word, pm_p_law_word, an_p_law_word, cd_p_law_word, ct_p_law_word, l_p_law_word, c2_p_law_word⟩ := c.def_ 25 (d := fnd_p_law_word) rfl
  obtain ⟨oc_p_law_due, od_p_law_due, sl_p_law_due, kV_p_law_due, dc_p_law_due, pm_p_law_due, an_p_law_due, cd_p_law_due, ct_p_law_due, l_p_law_due, c2_p_law_due⟩ := c.def_ 26 (d := fnd_p_law_due) rfl
  obtain ⟨oc_p_law_spoil, od_p_law_spoil, sl_p_law_spoil, kV_p_law_spoil, dc_p_law_spoil, pm_p_law_spoil, an_p_law_spoil, cd_p_law_spoil, ct_p_law_spoil, l_p_law_spoil, c2_p_law_spoil⟩ := c.def_ 27 (d := fnd_p_law_spoil) rfl
  obtain ⟨oc_p_law_made, od_p_law_made, sl_p_law_made, kV_p_law_made, dc_p_law_made, pm_p_law_made, an_p_law_made, cd_p_law_made, ct_p_law_made, l_p_law_made, c2_p_law_made⟩ := c.def_ 28 (d := fnd_p_law_made) rfl
  obtain ⟨oc_law, od_law, sl_law, kV_law, dc_law, pm_law, an_law, cd_law, ct_law, l_law, c2_law⟩ := c.def_ 29 (d := fnd_law) rfl
  obtain ⟨vcc_Forest_MOST, at_cc_Forest_MOST, re_cc_Forest_MOST⟩ := DH.conIn_ok (g4.2.2.2.2.2.2.2.2.2.2.1)
  obtain ⟨u_DIGITS, nk_DIGITS, rk_DIGITS⟩ := DH.cstIn_ok (g5.2.2.1)
  obtain ⟨u_GREATEST_BYTE, nk_GREATEST_BYTE, rk_GREATEST_BYTE⟩ := DH.cstIn_ok (g5.2.2.2.1)
  obtain ⟨u_GREATEST_VALUE, nk_GREATEST_VALUE, rk_GREATEST_VALUE⟩ := DH.cstIn_ok (g5.2.2.2.2.1)
  obtain ⟨u_LETTERS, nk_LETTERS, rk_LETTERS⟩ := DH.cstIn_ok (g5.2.2.2.2.2.1)
  obtain ⟨u_LONGEST_NAME, nk_LONGEST_NAME, rk_LONGEST_NAME⟩ := DH.cstIn_ok (g5.2.2.2.2.2.2.1)
  exact all_mk X G hfa (c_Fault := Z_c_Fault K) (c_Forest := Z_c_Forest K) (a_is_integer := Z_a_is_integer K) (a_is_sequence := Z_a_is_sequence K) (a_is_name := Z_a_is_name K) (a_is_value := Z_a_is_value K) (a_split_key := Z_a_split_key K) (a_is_key := Z_a_is_key K) (a_bytes_of := Z_a_bytes_of K) (a_Fault_init := Z_a_Fault_init K) (a_Fault_eq := Z_a_Fault_eq K) (a_p_key_word := Z_a_p_key_word K) (a_judge_keys := Z_a_judge_keys K) (a_p_law_well := Z_a_p_law_well K) (a_p_law_draw := Z_a_p_law_draw K) (a_p_law_one := Z_a_p_law_one K) (a_p_law_names := Z_a_p_law_names K) (a_p_law_value := Z_a_p_law_value K) (a_p_law_levels := Z_a_p_law_levels K) (a_p_law_rows := Z_a_p_law_rows K) (a_p_law_mixed := Z_a_p_law_mixed K) (a_p_law_is_whole := Z_a_p_law_is_whole K) (a_p_law_is_name := Z_a_p_law_is_name K) (a_p_law_is_value := Z_a_p_law_is_value K) (a_p_law_labels := Z_a_p_law_labels K) (a_p_law_cut := Z_a_p_law_cut K) (a_p_law_is_key := Z_a_p_law_is_key K) (a_p_law_word := Z_a_p_law_word K) (a_p_law_due := Z_a_p_law_due K) (a_p_law_spoil := Z_a_p_law_spoil K) (a_p_law_made := Z_a_p_law_made K) (a_law := Z_a_law K) (g0.1) (g0.2.1) (g0.2.2.1) l_is_integer c2_is_integer (g0.2.2.2.1) (g0.2.2.2.2.1) l_is_sequence c2_is_sequence (g0.2.2.2.2.2.1) (g0.2.2.2.2.2.2.1) l_is_name c2_is_name (g0.2.2.2.2.2.2.2.1) (g0.2.2.2.2.2.2.2.2.1) l_is_value c2_is_value (g0.2.2.2.2.2.2.2.2.2.1) (g0.2.2.2.2.2.2.2.2.2.2.1) l_split_key c2_split_key (g0.2.2.2.2.2.2.2.2.2.2.2.1) (g0.2.2.2.2.2.2.2.2.2.2.2.2.1) l_is_key c2_is_key (g0.2.2.2.2.2.2.2.2.2.2.2.2.2.1) (g0.2.2.2.2.2.2.2.2.2.2.2.2.2.2) l_bytes_of c2_bytes_of (g1.1) (g1.2.1) (g1.2.2.1) l_Fault_init c2_Fault_init (g1.2.2.2.1) (g1.2.2.2.2.1) (g1.2.2.2.2.2.1) l_Fault_eq c2_Fault_eq (g1.2.2.2.2.2.2.1) (g1.2.2.2.2.2.2.2.1) l_p_key_word c2_p_key_word (g1.2.2.2.2.2.2.2.2.1) (g1.2.2.2.2.2.2.2.2.2.1) l_judge_keys c2_judge_keys (g1.2.2.2.2.2.2.2.2.2.2.1) (g1.2.2.2.2.2.2.2.2.2.2.2.1) l_p_law_well c2_p_law_well (g1.2.2.2.2.2.2.2.2.2.2.2.2.1) (g1.2.2.2.2.2.2.2.2.2.2.2.2.2.1) l_p_law_draw c2_p_law_draw (g1.2.2.2.2.2.2.2.2.2.2.2.2.2.2) (g2.1) l_p_law_one c2_p_law_one (g2.2.1) (g2.2.2.1) l_p_law_names c2_p_law_names (g2.2.2.2.1) (g2.2.2.2.2.1) l_p_law_value c2_p_law_value (g2.2.2.2.2.2.1) (g2.2.2.2.2.2.2.1) l_p_law_levels c2_p_law_levels (g2.2.2.2.2.2.2.2.1) (g2.2.2.2.2.2.2.2.2.1) l_p_law_rows c2_p_law_rows (g2.2.2.2.2.2.2.2.2.2.1) (g2.2.2.2.2.2.2.2.2.2.2.1) l_p_law_mixed c2_p_law_mixed (g2.2.2.2.2.2.2.2.2.2.2.2.1) (g2.2.2.2.2.2.2.2.2.2.2.2.2.1) l_p_law_is_whole c2_p_law_is_whole (g2.2.2.2.2.2.2.2.2.2.2.2.2.2.1) (g2.2.2.2.2.2.2.2.2.2.2.2.2.2.2) l_p_law_is_name c2_p_law_is_name (g3.1) (g3.2.1) l_p_law_is_value c2_p_law_is_value (g3.2.2.1) (g3.2.2.2.1) l_p_law_labels c2_p_law_labels (g3.2.2.2.2.1) (g3.2.2.2.2.2.1) l_p_law_cut c2_p_law_cut (g3.2.2.2.2.2.2.1) (g3.2.2.2.2.2.2.2.1) l_p_law_is_key c2_p_law_is_key (g3.2.2.2.2.2.2.2.2.1) (g3.2.2.2.2.2.2.2.2.2.1) l_p_law_word c2_p_law_word (g3.2.2.2.2.2.2.2.2.2.2.1) (g3.2.2.2.2.2.2.2.2.2.2.2.1) l_p_law_due c2_p_law_due (g3.2.2.2.2.2.2.2.2.2.2.2.2.1) (g3.2.2.2.2.2.2.2.2.2.2.2.2.2.1) l_p_law_spoil c2_p_law_spoil (g3.2.2.2.2.2.2.2.2.2.2.2.2.2.2) (g4.1) l_p_law_made c2_p_law_made (g4.2.1) (g4.2.2.1) l_law c2_law (g4.2.2.2.1) (g4.2.2.2.2.1) (g4.2.2.2.2.2.1) (g4.2.2.2.2.2.2.1) (g4.2.2.2.2.2.2.2.1) (g4.2.2.2.2.2.2.2.2.1) (g4.2.2.2.2.2.2.2.2.2.1) at_cc_Forest_MOST re_cc_Forest_MOST (g4.2.2.2.2.2.2.2.2.2.2.2.1) (g4.2.2.2.2.2.2.2.2.2.2.2.2.1) (g4.2.2.2.2.2.2.2.2.2.2.2.2.2.1) (g4.2.2.2.2.2.2.2.2.2.2.2.2.2.2) (g5.1) (g5.2.1) nk_DIGITS rk_DIGITS nk_GREATEST_BYTE rk_GREATEST_BYTE nk_GREATEST_VALUE rk_GREATEST_VALUE nk_LETTERS rk_LETTERS nk_LONGEST_NAME rk_LONGEST_NAME (g5.2.2.2.2.2.2.2.1) (g5.2.2.2.2.2.2.2.2.1) (g5.2.2.2.2.2.2.2.2.2.1) (g5.2.2.2.2.2.2.2.2.2.2.1) (g5.2.2.2.2.2.2.2.2.2.2.2.1) (g5.2.2.2.2.2.2.2.2.2.2.2.2.1) (g5.2.2.2.2.2.2.2.2.2.2.2.2.2.1) (g5.2.2.2.2.2.2.2.2.2.2.2.2.2.2) (g6.1) (g6.2.1) (g6.2.2.1) (g6.2.2.2.1) (g6.2.2.2.2.1) (g6.2.2.2.2.2.1) (g6.2.2.2.2.2.2.1) (g6.2.2.2.2.2.2.2.1) (g6.2.2.2.2.2.2.2.2) main
end
end My
open PySem PySem.W PySem.Calls PyProof.Rows in
set_option maxRecDepth 100000 in
set_option maxHeartbeats 0 in
theorem PySem.Challenge.cw_forestrows_k20_key_rows_judged_holds : PySem.Challenge.rw_forestrows_k20_key_rows_judged.Holds := by
  w_on; o_law
  refine HandSHeadRun.head_any (r := OpenLaw.row PySem.Challenge.rw_forestrows_k20_key_rows_judged) (q := view (OpenLaw.row PySem.Challenge.rw_forestrows_k20_key_rows_judged).prog [47]) (H := My.hk) (ob := My.ob) (M := 60000) (loose := My.looseL) (d := HandSHeadRun.topDef (OpenLaw.row PySem.Challenge.rw_forestrows_k20_key_rows_judged).prog 47) (kwd := []) My.ob_eq
    (by kernel_rfl) (fun s => by kernel_rfl) My.run (by kernel_rfl) (by kernel_rfl) (by kernel_rfl) (by rfl) (by first | assumption | decide +kernel) (by decide +kernel) ⟨rfl, rfl, rfl, rfl, rfl, by decide +kernel⟩ ?hw ?hc
  case hw => w_witness2
  case hc =>
    refine DL.walk_ofG (l  := PySem.Challenge.rw_forestrows_k20_key_rows_judged) (n := 63) (k := 5) (x := "_law_script") (CX := L2.CX0) rfl (by decide) (by kernel_rfl) ⟨rfl, by decide, by decide⟩ ?F (fun _ _ _ _ z => z)
    intro w mg fa h Y G hmg0
    obtain ⟨K, KX, c⟩ := Y
    have hmg : mg ("law" : PySem.Str) = some (.ref fa) := by
      have e : (HandSHeadRun.topDef (OpenLaw.row PySem.Challenge.rw_forestrows_k20_key_rows_judged).prog 47).name = ("law" : PySem.Str) := by kernel_rfl
      rw [← e]
      exact hmg0
    obtain ⟨fd, hb, hF⟩ := My.all_mk2 (w := w) KX G hmg c (fun A F ns hl => My.law_true A F ns hl)
    exact ⟨K, fd, DL.spTrue K, KX, hb, fun H a ns hl _ hS => ⟨a, ns, rfl, hS, hl, fun _ => rfl⟩, hF⟩
