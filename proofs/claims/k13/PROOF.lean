import PyProof.Rows.All
import Wide.All
import OpenK.AllK
import Wide.FinOn
import HandS.ForExc
import HandS.ForMost
import HandS.TupMul
import HandS.TupAny
import HandS.CallSlots
import HandS.Property
import HandS.Wide
import HandS.Defaults
import HandS.TupLe
import HandS.WideBits
import PyProof.StrOps2
import PyProof.LongRange
import HandS.ExcInit
import HandS.ExcField
import HandS.IsInst
import HandS.StrMore
import PyProof.ListStr
import HandS.OwnEq
import PyProof.NeKinds
import HandS.Codes
import HandS.Style
import KE.KStateDown
import HandS.Ends
import HandS.Words
import HandS.WordsExc
import HandS.Head0
import HandS.Head1
import HandS.Head2
import HandS.HeadEnd
import HandS.HeadHook1
import HandS.HeadHook2
import HandS.ReplaceLit
import HandS.ReplaceList
import HandS.Gcd
import HandS.ReplaceDef
import PyProof.Draws
import PyProof.EnumMake
import KE.KOpsOwn
import HandS.IterVal
import KE.KOwnIter
import HandS.MakeKw
import HandS.MakeKwOnly
import HandS.SortInts
import HandS.Conv
import PyProof.SliceStr2
import KE.KRevSl
import HandS.Iter
import HandS.Dict
import HandS.Zip
import HandS.DictTup
import KE.SortData
import KE.KDictWalk
import PyProof.MeetsIn
import HandS.Strs
import HandS.SetFor
import HandS.Head3
import HandS.SortRule
import HandS.Text
import KE.GoesEnumKw
import KE.GoesMore
import HandS.Star
import PyProof.Rows.Chain
import KE.KDictCopyH
import KE.KDictList
import HandS.DictComp
import KE.OsArith
import KE.BitLaws
import PySem.Challenge.RW_keptholes_k13_reasons_of_far_cells
set_option Elab.async false
set_option linter.all false
set_option maxRecDepth 100000
set_option maxHeartbeats 4000000
namespace Dl
open PySem PySem.Spec L2 PyProof.Rows
end Dl
set_option Elab.async false
set_option linter.all false
set_option maxRecDepth 100000
set_option maxHeartbeats 4000000
namespace Dl
open PySem PySem.Spec L2
inductive D where
  | non | bl (b : Bool) | int (i : Int) | str (x : Str) | ty (n : String)
  | lst (xs : List D) | tup (xs : List D) | scr (ns : List Int)
  | obj (c : Nat) (fs : List D)
  | cls (c : Nat)
  | tok (k : Nat)
  /-- an object at its place; a dict, keys and values -/
  | ref (a : Addr)
  | dic (ks : List Key) (vs : List D)
/-- what the frame holds besides: the exception of a suite, the object that an __init__ makes -/
structure Gh where
  exA : Addr := 0
  exC : Value := .none
  exD : Option Addr := none
  slf : Addr := 0
  sdx : Addr := 0
/-- the own classes by number: where they stand, their attributes in the order in which they are stored; tokens: what stands there -/
structure CT where
  addr : Nat → Addr
  names : Nat → List Str
  tok : Nat → Addr → HO
  gh : Gh := {}
  /-- dicts that never change, whose keys are tuples of whole numbers: what they hold -/
  tabl : Nat → List (List Int × Int) := fun _ => []
  tokOk : ∀ k a, (∀ xs, tok k a ≠ .lst xs) ∧ (∀ C dx fs, tok k a ≠ .ins C dx fs)
/-- the numbers of dicts that never change -/
def isTab (k : Nat) : Bool := Nat.ble 1001 k && Nat.beq (k % 2) 1
/-- the dict at a has just these entries -/
def tabO (a : Addr) (es : Array DictEntry) (ep : Nat) : HO := .ext fun h => (a == sysModules) = false ∧ ∃ o, h.get? a = some o ∧ o.ExactDict ∧ o.data = .dict es ep
section
variable (K : PySem.W.Frag) (ct : CT) (H : Hp) (O : Addr → Prop)
/-- an entry: a tuple of whole numbers, a whole number -/
def TabE (p : List Int × Int) (e : DictEntry) : Prop := (∀ P w, e.hash = tupleKeyHash (mixKind P w) (p.1.map Sum.inl)) ∧ ∃ q t, e.key = .ref q ∧ SqT K H q (p.1.map V.int) ∧ e.val = .int p.2 t
def TokAt (k : Nat) (a : Addr) : Prop := if isTab k = true then ∃ es ep, H a = some (tabO a es ep) ∧ Paired (TabE K H) (ct.tabl k) es.toList ∧ ((ct.tabl k).map (·.1)).Nodup ∧ (ct.tabl k).length ≤ sizeLine else H a = some (ct.tok k a)
/-- a list | a tuple that is read, not one of O -/
def LAt (a : Addr) (vs : List V) : Prop := (¬ O a ∧ Rd H a (.lst vs)) ∨
  ∃ (o : Obj) (its : Array Value) (n : Nat), K.lookup a = some o ∧ o.cls = .type "list" ∧ o.dict = none ∧ o.data = .seq its n ∧ its.size ≤ sizeLine ∧ Vals vs its.toList
mutual
def Rep : D → V → Prop
  | .non, v => v = .non
  | .bl b, v => v = .bl b
  | .int i, v => v = .int i
  | .str x, v => v = .str x
  | .ty n, v => v = .ty n
  | .lst xs, v => ∃ a vs, v = .ref a ∧ ¬ O a ∧ H a = some (.lst vs) ∧ RepL xs vs
  | .scr ns, v => ∃ a, v = .ref a ∧ LAt K H O a (ns.map V.int)
  | .tup xs, v => ∃ a vs, v = .ref a ∧ SqT K H a vs ∧ RepL xs vs
  | .obj c fs, v => ∃ a dx vs, v = .ref a ∧ ¬ O a ∧ H a = some (.ins (ct.addr c) dx ((ct.names c).zip vs)) ∧ vs.length = (ct.names c).length ∧ RepL fs vs
  | .cls c, v => v = .ref (ct.addr c)
  | .tok k, v => ∃ a, v = .ref a ∧ ¬ O a ∧ TokAt K ct H k a
  | .ref a, v => v = .ref a
  | .dic ks xs, v => ∃ a vs, v = .ref a ∧ ¬ O a ∧ H a = some (.dK (ks.zip vs)) ∧ ks.length = vs.length ∧ RepL xs vs
def RepL : List D → List V → Prop
  | [], vs => vs = []
  | d :: ds, vs => ∃ v r, vs = v :: r ∧ Rep d v ∧ RepL ds r
end
end
section
variable {K : PySem.W.Frag} {ct : CT} {H H' : Hp} {O O' : Addr → Prop}
theorem RepL.length : ∀ {ds : List D} {vs : List V}, RepL K ct H O ds vs → vs.length = ds.length
  | [], vs, h => by simp only [RepL] at h; rw [h] <;> rfl
  | d :: ds, vs, h => by
    simp only [RepL] at h
    obtain ⟨v, r, e, _, h2⟩ := h
    rw [e]
    show r.length + 1 = ds.length + 1
    rw [RepL.length h2]
end
end Dl
set_option Elab.async false
set_option linter.all false
set_option maxRecDepth 100000
set_option maxHeartbeats 4000000
namespace Dl
open PySem PySem.Spec L2
end Dl
set_option Elab.async false
set_option linter.all false
set_option maxRecDepth 100000
set_option maxHeartbeats 4000000
namespace Dl
open PySem PySem.Spec L2
end Dl
set_option Elab.async false
set_option linter.all false
set_option maxRecDepth 100000
set_option maxHeartbeats 4000000
namespace Dl
open PySem PySem.Spec L2
end Dl
set_option Elab.async false
set_option linter.all false
set_option maxRecDepth 100000
set_option maxHeartbeats 4000000
namespace Dl
open PySem PySem.Spec L2
end Dl
set_option Elab.async false
set_option linter.all false
set_option maxRecDepth 100000
set_option maxHeartbeats 4000000
namespace Dl
open PySem PySem.Spec L2
end Dl
set_option Elab.async false
set_option linter.all false
set_option maxRecDepth 100000
set_option maxHeartbeats 4000000
namespace Dl
open PySem PySem.Spec L2
end Dl
set_option Elab.async false
set_option linter.all false
set_option maxRecDepth 100000
set_option maxHeartbeats 4000000
namespace Dl
open PySem PySem.Spec L2
end Dl
set_option Elab.async false
set_option linter.all false
set_option maxRecDepth 100000
set_option maxHeartbeats 4000000
namespace Dl
open PySem PySem.Spec L2
end Dl
set_option Elab.async false
set_option linter.all false
set_option maxRecDepth 100000
set_option maxHeartbeats 4000000
namespace Dl
open PySem PySem.Spec L2
end Dl
set_option Elab.async false
set_option linter.all false
set_option maxRecDepth 100000
set_option maxHeartbeats 4000000
namespace Dl
open PySem PySem.Spec L2
def oexB (K : PySem.W.Frag) (C : Addr) : Bool := (match K.lookup C with
  | some ⟨.type t, _, .cls cd, sl⟩ => t == "type" && (match cd.mro, sl.toList with
    | .ref C' :: bm, [_, _, _, _, some (.builtin n), _] => C' == C && (n == "ValueError.__new__" && (!cd.hasDel && (cd.hasDict && PySem.HandSPX.refsVE bm)))
    | _, _ => false)
  | _ => false) && (decide (PySem.W.findIn K (.ref C) "__setattr__" = some (some (.builtin "object.__setattr__"))) && (decide (PySem.W.subIn K (.ref C) (.type "BaseException") = some true) && (decide (PySem.W.typeIn K (.ref C) = some (.type "type")) && PySem.W.keepIn K (.ref C))))
end Dl
set_option Elab.async false
set_option linter.all false
set_option maxRecDepth 100000
set_option maxHeartbeats 4000000
namespace Dl
open PySem PySem.Spec L2
end Dl
set_option Elab.async false
set_option linter.all false
set_option maxRecDepth 100000
set_option maxHeartbeats 4000000
namespace Dl.G
open PySem PySem.SeqAt
open AutoSeq1 (wpAny_loadPart')
open MeetsSeq MeetsSeq2 MeetsSeq3 SeqRoads2
end Dl.G
set_option Elab.async false
set_option linter.all false
set_option maxRecDepth 100000
set_option maxHeartbeats 4000000
namespace Dl.G
open PySem PySem.SeqAt
open AutoSeq1 (wpAny_loadPart')
open MeetsSeq MeetsSeq2 MeetsSeq3 SeqRoads2
end Dl.G
set_option Elab.async false
set_option linter.all false
set_option maxRecDepth 100000
set_option maxHeartbeats 4000000
namespace Dl.G
open PySem PySem.Spec PySem.SeqAt
end Dl.G
set_option Elab.async false
set_option linter.all false
set_option maxRecDepth 100000
set_option maxHeartbeats 4000000
namespace Dl
open PySem PySem.Spec L2
end Dl
set_option Elab.async false
set_option linter.all false
set_option maxRecDepth 100000
set_option maxHeartbeats 4000000
namespace Dl
open PySem PySem.Spec L2
end Dl
set_option Elab.async false
set_option linter.all false
set_option maxRecDepth 100000
set_option maxHeartbeats 4000000
namespace Dl
open PySem PySem.Spec L2
end Dl
set_option Elab.async false
set_option linter.all false
set_option maxRecDepth 100000
set_option maxHeartbeats 4000000
namespace Dl
open PySem PySem.Spec L2
end Dl
set_option Elab.async false
set_option linter.all false
set_option maxRecDepth 100000
set_option maxHeartbeats 4000000
namespace Dl
open PySem PySem.Spec L2
end Dl
set_option Elab.async false
set_option linter.all false
set_option maxRecDepth 100000
set_option maxHeartbeats 4000000
namespace Dl
open PySem PySem.Spec L2
abbrev kinds : List String := ["NoneType", "bool", "int", "str", "list", "tuple", "dict"]
def isiB (k m : String) : Bool := k == m || (k == "bool" && m == "int")
abbrev Sub2 := Nat → Nat → Option Bool
end Dl
set_option Elab.async false
set_option linter.all false
set_option maxRecDepth 100000
set_option maxHeartbeats 4000000
namespace Dl
open PySem PySem.Spec L2
end Dl
set_option Elab.async false
set_option linter.all false
set_option maxRecDepth 100000
set_option maxHeartbeats 4000000
namespace Dl
open PySem PySem.Spec L2
end Dl
set_option Elab.async false
set_option linter.all false
set_option maxRecDepth 100000
set_option maxHeartbeats 4000000
namespace Dl.Hd
open PySem PySem.Spec L2
/-- a def at the address that adr tells -/
structure DefP where
  adr : PySem.W.Frag → Addr
  nam : Str
  qua : Str
  par : Arguments
  bod : List Stmt
  sco : Scope
  dfs : List He.Dv := []
  kwd : List (Str × He.Dv) := []
def DefP.kvs (K : PySem.W.Frag) (d : DefP) : List (Str × V) := d.kwd.map fun q => (q.1, q.2.v K)
def DefP.dvs (K : PySem.W.Frag) (d : DefP) : List V := d.dfs.map (He.Dv.v K)
def fnA (K : PySem.W.Frag) (a : Addr) : He.FnW := match K.lookup a with
  | some o => (match o.data with
    | .func fd => some (fd.name, fd.qualname, fd.params, fd.body, fd.scope, fd.globals, fd.closure, fd.builtins)
    | _ => none)
  | none => none
def DefP.val (d : DefP) : He.FnW := some (d.nam, d.qua, d.par, .stmts d.bod, d.sco, mainGlobals, [], builtinsNs)
def DefP.fine (K : PySem.W.Frag) (d : DefP) : Bool := PySem.W.keepIn K (.ref (d.adr K)) && (match K.lookup (d.adr K) with
  | some o => (match o.data with
    | .func fd => PySem.W.codeIn K fd.code d.qua && (He.dflB K fd.defaults (d.dvs K) && He.kwdB K fd.kwdefaults (d.kvs K))
    | _ => false)
  | none => false)
abbrev Al : Type := List Bool × List He.FnW
def obsK (fa : List (PySem.W.Frag → Bool)) (fn : List DefP) (K : PySem.W.Frag) : Al := ((fa.map fun f => f K) ++ (fn.map fun d => d.fine K), fn.map fun d => fnA K (d.adr K))
def obsG (n : Nat) (fa : List (PySem.W.Frag → Bool)) (fn : List DefP) (g : Addr → Option Obj) : Al := obsK fa fn (He.frG g (He.asD g n))
def valG (fa : List (PySem.W.Frag → Bool)) (fn : List DefP) : Al := ((fa.map fun _ => true) ++ (fn.map fun _ => true), fn.map DefP.val)
def Says (fa : List (PySem.W.Frag → Bool)) (fn : List DefP) (K : PySem.W.Frag) : Prop := obsK fa fn K = valG fa fn
def hook (n : Nat) (fa : List (PySem.W.Frag → Bool)) (fn : List DefP) : PySem.W.Hook where
  α := Al
  obs := fun s => obsG n fa fn s.heap.get?
  val := fun _ => valG fa fn
  says := fun _ h => ∃ K : PySem.W.Frag, K.In h ∧ Says fa fn K
  of := fun _ _ e => ⟨_, He.frG_in, e⟩
  keeps := fun _ _ _ ⟨K, hK, c⟩ k => ⟨K, PySem.W.Frag.In.keeps hK k, c⟩
def glB (x : Str) (K : PySem.W.Frag) : Bool := He.Fa.ok K (.glo x)
def frB (x : Str) (K : PySem.W.Frag) : Bool := He.Fa.ok K (.free x)
def clB (x : Str) (K : PySem.W.Frag) : Bool := He.Fa.ok K (.cls x)
def naB (x f : Str) (K : PySem.W.Frag) : Bool := He.Fa.ok K (.noat x f)
def meB (x m : Str) (K : PySem.W.Frag) : Bool := He.Fa.ok K (.meth x m)
def mkB (x : Str) (K : PySem.W.Frag) : Bool := He.Fa.ok K (.mkr x)
def exmB (x y : Str) (b : Bool) (K : PySem.W.Frag) : Bool := He.Fa.ok K (.exm x y b)
/-- a property's getter -/
def gA (x f : Str) (K : PySem.W.Frag) : Addr := match PySem.W.recIn K (He.ma K (He.ga K x) f) "property" with
  | some (.ref g :: _) => g
  | _ => 0
def prB (x f : Str) (K : PySem.W.Frag) : Bool := He.eqO (PySem.W.findIn K (.ref (He.ga K x)) f) (some (some (.ref (He.ma K (He.ga K x) f)))) && (He.eqO (PySem.W.specialIn K (.ref (He.ma K (He.ga K x) f)) "__get__") (some (some (.builtin "property.__get__"))) &&
  (decide (PySem.W.takesIn K (.ref (He.ma K (He.ga K x) f)) = some true) && (match PySem.W.recIn K (He.ma K (He.ga K x) f) "property" with
    | some (.ref _ :: _) => true
    | _ => false)))
/-- an own exception class: its __init__ is a def of its own -/
def exB (x n : Str) (K : PySem.W.Frag) : Bool := oexB K (He.ga K x) && (He.eqO (PySem.W.findIn K (.ref (He.ga K x)) "__init__") (some (some (.ref (He.ma K (He.ga K x) "__init__")))) && (decide (PySem.W.typeIn K (.ref (He.ma K (He.ga K x) "__init__")) = some (.type "function")) &&
  (He.eqO (PySem.W.findIn K (.ref (He.ga K x)) n) (some none) && L2.xfB K (He.ga K x))))
def ad (cn : List Str) (K : PySem.W.Frag) (n : Nat) : Addr := He.ga K (cn.getD n Str.empty)
def inB (C : Addr) (K : PySem.W.Frag) : Bool := He.eqO (PySem.W.findIn K (.ref C) "__class__") (some (some (.builtin "object.__class__"))) && (He.eqO (PySem.W.specialIn K (.builtin "object.__class__") "__get__") (some (some (.builtin "getset_descriptor.__get__"))) &&
  (decide (PySem.W.takesIn K (.builtin "object.__class__") = some true) && (decide (PySem.W.mroIn K C (.type "object") = some true) && decide (PySem.W.kitOne K (.ref C) (.ref C) = some true))))
def allP (n : Nat) (p : Nat → Bool) : Bool := (List.range n).all p
def isB (cn : List Str) (sub : Sub2) (K : PySem.W.Frag) : Bool :=
  (kinds.all fun k => kinds.all fun m => decide (PySem.W.kitOne K (.type k) (.type m) = some (isiB k m))) &&
  allP cn.length fun c => (match sub c c with
    | some _ => clB (cn.getD c Str.empty) K && (inB (ad cn K c) K && (kinds.all fun m => decide (PySem.W.kitOne K (.ref (ad cn K c)) (.type m) = some false) && decide (PySem.W.kitOne K (.type m) (.ref (ad cn K c)) = some false)))
    | none => true) && allP cn.length fun c' => (match sub c c' with
    | some b => decide (PySem.W.kitOne K (.ref (ad cn K c)) (.ref (ad cn K c')) = some b)
    | none => true)
/-- == of own classes: which have it -/
def eqB (cn : List Str) (has : Nat → Bool) (K : PySem.W.Frag) : Bool := allP cn.length fun c => if has c then
    He.eqO (PySem.W.findIn K (.ref (ad cn K c)) "__eq__") (some (some (.ref (He.ma K (ad cn K c) "__eq__")))) && (PySem.W.isFn K (.ref (He.ma K (ad cn K c) "__eq__")) && (He.eqO (PySem.W.findIn K (.ref (ad cn K c)) "__ne__") (some (some (.builtin "object.__ne__"))) &&
    (decide (PySem.W.mroIn K (ad cn K c) (.type "object") = some true) && ((["NoneType", "bool", "int", "str", "list", "tuple", "dict"].all fun n => PySem.W.notFirst K (ad cn K c) (.type n)) && allP cn.length fun c' => if has c' then PySem.W.notFirst K (ad cn K c) (.ref (ad cn K c')) && (decide (ad cn K c = ad cn K c') == (c == c')) else true))))
  else true
end Dl.Hd
set_option Elab.async false
set_option linter.all false
set_option maxRecDepth 100000
set_option maxHeartbeats 4000000
namespace Dl
open PySem PySem.Spec L2
end Dl
set_option Elab.async false
set_option linter.all false
set_option maxRecDepth 100000
set_option maxHeartbeats 4000000
namespace Dl
open PySem PySem.Spec L2
end Dl
set_option Elab.async false
set_option linter.all false
set_option maxRecDepth 100000
set_option maxHeartbeats 4000000
namespace Dl
open PySem PySem.Spec L2
end Dl
set_option Elab.async false
set_option linter.all false
set_option maxRecDepth 100000
set_option maxHeartbeats 4000000
namespace Dl
open PySem PySem.Spec L2
end Dl
set_option Elab.async false
set_option linter.all false
set_option maxRecDepth 100000
set_option maxHeartbeats 400000
namespace Dl
open PySem PySem.Spec L2
end Dl
set_option Elab.async false
set_option linter.all false
set_option maxRecDepth 100000
set_option maxHeartbeats 4000000
namespace Dl
open PySem PySem.Spec L2
end Dl
set_option Elab.async false
set_option linter.all false
set_option maxRecDepth 100000
set_option maxHeartbeats 4000000
namespace Dl
open PySem PySem.Spec L2
end Dl
set_option Elab.async false
set_option linter.all false
set_option maxRecDepth 100000
set_option maxHeartbeats 4000000
namespace Dl
open PySem PySem.Spec L2
def blB (x : Str) (id : String) (K : PySem.W.Frag) : Bool := He.eqO (PySem.W.nsIn K mainGlobals x) (some (some (.builtin id)))
end Dl
set_option Elab.async false
set_option linter.all false
set_option maxRecDepth 100000
set_option maxHeartbeats 4000000
namespace Dl
open PySem PySem.Spec L2
end Dl
set_option Elab.async false
set_option linter.all false
set_option maxRecDepth 100000
set_option maxHeartbeats 4000000
namespace Dl
open PySem PySem.Spec L2
end Dl
set_option Elab.async false
set_option linter.all false
set_option maxRecDepth 100000
set_option maxHeartbeats 4000000
namespace L2
open PySem PySem.Spec PyProof.Rows CwR
end L2
namespace Dl
open PySem PySem.Spec L2
end Dl
set_option Elab.async false
set_option linter.all false
set_option maxRecDepth 100000
set_option maxHeartbeats 4000000
namespace L2
open PySem PySem.Spec PyProof.Rows
end L2
namespace Dl
open PySem PySem.Spec L2
end Dl
set_option Elab.async false
set_option linter.all false
set_option maxRecDepth 100000
set_option maxHeartbeats 4000000
namespace Dl
open PySem PySem.Spec L2 PySem.W PySem.Calls PyProof.Rows
def opB (x : Str) (op : Operator) (K : PySem.W.Frag) : Bool := selfFirst K (He.ga K x) && (He.eqO (findIn K (.ref (He.ga K x)) (dunderR op.info.2)) (some none) && kinds.all fun t => (findIn K (.type t) (PySem.dunder op.info.2)).isSome && ((findIn K (.type t) (dunderR op.info.2)).isSome && decide (subIn K (.type t) (.ref (He.ga K x)) = some false)))
end Dl
set_option Elab.async false
set_option linter.all false
set_option maxRecDepth 100000
set_option maxHeartbeats 4000000
namespace Dl
open PySem PySem.Spec L2 PySem.W PySem.Calls PyProof.Rows
def fnB (x m : Str) (K : PySem.W.Frag) : Bool := fnIn K (He.ma K (He.ga K x) m)
end Dl
set_option Elab.async false
set_option linter.all false
set_option maxRecDepth 100000
set_option maxHeartbeats 4000000
namespace Dl
open PySem PySem.Spec L2 PySem.W PySem.Calls PyProof.Rows
end Dl
set_option Elab.async false
set_option linter.all false
set_option maxRecDepth 100000
set_option maxHeartbeats 4000000
namespace L2
open PySem PySem.Spec PyProof.Rows CwR
end L2
namespace Dl
open PySem PySem.Spec L2
end Dl
set_option Elab.async false
set_option linter.all false
set_option maxRecDepth 100000
set_option maxHeartbeats 4000000
namespace Dl
open PySem PySem.Spec L2
end Dl
set_option Elab.async false
set_option linter.all false
set_option maxRecDepth 100000
set_option maxHeartbeats 4000000
namespace Dl
open PySem PySem.Spec L2
end Dl
set_option Elab.async false
set_option linter.all false
set_option maxRecDepth 100000
set_option maxHeartbeats 4000000
namespace Dl
open PySem PySem.Spec L2
end Dl
set_option Elab.async false
set_option linter.all false
set_option maxRecDepth 100000
set_option maxHeartbeats 4000000
namespace Dl
open PySem PySem.Spec L2
end Dl
set_option Elab.async false
set_option linter.all false
set_option maxRecDepth 100000
set_option maxHeartbeats 4000000
namespace Dl
open PySem PySem.Spec L2
end Dl
set_option Elab.async false
set_option linter.all false
set_option maxRecDepth 100000
set_option maxHeartbeats 4000000
namespace Dl
open PySem PySem.Spec L2
end Dl
set_option Elab.async false
set_option linter.all false
set_option maxRecDepth 100000
set_option maxHeartbeats 4000000
namespace Dl
open PySem PySem.Spec L2
end Dl
set_option Elab.async false
set_option linter.all false
set_option maxRecDepth 100000
set_option maxHeartbeats 4000000
namespace L2
open PySem PySem.Spec PyProof.Rows
end L2
namespace Dl
open PySem PySem.Spec L2
end Dl
set_option Elab.async false
set_option linter.all false
set_option maxRecDepth 100000
set_option maxHeartbeats 4000000
namespace Dl
open PySem PySem.Spec L2
end Dl
set_option Elab.async false
set_option linter.all false
set_option maxRecDepth 100000
set_option maxHeartbeats 4000000
namespace Dl
open PySem PySem.Spec L2 PyProof.Rows
end Dl
set_option Elab.async false
set_option linter.all false
set_option maxRecDepth 100000
set_option maxHeartbeats 4000000
namespace Dl
open PySem PySem.Spec L2 PySem.W PySem.Calls PyProof.Rows
end Dl
set_option Elab.async false
set_option linter.all false
set_option maxRecDepth 100000
set_option maxHeartbeats 4000000
namespace L2
open PySem PySem.Spec PyProof.Rows CwR
end L2
namespace Dl
open PySem PySem.Spec L2
end Dl
set_option Elab.async false
set_option linter.all false
set_option maxRecDepth 100000
set_option maxHeartbeats 4000000
namespace Dl
open PySem PySem.Spec L2 PySem.W PySem.Calls PyProof.Rows
end Dl
set_option Elab.async false
set_option linter.all false
set_option maxRecDepth 100000
set_option maxHeartbeats 4000000
namespace Dl
open PySem PySem.Spec L2
end Dl
set_option Elab.async false
set_option linter.all false
set_option maxRecDepth 100000
set_option maxHeartbeats 4000000
namespace Dl
open PySem PySem.Spec L2
end Dl
set_option Elab.async false
set_option linter.all false
set_option maxRecDepth 100000
set_option maxHeartbeats 4000000
namespace Dl
open PySem PySem.Spec L2 PyProof.Rows
end Dl
set_option Elab.async false
set_option linter.all false
set_option maxRecDepth 100000
set_option maxHeartbeats 4000000
namespace Dl
open PySem PySem.Spec L2 PyProof.Rows
end Dl
set_option Elab.async false
set_option linter.all false
set_option maxRecDepth 100000
set_option maxHeartbeats 4000000
namespace Dl
open PySem PySem.Spec L2
end Dl
set_option Elab.async false
set_option linter.all false
set_option maxRecDepth 100000
set_option maxHeartbeats 4000000
namespace L2.DX
open PySem PySem.Spec PyProof.Rows PySem.W
end L2.DX
namespace Dl
open PySem PySem.Spec L2
end Dl
set_option Elab.async false
set_option linter.all false
set_option maxRecDepth 100000
set_option maxHeartbeats 4000000
namespace Dl.G
open PySem PySem.SeqAt
open AutoSeq1 (wpAny_loadPart')
open MeetsSeq MeetsSeq2 MeetsSeq3 SeqRoads2
end Dl.G
namespace Dl
open PySem PySem.Spec L2
end Dl
set_option Elab.async false
set_option linter.all false
set_option maxRecDepth 100000
set_option maxHeartbeats 4000000
namespace L2
open PySem PySem.Spec PyProof.Rows
end L2
namespace Dl
open PySem PySem.Spec L2
end Dl
set_option Elab.async false
set_option linter.all false
set_option maxRecDepth 100000
set_option maxHeartbeats 4000000
namespace Dl
open PySem PySem.Spec L2
end Dl
set_option Elab.async false
set_option linter.all false
set_option maxRecDepth 100000
set_option maxHeartbeats 4000000
namespace Dl
open PySem PySem.Spec L2
end Dl
set_option Elab.async false
set_option linter.all false
set_option maxRecDepth 100000
set_option maxHeartbeats 0
namespace K13
open PySem PySem.Spec L2 Dl Dl.Hd
def top (i : Nat) : Stmt := PySem.Challenge.pw_keptholes_k13_reasons_of_far_cells.main.body.getD i (.Pass ⟨0, 0, 0, 0⟩)
def clsB_ : Stmt → List Stmt := C8.clsBody
def cn : List Str := ["HoleError", "InvalidNumber", "InvalidScript", "Step", "Full", "Keep", "Lean", "Dig", "Script"]
def subT : Sub2 := fun a b => if a ∈ ([3, 4, 5, 6, 7, 8] : List Nat) ∧ b ∈ ([3, 4, 5, 6, 7, 8] : List Nat) then some (decide ((a, b) ∈ ([(3, 3), (4, 3), (4, 4), (5, 3), (5, 5), (6, 3), (6, 6), (7, 3), (7, 7), (8, 8)] : List (Nat × Nat)))) else none
def hasE : Nat → Bool := fun c => decide (c ∈ ([4, 5, 6, 7, 8] : List Nat))
def fa : List (PySem.W.Frag → Bool) := [glB "HoleError"] ++ ([glB "InvalidNumber", glB "InvalidScript", glB "Step", glB "Full", glB "Keep", glB "Lean", glB "Dig", glB "Script", glB "is_whole", glB "check_number"] : List (PySem.W.Frag → Bool)) ++ ([glB "blocks", glB "check_script", glB "_is_list_of_steps", glB "reasons", glB "sign_rows", glB "starts", glB "_stepped", glB "_joined", glB "_blank_rows", glB "_is_least"] : List (PySem.W.Frag → Bool)) ++ ([glB "_law_purse", glB "_law_draw", glB "_law_steps", glB "_law_step", glB "_law_script", glB "_law_multiple", glB "_law_sizes", glB "_law_few", glB "_law_great", glB "_law_moved"] : List (PySem.W.Frag → Bool)) ++ ([glB "law", frB "ValueError", frB "all", frB "any", frB "bool", frB "int", frB "isinstance", frB "iter", frB "len", frB "list"] : List (PySem.W.Frag → Bool)) ++ ([frB "min", frB "range", frB "sorted", frB "sum", frB "tuple", clB "Step", meB "Step" "__init__", clB "Full", mkB "Full", meB "Full" "__init__"] : List (PySem.W.Frag → Bool)) ++ ([meB "Full" "__eq__", clB "Keep", mkB "Keep", naB "Keep" "_size", meB "Keep" "__init__", prB "Keep" "size", meB "Keep" "__eq__", clB "Lean", mkB "Lean", naB "Lean" "_size"] : List (PySem.W.Frag → Bool)) ++ ([meB "Lean" "__init__", prB "Lean" "size", meB "Lean" "__eq__", clB "Dig", mkB "Dig", naB "Dig" "_size", meB "Dig" "__init__", prB "Dig" "size", meB "Dig" "__eq__", clB "Script"] : List (PySem.W.Frag → Bool)) ++ ([mkB "Script", naB "Script" "_steps", meB "Script" "__init__", prB "Script" "period", meB "Script" "__len__", meB "Script" "__getitem__", meB "Script" "__eq__", meB "Script" "__iter__", meB "Script" "__add__", meB "Script" "__mul__"] : List (PySem.W.Frag → Bool)) ++ ([meB "Script" "without", exB "InvalidNumber" "value", exB "InvalidScript" "value", exmB "HoleError" "HoleError" true, exmB "HoleError" "InvalidNumber" false, exmB "HoleError" "InvalidScript" false, exmB "InvalidNumber" "HoleError" true, exmB "InvalidNumber" "InvalidNumber" true, exmB "InvalidNumber" "InvalidScript" false, exmB "InvalidScript" "HoleError" true] : List (PySem.W.Frag → Bool)) ++ ([exmB "InvalidScript" "InvalidNumber" false, exmB "InvalidScript" "InvalidScript" true, blB "lcm" "math.lcm", opB "Script" .Add, opB "Script" .Mult, fnB "Script" "__getitem__", isB cn subT, eqB cn hasE] : List (PySem.W.Frag → Bool))
abbrev s0 : Stmt := ((clsB_ (top 4)).getD 0 (.Pass ⟨0, 0, 0, 0⟩))
def d0 : DefP := ⟨(fun K => He.ma K (He.ga K "InvalidNumber") "__init__"), "__init__", "InvalidNumber.__init__", defArgs s0, defBody s0, defScope s0, [.non], []⟩
abbrev s1 : Stmt := ((clsB_ (top 5)).getD 0 (.Pass ⟨0, 0, 0, 0⟩))
def d1 : DefP := ⟨(fun K => He.ma K (He.ga K "InvalidScript") "__init__"), "__init__", "InvalidScript.__init__", defArgs s1, defBody s1, defScope s1, [.non], []⟩
abbrev s2 : Stmt := ((clsB_ (top 11)).getD 0 (.Pass ⟨0, 0, 0, 0⟩))
def d2 : DefP := ⟨(fun K => He.ma K (He.ga K "Step") "__init__"), "__init__", "Step.__init__", defArgs s2, defBody s2, defScope s2, [], []⟩
abbrev s3 : Stmt := ((clsB_ (top 12)).getD 0 (.Pass ⟨0, 0, 0, 0⟩))
def d3 : DefP := ⟨(fun K => He.ma K (He.ga K "Full") "__init__"), "__init__", "Full.__init__", defArgs s3, defBody s3, defScope s3, [], []⟩
abbrev s4 : Stmt := ((clsB_ (top 12)).getD 1 (.Pass ⟨0, 0, 0, 0⟩))
def d4 : DefP := ⟨(fun K => He.ma K (He.ga K "Full") "__eq__"), "__eq__", "Full.__eq__", defArgs s4, defBody s4, defScope s4, [], []⟩
abbrev s5 : Stmt := ((clsB_ (top 13)).getD 0 (.Pass ⟨0, 0, 0, 0⟩))
def d5 : DefP := ⟨(fun K => He.ma K (He.ga K "Keep") "__init__"), "__init__", "Keep.__init__", defArgs s5, defBody s5, defScope s5, [], []⟩
abbrev s6 : Stmt := ((clsB_ (top 13)).getD 1 (.Pass ⟨0, 0, 0, 0⟩))
def d6 : DefP := ⟨(gA "Keep" "size"), "size", "Keep.size", defArgs s6, defBody s6, defScope s6, [], []⟩
abbrev s7 : Stmt := ((clsB_ (top 13)).getD 2 (.Pass ⟨0, 0, 0, 0⟩))
def d7 : DefP := ⟨(fun K => He.ma K (He.ga K "Keep") "__eq__"), "__eq__", "Keep.__eq__", defArgs s7, defBody s7, defScope s7, [], []⟩
abbrev s8 : Stmt := ((clsB_ (top 14)).getD 0 (.Pass ⟨0, 0, 0, 0⟩))
def d8 : DefP := ⟨(fun K => He.ma K (He.ga K "Lean") "__init__"), "__init__", "Lean.__init__", defArgs s8, defBody s8, defScope s8, [], []⟩
abbrev s9 : Stmt := ((clsB_ (top 14)).getD 1 (.Pass ⟨0, 0, 0, 0⟩))
def d9 : DefP := ⟨(gA "Lean" "size"), "size", "Lean.size", defArgs s9, defBody s9, defScope s9, [], []⟩
abbrev s10 : Stmt := ((clsB_ (top 14)).getD 2 (.Pass ⟨0, 0, 0, 0⟩))
def d10 : DefP := ⟨(fun K => He.ma K (He.ga K "Lean") "__eq__"), "__eq__", "Lean.__eq__", defArgs s10, defBody s10, defScope s10, [], []⟩
abbrev s11 : Stmt := ((clsB_ (top 15)).getD 0 (.Pass ⟨0, 0, 0, 0⟩))
def d11 : DefP := ⟨(fun K => He.ma K (He.ga K "Dig") "__init__"), "__init__", "Dig.__init__", defArgs s11, defBody s11, defScope s11, [], []⟩
abbrev s12 : Stmt := ((clsB_ (top 15)).getD 1 (.Pass ⟨0, 0, 0, 0⟩))
def d12 : DefP := ⟨(gA "Dig" "size"), "size", "Dig.size", defArgs s12, defBody s12, defScope s12, [], []⟩
abbrev s13 : Stmt := ((clsB_ (top 15)).getD 2 (.Pass ⟨0, 0, 0, 0⟩))
def d13 : DefP := ⟨(fun K => He.ma K (He.ga K "Dig") "__eq__"), "__eq__", "Dig.__eq__", defArgs s13, defBody s13, defScope s13, [], []⟩
abbrev s14 : Stmt := ((clsB_ (top 16)).getD 0 (.Pass ⟨0, 0, 0, 0⟩))
def d14 : DefP := ⟨(fun K => He.ma K (He.ga K "Script") "__init__"), "__init__", "Script.__init__", defArgs s14, defBody s14, defScope s14, [.non], []⟩
abbrev s15 : Stmt := ((clsB_ (top 16)).getD 1 (.Pass ⟨0, 0, 0, 0⟩))
def d15 : DefP := ⟨(gA "Script" "period"), "period", "Script.period", defArgs s15, defBody s15, defScope s15, [], []⟩
abbrev s16 : Stmt := ((clsB_ (top 16)).getD 2 (.Pass ⟨0, 0, 0, 0⟩))
def d16 : DefP := ⟨(fun K => He.ma K (He.ga K "Script") "__len__"), "__len__", "Script.__len__", defArgs s16, defBody s16, defScope s16, [], []⟩
abbrev s17 : Stmt := ((clsB_ (top 16)).getD 3 (.Pass ⟨0, 0, 0, 0⟩))
def d17 : DefP := ⟨(fun K => He.ma K (He.ga K "Script") "__getitem__"), "__getitem__", "Script.__getitem__", defArgs s17, defBody s17, defScope s17, [], []⟩
abbrev s18 : Stmt := ((clsB_ (top 16)).getD 4 (.Pass ⟨0, 0, 0, 0⟩))
def d18 : DefP := ⟨(fun K => He.ma K (He.ga K "Script") "__eq__"), "__eq__", "Script.__eq__", defArgs s18, defBody s18, defScope s18, [], []⟩
abbrev s19 : Stmt := ((clsB_ (top 16)).getD 5 (.Pass ⟨0, 0, 0, 0⟩))
def d19 : DefP := ⟨(fun K => He.ma K (He.ga K "Script") "__iter__"), "__iter__", "Script.__iter__", defArgs s19, defBody s19, defScope s19, [], []⟩
abbrev s20 : Stmt := ((clsB_ (top 16)).getD 6 (.Pass ⟨0, 0, 0, 0⟩))
def d20 : DefP := ⟨(fun K => He.ma K (He.ga K "Script") "__add__"), "__add__", "Script.__add__", defArgs s20, defBody s20, defScope s20, [], []⟩
abbrev s21 : Stmt := ((clsB_ (top 16)).getD 7 (.Pass ⟨0, 0, 0, 0⟩))
def d21 : DefP := ⟨(fun K => He.ma K (He.ga K "Script") "__mul__"), "__mul__", "Script.__mul__", defArgs s21, defBody s21, defScope s21, [], []⟩
abbrev s22 : Stmt := ((clsB_ (top 16)).getD 8 (.Pass ⟨0, 0, 0, 0⟩))
def d22 : DefP := ⟨(fun K => He.ma K (He.ga K "Script") "without"), "without", "Script.without", defArgs s22, defBody s22, defScope s22, [], []⟩
abbrev s23 : Stmt := (top 7)
def d23 : DefP := ⟨(fun K => He.ga K "is_whole"), "is_whole", "is_whole", defArgs s23, defBody s23, defScope s23, [], []⟩
abbrev s24 : Stmt := (top 8)
def d24 : DefP := ⟨(fun K => He.ga K "check_number"), "check_number", "check_number", defArgs s24, defBody s24, defScope s24, [.non], []⟩
abbrev s25 : Stmt := (top 9)
def d25 : DefP := ⟨(fun K => He.ga K "blocks"), "blocks", "blocks", defArgs s25, defBody s25, defScope s25, [], []⟩
abbrev s26 : Stmt := (top 17)
def d26 : DefP := ⟨(fun K => He.ga K "check_script"), "check_script", "check_script", defArgs s26, defBody s26, defScope s26, [], []⟩
abbrev s27 : Stmt := (top 18)
def d27 : DefP := ⟨(fun K => He.ga K "_is_list_of_steps"), "_is_list_of_steps", "_is_list_of_steps", defArgs s27, defBody s27, defScope s27, [], []⟩
abbrev s28 : Stmt := (top 20)
def d28 : DefP := ⟨(fun K => He.ga K "reasons"), "reasons", "reasons", defArgs s28, defBody s28, defScope s28, [], []⟩
abbrev s29 : Stmt := (top 21)
def d29 : DefP := ⟨(fun K => He.ga K "sign_rows"), "sign_rows", "sign_rows", defArgs s29, defBody s29, defScope s29, [], []⟩
abbrev s30 : Stmt := (top 22)
def d30 : DefP := ⟨(fun K => He.ga K "starts"), "starts", "starts", defArgs s30, defBody s30, defScope s30, [], []⟩
abbrev s31 : Stmt := (top 23)
def d31 : DefP := ⟨(fun K => He.ga K "_stepped"), "_stepped", "_stepped", defArgs s31, defBody s31, defScope s31, [], []⟩
abbrev s32 : Stmt := (top 24)
def d32 : DefP := ⟨(fun K => He.ga K "_joined"), "_joined", "_joined", defArgs s32, defBody s32, defScope s32, [], []⟩
abbrev s33 : Stmt := (top 25)
def d33 : DefP := ⟨(fun K => He.ga K "_blank_rows"), "_blank_rows", "_blank_rows", defArgs s33, defBody s33, defScope s33, [], []⟩
abbrev s34 : Stmt := (top 26)
def d34 : DefP := ⟨(fun K => He.ga K "_is_least"), "_is_least", "_is_least", defArgs s34, defBody s34, defScope s34, [], []⟩
abbrev s35 : Stmt := (top 28)
def d35 : DefP := ⟨(fun K => He.ga K "_law_purse"), "_law_purse", "_law_purse", defArgs s35, defBody s35, defScope s35, [], []⟩
abbrev s36 : Stmt := (top 29)
def d36 : DefP := ⟨(fun K => He.ga K "_law_draw"), "_law_draw", "_law_draw", defArgs s36, defBody s36, defScope s36, [], []⟩
abbrev s37 : Stmt := (top 30)
def d37 : DefP := ⟨(fun K => He.ga K "_law_steps"), "_law_steps", "_law_steps", defArgs s37, defBody s37, defScope s37, [], []⟩
abbrev s38 : Stmt := (top 31)
def d38 : DefP := ⟨(fun K => He.ga K "_law_step"), "_law_step", "_law_step", defArgs s38, defBody s38, defScope s38, [], []⟩
abbrev s39 : Stmt := (top 32)
def d39 : DefP := ⟨(fun K => He.ga K "_law_script"), "_law_script", "_law_script", defArgs s39, defBody s39, defScope s39, [], []⟩
abbrev s40 : Stmt := (top 33)
def d40 : DefP := ⟨(fun K => He.ga K "_law_multiple"), "_law_multiple", "_law_multiple", defArgs s40, defBody s40, defScope s40, [], []⟩
abbrev s41 : Stmt := (top 34)
def d41 : DefP := ⟨(fun K => He.ga K "_law_sizes"), "_law_sizes", "_law_sizes", defArgs s41, defBody s41, defScope s41, [], []⟩
abbrev s42 : Stmt := (top 35)
def d42 : DefP := ⟨(fun K => He.ga K "_law_few"), "_law_few", "_law_few", defArgs s42, defBody s42, defScope s42, [], []⟩
abbrev s43 : Stmt := (top 36)
def d43 : DefP := ⟨(fun K => He.ga K "_law_great"), "_law_great", "_law_great", defArgs s43, defBody s43, defScope s43, [], []⟩
abbrev s44 : Stmt := (top 37)
def d44 : DefP := ⟨(fun K => He.ga K "_law_moved"), "_law_moved", "_law_moved", defArgs s44, defBody s44, defScope s44, [], []⟩
abbrev s45 : Stmt := (top 38)
def d45 : DefP := ⟨(fun K => He.ga K "law"), "law", "law", defArgs s45, defBody s45, defScope s45, [], []⟩
def fn : List DefP := [d0, d1, d2, d3, d4, d5, d6, d7, d8, d9, d10, d11, d12, d13, d14, d15, d16, d17, d18, d19, d20, d21, d22, d23, d24, d25, d26, d27, d28, d29, d30, d31, d32, d33, d34, d35, d36, d37, d38, d39, d40, d41, d42, d43, d44, d45]
abbrev R : PySem.W.OpenRow := PySem.W.OpenLaw.row PySem.Challenge.rw_keptholes_k13_reasons_of_far_cells
def asL : List PySem.Addr := [
  3, 6, 4, 49, 59, 80, 100, 109, 117, 122, 139, 174, 215, 256, 297, 388, 399, 404, 409, 414,
  419, 424, 431, 436, 441, 448, 455, 462, 469, 474, 481, 486, 493, 500, 505, 512, 0, 48, 58, 79,
  99, 108, 116, 110, 121, 138, 173, 214, 255, 296, 387, 398, 403, 408, 413, 418, 423, 430, 435, 440,
  447, 454, 461, 468, 473, 480, 485, 492, 499, 504, 511, 43, 44, 45, 46, 47, 57, 60, 77, 78,
  97, 98, 103, 104, 105, 106, 107, 111, 112, 113, 114, 115, 118, 119, 120, 136, 137, 140, 141, 157,
  164, 171, 172, 190, 198, 205, 212, 213, 231, 239, 246, 253, 254, 272, 280, 287, 294, 295, 314, 322,
  329, 336, 343, 350, 357, 364, 371, 378, 385, 386, 389, 390, 393, 394, 395, 396, 397, 400, 401, 402,
  405, 406, 407, 410, 411, 412, 415, 416, 417, 420, 421, 422, 425, 426, 427, 428, 429, 432, 433, 434,
  437, 438, 439, 442, 443, 444, 445, 446, 449, 450, 451, 452, 453, 456, 457, 458, 459, 460, 463, 464,
  465, 466, 467, 470, 471, 472, 475, 476, 477, 478, 479, 482, 483, 484, 487, 488, 489, 490, 491, 494,
  495, 496, 497, 498, 501, 502, 503, 506, 507, 508, 509, 510, 76, 70, 96, 90, 135, 156, 163, 170,
  189, 197, 204, 211, 230, 238, 245, 252, 271, 279, 286, 293, 313, 307, 321, 328, 335, 342, 349, 356,
  363, 370, 377, 384, 71, 72, 73, 74, 75, 91, 92, 93, 94, 95, 130, 131, 132, 133, 134, 151,
  152, 153, 154, 155, 158, 159, 160, 161, 162, 165, 166, 167, 168, 169, 184, 185, 186, 187, 188, 196,
  199, 200, 201, 202, 203, 206, 207, 208, 209, 210, 225, 226, 227, 228, 229, 237, 240, 241, 242, 243,
  244, 247, 248, 249, 250, 251, 266, 267, 268, 269, 270, 278, 281, 282, 283, 284, 285, 288, 289, 290,
  291, 292, 308, 309, 310, 311, 312, 320, 323, 324, 325, 326, 327, 330, 331, 332, 333, 334, 337, 338,
  339, 340, 341, 344, 345, 346, 347, 348, 351, 352, 353, 354, 355, 358, 359, 360, 361, 362, 365, 366,
  367, 368, 369, 372, 373, 374, 375, 376, 379, 380, 381, 382, 383, 191, 192, 193, 194, 195, 232, 233,
  234, 235, 236, 273, 274, 275, 276, 277, 315, 316, 317, 318, 319]
def hookL (as : List PySem.Addr) (fa : List (PySem.W.Frag → Bool)) (fn : List DefP) : PySem.W.Hook where
  α := Al
  obs := fun s => obsK fa fn (He.frG s.heap.get? as)
  val := fun _ => valG fa fn
  says := fun _ h => ∃ K : PySem.W.Frag, K.In h ∧ Says fa fn K
  of := fun _ _ e => ⟨_, He.frG_in, e⟩
  keeps := fun _ _ _ ⟨K, hK, c⟩ k => ⟨K, PySem.W.Frag.In.keeps hK k, c⟩
abbrev hk : PySem.W.Hook := hookL asL fa fn
def ob (s : PySem.W.SharedT) : Al := obsK fa fn (He.frG (HandSHeadRun.getT s) asL)
def loose : List PySem.Str := (["_wall", "__name__", "HoleError", "InvalidNumber", "InvalidScript", "is_whole", "check_number", "blocks", "Step", "Full"] : List PySem.Str) ++ (["Keep", "Lean", "Dig", "Script", "check_script", "_is_list_of_steps", "reasons", "sign_rows", "starts", "_stepped"] : List PySem.Str) ++ (["_joined", "_blank_rows", "_is_least", "_law_purse", "_law_draw", "_law_steps", "_law_step", "_law_script", "_law_multiple", "_law_sizes"] : List PySem.Str) ++ (["_law_few", "_law_great", "_law_moved"] : List PySem.Str)
theorem run (w : World) : HandSHeadRun.RunEqI R (PySem.W.view R.prog [0, 38]) hk ob 20000 loose w := by
  unfold HandSHeadRun.RunEqI
  kernel_rfl
end K13
set_option Elab.async false
set_option linter.all false
set_option maxRecDepth 100000
set_option maxHeartbeats 4000000
namespace L2
open PySem PySem.Spec PyProof.Rows
end L2
namespace Dl
open PySem PySem.Spec L2
end Dl
set_option Elab.async false
set_option linter.all false
set_option maxRecDepth 100000
set_option maxHeartbeats 4000000
namespace Dl
open PySem PySem.Spec L2
end Dl
set_option Elab.async false
set_option linter.all false
set_option maxRecDepth 100000
set_option maxHeartbeats 4000000
namespace L2
open PySem PySem.Spec PyProof.Rows
end L2
namespace Dl
open PySem PySem.Spec L2
end Dl
set_option Elab.async false
set_option linter.all false
set_option maxRecDepth 100000
set_option maxHeartbeats 4000000
namespace L2
open PySem PySem.Spec PyProof.Rows
end L2
namespace Dl
open PySem PySem.Spec L2
end Dl
set_option Elab.async false
set_option linter.all false
set_option maxRecDepth 100000
set_option maxHeartbeats 4000000
namespace Dl
open PySem PySem.Spec L2
end Dl
set_option Elab.async false
set_option linter.all false
set_option maxRecDepth 100000
set_option maxHeartbeats 4000000
namespace Dl
open PySem PySem.Spec L2
end Dl
set_option Elab.async false
set_option linter.all false
set_option maxRecDepth 100000
set_option maxHeartbeats 4000000
namespace Dl
open PySem PySem.Spec L2 PyProof.Rows
end Dl
set_option Elab.async false
set_option linter.all false
set_option maxRecDepth 100000
set_option maxHeartbeats 4000000
namespace Dl
open PySem PySem.Spec PySem.W L2
end Dl
set_option Elab.async false
set_option linter.all false
set_option maxRecDepth 100000
set_option maxHeartbeats 4000000
namespace Dl
open PySem PySem.Spec L2
end Dl
set_option Elab.async false
set_option linter.all false
set_option maxRecDepth 100000
set_option maxHeartbeats 4000000
namespace Dl
open PySem PySem.Spec PySem.W L2
end Dl
set_option Elab.async false
set_option linter.all false
set_option maxRecDepth 100000
set_option maxHeartbeats 4000000
namespace Dl
open PySem PySem.Spec PyProof.Rows L2
end Dl
set_option Elab.async false
set_option linter.all false
set_option maxRecDepth 100000
set_option maxHeartbeats 4000000
namespace Dl
open PySem PySem.Spec L2
open PyProof.Rows hiding St
end Dl
set_option Elab.async false
set_option linter.all false
set_option maxRecDepth 100000
set_option maxHeartbeats 4000000
namespace Dl
open PySem PySem.Spec L2
open PyProof.Rows hiding St
end Dl
set_option Elab.async false
set_option linter.all false
set_option maxRecDepth 100000
set_option maxHeartbeats 400000
namespace Dl
open PySem PySem.Spec L2
namespace Res
end Res
open Res
end Dl
set_option Elab.async false
set_option linter.all false
set_option maxRecDepth 100000
set_option maxHeartbeats 400000
namespace Dl
open PySem PySem.Spec L2 Res
end Dl
set_option Elab.async false
set_option linter.all false
set_option maxRecDepth 100000
set_option maxHeartbeats 400000
namespace Dl
open PySem PySem.Spec L2 Res
end Dl
set_option Elab.async false
set_option linter.all false
set_option maxRecDepth 100000
set_option maxHeartbeats 400000
namespace Dl
open PySem PySem.Spec L2 Res
end Dl
set_option Elab.async false
set_option linter.all false
set_option maxRecDepth 100000
set_option maxHeartbeats 400000
namespace Dl
open PySem PySem.Spec L2 Res
end Dl
set_option Elab.async false
set_option linter.all false
set_option maxRecDepth 100000
set_option maxHeartbeats 400000
namespace Dl
open PySem PySem.Spec L2 Res
end Dl
set_option Elab.async false
set_option linter.all false
set_option maxRecDepth 100000
set_option maxHeartbeats 400000
namespace Dl
open PySem PySem.Spec L2 Res
end Dl
set_option Elab.async false
set_option linter.all false
set_option maxRecDepth 100000
set_option maxHeartbeats 400000
namespace Dl
open PySem PySem.Spec L2 Res
end Dl
set_option Elab.async false
set_option linter.all false
set_option maxRecDepth 100000
set_option maxHeartbeats 400000
namespace Dl
open PySem PySem.Spec L2 Res
end Dl
set_option Elab.async false
set_option linter.all false
set_option maxRecDepth 100000
set_option maxHeartbeats 400000
namespace Dl
open PySem PySem.Spec L2 Res
end Dl
set_option Elab.async false
set_option linter.all false
set_option maxRecDepth 100000
set_option maxHeartbeats 400000
namespace Dl
open PySem PySem.Spec L2 Res
end Dl
namespace Dl
open PySem PySem.Spec L2 Res
end Dl
namespace Dl
open PySem PySem.Spec L2 Res
end Dl
set_option Elab.async false
set_option linter.all false
set_option maxRecDepth 100000
set_option maxHeartbeats 400000
namespace Dl
open PySem PySem.Spec L2 Res PySem.Builtin PySem.Builtin.Str
end Dl
set_option Elab.async false
set_option linter.all false
set_option maxRecDepth 100000
set_option maxHeartbeats 400000
namespace Dl
open PySem PySem.Spec L2 Res
end Dl
namespace Dl
open PySem PySem.Spec L2 Res
end Dl
set_option Elab.async false
set_option linter.all false
set_option maxRecDepth 100000
set_option maxHeartbeats 400000
namespace Dl
open PySem PySem.Spec L2 Res
end Dl
set_option Elab.async false
set_option linter.all false
set_option maxRecDepth 100000
set_option maxHeartbeats 400000
namespace Dl
open PySem PySem.Spec L2 Res
end Dl
set_option Elab.async false
set_option linter.all false
set_option maxRecDepth 100000
set_option maxHeartbeats 400000
namespace Dl
open PySem PySem.Spec L2 Res
end Dl
set_option Elab.async false
set_option linter.all false
set_option maxRecDepth 100000
set_option maxHeartbeats 400000
namespace Dl
open PySem PySem.Spec L2 Res
end Dl
set_option Elab.async false
set_option linter.all false
set_option maxRecDepth 100000
set_option maxHeartbeats 400000
namespace Dl
open PySem PySem.Spec L2 Res
end Dl
set_option Elab.async false
set_option linter.all false
set_option maxRecDepth 100000
set_option maxHeartbeats 400000
namespace Dl
open PySem PySem.Spec L2 Res
end Dl
set_option Elab.async false
set_option linter.all false
set_option maxRecDepth 100000
set_option maxHeartbeats 400000
namespace Dl
open PySem PySem.Spec L2 Res
end Dl
set_option Elab.async false
set_option linter.all false
set_option maxRecDepth 100000
set_option maxHeartbeats 400000
namespace Dl
open PySem PySem.Spec L2 Res
end Dl
set_option Elab.async false
set_option linter.all false
set_option maxRecDepth 100000
set_option maxHeartbeats 400000
namespace Dl
open PySem PySem.Spec L2 Res
end Dl
set_option Elab.async false
set_option linter.all false
set_option maxRecDepth 100000
set_option maxHeartbeats 400000
namespace Dl
open PySem PySem.Spec L2 Res
end Dl
set_option Elab.async false
set_option linter.all false
set_option maxRecDepth 100000
set_option maxHeartbeats 400000
namespace Dl
open PySem PySem.Spec L2 Res
end Dl
set_option Elab.async false
set_option linter.all false
set_option maxRecDepth 100000
set_option maxHeartbeats 400000
namespace Dl
open PySem PySem.Spec L2 Res
end Dl
set_option Elab.async false
set_option linter.all false
set_option maxRecDepth 100000
set_option maxHeartbeats 400000
namespace Dl
open PySem PySem.Spec L2 Res
end Dl
set_option Elab.async false
set_option linter.all false
set_option maxRecDepth 100000
set_option maxHeartbeats 400000
namespace Dl
open PySem PySem.Spec L2 Res
end Dl
set_option Elab.async false
set_option linter.all false
set_option maxRecDepth 100000
set_option maxHeartbeats 400000
namespace Dl
open PySem PySem.Spec L2 Res
end Dl
set_option Elab.async false
set_option linter.all false
set_option maxRecDepth 100000
set_option maxHeartbeats 400000
namespace Dl
open PySem PySem.Spec L2 Res
end Dl
set_option Elab.async false
set_option linter.all false
set_option maxRecDepth 100000
set_option maxHeartbeats 400000
namespace Dl
open PySem PySem.Spec L2 Res
end Dl
set_option Elab.async false
set_option linter.all false
set_option maxRecDepth 100000
set_option maxHeartbeats 400000
namespace Dl
open PySem PySem.Spec L2 Res
end Dl
set_option Elab.async false
set_option linter.all false
set_option maxRecDepth 100000
set_option maxHeartbeats 400000
namespace Dl
open PySem PySem.Spec L2 Res
end Dl
set_option Elab.async false
set_option linter.all false
set_option maxRecDepth 100000
set_option maxHeartbeats 400000
namespace Dl
open PySem PySem.Spec L2 Res
end Dl
set_option Elab.async false
set_option linter.all false
set_option maxRecDepth 100000
set_option maxHeartbeats 400000
namespace Dl
open PySem PySem.Spec L2 Res
end Dl
set_option Elab.async false
set_option linter.all false
set_option maxRecDepth 100000
set_option maxHeartbeats 400000
namespace Dl
open PySem PySem.Spec L2 Res
end Dl
set_option Elab.async false
set_option linter.all false
set_option maxRecDepth 100000
set_option maxHeartbeats 400000
namespace Dl
open PySem PySem.Spec L2 Res
end Dl
set_option Elab.async false
set_option linter.all false
set_option maxRecDepth 100000
set_option maxHeartbeats 400000
namespace Dl
open PySem PySem.Spec L2 Res
end Dl
set_option Elab.async false
set_option linter.all false
set_option maxRecDepth 100000
set_option maxHeartbeats 400000
namespace Dl
open PySem PySem.Spec L2 Res
end Dl
set_option Elab.async false
set_option linter.all false
set_option maxRecDepth 100000
set_option maxHeartbeats 400000
namespace Dl
open PySem PySem.Spec L2 Res
end Dl
set_option Elab.async false
set_option linter.all false
set_option maxRecDepth 100000
set_option maxHeartbeats 400000
namespace Dl
open PySem PySem.Spec L2 Res
end Dl
set_option Elab.async false
set_option linter.all false
set_option maxRecDepth 100000
set_option maxHeartbeats 400000
namespace Dl
open PySem PySem.Spec L2 Res
end Dl
set_option Elab.async false
set_option linter.all false
set_option maxRecDepth 100000
set_option maxHeartbeats 400000
namespace Dl
open PySem PySem.Spec L2 Res
end Dl
set_option Elab.async false
set_option linter.all false
set_option maxRecDepth 100000
set_option maxHeartbeats 400000
namespace Dl
open PySem PySem.Spec L2 Res
end Dl
set_option Elab.async false
set_option linter.all false
set_option maxRecDepth 100000
set_option maxHeartbeats 400000
namespace Dl
open PySem PySem.Spec L2 Res
end Dl
set_option Elab.async false
set_option linter.all false
set_option maxRecDepth 100000
set_option maxHeartbeats 400000
namespace Dl
open PySem PySem.Spec L2 Res
end Dl
set_option Elab.async false
set_option linter.all false
set_option maxRecDepth 100000
set_option maxHeartbeats 400000
namespace Dl
open PySem PySem.Spec L2 Res
end Dl
set_option Elab.async false
set_option linter.all false
set_option maxRecDepth 100000
set_option maxHeartbeats 400000
namespace Dl
open PySem PySem.Spec L2 Res
end Dl
set_option Elab.async false
set_option linter.all false
set_option maxRecDepth 100000
set_option maxHeartbeats 400000
namespace Dl
def sg (x : Nat) : Prop := x ≠ 46 ∧ x ≠ 48
end Dl
set_option Elab.async false
set_option linter.all false
set_option maxRecDepth 100000
set_option maxHeartbeats 400000
namespace Dl
/-- is cell i written -/
def mkB (a : List Nat) (i : Nat) : Bool := match a[i]? with
  | some x => x != 46
  | none => false
end Dl
set_option Elab.async false
set_option linter.all false
set_option maxRecDepth 100000
set_option maxHeartbeats 400000
namespace Dl
open PySem PySem.Spec L2 Res
end Dl
set_option Elab.async false
set_option linter.all false
set_option maxRecDepth 100000
set_option maxHeartbeats 400000
namespace Dl
open PySem PySem.Spec L2 Res
end Dl
set_option Elab.async false
set_option linter.all false
set_option maxRecDepth 100000
set_option maxHeartbeats 400000
namespace Dl
end Dl
set_option Elab.async false
set_option linter.all false
set_option maxRecDepth 100000
set_option maxHeartbeats 400000
namespace Dl
open PySem PySem.Spec L2 Res
def inB (sg : List Nat) (p : Nat × Nat) : Bool := sg.any fun j => decide (p.1 ≤ j) && decide (j < p.2)
end Dl
namespace Dl
open PySem PySem.Spec L2 Res
end Dl
namespace Dl
open PySem PySem.Spec L2 Res
end Dl
set_option Elab.async false
set_option linter.all false
set_option maxRecDepth 100000
set_option maxHeartbeats 4000000
set_option Elab.async false
set_option linter.all false
set_option maxRecDepth 100000
set_option maxHeartbeats 4000000
set_option Elab.async false
set_option linter.all false
set_option exponentiation.threshold 4000
set_option maxRecDepth 100000
set_option maxHeartbeats 1000000
set_option Elab.async false
set_option linter.all false
set_option exponentiation.threshold 4000
set_option maxRecDepth 100000
set_option maxHeartbeats 1000000
set_option Elab.async false
set_option linter.all false
set_option exponentiation.threshold 4000
set_option maxRecDepth 100000
set_option maxHeartbeats 1000000
set_option Elab.async false
set_option linter.all false
set_option exponentiation.threshold 4000
set_option maxRecDepth 100000
set_option maxHeartbeats 1000000
set_option Elab.async false
set_option linter.all false
set_option exponentiation.threshold 4000
set_option maxRecDepth 100000
set_option maxHeartbeats 1000000
set_option Elab.async false
set_option linter.all false
set_option exponentiation.threshold 4000
set_option maxRecDepth 100000
set_option maxHeartbeats 1000000
set_option Elab.async false
set_option linter.all false
set_option maxRecDepth 100000
set_option maxHeartbeats 4000000
namespace Dl
open PySem PySem.Spec L2 PyProof.Rows
theorem tup_mul_same (l : Addr) (items : Array Value) (n : Nat) (dd : Option Addr) (sl : Array (Option Value)) (x : Int) (u : Tok) (c0 : (decide (x < -(2 ^ 63)) || decide (x ≥ 2 ^ 63)) = false) (c1 : (items.isEmpty || x == 1) = true) :
    Meets (Builtin.«tuple.__mul__» ⟨[.ref l, .int x u], []⟩) (fun _ R s => s.heap.get? l = some { cls := .type "tuple", dict := dd, data := .seq items n, slots := sl } ∧ R (.ok (.ret (Value.ref l))) s) :=
  .of_wp fun prog w A R s h => by
    obtain ⟨hp, g, d, tk, os⟩ := s
    obtain ⟨hl, h⟩ := h
    have f1 := AutoSeq1.idx_int
    wp_walk using wpAny_loadPart' hl
    repeat (first
      | (refine wpAny_ite_false (decide_eq_false (by rw [c0]; exact Bool.false_ne_true)) ?_; wp_walk using wpAny_loadPart' hl)
      | (refine wpAny_ite_true (decide_eq_true c1) ?_; wp_walk using wpAny_loadPart' hl))
    exact ⟨_, rfl, h⟩
theorem tup_mul_none (l : Addr) (items : Array Value) (n : Nat) (dd : Option Addr) (sl : Array (Option Value)) (x : Int) (u : Tok) (c0 : (decide (x < -(2 ^ 63)) || decide (x ≥ 2 ^ 63)) = false) (c1 : (items.isEmpty || x == 1) = false) (c2 : (decide (x ≤ 0) || items.isEmpty) = true) :
    Meets (Builtin.«tuple.__mul__» ⟨[.ref l, .int x u], []⟩) (fun _ R s => s.heap.get? l = some { cls := .type "tuple", dict := dd, data := .seq items n, slots := sl } ∧
      R (.ok (.ret (Value.ref s.heap.objs.size))) { s with heap := s.heap.push { cls := Value.type "tuple", data := Data.seq #[] }, toks := s.toks }) :=
  .of_wp fun prog w A R s h => by
    obtain ⟨hp, g, d, tk, os⟩ := s
    obtain ⟨hl, h⟩ := h
    have f1 := AutoSeq1.idx_int
    wp_walk using wpAny_loadPart' hl
    repeat (first
      | (refine wpAny_ite_false (decide_eq_false (by rw [c0]; exact Bool.false_ne_true)) ?_; wp_walk using wpAny_loadPart' hl)
      | (refine wpAny_ite_false (decide_eq_false (by rw [c1]; exact Bool.false_ne_true)) ?_; wp_walk using wpAny_loadPart' hl)
      | (refine wpAny_ite_true (decide_eq_true c2) ?_; wp_walk using wpAny_loadPart' hl))
    exact ⟨_, rfl, h⟩
def rRepA (K : PySem.W.Frag) : R2 := fun x y H Q => ∃ l k xs, x = .ref l ∧ y = .int k ∧ SqT K H l xs ∧ -(2 ^ 62) ≤ k ∧ k ≤ 1000 ∧ xs.length ≤ 1000 ∧ (xs = [] ∨ k = 1 → Q (.ref l) H) ∧
  (¬ (xs = [] ∨ k = 1) → ∀ p, H p = none → Q (.ref p) (upd H p (.tup (List.replicate k.toNat xs).flatten)))
section
variable {X : Cx}
theorem op_repA : OpR X (binaryOp .Mult) (rRepA X.K) := by
  intro pins s σ H x y v u Q I rx ry h
  obtain ⟨l, k, xs, rfl, rfl, hT, h1, h2, hz, q1, q2⟩ := h
  by_cases hk : ¬ (xs = [] ∨ k = 1) ∧ 2 ≤ k
  · exact op_repT pins s σ H _ _ v u Q I rx ry ⟨l, k, xs, rfl, rfl, hT, fun e => hk.1 (.inl e), hk.2, h2, hz, q2 hk.1⟩
  cases rx
  obtain ⟨t, rfl⟩ := ry
  obtain ⟨its, r, ⟨⟨cls, dd, data, sl⟩, ho, hc, n, hd⟩, hs⟩ := I.tuple hT
  simp only at hc hd
  subst hc hd
  have hle : its.length = xs.length := r.length.symm
  have hi : its.toArray.isEmpty = decide (xs = []) := by
    cases its with
    | nil =>
      have : xs = [] := List.eq_nil_of_length_eq_zero hle.symm
      subst this
      rfl
    | cons a b =>
      cases xs with
      | nil => cases hle
      | cons c d => rfl
  have c0 : (decide (k < -(2 ^ 63)) || decide (k ≥ 2 ^ 63)) = false := by
    rw [decide_eq_false (by omega), decide_eq_false (by omega)] <;> rfl
  by_cases e : xs = [] ∨ k = 1
  · have c1 : (its.toArray.isEmpty || k == 1) = true := by
      rw [hi]
      rcases e with e | e
      · rw [decide_eq_true e] <;> rfl
      · rw [e, Bool.or_eq_true] <;> exact .inr rfl
    exact wpAny_binaryOp_repeat_ref (T := "tuple") (U := "int") (by decide) ⟨_, ho, rfl⟩ (fun s' => typeIs_int s' k t) noFill_tuple_mul F.fills_int_mul F.slot_int_rmul repeat_tuple F.slot_int_index.lookup
      (call_meets F.slot_int_rmul (typeIs_int s k t) F.entry_int_rmul (F.args_int_rmul_2 _ _) (int_rmul_tuple k t l its.toArray n dd sl)
        ⟨ho, rfl, ⟨_, ho, rfl⟩, call_meets F.slot_tuple_mul ⟨_, ho, rfl⟩ F.entry_tuple_mul (F.args_tuple_mul_2 _ _) (tup_mul_same l its.toArray n dd sl k t c0 c1) ⟨ho, .ref l, H, I, rfl, q1 e⟩⟩)
  · have k0 : k ≤ 0 := by
      apply Classical.byContradiction
      intro z
      exact hk ⟨e, by have : k ≠ 1 := fun w => e (.inr w); omega⟩
    have c1 : (its.toArray.isEmpty || k == 1) = false := by
      rw [hi, decide_eq_false (fun w => e (.inl w)), Bool.false_or]
      exact beq_eq_false_iff_ne.mpr (by omega)
    have c2 : (decide (k ≤ 0) || its.toArray.isEmpty) = true := by rw [decide_eq_true k0] <;> rfl
    have e0 : k.toNat = 0 := by omega
    have q3 := q2 e
    rw [e0] at q3
    refine wpAny_binaryOp_repeat_ref (T := "tuple") (U := "int") (by decide) ⟨_, ho, rfl⟩ (fun s' => typeIs_int s' k t) noFill_tuple_mul F.fills_int_mul F.slot_int_rmul repeat_tuple F.slot_int_index.lookup
      (call_meets F.slot_int_rmul (typeIs_int s k t) F.entry_int_rmul (F.args_int_rmul_2 _ _) (int_rmul_tuple k t l its.toArray n dd sl)
        ⟨ho, rfl, ⟨_, ho, rfl⟩, call_meets F.slot_tuple_mul ⟨_, ho, rfl⟩ F.entry_tuple_mul (F.args_tuple_mul_2 _ _) (tup_mul_none l its.toArray n dd sl k t c0 c1 c2) ⟨ho, ?_⟩⟩)
    refine ⟨.ref s.heap.objs.size, _, I.laid (t' := s.toks) (o := .tup []) (fun b ob q => Heap.get?_push_of_some _ q) (Nat.le_refl _) ?_, rfl, q3 _ (I.hok.fresh (Nat.le_refl _))⟩
    exact ⟨Nat.zero_le _, [], .nil, IsTup.new _ _⟩
end
end Dl
set_option Elab.async false
set_option linter.all false
set_option maxRecDepth 100000
set_option maxHeartbeats 4000000
namespace Dl
open PySem PySem.Spec L2
/-- a slot: empty or forgotten; a value; a list that this frame alone holds; an object that is being made -/
inductive Sl where
  | un | v (d : D) | own (xs : List D) | ini (c : Nat) (fs : List (Str × D)) | exc (c : Nat) (x : D) | dic (ks : List Key) (ds : List D)
def isOwn : Sl → Bool
  | .own _ => true
  | .ini _ _ => true
  | .dic _ _ => true
  | _ => false
section
variable (K : PySem.W.Frag) (ct : CT) (H : Hp) (O : Addr → Prop)
end
/-- what may change: lists and objects of O -/
def Mutb : HO → Prop
  | .lst _ => True
  | .ins _ _ _ => True
  | .dK _ => True
  | .ext _ => True
  | _ => False
def Chg (O : Addr → Prop) (H H' : Hp) : Prop := ∀ b o, H b = some o → H' b = some o ∨ (O b ∧ Mutb o)
theorem Chg.of {O : Addr → Prop} {H H' : Hp} (e : Same H H') : Chg O H H' := fun b o h => .inl (e b o h)
section
variable {K : PySem.W.Frag} {ct : CT} {H H' : Hp} {O O' : Addr → Prop}
theorem Chg.lat {a : Addr} {vs : List V} (c : Chg O H H') (h : LAt K H O a vs) : LAt K H' O a vs := by
  rcases h with ⟨n, h⟩ | h
  · refine .inl ⟨n, ?_⟩
    rcases h with h | ⟨o, h⟩
    · rcases c a _ h with z | ⟨z, _⟩
      · exact .inl z
      · exact absurd z n
    · rcases c a _ h with z | ⟨z, _⟩
      · exact .inr ⟨o, z⟩
      · exact absurd z n
  · exact .inr h
theorem Chg.sqt {a : Addr} {vs : List V} (c : Chg O H H') (h : SqT K H a vs) : SqT K H' a vs := by
  rcases h with h | h
  · rcases h with h | ⟨o, h⟩
    · rcases c a _ h with z | ⟨_, z⟩
      · exact .inl (.inl z)
      · exact z.elim
    · rcases c a _ h with z | ⟨_, z⟩
      · exact .inl (.inr ⟨o, z⟩)
      · exact z.elim
  · exact .inr h
theorem TabE.chg (c : Chg O H H') {p : List Int × Int} {e : DictEntry} (h : TabE K H p e) : TabE K H' p e :=
  let ⟨h1, q, t, h2, h3, h4⟩ := h
  ⟨h1, q, t, h2, c.sqt h3, h4⟩
theorem TokAt.chg (c : Chg O H H') {k : Nat} {a : Addr} (n : ¬ O a) (h : TokAt K ct H k a) : TokAt K ct H' k a := by
  unfold TokAt at h ⊢
  split
  · rename_i z
    rw [if_pos z] at h
    obtain ⟨es, ep, l, r, r2⟩ := h
    refine ⟨es, ep, ?_, L2.Paired.mapP r (fun p e q => TabE.chg c q), r2⟩
    rcases c a _ l with z | ⟨z, _⟩
    · exact z
    · exact absurd z n
  · rename_i z
    rw [if_neg z] at h
    rcases c a _ h with z | ⟨z, _⟩
    · exact z
    · exact absurd z n
theorem TokAt.ex {k : Nat} {a : Addr} (h : TokAt K ct H k a) : ∃ o, H a = some o := by
  unfold TokAt at h
  split at h
  · obtain ⟨es, ep, l, _⟩ := h
    exact ⟨_, l⟩
  · exact ⟨_, h⟩
mutual
theorem Rep.chg (c : Chg O H H') : ∀ {d : D} {v : V}, Rep K ct H O d v → Rep K ct H' O d v
  | .non, v, h => by simp only [Rep] at h ⊢; exact h
  | .bl b, v, h => by simp only [Rep] at h ⊢; exact h
  | .int i, v, h => by simp only [Rep] at h ⊢; exact h
  | .str x, v, h => by simp only [Rep] at h ⊢; exact h
  | .ty n, v, h => by simp only [Rep] at h ⊢; exact h
  | .cls n, v, h => by simp only [Rep] at h ⊢; exact h
  | .lst xs, v, h => by
    simp only [Rep] at h ⊢
    obtain ⟨a, vs, e, n, l, r⟩ := h
    refine ⟨a, vs, e, n, ?_, RepL.chg c r⟩
    rcases c a _ l with z | ⟨z, _⟩
    · exact z
    · exact absurd z n
  | .scr ns, v, h => by
    simp only [Rep] at h ⊢
    obtain ⟨a, e, l⟩ := h
    exact ⟨a, e, c.lat l⟩
  | .tup xs, v, h => by
    simp only [Rep] at h ⊢
    obtain ⟨a, vs, e, l, r⟩ := h
    exact ⟨a, vs, e, c.sqt l, RepL.chg c r⟩
  | .obj k fs, v, h => by
    simp only [Rep] at h ⊢
    obtain ⟨a, dx, vs, e, n, l, hl, r⟩ := h
    refine ⟨a, dx, vs, e, n, ?_, hl, RepL.chg c r⟩
    rcases c a _ l with z | ⟨z, _⟩
    · exact z
    · exact absurd z n
  | .tok k, v, h => by
    simp only [Rep] at h ⊢
    obtain ⟨a, e, n, l⟩ := h
    exact ⟨a, e, n, l.chg c n⟩
  | .ref a, v, h => by simp only [Rep] at h ⊢; exact h
  | .dic ks xs, v, h => by
    simp only [Rep] at h ⊢
    obtain ⟨a, vs, e, n, l, hl, r⟩ := h
    refine ⟨a, vs, e, n, ?_, hl, RepL.chg c r⟩
    rcases c a _ l with z | ⟨z, _⟩
    · exact z
    · exact absurd z n
theorem RepL.chg (c : Chg O H H') : ∀ {ds : List D} {vs : List V}, RepL K ct H O ds vs → RepL K ct H' O ds vs
  | [], vs, h => by simp only [RepL] at h ⊢; exact h
  | d :: ds, vs, h => by
    simp only [RepL] at h ⊢
    obtain ⟨v, r, e, h1, h2⟩ := h
    exact ⟨v, r, e, Rep.chg c h1, RepL.chg c h2⟩
end
/-- another set of what may change -/
theorem LAt.to {a : Addr} {vs : List V} (h : LAt K H O a vs) (c : ∀ b, ¬ O b → (∃ o, H b = some o) → ¬ O' b) : LAt K H O' a vs := by
  rcases h with ⟨n, h⟩ | h
  · refine .inl ⟨c a n ?_, h⟩
    rcases h with h | ⟨o, h⟩
    · exact ⟨_, h⟩
    · exact ⟨_, h⟩
  · exact .inr h
mutual
theorem Rep.to (c : ∀ b, ¬ O b → (∃ o, H b = some o) → ¬ O' b) : ∀ {d : D} {v : V}, Rep K ct H O d v → Rep K ct H O' d v
  | .non, v, h => by simp only [Rep] at h ⊢; exact h
  | .bl b, v, h => by simp only [Rep] at h ⊢; exact h
  | .int i, v, h => by simp only [Rep] at h ⊢; exact h
  | .str x, v, h => by simp only [Rep] at h ⊢; exact h
  | .ty n, v, h => by simp only [Rep] at h ⊢; exact h
  | .cls n, v, h => by simp only [Rep] at h ⊢; exact h
  | .lst xs, v, h => by
    simp only [Rep] at h ⊢
    obtain ⟨a, vs, e, n, l, r⟩ := h
    exact ⟨a, vs, e, c a n ⟨_, l⟩, l, RepL.to c r⟩
  | .scr ns, v, h => by
    simp only [Rep] at h ⊢
    obtain ⟨a, e, l⟩ := h
    exact ⟨a, e, l.to c⟩
  | .tup xs, v, h => by
    simp only [Rep] at h ⊢
    obtain ⟨a, vs, e, l, r⟩ := h
    exact ⟨a, vs, e, l, RepL.to c r⟩
  | .obj k fs, v, h => by
    simp only [Rep] at h ⊢
    obtain ⟨a, dx, vs, e, n, l, hl, r⟩ := h
    exact ⟨a, dx, vs, e, c a n ⟨_, l⟩, l, hl, RepL.to c r⟩
  | .tok k, v, h => by
    simp only [Rep] at h ⊢
    obtain ⟨a, e, n, l⟩ := h
    exact ⟨a, e, c a n l.ex, l⟩
  | .ref a, v, h => by simp only [Rep] at h ⊢; exact h
  | .dic ks xs, v, h => by
    simp only [Rep] at h ⊢
    obtain ⟨a, vs, e, n, l, hl, r⟩ := h
    exact ⟨a, vs, e, c a n ⟨_, l⟩, l, hl, RepL.to c r⟩
theorem RepL.to (c : ∀ b, ¬ O b → (∃ o, H b = some o) → ¬ O' b) : ∀ {ds : List D} {vs : List V}, RepL K ct H O ds vs → RepL K ct H O' ds vs
  | [], vs, h => by simp only [RepL] at h ⊢; exact h
  | d :: ds, vs, h => by
    simp only [RepL] at h ⊢
    obtain ⟨v, r, e, h1, h2⟩ := h
    exact ⟨v, r, e, Rep.to c h1, RepL.to c h2⟩
end
theorem Rep.same (c : Same H H') {d : D} {v : V} (h : Rep K ct H O d v) : Rep K ct H' O d v := Rep.chg (Chg.of c) h
theorem RepL.same (c : Same H H') {d : List D} {v : List V} (h : RepL K ct H O d v) : RepL K ct H' O d v := RepL.chg (Chg.of c) h
theorem Rep.less (c : ∀ b, O' b → O b) {d : D} {v : V} (h : Rep K ct H O d v) : Rep K ct H O' d v := Rep.to (fun b n _ z => n (c b z)) h
theorem RepL.less (c : ∀ b, O' b → O b) {d : List D} {v : List V} (h : RepL K ct H O d v) : RepL K ct H O' d v := RepL.to (fun b n _ z => n (c b z)) h
/-- a new address may change -/
theorem RepL.fresh {p : Addr} (hp : H p = none) (c : ∀ b, O' b → O b ∨ b = p) {d : List D} {v : List V} (h : RepL K ct H O d v) : RepL K ct H O' d v := RepL.to (fun b n ⟨o, e⟩ z => by
  rcases c b z with z | z
  · exact n z
  · rw [z, hp] at e
    cases e) h
theorem Rep.fresh {p : Addr} (hp : H p = none) (c : ∀ b, O' b → O b ∨ b = p) {d : D} {v : V} (h : Rep K ct H O d v) : Rep K ct H O' d v := Rep.to (fun b n ⟨o, e⟩ z => by
  rcases c b z with z | z
  · exact n z
  · rw [z, hp] at e
    cases e) h
theorem RepL.nil : RepL K ct H O [] [] := by simp only [RepL]
theorem RepL.cons {d : D} {v : V} {ds : List D} {vs : List V} (h : Rep K ct H O d v) (r : RepL K ct H O ds vs) : RepL K ct H O (d :: ds) (v :: vs) := by
  simp only [RepL]
  exact ⟨v, vs, rfl, h, r⟩
theorem RepL.cons_inv {d : D} {ds : List D} {vs : List V} (h : RepL K ct H O (d :: ds) vs) : ∃ v r, vs = v :: r ∧ Rep K ct H O d v ∧ RepL K ct H O ds r := by
  simp only [RepL] at h
  exact h
theorem RepL.app : ∀ {ds es : List D} {vs us : List V}, RepL K ct H O ds vs → RepL K ct H O es us → RepL K ct H O (ds ++ es) (vs ++ us)
  | [], es, vs, us, h, r => by simp only [RepL] at h; subst h; exact r
  | d :: ds, es, vs, us, h, r => by
    obtain ⟨v, q, e, h1, h2⟩ := h.cons_inv
    subst e
    exact RepL.cons h1 (RepL.app h2 r)
theorem RepL.get : ∀ {ds : List D} {vs : List V} {i : Nat} {d : D}, RepL K ct H O ds vs → ds[i]? = some d → ∃ v, vs[i]? = some v ∧ Rep K ct H O d v
  | [], _, _, _, _, e => by simp at e
  | d :: ds, vs, 0, x, h, e => by
    obtain ⟨v, q, e2, h1, h2⟩ := h.cons_inv
    subst e2
    simp at e
    subst e
    exact ⟨v, rfl, h1⟩
  | d :: ds, vs, i + 1, x, h, e => by
    obtain ⟨v, q, e2, h1, h2⟩ := h.cons_inv
    subst e2
    obtain ⟨u, a, b⟩ := RepL.get (i := i) h2 (by simpa using e)
    exact ⟨u, by simpa using a, b⟩
theorem RepL.getV : ∀ {ds : List D} {vs : List V} {i : Nat} {v : V}, RepL K ct H O ds vs → vs[i]? = some v → ∃ d, ds[i]? = some d ∧ Rep K ct H O d v
  | [], vs, i, v, h, e => by simp only [RepL] at h; subst h; simp at e
  | d :: ds, vs, 0, x, h, e => by
    obtain ⟨v, q, e2, h1, h2⟩ := h.cons_inv
    subst e2
    simp at e
    subst e
    exact ⟨d, rfl, h1⟩
  | d :: ds, vs, i + 1, x, h, e => by
    obtain ⟨v, q, e2, h1, h2⟩ := h.cons_inv
    subst e2
    obtain ⟨u, a, b⟩ := RepL.getV (i := i) h2 (by simpa using e)
    exact ⟨u, by simpa using a, b⟩
end
/-- an exception of the own class number c, its field x -/
def ExcAt (K : PySem.W.Frag) (ct : CT) (H : Hp) (O : Addr → Prop) (c : Nat) (x : D) (cls : Value) (dd : Option Addr) : Prop :=
  cls = .ref (ct.addr c) ∧ ∃ d v, dd = some d ∧ H d = some (.xd ((ct.names c).zip [v])) ∧ Rep K ct H O x v
section
variable {K : PySem.W.Frag} {ct : CT} {H H' : Hp} {O O' : Addr → Prop} {c : Nat} {x : D} {cls : Value} {dd : Option Addr}
theorem ExcAt.chg (h : ExcAt K ct H O c x cls dd) (g : Chg O H H') : ExcAt K ct H' O c x cls dd := by
  obtain ⟨e, d, v, e2, e3, r⟩ := h
  refine ⟨e, d, v, e2, ?_, r.chg g⟩
  rcases g d _ e3 with z | ⟨_, z⟩
  · exact z
  · exact z.elim
theorem ExcAt.same (h : ExcAt K ct H O c x cls dd) (g : Same H H') : ExcAt K ct H' O c x cls dd := h.chg (Chg.of g)
theorem ExcAt.less (h : ExcAt K ct H O c x cls dd) (l : ∀ b, O' b → O b) : ExcAt K ct H O' c x cls dd := by
  obtain ⟨e, d, v, e2, e3, r⟩ := h
  exact ⟨e, d, v, e2, e3, r.less l⟩
theorem ExcAt.fresh {p : Addr} (h : ExcAt K ct H O c x cls dd) (hp : H p = none) (l : ∀ b, O' b → O b ∨ b = p) : ExcAt K ct H O' c x cls dd := by
  obtain ⟨e, d, v, e2, e3, r⟩ := h
  exact ⟨e, d, v, e2, e3, r.fresh hp l⟩
end
def CT.w (ct : CT) (g : Gh) : CT := { ct with gh := g }
section
variable {K : PySem.W.Frag} {ct : CT} {H : Hp} {O : Addr → Prop} {g : Gh}
mutual
theorem Rep.w : ∀ {d : D} {v : V}, Rep K (ct.w g) H O d v ↔ Rep K ct H O d v
  | .non, v => by simp only [Rep]
  | .bl b, v => by simp only [Rep]
  | .int i, v => by simp only [Rep]
  | .str x, v => by simp only [Rep]
  | .ty n, v => by simp only [Rep]
  | .cls n, v => by simp only [Rep]; exact Iff.rfl
  | .lst xs, v => by
    simp only [Rep]
    exact ⟨fun ⟨a, vs, e, n, l, r⟩ => ⟨a, vs, e, n, l, RepL.w.mp r⟩, fun ⟨a, vs, e, n, l, r⟩ => ⟨a, vs, e, n, l, RepL.w.mpr r⟩⟩
  | .scr ns, v => by simp only [Rep]
  | .tup xs, v => by
    simp only [Rep]
    exact ⟨fun ⟨a, vs, e, l, r⟩ => ⟨a, vs, e, l, RepL.w.mp r⟩, fun ⟨a, vs, e, l, r⟩ => ⟨a, vs, e, l, RepL.w.mpr r⟩⟩
  | .obj k fs, v => by
    simp only [Rep]
    exact ⟨fun ⟨a, dx, vs, e, n, l, hl, r⟩ => ⟨a, dx, vs, e, n, l, hl, RepL.w.mp r⟩, fun ⟨a, dx, vs, e, n, l, hl, r⟩ => ⟨a, dx, vs, e, n, l, hl, RepL.w.mpr r⟩⟩
  | .tok k, v => by simp only [Rep]; exact Iff.rfl
  | .ref k, v => by simp only [Rep]
  | .dic ks xs, v => by
    simp only [Rep]
    exact ⟨fun ⟨a, vs, e, n, l, hl, r⟩ => ⟨a, vs, e, n, l, hl, RepL.w.mp r⟩, fun ⟨a, vs, e, n, l, hl, r⟩ => ⟨a, vs, e, n, l, hl, RepL.w.mpr r⟩⟩
theorem RepL.w : ∀ {ds : List D} {vs : List V}, RepL K (ct.w g) H O ds vs ↔ RepL K ct H O ds vs
  | [], vs => by simp only [RepL]
  | d :: ds, vs => by
    simp only [RepL]
    exact ⟨fun ⟨v, r, e, h1, h2⟩ => ⟨v, r, e, Rep.w.mp h1, RepL.w.mp h2⟩, fun ⟨v, r, e, h1, h2⟩ => ⟨v, r, e, Rep.w.mpr h1, RepL.w.mpr h2⟩⟩
end
theorem ExcAt.w {c : Nat} {x : D} {cls : Value} {dd : Option Addr} : ExcAt K (ct.w g) H O c x cls dd ↔ ExcAt K ct H O c x cls dd :=
  ⟨fun ⟨e, d, v, e2, e3, r⟩ => ⟨e, d, v, e2, e3, Rep.w.mp r⟩, fun ⟨e, d, v, e2, e3, r⟩ => ⟨e, d, v, e2, e3, Rep.w.mpr r⟩⟩
end
section
variable (K : PySem.W.Frag) (ct : CT) (H : Hp) (O : Addr → Prop)
def SlOk (a : Addr) : Sl → Option V → Prop
  | .un, _ => True
  | .v d, o => ∃ v, o = some v ∧ Rep K ct H O d v
  | .own xs, o => o = some (.ref a) ∧ O a ∧ ∃ vs, H a = some (.lst vs) ∧ RepL K ct H O xs vs
  | .ini c fs, o => o = some (.ref a) ∧ O a ∧ a = ct.gh.slf ∧ ∃ vs, H a = some (.ins (ct.addr c) ct.gh.sdx ((fs.map (·.1)).zip vs)) ∧ RepL K ct H O (fs.map (·.2)) vs
  | .exc c x, o => o = some (.ref ct.gh.exA) ∧ ExcAt K ct H O c x ct.gh.exC ct.gh.exD
  | .dic ks ds, o => o = some (.ref a) ∧ O a ∧ ∃ vs, H a = some (.dK (ks.zip vs)) ∧ ks.length = vs.length ∧ RepL K ct H O ds vs
structure StE (f : Nat → Addr) (dσ : List Sl) (σ : St) : Prop where
  len : dσ.length = σ.length
  at_ : ∀ i s, dσ[i]? = some s → ∃ o, σ[i]? = some o ∧ SlOk K ct H O (f i) s o
  dom : ∀ a, O a → ∃ o, H a = some o
end
section
variable {K : PySem.W.Frag} {ct : CT} {H H' : Hp} {O O' : Addr → Prop} {f : Nat → Addr} {dσ : List Sl} {σ : St}
theorem SlOk.same {a : Addr} {s : Sl} {o : Option V} (c : Same H H') (h : SlOk K ct H O a s o) : SlOk K ct H' O a s o := by
  cases s with
  | un => trivial
  | v d =>
    obtain ⟨v, e, r⟩ := h
    exact ⟨v, e, r.same c⟩
  | own xs =>
    obtain ⟨e, n, vs, l, r⟩ := h
    exact ⟨e, n, vs, c _ _ l, r.same c⟩
  | ini k fs =>
    obtain ⟨e, n, ea, vs, l, r⟩ := h
    exact ⟨e, n, ea, vs, c _ _ l, r.same c⟩
  | exc k x => exact ⟨h.1, h.2.same c⟩
  | dic ks xs =>
    obtain ⟨e, n, vs, l, hl, r⟩ := h
    exact ⟨e, n, vs, c _ _ l, hl, r.same c⟩
theorem StE.same (c : Same H H') (h : StE K ct H O f dσ σ) : StE K ct H' O f dσ σ :=
  ⟨h.len, fun i s e => by
    obtain ⟨o, a, b⟩ := h.at_ i s e
    exact ⟨o, a, b.same c⟩, fun a z => by
    obtain ⟨o, e⟩ := h.dom a z
    exact ⟨o, c a o e⟩⟩
theorem StE.var (h : StE K ct H O f dσ σ) {i : Nat} {d : D} (e : dσ[i]? = some (.v d)) : ∃ v, σ[i]? = some (some v) ∧ Rep K ct H O d v := by
  obtain ⟨o, a, v, b, r⟩ := h.at_ i _ e
  subst b
  exact ⟨v, a, r⟩
end
abbrev QX := Nat → D → Prop
abbrev TD := List Sl → (D → Prop) → QX → Prop
abbrev TDT := List Sl → (Bool → Prop) → QX → Prop
abbrev TDA := List Sl → (List D → Prop) → QX → Prop
section
variable (K : PySem.W.Frag) (ct : CT) (W : WX)
def KE (H : Hp) (O : Addr → Prop) (σ : St) (QE : QX) : Prop := ∀ c x cls dd H', Same H H' → ExcAt K ct H' O c x cls dd → QE c x → W cls dd σ H'
def liftE (td : TD) : TE := fun σ H Q => ∃ O f dσ QD QE, StE K ct H O f dσ σ ∧ td dσ QD QE ∧ (∀ v d H', Same H H' → Rep K ct H' O d v → QD d → Q v H') ∧ KE K ct W H O σ QE
def liftT (td : TDT) : TT := fun σ H Q => ∃ O f dσ QD QE, StE K ct H O f dσ σ ∧ td dσ QD QE ∧ (∀ b H', Same H H' → QD b → Q b H') ∧ KE K ct W H O σ QE
def liftA (td : TDA) : TA := fun σ H Q => ∃ O f dσ QD QE, StE K ct H O f dσ σ ∧ td dσ QD QE ∧ (∀ vs ds H', Same H H' → RepL K ct H' O ds vs → QD ds → Q vs H') ∧ KE K ct W H O σ QE
end
theorem KE.same {K : PySem.W.Frag} {ct : CT} {W : WX} {H H' : Hp} {O : Addr → Prop} {σ : St} {QE : QX} (c : Same H H') (h : KE K ct W H O σ QE) : KE K ct W H' O σ QE := fun k x cls dd H2 e => h k x cls dd H2 (c.trans e)
section
variable (X : Cx) (ct : CT) (W : WX)
def DE (e : Expr) (td : TD) : Prop := PE X e (liftE X.K ct W td)
def DT (e : Expr) (td : TDT) : Prop := PT X e (liftT X.K ct W td)
def DW (e : Expr) (td : TDT) : Prop := PW X e (liftT X.K ct W td)
def DA (es : List Expr) (td : TDA) : Prop := PA X es (liftA X.K ct W td)
end
theorem PE.imp {X : Cx} {e : Expr} {t t' : TE} (h : PE X e t) (c : ∀ σ H Q, t' σ H Q → t σ H Q) : PE X e t' := ⟨fun pins s σ H Q I q => h.run pins s σ H Q I (c _ _ _ q)⟩
theorem PT.imp {X : Cx} {e : Expr} {t t' : TT} (h : PT X e t) (c : ∀ σ H Q, t' σ H Q → t σ H Q) : PT X e t' := ⟨fun pins s σ H Q I q => h.run pins s σ H Q I (c _ _ _ q)⟩
theorem PW.imp {X : Cx} {e : Expr} {t t' : TT} (h : PW X e t) (c : ∀ σ H Q, t' σ H Q → t σ H Q) : PW X e t' := ⟨fun wh pins s σ H Q I q => h.run wh pins s σ H Q I (c _ _ _ q)⟩
theorem PA.imp {X : Cx} {es : List Expr} {t t' : TA} (h : PA X es t) (c : ∀ σ H Q, t' σ H Q → t σ H Q) : PA X es t' := ⟨fun pos pins s σ H Q I q => h.run pos pins s σ H Q I (c _ _ _ q)⟩
theorem PS.imp {X : Cx} {e : Stmt} {t t' : TS} (h : PS X e t) (c : ∀ D σ H, t' D σ H → t D σ H) : PS X e t' := ⟨fun pins s σ H D I q => h.run pins s σ H D I (c _ _ _ q)⟩
theorem PSs.imp {X : Cx} {e : List Stmt} {t t' : TS} (h : PSs X e t) (c : ∀ D σ H, t' D σ H → t D σ H) : PSs X e t' := ⟨fun pins s σ H D I q => h.run pins s σ H D I (c _ _ _ q)⟩
def dVar (i : Nat) : TD := fun s Q _ => match s[i]? with
  | some (.v d) => Q d
  | _ => False
def dC (d : D) : TD := fun _ Q _ => Q d
section
variable {X : Cx} {ct : CT} {W : WX} {e a b : Expr} {es : List Expr} {td ta tb : TD} {pos : Pos}
theorem de_v (i : Nat) {x : Str} (hN : X.N[i]? = some x := by rfl) (hv : Vis X.env.scope x := by first | exact Or.inl rfl | exact Or.inr (Or.inl rfl) | exact Or.inr (Or.inr rfl)) (hd : (x == ("__debug__" : Str)) = false := by decide)
    (hcd : (x == ("__classdict__" : Str)) = false := by decide) : DE X ct W (.Name x pos) (dVar i) := by
  refine PE.imp (pe_var hN hv hd hcd) fun σ H Q ⟨O, f, dσ, QD, QE, hs, h, k, _⟩ => ?_
  unfold dVar at h
  split at h
  · rename_i d e
    obtain ⟨v, e1, r⟩ := hs.var e
    exact ⟨v, e1, k v d H (Same.refl H) r h⟩
  · exact h.elim
theorem de_c {v : V} {d : D} (h : PE X e (tC v)) (r : ∀ H O, Rep X.K ct H O d v) : DE X ct W e (dC d) := by
  refine PE.imp h fun σ H Q ⟨O, f, dσ, QD, QE, hs, h, k, _⟩ => ?_
  exact k _ d H (Same.refl H) (r H O) h
theorem de_int {i : Int} {j} : DE X ct W (.Constant (.int i) j pos) (dC (.int i)) := de_c pe_int fun _ _ => by simp only [Rep]
theorem de_bl {i : Bool} {j} : DE X ct W (.Constant (.bool i) j pos) (dC (.bl i)) := de_c pe_bl fun _ _ => by simp only [Rep]
theorem de_non {j} : DE X ct W (.Constant .none j pos) (dC .non) := de_c pe_non fun _ _ => by simp only [Rep]
theorem de_str {x : Str} {j} : DE X ct W (.Constant (.str x) j pos) (dC (.str x)) := de_c pe_str fun _ _ => by simp only [Rep]
end
end Dl
set_option Elab.async false
set_option linter.all false
set_option maxRecDepth 100000
set_option maxHeartbeats 4000000
namespace Dl
open PySem PySem.Spec L2
def Dom (H : Hp) (O : Addr → Prop) : Prop := ∀ a, O a → ∃ o, H a = some o
abbrev O2 := D → D → (D → Prop) → Prop
section
variable (K : PySem.W.Frag) (ct : CT)
/-- an operation on values, by what it does with trees -/
def R2D (o : O2) : R2 := fun x y H Q => ∃ O dx dy QD, Dom H O ∧ Rep K ct H O dx x ∧ Rep K ct H O dy y ∧ o dx dy QD ∧ ∀ v d H', Same H H' → Rep K ct H' O d v → QD d → Q v H'
def RCD (c : List D → (D → Prop) → Prop) : List V → Hp → VK → Prop := fun xs H Q => ∃ O ds QD, Dom H O ∧ RepL K ct H O ds xs ∧ c ds QD ∧ ∀ v d H', Same H H' → Rep K ct H' O d v → QD d → Q v H'
end
theorem OpR.imp {X : Cx} {f : Value → Value → Sem Value} {r r' : R2} (h : OpR X f r) (c : ∀ x y H Q, r' x y H Q → r x y H Q) : OpR X f r' := fun pins s σ H x y v u Q I rx ry q => h pins s σ H x y v u Q I rx ry (c _ _ _ _ q)
theorem CallR.imp {X : Cx} {f : Value} {r r' : List V → Hp → VK → Prop} (h : CallR X f r) (c : ∀ xs H Q, r' xs H Q → r xs H Q) : CallR X f r' := fun pins s σ H vs us Q I rx q => h pins s σ H vs us Q I rx (c _ _ _ q)
section
variable {K : PySem.W.Frag} {ct : CT} {H H' : Hp} {O : Addr → Prop}
theorem rep_int {i : Int} {v : V} : Rep K ct H O (.int i) v ↔ v = .int i := by simp only [Rep]
theorem rep_bl {i : Bool} {v : V} : Rep K ct H O (.bl i) v ↔ v = .bl i := by simp only [Rep]
theorem rep_str {i : Str} {v : V} : Rep K ct H O (.str i) v ↔ v = .str i := by simp only [Rep]
theorem rep_non {v : V} : Rep K ct H O .non v ↔ v = .non := by simp only [Rep]
theorem rep_lst {xs : List D} {v : V} : Rep K ct H O (.lst xs) v ↔ ∃ a vs, v = .ref a ∧ ¬ O a ∧ H a = some (.lst vs) ∧ RepL K ct H O xs vs := by simp only [Rep]
theorem rep_tup {xs : List D} {v : V} : Rep K ct H O (.tup xs) v ↔ ∃ a vs, v = .ref a ∧ SqT K H a vs ∧ RepL K ct H O xs vs := by simp only [Rep]
theorem rep_scr {xs : List Int} {v : V} : Rep K ct H O (.scr xs) v ↔ ∃ a, v = .ref a ∧ LAt K H O a (xs.map V.int) := by simp only [Rep]
theorem rep_obj {c : Nat} {fs : List D} {v : V} : Rep K ct H O (.obj c fs) v ↔ ∃ a dx vs, v = .ref a ∧ ¬ O a ∧ H a = some (.ins (ct.addr c) dx ((ct.names c).zip vs)) ∧ vs.length = (ct.names c).length ∧ RepL K ct H O fs vs := by simp only [Rep]
theorem rep_tok {k : Nat} {v : V} (z : isTab k = false := by rfl) : Rep K ct H O (.tok k) v ↔ ∃ a, v = .ref a ∧ ¬ O a ∧ H a = some (ct.tok k a) := by
  simp only [Rep, TokAt, z, Bool.false_eq_true, if_false]
theorem rep_tab {k : Nat} {v : V} (z : isTab k = true) : Rep K ct H O (.tok k) v ↔ ∃ a, v = .ref a ∧ ¬ O a ∧ ∃ es ep, H a = some (tabO a es ep) ∧ Paired (TabE K H) (ct.tabl k) es.toList ∧ ((ct.tabl k).map (·.1)).Nodup ∧ (ct.tabl k).length ≤ sizeLine := by
  simp only [Rep, TokAt, z, if_true]
theorem rep_ref {a : Addr} {v : V} : Rep K ct H O (.ref a) v ↔ v = .ref a := by simp only [Rep]
theorem rep_dic {ks : List Key} {xs : List D} {v : V} : Rep K ct H O (.dic ks xs) v ↔ ∃ a vs, v = .ref a ∧ ¬ O a ∧ H a = some (.dK (ks.zip vs)) ∧ ks.length = vs.length ∧ RepL K ct H O xs vs := by simp only [Rep]
theorem rep_cls {k : Nat} {v : V} : Rep K ct H O (.cls k) v ↔ v = .ref (ct.addr k) := by simp only [Rep]
theorem LAt.sq {a : Addr} {vs : List V} (h : LAt K H O a vs) : SqL K H a vs := by
  rcases h with ⟨_, h⟩ | h
  · exact .inl h
  · exact .inr h
theorem same_new {p : Addr} {o : HO} (hp : H p = none) : Same H (upd H p o) := fun a u e => by
  rw [upd_ne (ne_of_none e hp)]
  exact e
/-- a new list of these -/
theorem new_lst {p : Addr} {vs : List V} {ds : List D} (hp : H p = none) (dm : Dom H O) (r : RepL K ct H O ds vs) : Rep K ct (upd H p (.lst vs)) O (.lst ds) (.ref p) :=
  rep_lst.mpr ⟨p, vs, rfl, (fun z => by
    obtain ⟨o, e⟩ := dm p z
    rw [hp] at e
    cases e), upd_same, r.same (same_new hp)⟩
theorem new_tup {p : Addr} {vs : List V} {ds : List D} (hp : H p = none) (r : RepL K ct H O ds vs) : Rep K ct (upd H p (.tup vs)) O (.tup ds) (.ref p) :=
  rep_tup.mpr ⟨p, vs, rfl, SqT.of upd_same, r.same (same_new hp)⟩
theorem RepL.ints : ∀ {ns : List Int}, RepL K ct H O (ns.map D.int) (ns.map V.int)
  | [] => RepL.nil
  | n :: ns => RepL.cons (rep_int.mpr rfl) RepL.ints
theorem RepL.ints_inv : ∀ {ns : List Int} {vs : List V}, RepL K ct H O (ns.map D.int) vs → vs = ns.map V.int
  | [], vs, h => by simpa only [RepL, List.map] using h
  | n :: ns, vs, h => by
    obtain ⟨v, r, e, h1, h2⟩ := RepL.cons_inv (d := .int n) (ds := ns.map D.int) h
    rw [e, rep_int.mp h1, RepL.ints_inv h2]
    rfl
theorem RepL.bls_inv : ∀ {ns : List Bool} {vs : List V}, RepL K ct H O (ns.map D.bl) vs → vs = ns.map V.bl
  | [], vs, h => by simpa only [RepL, List.map] using h
  | n :: ns, vs, h => by
    obtain ⟨v, r, e, h1, h2⟩ := RepL.cons_inv (d := .bl n) (ds := ns.map D.bl) h
    rw [e, rep_bl.mp h1, RepL.bls_inv h2]
    rfl
theorem RepL.rep : ∀ {ds : List D} {vs : List V} (n : Nat), RepL K ct H O ds vs → RepL K ct H O (List.replicate n ds).flatten (List.replicate n vs).flatten
  | ds, vs, 0, h => RepL.nil
  | ds, vs, n + 1, h => by
    rw [List.replicate_succ, List.replicate_succ, List.flatten_cons, List.flatten_cons]
    exact RepL.app h (RepL.rep n h)
theorem RepL.drop : ∀ {ds : List D} {vs : List V} (n : Nat), RepL K ct H O ds vs → RepL K ct H O (ds.drop n) (vs.drop n)
  | ds, vs, 0, h => by simpa using h
  | [], vs, n + 1, h => by simp only [RepL] at h; subst h; exact RepL.nil
  | d :: ds, vs, n + 1, h => by
    obtain ⟨v, r, e, _, h2⟩ := h.cons_inv
    subst e
    exact RepL.drop n h2
theorem RepL.take : ∀ {ds : List D} {vs : List V} (n : Nat), RepL K ct H O ds vs → RepL K ct H O (ds.take n) (vs.take n)
  | ds, vs, 0, h => by simpa using RepL.nil
  | [], vs, n + 1, h => by simp only [RepL] at h; subst h; exact RepL.nil
  | d :: ds, vs, n + 1, h => by
    obtain ⟨v, r, e, h1, h2⟩ := h.cons_inv
    subst e
    exact RepL.cons h1 (RepL.take n h2)
end
def oAdd : O2
  | .int i, .int j, Q => Q (.int (i + j))
  | .str a, .str b, Q => a.length + b.length ≤ sizeLine ∧ Q (.str (a ++ b))
  | .lst a, .lst b, Q => a.length + b.length ≤ sizeLine ∧ Q (.lst (a ++ b))
  | .tup a, .tup b, Q => a.length + b.length ≤ sizeLine ∧ Q (.tup (a ++ b))
  | _, _, _ => False
def oSub : O2
  | .int i, .int j, Q => Q (.int (i - j))
  | _, _, _ => False
/-- a text n times -/
def strRep (x : Str) (n : Nat) : Str := ⟨(List.replicate n x.cps.toList).flatten.toArray⟩
def oMul : O2
  | .int i, .int j, Q => CMulX i j ∧ Q (.int (i * j))
  | .str x, .int n, Q => -(2 ^ 62) ≤ n ∧ x.length * n.toNat ≤ 10000000 ∧ n.toNat ≤ 10000000 ∧ Q (.str (strRep x n.toNat))
  | .lst a, .int n, Q => -(2 ^ 63) ≤ n ∧ n < 2 ^ 63 ∧ a.length * n.toNat ≤ sizeLine ∧ Q (.lst (List.replicate n.toNat a).flatten)
  | .tup a, .int n, Q => -(2 ^ 62) ≤ n ∧ n ≤ 1000 ∧ a.length ≤ 1000 ∧ Q (.tup (List.replicate n.toNat a).flatten)
  | _, _, _ => False
def oMod : O2
  | .int i, .int j, Q => 0 < j ∧ Q (.int (i % j))
  | _, _, _ => False
def oDiv : O2
  | .int i, .int j, Q => CDivW i j ∧ Q (.int (i / j))
  | _, _, _ => False
def oCmp (f : Int → Int → Bool) : O2
  | .int i, .int j, Q => Q (.bl (f i j))
  | _, _, _ => False
section
variable {X : Cx} {ct : CT}
theorem foldl_app (x : List Nat) : ∀ (n : Nat) (acc : List Nat), (List.replicate n x.toArray).foldl (· ++ ·) acc.toArray = (acc ++ (List.replicate n x).flatten).toArray
  | 0, acc => by simp
  | n + 1, acc => by
    rw [List.replicate_succ, List.foldl_cons, List.append_toArray, foldl_app x n, List.replicate_succ, List.flatten_cons, List.append_assoc]
theorem op_rep_str : OpR X (binaryOp .Mult) (fun x y H Q => ∃ a n, x = .str a ∧ y = .int n ∧ -(2 ^ 62) ≤ n ∧ a.length * n.toNat ≤ 10000000 ∧ n.toNat ≤ 10000000 ∧ Q (.str (strRep a n.toNat)) H) := by
  intro pins s σ H x y v u Q I rx ry h
  obtain ⟨a, n, rfl, rfl, h0, h1, h2, q⟩ := h
  obtain ⟨t, rfl⟩ := rx
  obtain ⟨t', rfl⟩ := ry
  have hn : n < 2 ^ 63 := by omega
  have ea : (⟨a.cps.toList.toArray⟩ : Str) = a := by cases a; simp
  have e3 : strRep a n.toNat = ⟨(List.replicate n.toNat a.cps).foldl (· ++ ·) #[]⟩ := by
    unfold strRep
    have z := foldl_app a.cps.toList n.toNat []
    simp only [Array.toArray_toList, List.nil_append] at z
    rw [← z]
  refine PySem.P.mul_str ?_ (fun _ _ => ?_) (fun _ _ => ?_) ?_
  · have c1 : decide (n < -(2 ^ 63 : Int)) = false := decide_eq_false (by omega)
    have c2 : decide (n ≥ (2 ^ 63 : Int)) = false := decide_eq_false (by omega)
    rw [c1, c2]
    rfl
  · rename_i g1 g2
    have hp : 0 < n := by omega
    have : (a.length : Int) * n ≤ 2 ^ 63 - 1 := by
      have e : ((a.length * n.toNat : Nat) : Int) = (a.length : Int) * n := by
        rw [Int.natCast_mul, Int.toNat_of_nonneg (by omega)]
      omega
    have := Int.le_ediv_of_mul_le hp this
    omega
  · unfold PySem.Builtin.Str.tooLong
    rw [decide_eq_false]
    rw [sizeLine_eq]
    omega
  · by_cases g1 : n < 1
    · rw [if_pos g1]
      have e0 : n.toNat = 0 := by omega
      have e : strRep a n.toNat = Str.empty := by rw [e0] <;> rfl
      rw [e] at q
      exact ⟨by decide, .str Str.empty, H, I.tok _, ⟨_, rfl⟩, q⟩
    · rw [if_neg g1]
      by_cases g2 : (n == 1 || a.length == 0) = true
      · rw [if_pos g2]
        have e : strRep a n.toNat = a := by
          rcases Bool.or_eq_true_iff.mp g2 with z | z
          · have e1 : n.toNat = 1 := by
              have := beq_iff_eq.mp z
              omega
            rw [e1]
            unfold strRep
            simp
          · have z' : a.length = 0 := beq_iff_eq.mp z
            have e2 : a.cps.toList = [] := by
              apply List.eq_nil_of_length_eq_zero
              rw [Array.length_toList]
              exact z'
            unfold strRep
            rw [e2]
            simp only [List.flatten_replicate_nil]
            rw [← ea, e2]
        rw [e] at q
        exact ⟨.str a, H, I, ⟨_, rfl⟩, q⟩
      · rw [if_neg g2, ← e3]
        refine ⟨?_, .str _, H, I.tok _, ⟨_, rfl⟩, q⟩
        show (strRep a n.toNat).cps.size ≤ sizeLine
        unfold strRep
        have e9 : ∀ (m : Nat) (l : List Nat), (List.replicate m l).flatten.length = m * l.length := fun m l => by simp
        rw [List.size_toArray, e9, Array.length_toList]
        have : n.toNat * a.cps.size = a.length * n.toNat := Nat.mul_comm _ _
        rw [sizeLine_eq]
        omega
theorem od_add : OpR X (binaryOp .Add) (R2D X.K ct oAdd) := by
  refine OpR.imp (((op_add.or op_add_str).or op_cat).or op_catA) fun x y H Q h => ?_
  obtain ⟨O, dx, dy, QD, dm, rx, ry, o, k⟩ := h
  unfold oAdd at o
  split at o
  · exact .inl (.inl (.inl ⟨_, _, rep_int.mp rx, rep_int.mp ry, k _ _ H (Same.refl H) (rep_int.mpr rfl) o⟩))
  · exact .inl (.inl (.inr ⟨_, _, rep_str.mp rx, rep_str.mp ry, o.1, k _ _ H (Same.refl H) (rep_str.mpr rfl) o.2⟩))
  · obtain ⟨a, vs, e, n, l, r⟩ := rep_lst.mp rx
    obtain ⟨b, us, e2, n2, l2, r2⟩ := rep_lst.mp ry
    exact .inl (.inr ⟨a, b, vs, us, e, e2, l, l2, by rw [r.length, r2.length]; exact o.1, fun p hp => k _ _ _ (same_new hp) (new_lst hp dm (r.app r2)) o.2⟩)
  · obtain ⟨a, vs, e, l, r⟩ := rep_tup.mp rx
    obtain ⟨b, us, e2, l2, r2⟩ := rep_tup.mp ry
    rename_i da db
    obtain ⟨o2, o3⟩ := o
    refine .inr ⟨a, b, vs, us, e, e2, l, l2, by rw [r.length, r2.length]; exact o2, fun z => ?_, fun _ z => ?_, fun _ _ p hp => k _ _ _ (same_new hp) (new_tup hp (r.app r2)) o3⟩
    · rw [z] at r
      have e3 : da = [] := List.eq_nil_of_length_eq_zero (by rw [← r.length] <;> rfl)
      rw [e3, List.nil_append] at o3
      exact k _ _ H (Same.refl H) (rep_tup.mpr ⟨b, us, rfl, l2, r2⟩) o3
    · rw [z] at r2
      have e3 : db = [] := List.eq_nil_of_length_eq_zero (by rw [← r2.length] <;> rfl)
      rw [e3, List.append_nil] at o3
      exact k _ _ H (Same.refl H) (rep_tup.mpr ⟨a, vs, rfl, l, r⟩) o3
  · exact o.elim
theorem od_int {f : Value → Value → Sem Value} {C : Int → Int → Prop} {g : Int → Int → Int} {o : O2} (h : OpR X f (rI C fun i j => .int (g i j))) (ho : ∀ dx dy QD, o dx dy QD → ∃ i j, dx = .int i ∧ dy = .int j ∧ C i j ∧ QD (.int (g i j))) : OpR X f (R2D X.K ct o) := by
  refine OpR.imp h fun x y H Q ⟨O, dx, dy, QD, dm, rx, ry, o, k⟩ => ?_
  obtain ⟨i, j, rfl, rfl, c, q⟩ := ho _ _ _ o
  exact ⟨i, j, rep_int.mp rx, rep_int.mp ry, c, k _ _ H (Same.refl H) (rep_int.mpr rfl) q⟩
theorem od_int0 {f : Value → Value → Sem Value} {g : Int → Int → Int} {o : O2} (h : OpR X f (rI0 fun i j => .int (g i j))) (ho : ∀ dx dy QD, o dx dy QD → ∃ i j, dx = .int i ∧ dy = .int j ∧ QD (.int (g i j))) : OpR X f (R2D X.K ct o) := by
  refine OpR.imp h fun x y H Q ⟨O, dx, dy, QD, dm, rx, ry, o, k⟩ => ?_
  obtain ⟨i, j, rfl, rfl, q⟩ := ho _ _ _ o
  exact ⟨i, j, rep_int.mp rx, rep_int.mp ry, k _ _ H (Same.refl H) (rep_int.mpr rfl) q⟩
theorem od_sub : OpR X (binaryOp .Sub) (R2D X.K ct oSub) := od_int0 op_sub fun dx dy QD h => by
  unfold oSub at h
  split at h
  · exact ⟨_, _, rfl, rfl, h⟩
  · exact h.elim
theorem od_mod : OpR X (binaryOp .Mod) (R2D X.K ct oMod) := od_int op_mod fun dx dy QD h => by
  unfold oMod at h
  split at h
  · exact ⟨_, _, rfl, rfl, h.1, h.2⟩
  · exact h.elim
theorem od_div : OpR X (binaryOp .FloorDiv) (R2D X.K ct oDiv) := od_int op_fdivW fun dx dy QD h => by
  unfold oDiv at h
  split at h
  · exact ⟨_, _, rfl, rfl, h.1, h.2⟩
  · exact h.elim
theorem od_mul : OpR X (binaryOp .Mult) (R2D X.K ct oMul) := by
  refine OpR.imp (((op_mulX.or op_rep_str).or op_rep).or op_repA) fun x y H Q h => ?_
  obtain ⟨O, dx, dy, QD, dm, rx, ry, o, k⟩ := h
  unfold oMul at o
  split at o
  · exact .inl (.inl (.inl ⟨_, _, rep_int.mp rx, rep_int.mp ry, o.1, k _ _ H (Same.refl H) (rep_int.mpr rfl) o.2⟩))
  · exact .inl (.inl (.inr ⟨_, _, rep_str.mp rx, rep_int.mp ry, o.1, o.2.1, o.2.2.1, k _ _ H (Same.refl H) (rep_str.mpr rfl) o.2.2.2⟩))
  · obtain ⟨a, vs, e, n, l, r⟩ := rep_lst.mp rx
    obtain ⟨o1, o2, o3, o4⟩ := o
    exact .inl (.inr ⟨a, _, vs, e, rep_int.mp ry, l, o1, o2, by rw [r.length]; exact o3, fun p hp => k _ _ _ (same_new hp) (new_lst hp dm (r.rep _)) o4⟩)
  · obtain ⟨a, vs, e, l, r⟩ := rep_tup.mp rx
    rename_i da n
    obtain ⟨o1, o2, o3, o4⟩ := o
    refine .inr ⟨a, _, vs, e, rep_int.mp ry, l, o1, o2, by rw [r.length]; exact o3, fun z => ?_, fun _ p hp => k _ _ _ (same_new hp) (new_tup hp (r.rep _)) o4⟩
    have e3 : (List.replicate n.toNat da).flatten = da := by
      rcases z with z | z
      · rw [z] at r
        have e4 : da = [] := List.eq_nil_of_length_eq_zero (by rw [← r.length] <;> rfl)
        rw [e4]
        simp
      · rw [z]
        simp
    rw [e3] at o4
    exact k _ _ H (Same.refl H) (rep_tup.mpr ⟨a, vs, rfl, l, r⟩) o4
  · exact o.elim
theorem od_cmp {op : CmpOp} {f : Int → Int → Bool} (h : OpR X (compareOp op) (rI0 fun i j => .bl (f i j))) : OpR X (compareOp op) (R2D X.K ct (oCmp f)) := by
  refine OpR.imp h fun x y H Q ⟨O, dx, dy, QD, dm, rx, ry, o, k⟩ => ?_
  unfold oCmp at o
  split at o
  · exact ⟨_, _, rep_int.mp rx, rep_int.mp ry, k _ _ H (Same.refl H) (rep_bl.mpr rfl) o⟩
  · exact o.elim
abbrev oLt : O2 := oCmp fun i j => decide (i < j)
abbrev oLe : O2 := oCmp fun i j => decide (i ≤ j)
abbrev oGt : O2 := oCmp fun i j => decide (j < i)
abbrev oGe : O2 := oCmp fun i j => decide (j ≤ i)
theorem od_lt : OpR X (compareOp .Lt) (R2D X.K ct oLt) := od_cmp op_lt
theorem od_le : OpR X (compareOp .LtE) (R2D X.K ct oLe) := od_cmp op_le
theorem od_gt : OpR X (compareOp .Gt) (R2D X.K ct oGt) := od_cmp op_gt
theorem od_ge : OpR X (compareOp .GtE) (R2D X.K ct oGe) := od_cmp op_ge
/-- is None, is not None -/
def isNon : D → Bool
  | .non => true
  | _ => false
theorem isNon_rep {K : PySem.W.Frag} {H : Hp} {O : Addr → Prop} {d : D} {v : V} (h : Rep K ct H O d v) : decide (v = .non) = isNon d := by
  cases d with
  | non => rw [rep_non.mp h]; rfl
  | bl b => rw [rep_bl.mp h]; rfl
  | int b => rw [rep_int.mp h]; rfl
  | str b => rw [rep_str.mp h]; rfl
  | ty n => simp only [Rep] at h; rw [h]; rfl
  | lst xs => obtain ⟨a, vs, e, _⟩ := rep_lst.mp h; rw [e]; rfl
  | tup xs => obtain ⟨a, vs, e, _⟩ := rep_tup.mp h; rw [e]; rfl
  | scr xs => obtain ⟨a, e, _⟩ := rep_scr.mp h; rw [e]; rfl
  | obj c xs => obtain ⟨a, dx, vs, e, _⟩ := rep_obj.mp h; rw [e]; rfl
  | cls c => rw [rep_cls.mp h]; rfl
  | tok c => simp only [Rep] at h; obtain ⟨a, e, _⟩ := h; rw [e]; rfl
  | ref a => rw [rep_ref.mp h]; rfl
  | dic ks xs => obtain ⟨a, vs, e, _⟩ := rep_dic.mp h; rw [e]; rfl
def oIsN : O2
  | d, .non, Q => Q (.bl (isNon d))
  | .bl a, .bl b, Q => Q (.bl (a == b))
  | _, _, _ => False
def oNotN : O2
  | d, .non, Q => Q (.bl (!isNon d))
  | .bl a, .bl b, Q => Q (.bl (!(a == b)))
  | _, _, _ => False
theorem od_isN : OpR X (compareOp .Is) (R2D X.K ct oIsN) := by
  refine OpR.imp (op_isN.or op_is_bl) fun x y H Q ⟨O, dx, dy, QD, dm, rx, ry, o, k⟩ => ?_
  unfold oIsN at o
  split at o
  · exact .inl ⟨rep_non.mp ry, k _ _ H (Same.refl H) (rep_bl.mpr (by rw [isNon_rep rx])) o⟩
  · exact .inr ⟨_, _, rep_bl.mp rx, rep_bl.mp ry, k _ _ H (Same.refl H) (rep_bl.mpr (by rename_i a b; cases a <;> cases b <;> rfl)) o⟩
  · exact o.elim
theorem od_notN : OpR X (compareOp .IsNot) (R2D X.K ct oNotN) := by
  refine OpR.imp (op_notN.or op_isnot_bl) fun x y H Q ⟨O, dx, dy, QD, dm, rx, ry, o, k⟩ => ?_
  unfold oNotN at o
  split at o
  · exact .inl ⟨rep_non.mp ry, k _ _ H (Same.refl H) (rep_bl.mpr (by rw [isNon_rep rx])) o⟩
  · exact .inr ⟨_, _, rep_bl.mp rx, rep_bl.mp ry, k _ _ H (Same.refl H) (rep_bl.mpr (by rename_i a b; cases a <;> cases b <;> rfl)) o⟩
  · exact o.elim
end
def dBin (o : O2) (ta tb : TD) : TD := fun s Q E => ta s (fun x => tb s (fun y => o x y Q) E) E
section
variable {X : Cx} {ct : CT} {W : WX} {e a b c : Expr} {es : List Expr} {td ta tb tc : TD} {pos : Pos}
theorem lift_bin {K : PySem.W.Frag} {o o' : O2} {r : R2} (hr : ∀ x y H Q, R2D K ct o x y H Q → r x y H Q) : ∀ σ H Q, liftE K ct W (dBin o ta tb) σ H Q → tOp r (liftE K ct W ta) (liftE K ct W tb) σ H Q := fun σ H Q ⟨O, f, dσ, QD, QE, hs, h, k, kx⟩ => by
  refine ⟨O, f, dσ, _, QE, hs, h, fun x dx H1 e1 rx q1 => ?_, kx⟩
  refine ⟨O, f, dσ, _, QE, hs.same e1, q1, fun y dy H2 e2 ry q2 => ?_, kx.same e1⟩
  exact hr _ _ _ _ ⟨O, dx, dy, QD, ((hs.same e1).same e2).dom, rx.same e2, ry, q2, fun v d H3 e3 r q3 => k v d H3 (e1.trans (e2.trans e3)) r q3⟩
theorem de_op {op : Operator} {o : O2} (ho : OpR X (binaryOp op) (R2D X.K ct o)) (ha : DE X ct W a ta) (hb : DE X ct W b tb) : DE X ct W (.BinOp a op b pos) (dBin o ta tb) :=
  PE.imp (pe_op ho ha hb) (lift_bin (o' := o) fun _ _ _ _ h => h)
theorem de_cmp {op : CmpOp} {o : O2} (ho : OpR X (compareOp op) (R2D X.K ct o)) (ha : DE X ct W a ta) (hb : DE X ct W b tb) (hm : behindInMarks op b = false := by first | exact nomark _ | rfl) : DE X ct W (.Compare a [op] [b] pos) (dBin o ta tb) :=
  PE.imp (pe_cmpR ho ha hb hm) (lift_bin (o' := o) fun _ _ _ _ h => h)
end
end Dl
set_option Elab.async false
set_option linter.all false
set_option maxRecDepth 100000
set_option maxHeartbeats 4000000
namespace Dl
open PySem PySem.Spec L2
def aNil : TDA := fun _ Q _ => Q []
def aCons (t : TD) (r : TDA) : TDA := fun s Q E => t s (fun x => r s (fun xs => Q (x :: xs)) E) E
def dTup (t : TDA) : TD := fun s Q E => t s (fun xs => xs.length ≤ sizeLine ∧ Q (.tup xs)) E
def dLst (t : TDA) : TD := fun s Q E => t s (fun xs => xs.length ≤ sizeLine ∧ Q (.lst xs)) E
/-- a place in a list: Python's index -/
def sIx (n : Nat) (d : Nat) (o : Option Int) : Nat := HT.sIx n d o
def cutD (xs : List D) (lo hi : Option Int) : List D := (xs.drop (HT.sIx xs.length 0 lo)).take (HT.sIx xs.length xs.length hi - HT.sIx xs.length 0 lo)
abbrev TDO := List Sl → (Option Int → Prop) → QX → Prop
def oSome (t : TD) : TDO := fun s Q E => t s (fun x => match x with
  | .int i => Q (some i)
  | _ => False) E
def slD (x : D) (lo hi : Option Int) (Q : D → Prop) : Prop := match x with
  | .lst xs => Q (.lst (cutD xs lo hi))
  | .str z => z.length ≤ sizeLine ∧ Q (.str (cutS z lo hi))
  | .tup xs => Q (.tup (cutD xs lo hi))
  | .scr ns => Q (.lst ((cutV (ns.map V.int) lo hi).map fun v => match v with
    | .int i => .int i
    | _ => .non))
  | _ => False
def dSl (te : TD) (tl th : TDO) : TD := fun s Q E => te s (fun x => tl s (fun lo => th s (fun hi => slD x lo hi Q) E) E) E
def oIx : O2
  | .lst xs, .int i, Q => ∃ d, atI xs i = some d ∧ Q d
  | .tup xs, .int i, Q => ∃ d, atI xs i = some d ∧ Q d
  | .str z, .int i, Q => z.length ≤ sizeLine ∧ ∃ c, atI z.cps.toList i = some c ∧ Q (.str ⟨#[c]⟩)
  | .scr ns, .int i, Q => ∃ n, atI ns i = some n ∧ Q (.int n)
  | _, _, _ => False
section
variable {X : Cx} {ct : CT} {W : WX} {e a b c : Expr} {es : List Expr} {td ta tb tc : TD} {tda : TDA} {pos : Pos}
theorem da_nil : DA X ct W [] aNil := PA.imp pa_nil fun σ H Q ⟨O, f, dσ, QD, QE, hs, h, k, _⟩ => k _ _ H (Same.refl H) RepL.nil h
theorem da_cons (ha : DE X ct W e td) (hr : DA X ct W es tda) (hs : starEach (e :: es) X.env = (false, eval e X.env) :: starEach es X.env := by rfl) : DA X ct W (e :: es) (aCons td tda) :=
  PA.imp (pa_cons ha hr hs) fun σ H Q ⟨O, f, dσ, QD, QE, hs, h, k, kx⟩ => by
    refine ⟨O, f, dσ, _, QE, hs, h, fun x dx H1 e1 rx q1 => ?_, kx⟩
    refine ⟨O, f, dσ, _, QE, hs.same e1, q1, fun xs ds H2 e2 rs q2 => ?_, kx.same e1⟩
    exact k _ _ _ (e1.trans e2) (RepL.cons (rx.same e2) rs) q2
theorem de_tup {x1} (h : DA X ct W es tda) : DE X ct W (.Tuple es x1 pos) (dTup tda) := PE.imp (pe_tup h) fun σ H Q ⟨O, f, dσ, QD, QE, hs, h, k, kx⟩ => by
  refine ⟨O, f, dσ, _, QE, hs, h, fun xs ds H1 e1 rx ⟨z, q⟩ => ⟨by rw [rx.length]; exact z, fun p hp => ?_⟩, kx⟩
  exact k _ _ _ (e1.trans (same_new hp)) (new_tup hp rx) q
theorem de_lst (h : DA X ct W es tda) : DE X ct W (.List es pos) (dLst tda) := PE.imp (pe_lst h) fun σ H Q ⟨O, f, dσ, QD, QE, hs, h, k, kx⟩ => by
  refine ⟨O, f, dσ, _, QE, hs, h, fun xs ds H1 e1 rx ⟨z, q⟩ => ⟨by rw [rx.length]; exact z, fun p hp => ?_⟩, kx⟩
  exact k _ _ _ (e1.trans (same_new hp)) (new_lst hp (hs.same e1).dom rx) q
theorem atI_map {α β : Type} (g : α → β) (xs : List α) (i : Int) : atI (xs.map g) i = (atI xs i).map g := by
  unfold atI
  rw [List.length_map]
  cases ixN xs.length i with
  | none => rfl
  | some j =>
    show (xs.map g)[j]? = (xs[j]?).map g
    rw [List.getElem?_map]
theorem atI_rep {K : PySem.W.Frag} {H : Hp} {O : Addr → Prop} {ds : List D} {vs : List V} {i : Int} {d : D} (r : RepL K ct H O ds vs) (h : atI ds i = some d) : ∃ v, atI vs i = some v ∧ Rep K ct H O d v := by
  unfold atI at h ⊢
  rw [r.length]
  cases e : ixN ds.length i with
  | none =>
    rw [e] at h
    cases h
  | some j =>
    rw [e] at h
    exact r.get h
theorem IxR.or {r r' : R2} (h : IxR X r) (h' : IxR X r') : IxR X (fun x y H Q => r x y H Q ∨ r' x y H Q) := by
  intro value slice pins s σ H x y v u Q I rx ry q hs
  rcases q with q | q
  · exact h value slice pins s σ H x y v u Q I rx ry q hs
  · exact h' value slice pins s σ H x y v u Q I rx ry q hs
theorem IxR.imp {r r' : R2} (h : IxR X r) (c : ∀ x y H Q, r' x y H Q → r x y H Q) : IxR X r' := fun value slice pins s σ H x y v u Q I rx ry q hs => h value slice pins s σ H x y v u Q I rx ry (c _ _ _ _ q) hs
theorem od_ix : IxR X (R2D X.K ct oIx) := by
  refine IxR.imp ((ix_list.or ix_tup).or ix_str) fun x y H Q ⟨O, dx, dy, QD, dm, rx, ry, o, k⟩ => ?_
  unfold oIx at o
  split at o
  · obtain ⟨a, vs, e, n, l, r⟩ := rep_lst.mp rx
    obtain ⟨d, ed, q⟩ := o
    obtain ⟨v, ev, rv⟩ := atI_rep r ed
    exact .inl (.inl ⟨a, vs, _, v, e, rep_int.mp ry, SqL.of l, ev, k _ _ H (Same.refl H) rv q⟩)
  · obtain ⟨a, vs, e, l, r⟩ := rep_tup.mp rx
    obtain ⟨d, ed, q⟩ := o
    obtain ⟨v, ev, rv⟩ := atI_rep r ed
    exact .inl (.inr ⟨a, vs, _, v, e, rep_int.mp ry, l, ev, k _ _ H (Same.refl H) rv q⟩)
  · obtain ⟨z, d, ed, q⟩ := o
    exact .inr ⟨_, _, d, rep_str.mp rx, rep_int.mp ry, z, ed, k _ _ H (Same.refl H) (rep_str.mpr rfl) q⟩
  · obtain ⟨a, e, l⟩ := rep_scr.mp rx
    obtain ⟨n, en, q⟩ := o
    exact .inl (.inl ⟨a, _, _, .int n, e, rep_int.mp ry, l.sq, by rw [atI_map, en] <;> rfl, k _ _ H (Same.refl H) (rep_int.mpr rfl) q⟩)
  · exact o.elim
theorem de_ix (ha : DE X ct W a ta) (hb : DE X ct W b tb) (hs : PlainIx b := by exact (fun _ _ => rfl)) : DE X ct W (.Subscript a b pos) (dBin oIx ta tb) :=
  PE.imp (pe_ix od_ix ha hb hs) (lift_bin (o' := oIx) fun _ _ _ _ h => h)
section
variable (K : PySem.W.Frag) (ct : CT) (W : WX)
def liftO (td : TDO) : TO := fun σ H Q => ∃ O f dσ QD QE, StE K ct H O f dσ σ ∧ td dσ QD QE ∧ (∀ o H', Same H H' → QD o → Q o H') ∧ KE K ct W H O σ QE
end
def DO (X : Cx) (ct : CT) (W : WX) (e : Option Expr) (td : TDO) : Prop := PO X e (liftO X.K ct W td)
theorem PO.imp {e : Option Expr} {t t' : TO} (h : PO X e t) (c : ∀ σ H Q, t' σ H Q → t σ H Q) : PO X e t' := ⟨fun pins s σ H Q I q => h.run pins s σ H Q I (c _ _ _ q)⟩
theorem do_some (h : DE X ct W e td) : DO X ct W (some e) (oSome td) := PO.imp (po_some h) fun σ H Q ⟨O, f, dσ, QD, QE, hs, h, k, kx⟩ => by
  refine ⟨O, f, dσ, _, QE, hs, h, fun x dx H1 e1 rx q => ?_, kx⟩
  revert q rx
  cases dx with
  | int i => exact fun rx q => ⟨i, rep_int.mp rx, k _ _ e1 q⟩
  | _ => exact fun _ q => q.elim
theorem cutV_rep {K : PySem.W.Frag} {H : Hp} {O : Addr → Prop} {ds : List D} {vs : List V} (lo hi : Option Int) (r : RepL K ct H O ds vs) : RepL K ct H O (cutD ds lo hi) (cutV vs lo hi) := by
  unfold cutD cutV
  rw [r.length]
  exact (r.drop _).take _
theorem SlR.imp {r r' : V → Option Int → Option Int → Hp → VK → Prop} (h : SlR X r) (c : ∀ x lo hi H Q, r' x lo hi H Q → r x lo hi H Q) : SlR X r' := fun pins s σ H x v vl vu lo hi sl Q I rx a b d q => h pins s σ H x v vl vu lo hi sl Q I rx a b d (c _ _ _ _ _ q)
def RSl (K : PySem.W.Frag) (ct : CT) : V → Option Int → Option Int → Hp → VK → Prop := fun x lo hi H Q => ∃ O dx QD, Dom H O ∧ Rep K ct H O dx x ∧ slD dx lo hi QD ∧ ∀ v d H', Same H H' → Rep K ct H' O d v → QD d → Q v H'
theorem cutI (ns : List Int) (lo hi : Option Int) : ∃ ms : List Int, cutV (ns.map V.int) lo hi = ms.map V.int ∧ (cutV (ns.map V.int) lo hi).map (fun v => match v with
    | .int i => D.int i
    | _ => D.non) = ms.map D.int := by
  refine ⟨(ns.drop (HT.sIx (ns.map V.int).length 0 lo)).take (HT.sIx (ns.map V.int).length (ns.map V.int).length hi - HT.sIx (ns.map V.int).length 0 lo), ?_, ?_⟩
  · unfold cutV
    rw [List.map_take, List.map_drop]
  · unfold cutV
    rw [← List.map_drop, ← List.map_take, List.map_map]
    rfl
theorem od_sl : SlR X (RSl X.K ct) := by
  refine SlR.imp ((sl_list.or sl_tupA).or sl_str) fun x lo hi H Q ⟨O, dx, QD, dm, rx, o, k⟩ => ?_
  unfold slD at o
  split at o
  · obtain ⟨a, vs, e, n, l, r⟩ := rep_lst.mp rx
    exact .inl (.inl ⟨a, vs, e, SqL.of l, fun p hp => k _ _ _ (same_new hp) (new_lst hp dm (cutV_rep lo hi r)) o⟩)
  · exact .inr ⟨_, rep_str.mp rx, o.1, k _ _ H (Same.refl H) (rep_str.mpr rfl) o.2⟩
  · obtain ⟨a, vs, e, l, r⟩ := rep_tup.mp rx
    refine .inl (.inr ⟨a, vs, e, l, fun z => ?_, fun _ p hp => k _ _ _ (same_new hp) (new_tup hp (cutV_rep lo hi r)) o⟩)
    rename_i da
    have e3 : cutD da lo hi = da := by
      unfold cutD
      rw [r.length] at z
      rw [z.1, z.2]
      simp
    rw [e3] at o
    exact k _ _ H (Same.refl H) (rep_tup.mpr ⟨a, vs, rfl, l, r⟩) o
  · obtain ⟨a, e, l⟩ := rep_scr.mp rx
    refine .inl (.inl ⟨a, _, e, l.sq, fun p hp => k _ _ _ (same_new hp) (new_lst hp dm ?_) o⟩)
    rename_i ns
    obtain ⟨ms, e1, e2⟩ := cutI ns lo hi
    rw [e2, e1]
    exact RepL.ints
  · exact o.elim
theorem de_sl {te : TD} {tl th : TDO} {lo hi : Option Expr} {p2 : Pos} (he : DE X ct W e te) (hl : DO X ct W lo tl) (hh : DO X ct W hi th) : DE X ct W (.Subscript e (.Slice lo hi none p2) pos) (dSl te tl th) :=
  PE.imp (pe_slice od_sl he hl hh) fun σ H Q ⟨O, f, dσ, QD, QE, hs, h, k, kx⟩ => by
    refine ⟨O, f, dσ, _, QE, hs, h, fun x dx H1 e1 rx q1 => ?_, kx⟩
    refine ⟨O, f, dσ, _, QE, hs.same e1, q1, fun l H2 e2 q2 => ?_, kx.same e1⟩
    refine ⟨O, f, dσ, _, QE, (hs.same e1).same e2, q2, fun u H3 e3 q3 => ?_, (kx.same e1).same e2⟩
    exact ⟨O, dx, QD, (((hs.same e1).same e2).same e3).dom, (rx.same e2).same e3, q3, fun v d H4 e4 r q4 => k v d H4 (e1.trans (e2.trans (e3.trans e4))) r q4⟩
def tVal (t : TD) : TDT := fun s Q E => t s (fun x => match x with
  | .bl b => Q b
  | _ => False) E
/-- a value's truth -/
def truD : D → (Bool → Prop) → Prop
  | .non, Q => Q false
  | .bl b, Q => Q b
  | .int i, Q => Q (i != 0)
  | .str y, Q => y.length ≤ sizeLine ∧ Q (!decide (y.length = 0))
  | .lst xs, Q => Q (!xs.isEmpty)
  | .tup xs, Q => Q (!xs.isEmpty)
  | .scr xs, Q => Q (!xs.isEmpty)
  | _, _ => False
def tTru (t : TD) : TDT := fun s Q E => t s (fun x => truD x Q) E
def tNotD (t : TDT) : TDT := fun s Q E => t s (fun b => Q (!b)) E
def tAndD (t u : TDT) : TDT := fun s Q E => t s (fun b => match b with
  | true => u s Q E
  | false => Q false) E
def tOrD (t u : TDT) : TDT := fun s Q E => t s (fun b => match b with
  | true => Q true
  | false => u s Q E) E
def dNot (t : TD) : TD := fun s Q E => t s (fun x => match x with
  | .bl b => Q (.bl (!b))
  | _ => False) E
def dAnd (t u : TD) : TD := fun s Q E => t s (fun x => match x with
  | .bl true => u s Q E
  | .bl false => Q (.bl false)
  | _ => False) E
def dIf (t : TDT) (ta tb : TD) : TD := fun s Q E => t s (fun b => match b with
  | true => ta s Q E
  | false => tb s Q E) E
section
variable {tt tu : TDT} {rest : List Expr}
theorem dt_cmp {op : CmpOp} {o : O2} (ho : OpR X (compareOp op) (R2D X.K ct o)) (ha : DE X ct W a ta) (hb : DE X ct W b tb) (hm : behindInMarks op b = false := by first | exact nomark _ | rfl) : DT X ct W (.Compare a [op] [b] pos) (tVal (dBin o ta tb)) :=
  PT.imp (pt_cmpR ho ha hb hm) fun σ H Q ⟨O, f, dσ, QD, QE, hs, h, k, kx⟩ => by
    refine lift_bin (o' := o) (fun _ _ _ _ h => h) σ H _ ⟨O, f, dσ, _, QE, hs, h, fun v d H1 e1 r q => ?_, kx⟩
    revert q r
    cases d with
    | bl b => exact fun r q => ⟨b, rep_bl.mp r, k _ _ e1 q⟩
    | _ => exact fun _ q => q.elim
theorem isEmpty_rep {K : PySem.W.Frag} {H : Hp} {O : Addr → Prop} {ds : List D} {vs : List V} (r : RepL K ct H O ds vs) : vs.isEmpty = ds.isEmpty := by
  cases ds with
  | nil => simp only [RepL] at r; subst r; rfl
  | cons d ds =>
    obtain ⟨v, q, e, _⟩ := r.cons_inv
    subst e
    rfl
theorem dt_tru (h : DE X ct W e td) (he : ∀ whole, isTrue e X.env whole = (do let v ← whole; standAt e.pos; holding [v] (truthy v)) := by intro _; rfl) : DT X ct W e (tTru td) :=
  PT.imp (pt_truth h he) fun σ H Q ⟨O, f, dσ, QD, QE, hs, h, k, kx⟩ => by
    refine ⟨O, f, dσ, _, QE, hs, h, fun v d H1 e1 r q => ?_, kx⟩
    revert q r
    cases d with
    | non => intro r q; rw [rep_non.mp r]; exact ⟨_, rfl, k _ _ e1 q⟩
    | bl b => intro r q; rw [rep_bl.mp r]; exact ⟨_, rfl, k _ _ e1 q⟩
    | int b => intro r q; rw [rep_int.mp r]; exact ⟨_, rfl, k _ _ e1 q⟩
    | str b =>
      intro r q
      rw [rep_str.mp r]
      refine ⟨!decide (b.length = 0), ⟨q.1, ?_⟩, k _ _ e1 q.2⟩
      by_cases z : b.length = 0
      · rw [z]; rfl
      · have z2 : ((b.length : Int) != 0) = true := by simp [z]
        rw [z2, decide_eq_false z] <;> rfl
    | lst xs =>
      intro r q
      obtain ⟨p, vs, e, n, l, rr⟩ := rep_lst.mp r
      rw [e]
      exact ⟨_, .inl ⟨vs, SqL.of l, by rw [isEmpty_rep rr]⟩, k _ _ e1 q⟩
    | tup xs =>
      intro r q
      obtain ⟨p, vs, e, l, rr⟩ := rep_tup.mp r
      rw [e]
      exact ⟨_, .inr (.inl ⟨vs, l, by rw [isEmpty_rep rr]⟩), k _ _ e1 q⟩
    | scr xs =>
      intro r q
      obtain ⟨p, e, l⟩ := rep_scr.mp r
      rw [e]
      refine ⟨_, .inl ⟨_, l.sq, ?_⟩, k _ _ e1 q⟩
      cases xs <;> rfl
    | _ => exact fun _ q => q.elim
theorem dt_not (h : DT X ct W a tt) : DT X ct W (.UnaryOp .Not a pos) (tNotD tt) := PT.imp (pt_not h) fun σ H Q ⟨O, f, dσ, QD, QE, hs, h, k, kx⟩ => by
  exact ⟨O, f, dσ, _, QE, hs, h, fun b H1 e1 q => k _ _ e1 q, kx⟩
theorem dw_and1 (h : DT X ct W a tt) : DW X ct W (.BoolOp .And [a] pos) tt := pw_and1 h
theorem dw_or1 (h : DT X ct W a tt) : DW X ct W (.BoolOp .Or [a] pos) tt := pw_or1 h
theorem dw_and (ha : DT X ct W a tt) (hb : DW X ct W (.BoolOp .And (b :: rest) pos) tu) : DW X ct W (.BoolOp .And (a :: b :: rest) pos) (tAndD tt tu) := PW.imp (pw_and ha hb) fun σ H Q ⟨O, f, dσ, QD, QE, hs, h, k, kx⟩ => by
  refine ⟨O, f, dσ, _, QE, hs, h, fun c H1 e1 q => ?_, kx⟩
  cases c with
  | true =>
    rw [if_pos rfl]
    exact ⟨O, f, dσ, _, QE, hs.same e1, q, fun b H2 e2 q2 => k _ _ (e1.trans e2) q2, kx.same e1⟩
  | false =>
    rw [if_neg Bool.false_ne_true]
    exact k _ _ e1 q
theorem dw_or (ha : DT X ct W a tt) (hb : DW X ct W (.BoolOp .Or (b :: rest) pos) tu) : DW X ct W (.BoolOp .Or (a :: b :: rest) pos) (tOrD tt tu) := PW.imp (pw_or ha hb) fun σ H Q ⟨O, f, dσ, QD, QE, hs, h, k, kx⟩ => by
  refine ⟨O, f, dσ, _, QE, hs, h, fun c H1 e1 q => ?_, kx⟩
  cases c with
  | true =>
    rw [if_pos rfl]
    exact k _ _ e1 q
  | false =>
    rw [if_neg Bool.false_ne_true]
    exact ⟨O, f, dσ, _, QE, hs.same e1, q, fun b H2 e2 q2 => k _ _ (e1.trans e2) q2, kx.same e1⟩
theorem dt_w (h : DW X ct W a tt) : DT X ct W a tt := PW.pt h
theorem de_one {op : BoolOp} (h : DE X ct W a td) : DE X ct W (.BoolOp op [a] pos) td := pe_one h
theorem de_and (ha : DE X ct W a ta) (hb : DE X ct W (.BoolOp .And (b :: rest) pos) tb) : DE X ct W (.BoolOp .And (a :: b :: rest) pos) (dAnd ta tb) := PE.imp (pe_and ha hb) fun σ H Q ⟨O, f, dσ, QD, QE, hs, h, k, kx⟩ => by
  refine ⟨O, f, dσ, _, QE, hs, h, fun v d H1 e1 r q => ?_, kx⟩
  revert q r
  cases d with
  | bl c =>
    cases c with
    | true => exact fun r q => ⟨true, rep_bl.mp r, by rw [if_pos rfl]; exact ⟨O, f, dσ, _, QE, hs.same e1, q, fun v d H2 e2 r2 q2 => k _ _ _ (e1.trans e2) r2 q2, kx.same e1⟩⟩
    | false => exact fun r q => ⟨false, rep_bl.mp r, by rw [if_neg Bool.false_ne_true]; exact k _ _ _ e1 (rep_bl.mpr rfl) q⟩
  | _ => exact fun _ q => q.elim
theorem de_not (ha : DE X ct W a ta) : DE X ct W (.UnaryOp .Not a pos) (dNot ta) := PE.imp (pe_not ha) fun σ H Q ⟨O, f, dσ, QD, QE, hs, h, k, kx⟩ => by
  refine ⟨O, f, dσ, _, QE, hs, h, fun v d H1 e1 r q => ?_, kx⟩
  revert q r
  cases d with
  | bl c => exact fun r q => ⟨c, rep_bl.mp r, k _ _ _ e1 (rep_bl.mpr rfl) q⟩
  | _ => exact fun _ q => q.elim
theorem de_if (hc : DT X ct W c tt) (ha : DE X ct W a ta) (hb : DE X ct W b tb) : DE X ct W (.IfExp c a b pos) (dIf tt ta tb) := PE.imp (pe_ifExp hc ha hb) fun σ H Q ⟨O, f, dσ, QD, QE, hs, h, k, kx⟩ => by
  refine ⟨O, f, dσ, _, QE, hs, h, fun c H1 e1 q => ?_, kx⟩
  cases c with
  | true =>
    rw [if_pos rfl]
    exact ⟨O, f, dσ, _, QE, hs.same e1, q, fun v d H2 e2 r2 q2 => k _ _ _ (e1.trans e2) r2 q2, kx.same e1⟩
  | false =>
    rw [if_neg Bool.false_ne_true]
    exact ⟨O, f, dσ, _, QE, hs.same e1, q, fun v d H2 e2 r2 q2 => k _ _ _ (e1.trans e2) r2 q2, kx.same e1⟩
end
end
end Dl
set_option Elab.async false
set_option linter.all false
set_option maxRecDepth 100000
set_option maxHeartbeats 4000000
namespace Dl
open PySem PySem.Spec L2
structure DEnds where
  nx : List Sl → Prop
  rt : D → Prop
  /-- a list that was just made is handed back -/
  rn : List D → Prop
  bk : List Sl → Prop
  cn : List Sl → Prop
  ex : Nat → D → List Sl → Prop
abbrev TDS := DEnds → List Sl → Prop
def Own (O0 : Addr → Prop) (f : Nat → Addr) (dσ : List Sl) (a : Addr) : Prop := O0 a ∨ ∃ i s, dσ[i]? = some s ∧ isOwn s = true ∧ f i = a
structure StS (K : PySem.W.Frag) (ct : CT) (O0 : Addr → Prop) (H0 H : Hp) (f : Nat → Addr) (dσ : List Sl) (σ : St) : Prop where
  e : StE K ct H (Own O0 f dσ) f dσ σ
  same : Same H0 H
  fresh : ∀ i s, dσ[i]? = some s → isOwn s = true → H0 (f i) = none
  inj : ∀ i j s t, dσ[i]? = some s → isOwn s = true → dσ[j]? = some t → isOwn t = true → f i = f j → i = j
  dom0 : ∀ a, O0 a → ∃ o, H0 a = some o
structure EndsOk (K : PySem.W.Frag) (ct : CT) (W : WX) (O0 : Addr → Prop) (H0 : Hp) (E : Ends) (DD : DEnds) : Prop where
  nx : ∀ σ H f dσ, StS K ct O0 H0 H f dσ σ → DD.nx dσ → E.nx σ H
  bk : ∀ σ H f dσ, StS K ct O0 H0 H f dσ σ → DD.bk dσ → E.bk σ H
  cn : ∀ σ H f dσ, StS K ct O0 H0 H f dσ σ → DD.cn dσ → E.ct σ H
  rt : ∀ v d H, Same H0 H → Rep K ct H O0 d v → DD.rt d → E.rt v H
  rn : ∀ p vs ds H, H0 p = none → Same H0 H → H p = some (.lst vs) → RepL K ct H (fun b => O0 b ∨ b = p) ds vs → DD.rn ds → E.rt (.ref p) H
  ex : ∀ c x cls dd σ H f dσ, StS K ct O0 H0 H f dσ σ → ExcAt K ct H (Own O0 f dσ) c x cls dd → DD.ex c x dσ → W cls dd σ H
def liftS (K : PySem.W.Frag) (ct : CT) (W : WX) (ts : TDS) : TS := fun E σ H => ∃ O0 H0 f dσ DD, StS K ct O0 H0 H f dσ σ ∧ ts DD dσ ∧ EndsOk K ct W O0 H0 E DD
def DS (X : Cx) (ct : CT) (W : WX) (st : Stmt) (ts : TDS) : Prop := PS X st (liftS X.K ct W ts)
def DSs (X : Cx) (ct : CT) (W : WX) (st : List Stmt) (ts : TDS) : Prop := PSs X st (liftS X.K ct W ts)
def xq (DD : DEnds) (s : List Sl) : QX := fun c x => DD.ex c x s
section
variable {K : PySem.W.Frag} {ct : CT} {W : WX} {O0 O O' : Addr → Prop} {H0 H H' : Hp} {f : Nat → Addr} {dσ : List Sl} {σ : St} {E : Ends} {DD : DEnds}
theorem StS.sm (h : StS K ct O0 H0 H f dσ σ) (c : Same H H') : StS K ct O0 H0 H' f dσ σ := ⟨h.e.same c, h.same.trans c, h.fresh, h.inj, h.dom0⟩
theorem Own.base {a : Addr} (h : O0 a) : Own O0 f dσ a := .inl h
/-- an expression of a statement -/
theorem StS.ke (h : StS K ct O0 H0 H f dσ σ) (e : EndsOk K ct W O0 H0 E DD) : KE K ct W H (Own O0 f dσ) σ (xq DD dσ) := fun c x cls dd H' s a q => e.ex c x cls dd σ H' f dσ (h.sm s) a q
theorem StS.ex (h : StS K ct O0 H0 H f dσ σ) (e : EndsOk K ct W O0 H0 E DD) {td : TD} {QD : D → Prop} {Q : VK} (t : td dσ QD (xq DD dσ)) (k : ∀ v d H', Same H H' → Rep K ct H' (Own O0 f dσ) d v → QD d → Q v H') : liftE K ct W td σ H Q :=
  ⟨_, f, dσ, QD, _, h.e, t, k, h.ke e⟩
theorem StS.tt (h : StS K ct O0 H0 H f dσ σ) (e : EndsOk K ct W O0 H0 E DD) {td : TDT} {QD : Bool → Prop} {Q : Bool → Hp → Prop} (t : td dσ QD (xq DD dσ)) (k : ∀ b H', Same H H' → QD b → Q b H') : liftT K ct W td σ H Q :=
  ⟨_, f, dσ, QD, _, h.e, t, k, h.ke e⟩
theorem StS.aa (h : StS K ct O0 H0 H f dσ σ) (e : EndsOk K ct W O0 H0 E DD) {td : TDA} {QD : List D → Prop} {Q : List V → Hp → Prop} (t : td dσ QD (xq DD dσ)) (k : ∀ vs ds H', Same H H' → RepL K ct H' (Own O0 f dσ) ds vs → QD ds → Q vs H') : liftA K ct W td σ H Q :=
  ⟨_, f, dσ, QD, _, h.e, t, k, h.ke e⟩
theorem EndsOk.sub (e : EndsOk K ct W O0 H0 E DD) {nx : List Sl → Prop} {nx' : St → Hp → Prop} (h : ∀ σ H f dσ, StS K ct O0 H0 H f dσ σ → nx dσ → nx' σ H) : EndsOk K ct W O0 H0 { E with nx := nx' } { DD with nx := nx } := ⟨h, e.bk, e.cn, e.rt, e.rn, e.ex⟩
theorem getS {α : Type} {l : List α} {i j : Nat} {a x : α} (h : (l.set i a)[j]? = some x) : (j = i ∧ x = a ∧ i < l.length) ∨ (j ≠ i ∧ l[j]? = some x) := by
  by_cases e : i = j
  · subst e
    by_cases hl : i < l.length
    · rw [List.getElem?_set_self hl] at h
      exact .inl ⟨rfl, (Option.some.inj h).symm, hl⟩
    · rw [List.getElem?_eq_none (by simpa using hl)] at h
      cases h
  · rw [List.getElem?_set_ne e] at h
    exact .inr ⟨fun z => e z.symm, h⟩
theorem own_set {i : Nat} {s : Sl} (hs : isOwn s = false) {a : Addr} (h : Own O0 f (dσ.set i s) a) : Own O0 f dσ a := by
  rcases h with h | ⟨j, t, e, o, ea⟩
  · exact .inl h
  · rcases getS e with ⟨_, e2, _⟩ | ⟨_, e2⟩
    · rw [e2, hs] at o
      cases o
    · exact .inr ⟨j, t, e2, o, ea⟩
theorem SlOk.less {a : Addr} {s : Sl} {o : Option V} (l : ∀ b, O' b → O b) (hown : isOwn s = true → O' a) (h : SlOk K ct H O a s o) : SlOk K ct H O' a s o := by
  cases s with
  | un => trivial
  | v d =>
    obtain ⟨v, e, r⟩ := h
    exact ⟨v, e, r.less l⟩
  | own xs =>
    obtain ⟨e, n, vs, z, r⟩ := h
    exact ⟨e, hown rfl, vs, z, r.less l⟩
  | ini c fs =>
    obtain ⟨e, n, ea, vs, z, r⟩ := h
    exact ⟨e, hown rfl, ea, vs, z, r.less l⟩
  | exc k x => exact ⟨h.1, h.2.less l⟩
  | dic ks xs =>
    obtain ⟨e, n, vs, z, hl, r⟩ := h
    exact ⟨e, hown rfl, vs, z, hl, r.less l⟩
/-- a slot gets a plain value, or is forgotten -/
theorem StS.set_s (h : StS K ct O0 H0 H f dσ σ) {i : Nat} {s : Sl} {x : Option V} (hs : isOwn s = false) (r : SlOk K ct H (Own O0 f dσ) (f i) s x) : StS K ct O0 H0 H f (dσ.set i s) (σ.set i x) where
  e := {
    len := by rw [List.length_set, List.length_set]; exact h.e.len
    at_ := fun j t e => by
      have l : ∀ b, Own O0 f (dσ.set i s) b → Own O0 f dσ b := fun b z => own_set hs z
      rcases getS e with ⟨e1, e2, e3⟩ | ⟨e1, e2⟩
      · subst e1
        subst e2
        refine ⟨x, List.getElem?_set_self (by rw [← h.e.len]; exact e3), r.less l fun z => ?_⟩
        rw [hs] at z
        cases z
      · obtain ⟨o, a, b⟩ := h.e.at_ j t e2
        refine ⟨o, by rw [List.getElem?_set_ne (Ne.symm e1)]; exact a, b.less l fun z => .inr ⟨j, t, e, z, rfl⟩⟩
    dom := fun a z => h.e.dom a (own_set hs z) }
  same := h.same
  fresh := fun j t e o => by
    rcases getS e with ⟨_, e2, _⟩ | ⟨_, e2⟩
    · rw [e2, hs] at o
      cases o
    · exact h.fresh j t e2 o
  inj := fun j k s1 t1 e1 o1 e2 o2 ef => by
    rcases getS e1 with ⟨_, z, _⟩ | ⟨_, z1⟩
    · rw [z, hs] at o1
      cases o1
    · rcases getS e2 with ⟨_, z, _⟩ | ⟨_, z2⟩
      · rw [z, hs] at o2
        cases o2
      · exact h.inj j k s1 t1 z1 o1 z2 o2 ef
  dom0 := h.dom0
theorem StS.set_v (h : StS K ct O0 H0 H f dσ σ) {i : Nat} {d : D} {x : V} (r : Rep K ct H (Own O0 f dσ) d x) : StS K ct O0 H0 H f (dσ.set i (.v d)) (σ.set i (some x)) := h.set_s rfl ⟨x, rfl, r⟩
def putA (f : Nat → Addr) (i : Nat) (p : Addr) : Nat → Addr := fun j => if j = i then p else f j
theorem putA_same {i : Nat} {p : Addr} : putA f i p i = p := if_pos rfl
theorem putA_ne {i j : Nat} {p : Addr} (h : j ≠ i) : putA f i p j = f j := if_neg h
/-- a slot gets a new list of its own -/
theorem StS.set_own (h : StS K ct O0 H0 H f dσ σ) {i : Nat} {ds : List D} {vs : List V} {p : Addr} (hp : H p = none) (r : RepL K ct H (Own O0 f dσ) ds vs) : StS K ct O0 H0 (upd H p (.lst vs)) (putA f i p) (dσ.set i (.own ds)) (σ.set i (some (.ref p))) := by
  have l : ∀ b, Own O0 (putA f i p) (dσ.set i (.own ds)) b → Own O0 f dσ b ∨ b = p := fun b z => by
    rcases z with z | ⟨j, t, e, o, ea⟩
    · exact .inl (.inl z)
    · rcases getS e with ⟨e1, _, _⟩ | ⟨e1, e2⟩
      · rw [← ea, e1, putA_same]
        exact .inr rfl
      · rw [putA_ne e1] at ea
        exact .inl (.inr ⟨j, t, e2, o, ea⟩)
  have ne : ∀ {b : Addr} {o : HO}, H b = some o → b ≠ p := fun e => ne_of_none e hp
  have nf : ∀ j t, dσ[j]? = some t → isOwn t = true → f j ≠ p := fun j t e o z => by
    obtain ⟨u, q⟩ := h.e.dom (f j) (.inr ⟨j, t, e, o, rfl⟩)
    exact ne q z
  refine ⟨⟨by rw [List.length_set, List.length_set]; exact h.e.len, fun j t e => ?_, fun a z => ?_⟩, h.same.trans (same_new hp), fun j t e o => ?_, fun j k s1 t1 e1 o1 e2 o2 ef => ?_, h.dom0⟩
  · rcases getS e with ⟨e1, e2, e3⟩ | ⟨e1, e2⟩
    · subst e1
      subst e2
      refine ⟨_, List.getElem?_set_self (by rw [← h.e.len]; exact e3), ?_, .inr ⟨_, _, e, rfl, rfl⟩, vs, ?_, (r.fresh hp l).same (same_new hp)⟩
      · rw [putA_same]
      · rw [putA_same]
        exact upd_same
    · obtain ⟨o, a, b⟩ := h.e.at_ j t e2
      refine ⟨o, by rw [List.getElem?_set_ne (Ne.symm e1)]; exact a, ?_⟩
      rw [putA_ne e1]
      cases t with
      | un => trivial
      | v d =>
        obtain ⟨v, e, r⟩ := b
        exact ⟨v, e, (r.fresh hp l).same (same_new hp)⟩
      | own xs =>
        obtain ⟨e4, n, us, z, r⟩ := b
        exact ⟨e4, .inr ⟨j, _, e, rfl, putA_ne e1⟩, us, same_new hp _ _ z, (r.fresh hp l).same (same_new hp)⟩
      | ini c fs =>
        obtain ⟨e4, n, ea, us, z, r⟩ := b
        exact ⟨e4, .inr ⟨j, _, e, rfl, putA_ne e1⟩, ea, us, same_new hp _ _ z, (r.fresh hp l).same (same_new hp)⟩
      | exc k x => exact ⟨b.1, (b.2.fresh hp l).same (same_new hp)⟩
      | dic ks xs =>
        obtain ⟨e4, n, us, z, hl, r⟩ := b
        exact ⟨e4, .inr ⟨j, _, e, rfl, putA_ne e1⟩, us, same_new hp _ _ z, hl, (r.fresh hp l).same (same_new hp)⟩
  · rcases l a z with z | z
    · obtain ⟨o, e⟩ := h.e.dom a z
      exact ⟨o, same_new hp _ _ e⟩
    · rw [z]
      exact ⟨_, upd_same⟩
  · rcases getS e with ⟨e1, _, _⟩ | ⟨e1, e2⟩
    · rw [e1, putA_same]
      cases q : H0 p with
      | none => rfl
      | some u =>
        rw [h.same _ _ q] at hp
        cases hp
    · rw [putA_ne e1]
      exact h.fresh j t e2 o
  · rcases getS e1 with ⟨z1, _, _⟩ | ⟨z1, y1⟩
    · rcases getS e2 with ⟨z2, _, _⟩ | ⟨z2, y2⟩
      · rw [z1, z2]
      · rw [z1, putA_same, putA_ne z2] at ef
        exact absurd ef.symm (nf k t1 y2 o2)
    · rcases getS e2 with ⟨z2, _, _⟩ | ⟨z2, y2⟩
      · rw [z2, putA_same, putA_ne z1] at ef
        exact absurd ef (nf j s1 y1 o1)
      · rw [putA_ne z1, putA_ne z2] at ef
        exact h.inj j k s1 t1 y1 o1 y2 o2 ef
/-- a list of one's own changes -/
theorem StS.upd_own (h : StS K ct O0 H0 H f dσ σ) {i : Nat} {xs ys : List D} {us : List V} (hi : dσ[i]? = some (.own xs)) (r : RepL K ct H (Own O0 f dσ) ys us) : StS K ct O0 H0 (upd H (f i) (.lst us)) f (dσ.set i (.own ys)) σ := by
  have il : i < dσ.length := (List.getElem?_eq_some_iff.mp hi).1
  obtain ⟨o, ho, e1, n1, vs, e2, r2⟩ := h.e.at_ i _ hi
  subst e1
  have l : ∀ b, Own O0 f (dσ.set i (.own ys)) b → Own O0 f dσ b := fun b z => by
    rcases z with z | ⟨j, t, e, o, ea⟩
    · exact .inl z
    · rcases getS e with ⟨e1, _, _⟩ | ⟨e1, e2⟩
      · rw [← ea, e1]
        exact n1
      · exact .inr ⟨j, t, e2, o, ea⟩
  have c : Chg (Own O0 f dσ) H (upd H (f i) (.lst us)) := fun b o e => by
    by_cases z : b = f i
    · subst z
      rw [e2] at e
      cases e
      exact .inr ⟨n1, trivial⟩
    · exact .inl (by rw [upd_ne z]; exact e)
  refine ⟨⟨by rw [List.length_set]; exact h.e.len, fun j t e => ?_, fun a z => ?_⟩, fun b o e => ?_, fun j t e o => ?_, fun j k s1 t1 e1 o1 e2 o2 ef => ?_, h.dom0⟩
  · rcases getS e with ⟨e3, e4, _⟩ | ⟨e3, e4⟩
    · subst e3
      subst e4
      exact ⟨_, ho, rfl, .inr ⟨_, _, e, rfl, rfl⟩, us, upd_same, (r.chg c).less l⟩
    · obtain ⟨o, a, b⟩ := h.e.at_ j t e4
      refine ⟨o, a, ?_⟩
      have nj : isOwn t = true → f j ≠ f i := fun ot z => e3 (h.inj j i t _ e4 ot hi rfl z)
      cases t with
      | un => trivial
      | v d =>
        obtain ⟨v, e, r⟩ := b
        exact ⟨v, e, (r.chg c).less l⟩
      | own xs =>
        obtain ⟨e5, n, us2, z, r⟩ := b
        exact ⟨e5, .inr ⟨j, _, e, rfl, rfl⟩, us2, by rw [upd_ne (nj rfl)]; exact z, (r.chg c).less l⟩
      | ini c2 fs =>
        obtain ⟨e5, n, ea, us2, z, r⟩ := b
        exact ⟨e5, .inr ⟨j, _, e, rfl, rfl⟩, ea, us2, by rw [upd_ne (nj rfl)]; exact z, (r.chg c).less l⟩
      | exc k x => exact ⟨b.1, (b.2.chg c).less l⟩
      | dic ks xs =>
        obtain ⟨e5, n, us2, z, hl, r⟩ := b
        exact ⟨e5, .inr ⟨j, _, e, rfl, rfl⟩, us2, by rw [upd_ne (nj rfl)]; exact z, hl, (r.chg c).less l⟩
  · obtain ⟨u, q⟩ := h.e.dom a (l a z)
    rcases c a u q with q | _
    · exact ⟨u, q⟩
    · by_cases z2 : a = f i
      · rw [z2]
        exact ⟨_, upd_same⟩
      · exact ⟨u, by rw [upd_ne z2]; exact q⟩
  · have ne : b ≠ f i := fun z => by
      rw [z, h.fresh i _ hi rfl] at e
      cases e
    rw [upd_ne ne]
    exact h.same b o e
  · rcases getS e with ⟨e3, _, _⟩ | ⟨_, e4⟩
    · rw [e3]
      exact h.fresh i _ hi rfl
    · exact h.fresh j t e4 o
  · rcases getS e1 with ⟨z1, _, _⟩ | ⟨z1, y1⟩
    · rcases getS e2 with ⟨z2, _, _⟩ | ⟨z2, y2⟩
      · rw [z1, z2]
      · rw [z1] at ef ⊢
        exact h.inj i k _ t1 hi rfl y2 o2 ef
    · rcases getS e2 with ⟨z2, _, _⟩ | ⟨z2, y2⟩
      · rw [z2] at ef ⊢
        exact h.inj j i s1 _ y1 o1 hi rfl ef
      · exact h.inj j k s1 t1 y1 o1 y2 o2 ef
end
def sNil : TDS := fun DD s => DD.nx s
def sSeq (t u : TDS) : TDS := fun DD s => t { DD with nx := u DD } s
def sAsg (i : Nat) (t : TD) : TDS := fun DD s => t s (fun d => DD.nx (s.set i (.v d))) (xq DD s)
def sOwn (i : Nat) (t : TDA) : TDS := fun DD s => t s (fun ds => ds.length ≤ sizeLine ∧ DD.nx (s.set i (.own ds))) (xq DD s)
def sDrop (t : TD) : TDS := fun DD s => t s (fun _ => DD.nx s) (xq DD s)
def sApp (i : Nat) (t : TD) : TDS := fun DD s => match s[i]? with
  | some (.own xs) => t s (fun d => xs.length < sizeLine ∧ DD.nx (s.set i (.own (xs ++ [d])))) (xq DD s)
  | _ => False
def sRet (t : TD) : TDS := fun DD s => t s DD.rt (xq DD s)
def sRetL (t : TDA) : TDS := fun DD s => t s (fun ds => ds.length ≤ sizeLine ∧ DD.rn ds) (xq DD s)
def sRetOwn (i : Nat) : TDS := fun DD s => match s[i]? with
  | some (.own xs) => DD.rn xs
  | _ => False
def sIf (c : TDT) (t u : TDS) : TDS := fun DD s => c s (fun b => match b with
  | true => t DD s
  | false => u DD s) (xq DD s)
section
variable {X : Cx} {ct : CT} {W : WX} {e a b c : Expr} {es : List Expr} {st : Stmt} {sts : List Stmt} {td ta tb tc : TD} {tda : TDA} {tt : TDT} {ts tu : TDS} {pos pos' : Pos}
theorem ds_nil : DSs X ct W [] sNil := PSs.imp pss_nil fun E σ H ⟨O0, H0, f, dσ, DD, h, t, e⟩ => e.nx _ _ _ _ h t
theorem ds_cons (h1 : DS X ct W st ts) (h2 : DSs X ct W sts tu) : DSs X ct W (st :: sts) (sSeq ts tu) := PSs.imp (pss_cons h1 h2) fun E σ H ⟨O0, H0, f, dσ, DD, h, t, e⟩ =>
  ⟨O0, H0, f, dσ, _, h, t, e.sub fun σ' H' f' dσ' h' t' => ⟨O0, H0, f', dσ', DD, h', t', e⟩⟩
theorem ds_asg {i : Nat} {x : Str} (hN : X.N.Nodup) (hi : X.N[i]? = some x) (hx : Loc X.env.scope x) (he : DE X ct W e td) (hs : swapsWith e (some (.Name x pos')) pos.line X.env = pure false := by rfl)
    (hf : X.fn x = true ∨ X.env.scope.names.lookup x = some .local := by first | exact .inl rfl | exact .inr rfl | assumption) : DS X ct W (.Assign [.Name x pos'] e pos) (sAsg i td) :=
  PS.imp (ps_set hN hi hx he hs hf) fun E σ H ⟨O0, H0, f, dσ, DD, h, t, e⟩ => h.ex e t fun v d H' s r q => e.nx _ _ _ _ ((h.sm s).set_v r) q
theorem ds_own {i : Nat} {x : Str} {p2 : Pos} (hN : X.N.Nodup) (hi : X.N[i]? = some x) (hx : Loc X.env.scope x) (he : DA X ct W es tda) (hs : swapsWith (.List es p2) (some (.Name x pos')) pos.line X.env = pure false := by rfl)
    (hf : X.fn x = true ∨ X.env.scope.names.lookup x = some .local := by first | exact .inl rfl | exact .inr rfl | assumption) : DS X ct W (.Assign [.Name x pos'] (.List es p2) pos) (sOwn i tda) :=
  PS.imp (ps_set hN hi hx (pe_lst he) hs hf) fun E σ H ⟨O0, H0, f, dσ, DD, h, t, e⟩ => h.aa e t fun vs ds H' s r q => ⟨by rw [r.length]; exact q.1, fun p hp => e.nx _ _ _ _ ((h.sm s).set_own hp r) q.2⟩
theorem ds_drop (he : DE X ct W e td) (hs : swapsWith e none pos.line X.env = pure false := by rfl) : DS X ct W (.Expr e pos) (sDrop td) := PS.imp (ps_expr he hs) fun E σ H ⟨O0, H0, f, dσ, DD, h, t, e⟩ => h.ex e t fun v d H' s r q => e.nx _ _ _ _ (h.sm s) q
theorem ds_ret (he : DE X ct W e td) : DS X ct W (.Return (some e) pos) (sRet td) := PS.imp (ps_ret he) fun E σ H ⟨O0, H0, f, dσ, DD, h, t, e⟩ => h.ex e t fun v d H' s r q => e.rt _ _ _ (h.same.trans s) (r.less fun b z => .inl z) q
theorem ds_retOwn {i : Nat} (he : PE X e (tVar i)) : DS X ct W (.Return (some e) pos) (sRetOwn i) := PS.imp (ps_ret he) fun E σ H ⟨O0, H0, f, dσ, DD, h, t, e⟩ => by
  unfold sRetOwn at t
  split at t
  · rename_i xs hi
    obtain ⟨o, ho, e1, n1, vs, e2, r2⟩ := h.e.at_ i _ hi
    subst e1
    refine ⟨_, ho, e.rn _ vs _ _ (h.fresh i _ hi rfl) h.same e2 (r2.less fun b z => ?_) t⟩
    rcases z with z | z
    · exact .inl z
    · rw [z]
      exact n1
  · exact t.elim
theorem ds_retL {p2 : Pos} (he : DA X ct W es tda) : DS X ct W (.Return (some (.List es p2)) pos) (sRetL tda) := PS.imp (ps_ret (pe_lst he)) fun E σ H ⟨O0, H0, f, dσ, DD, h, t, e⟩ => h.aa e t fun vs ds H' s r q => ⟨by rw [r.length]; exact q.1, fun p hp =>
  e.rn p vs ds _ ((h.same.trans s).free hp) (h.same.trans (s.trans (same_new hp))) upd_same ((RepL.fresh hp (fun b z => z) (r.less fun b z => .inl z)).same (same_new hp)) q.2⟩
theorem ds_app {i : Nat} {p1 p2 : Pos} (hp : PE X (.Call (.Attribute a "append" p1) [e] [] p2) (tBM X.K "list" rAppend (tVar i) (tCons (liftE X.K ct W td) tNil)))
    (hs : swapsWith (.Call (.Attribute a "append" p1) [e] [] p2) none pos.line X.env = pure false := by rfl) : DS X ct W (.Expr (.Call (.Attribute a "append" p1) [e] [] p2) pos) (sApp i td) :=
  PS.imp (ps_expr hp hs) fun E σ H ⟨O0, H0, f, dσ, DD, h, t, e⟩ => by
    unfold sApp at t
    split at t
    · rename_i xs hi
      obtain ⟨o, ho, e1, n1, vs, e2, r2⟩ := h.e.at_ i _ hi
      subst e1
      refine ⟨_, ho, .inl ⟨rfl, _, SqL.of e2⟩, h.ex e t fun v d H' s r q => ⟨_, vs, v, rfl, rfl, s _ _ e2, by rw [r2.length]; exact q.1, ?_⟩⟩
      exact e.nx _ _ _ _ ((h.sm s).upd_own hi ((r2.same s).app (RepL.cons r RepL.nil))) q.2
    · exact t.elim
theorem ds_if (hc : DT X ct W c tt) (h1 : DSs X ct W sts ts) {sts2 : List Stmt} (h2 : DSs X ct W sts2 tu) : DS X ct W (.If c sts sts2 pos) (sIf tt ts tu) := PS.imp (ps_if hc h1 h2) fun E σ H ⟨O0, H0, f, dσ, DD, h, t, e⟩ => by
  refine h.tt e t fun b H' s q => ?_
  cases b with
  | true =>
    rw [if_pos rfl]
    exact ⟨O0, H0, f, dσ, DD, h.sm s, q, e⟩
  | false =>
    rw [if_neg Bool.false_ne_true]
    exact ⟨O0, H0, f, dσ, DD, h.sm s, q, e⟩
end
end Dl
set_option Elab.async false
set_option linter.all false
set_option maxRecDepth 100000
set_option maxHeartbeats 4000000
namespace Dl
open PySem PySem.Spec L2
/-- Hb: H without some of what may change -/
def Cut (O : Addr → Prop) (H Hb : Hp) : Prop := Same Hb H ∧ Chg O H Hb
theorem Cut.refl {O : Addr → Prop} {H : Hp} : Cut O H H := ⟨Same.refl H, Chg.of (Same.refl H)⟩
structure ItOk (K : PySem.W.Frag) (ct : CT) (O : Addr → Prop) (Hb : Hp) (J : It) (ds : List D) : Prop where
  go : ∀ i H, Same Hb H → i < ds.length → J.go i H
  yld : ∀ i H x H', Same Hb H → i < ds.length → J.yld i H x H' → Same H H' ∧ ∃ d, ds[i]? = some d ∧ ∀ O', (∀ b, O' b → O b ∨ Hb b = none) → Rep K ct H' O' d x
  stop : ∀ H, Same Hb H → J.stop ds.length H
abbrev TDI := List Sl → (List D → Prop) → QX → Prop
def liftI (K : PySem.W.Frag) (ct : CT) (W : WX) (ti : TDI) : TI := fun σ H R => ∃ O f dσ QD QE, StE K ct H O f dσ σ ∧ ti dσ QD QE ∧ (∀ J ds H', Same H H' → (∀ Hb, Cut O H' Hb → ItOk K ct O Hb J ds) → QD ds → R J H') ∧ KE K ct W H O σ QE
def DI (X : Cx) (ct : CT) (W : WX) (tg e : Expr) (ti : TDI) : Prop := PI X tg e (liftI X.K ct W ti)
theorem PI.imp {X : Cx} {tg e : Expr} {t t' : TI} (h : PI X tg e t) (c : ∀ σ H Q, t' σ H Q → t σ H Q) : PI X tg e t' := ⟨fun pins s σ H Q I q => h.run pins s σ H Q I (c _ _ _ q)⟩
section
variable {K : PySem.W.Frag} {ct : CT} {W : WX} {O : Addr → Prop} {H H' Hb : Hp} {f : Nat → Addr} {dσ : List Sl} {σ : St}
theorem Rep.out {d : D} {v : V} {O' : Addr → Prop} (h : Rep K ct Hb O d v) (s : Same Hb H) (c : ∀ b, O' b → O b ∨ Hb b = none) : Rep K ct H O' d v :=
  (Rep.to (fun b n ⟨o, e⟩ z => by
    rcases c b z with z | z
    · exact n z
    · rw [z] at e
      cases e) h).same s
theorem it_list {a : Addr} {vs : List V} {ds : List D} (c : Cut O H Hb) (n : ¬ O a) (l : H a = some (.lst vs)) (r : RepL K ct H O ds vs) : ItOk K ct O Hb (Itl K a) ds := by
  have lb : Hb a = some (.lst vs) := by
    rcases c.2 a _ l with z | ⟨z, _⟩
    · exact z
    · exact absurd z n
  have rb : RepL K ct Hb O ds vs := r.chg c.2
  refine ⟨fun i H1 s hi => ?_, fun i H1 x H2 s hi y => ?_, fun H1 s => ⟨vs, SqL.of (s _ _ lb), by rw [r.length] <;> exact Nat.le_refl _⟩⟩
  · have hv : i < vs.length := by rw [r.length]; exact hi
    exact ⟨vs, vs[i], SqL.of (s _ _ lb), List.getElem?_eq_getElem hv⟩
  · obtain ⟨e, z⟩ := y
    subst e
    obtain ⟨d, ed, rd⟩ := rb.getV (z vs (SqL.of (s _ _ lb)))
    exact ⟨Same.refl _, d, ed, fun O' c => rd.out s c⟩
theorem it_tup {a : Addr} {vs : List V} {ds : List D} (c : Cut O H Hb) (l : SqT K H a vs) (r : RepL K ct H O ds vs) : ItOk K ct O Hb (Itt K a) ds := by
  have lb : SqT K Hb a vs := c.2.sqt l
  have rb : RepL K ct Hb O ds vs := r.chg c.2
  have up : ∀ H1, Same Hb H1 → SqT K H1 a vs := fun H1 s => (Chg.of (O := O) s).sqt lb
  refine ⟨fun i H1 s hi => ?_, fun i H1 x H2 s hi y => ?_, fun H1 s => ⟨vs, up _ s, by rw [r.length] <;> exact Nat.le_refl _⟩⟩
  · have hv : i < vs.length := by rw [r.length]; exact hi
    exact ⟨vs, vs[i], up _ s, List.getElem?_eq_getElem hv⟩
  · obtain ⟨e, z⟩ := y
    subst e
    obtain ⟨d, ed, rd⟩ := rb.getV (z vs (up _ s))
    exact ⟨Same.refl _, d, ed, fun O' c => rd.out s c⟩
def chrs (x : Str) : List D := x.cps.toList.map fun c => D.str ⟨#[c]⟩
theorem it_str {x : Str} : ItOk K ct O Hb (Its x) (chrs x) := by
  have hl : (chrs x).length = x.cps.size := by
    unfold chrs
    rw [List.length_map, Array.length_toList]
  refine ⟨fun i H1 s hi => by rw [hl] at hi; exact hi, fun i H1 y H2 s hi z => ?_, fun H1 s => by rw [hl]; exact Nat.le_refl _⟩
  obtain ⟨e, c, hc, ev⟩ := z
  subst e
  refine ⟨Same.refl _, .str ⟨#[c]⟩, ?_, fun O' _ => rep_str.mpr ev⟩
  unfold chrs
  rw [List.getElem?_map, Array.getElem?_toList, hc]
  rfl
def intsD (lo : Int) (n : Nat) : List D := (List.range n).map fun i => D.int (lo + (i : Nat))
theorem it_rng {lo : Int} {n : Nat} : ItOk K ct O Hb (Itr lo n) (intsD lo n) := by
  have hl : (intsD lo n).length = n := by
    unfold intsD
    rw [List.length_map, List.length_range]
  refine ⟨fun i H1 s hi => by rw [hl] at hi; exact hi, fun i H1 y H2 s hi z => ?_, fun H1 s => by rw [hl]; exact Nat.le_refl _⟩
  obtain ⟨e, ev⟩ := z
  subst e
  rw [hl] at hi
  refine ⟨Same.refl _, .int (lo + (i : Nat)), ?_, fun O' _ => rep_int.mpr ev⟩
  unfold intsD
  rw [List.getElem?_map, List.getElem?_range hi]
  rfl
def intsC (lo c : Int) (n : Nat) : List D := (List.range n).map fun i => D.int (lo + (i : Nat) * c)
theorem it_rngC {lo c : Int} {n : Nat} : ItOk K ct O Hb (Itc lo c n) (intsC lo c n) := by
  have hl : (intsC lo c n).length = n := by
    unfold intsC
    rw [List.length_map, List.length_range]
  refine ⟨fun i H1 s hi => by rw [hl] at hi; exact hi, fun i H1 y H2 s hi z => ?_, fun H1 s => by rw [hl]; exact Nat.le_refl _⟩
  obtain ⟨e, ev⟩ := z
  subst e
  rw [hl] at hi
  refine ⟨Same.refl _, .int (lo + (i : Nat) * c), ?_, fun O' _ => rep_int.mpr ev⟩
  unfold intsC
  rw [List.getElem?_map, List.getElem?_range hi]
  rfl
/-- a list's items with their numbers -/
def numbered (i : Nat) : List D → List D
  | [] => []
  | d :: ds => .tup [.int i, d] :: numbered (i + 1) ds
end
inductive Tg where
  | nm (i : Nat) | tp (is : List Nat) | tq (i : Nat) (is : List Nat)
def setM : List Nat → List D → List Sl → List Sl
  | i :: is, d :: ds, s => setM is ds (s.set i (.v d))
  | _, _, s => s
def setT : Tg → D → List Sl → (List Sl → Prop) → Prop
  | .nm i, d, s, Q => Q (s.set i (.v d))
  | .tp is, .tup ds, s, Q => ds.length = is.length ∧ Q (setM is ds s)
  | .tq i is, .tup [d, .tup es], s, Q => es.length = is.length ∧ Q (setM is es (s.set i (.v d)))
  | _, _, _, _ => False
def gsN : List Nat → TGs
  | [] => gNil
  | i :: is => gCons (gName i) (gsN is)
def gT (K : PySem.W.Frag) : Tg → TG
  | .nm i => gName i
  | .tp is => gTup K is.length (gsN is)
  | .tq i is => gTup K 2 (gCons (gName i) (gCons (gTup K is.length (gsN is)) gNil))
section
variable {K : PySem.W.Frag} {ct : CT} {W : WX} {O0 : Addr → Prop} {H0 H H' Hb : Hp} {f : Nat → Addr} {dσ : List Sl} {σ : St} {E : Ends} {DD : DEnds}
theorem gsN_ok : ∀ {is : List Nat} {ds : List D} {vs : List V} {dσ : List Sl} {σ : St} {Q : St → Hp → Prop}, StS K ct O0 H0 H f dσ σ → (∀ dσ' b, Own O0 f dσ' b → Own O0 f dσ b → True) → RepL K ct H (Own O0 f dσ) ds vs → ds.length = is.length →
    (∀ σ', StS K ct O0 H0 H f (setM is ds dσ) σ' → Q σ' H) → gsN is vs σ H Q
  | [], ds, vs, dσ, σ, Q, h, _, r, e, k => by
    have e1 : ds = [] := List.eq_nil_of_length_eq_zero e
    subst e1
    simp only [RepL] at r
    exact ⟨r, k σ h⟩
  | i :: is, [], vs, dσ, σ, Q, h, _, r, e, k => by cases e
  | i :: is, d :: ds, vs, dσ, σ, Q, h, _, r, e, k => by
    obtain ⟨v, q, ev, h1, h2⟩ := r.cons_inv
    subst ev
    refine ⟨v, q, rfl, ?_⟩
    exact gsN_ok (dσ := dσ.set i (.v d)) (h.set_v h1) (fun _ _ _ _ => trivial) (h2.less fun b z => own_set rfl z) (Nat.succ.inj e) k
theorem setT_tq {i : Nat} {is : List Nat} {d : D} {s : List Sl} {QQ : List Sl → Prop} (t : setT (.tq i is) d s QQ) : ∃ d1 es, d = .tup [d1, .tup es] ∧ es.length = is.length ∧ QQ (setM is es (s.set i (.v d1))) := by
  cases d with
  | tup ds =>
    rcases ds with _ | ⟨d1, _ | ⟨d2, _ | ⟨d3, r⟩⟩⟩
    · exact t.elim
    · exact t.elim
    · cases d2 <;> first | exact ⟨_, _, rfl, t.1, t.2⟩ | exact t.elim
    · cases d2 <;> exact t.elim
  | _ => exact t.elim
theorem RepL.two {O : Addr → Prop} {d e : D} {vs : List V} (r : RepL K ct H O [d, e] vs) : ∃ v u, vs = [v, u] ∧ Rep K ct H O d v ∧ Rep K ct H O e u := by
  obtain ⟨v, q, rfl, h1, h2⟩ := r.cons_inv
  obtain ⟨u, q2, rfl, h3, h4⟩ := h2.cons_inv
  simp only [RepL] at h4
  subst h4
  exact ⟨v, u, rfl, h1, h3⟩
theorem gT_ok {tg : Tg} {d : D} {x : V} {Q : St → Hp → Prop} {QQ : List Sl → Prop} (h : StS K ct O0 H0 H f dσ σ) (r : Rep K ct H (Own O0 f dσ) d x) (t : setT tg d dσ QQ) (k : ∀ dσ' σ', StS K ct O0 H0 H f dσ' σ' → QQ dσ' → Q σ' H) : gT K tg x σ H Q := by
  cases tg with
  | nm i => exact k _ _ (h.set_v r) t
  | tp is =>
    cases d with
    | tup ds =>
      obtain ⟨e, q⟩ := t
      obtain ⟨a, vs, ea, l, rl⟩ := rep_tup.mp r
      exact ⟨a, vs, ea, l, by rw [rl.length, e], gsN_ok h (fun _ _ _ _ => trivial) rl e fun σ' h' => k _ _ h' q⟩
    | _ => exact t.elim
  | tq i is =>
    obtain ⟨d1, es, rfl, e, q⟩ := setT_tq t
    obtain ⟨a, vs, ea, l, rl⟩ := rep_tup.mp r
    obtain ⟨v1, v2, rfl, r1, r2⟩ := rl.two
    obtain ⟨b, us, eb, lb, rb⟩ := rep_tup.mp r2
    refine ⟨a, _, ea, l, rfl, v1, _, rfl, v2, _, rfl, ?_⟩
    exact ⟨b, us, eb, lb, by rw [rb.length, e], gsN_ok (h.set_v r1) (fun _ _ _ _ => trivial) (rb.less fun b z => own_set rfl z) e fun σ' h' => ⟨rfl, k _ _ h' q⟩⟩
open Classical in
noncomputable def cutH (H : Hp) (P : Addr → Prop) : Hp := fun b => if P b then none else H b
def ownP (f : Nat → Addr) (dσ : List Sl) (a : Addr) : Prop := ∃ i s, dσ[i]? = some s ∧ isOwn s = true ∧ f i = a
theorem cut_some {P : Addr → Prop} {b : Addr} {o : HO} (h : cutH H P b = some o) : H b = some o ∧ ¬ P b := by
  unfold cutH at h
  by_cases z : P b
  · rw [if_pos z] at h
    cases h
  · rw [if_neg z] at h
    exact ⟨h, z⟩
theorem cut_ne {P : Addr → Prop} {b : Addr} (n : ¬ P b) : cutH H P b = H b := by
  unfold cutH
  rw [if_neg n]
theorem cut_eq {P : Addr → Prop} {b : Addr} (n : P b) : cutH H P b = none := by
  unfold cutH
  rw [if_pos n]
theorem StS.cut (h : StS K ct O0 H0 H f dσ σ) : Cut (Own O0 f dσ) H (cutH H (ownP f dσ)) ∧ StS K ct O0 (cutH H (ownP f dσ)) H f dσ σ ∧ Same H0 (cutH H (ownP f dσ)) := by
  have nown : ∀ b o, H0 b = some o → ¬ ownP f dσ b := fun b o e ⟨i, s, e1, o1, ef⟩ => by
    have z := h.fresh i s e1 o1
    rw [ef, e] at z
    cases z
  have sm : Same H0 (cutH H (ownP f dσ)) := fun b o e => by
    rw [cut_ne (nown b o e)]
    exact h.same b o e
  refine ⟨⟨fun b o e => (cut_some e).1, fun b o e => ?_⟩, ⟨h.e, fun b o e => (cut_some e).1, fun i s e o => cut_eq ⟨i, s, e, o, rfl⟩, h.inj, fun a z => ?_⟩, sm⟩
  · by_cases z : ownP f dσ b
    · obtain ⟨i, s, e1, o1, ef⟩ := z
      refine .inr ⟨.inr ⟨i, s, e1, o1, ef⟩, ?_⟩
      obtain ⟨u, _, q⟩ := h.e.at_ i s e1
      cases s with
      | own xs =>
        obtain ⟨_, _, vs, l, _⟩ := q
        rw [ef, e] at l
        cases l
        trivial
      | ini c fs =>
        obtain ⟨_, _, _, vs, l, _⟩ := q
        rw [ef, e] at l
        cases l
        trivial
      | dic ks xs =>
        obtain ⟨_, _, vs, l, _⟩ := q
        rw [ef, e] at l
        cases l
        trivial
      | _ => cases o1
    · exact .inl (by rw [cut_ne z]; exact e)
  · obtain ⟨o, e⟩ := h.dom0 a z
    exact ⟨o, sm a o e⟩
theorem StS.rebase (s : Same H0 Hb) (dom0 : ∀ a, O0 a → ∃ o, H0 a = some o) (h : StS K ct O0 Hb H f dσ σ) : StS K ct O0 H0 H f dσ σ := ⟨h.e, s.trans h.same, fun i t e o => s.free (h.fresh i t e o), h.inj, dom0⟩
theorem EndsOk.rebase (s : Same H0 Hb) (dom0 : ∀ a, O0 a → ∃ o, H0 a = some o) (e : EndsOk K ct W O0 H0 E DD) : EndsOk K ct W O0 Hb E DD :=
  ⟨fun σ H f dσ h q => e.nx σ H f dσ (h.rebase s dom0) q, fun σ H f dσ h q => e.bk σ H f dσ (h.rebase s dom0) q, fun σ H f dσ h q => e.cn σ H f dσ (h.rebase s dom0) q, fun v d H z r q => e.rt v d H (s.trans z) r q, fun p vs ds H hp z l r q => e.rn p vs ds H (s.free hp) (s.trans z) l r q,
    fun c x cls dd σ H f dσ h a q => e.ex c x cls dd σ H f dσ (h.rebase s dom0) a q⟩
end
theorem turn_longC {P : Program} {w : World} {K : PySem.W.Frag} {tg : Expr} (it : Addr) (lo c : Int) (n : Nat) : Turn P w K tg (Itc lo c n) [it] it (fun i h => IsLongIter h it (lo + (i : Nat) * c) ((n : Int) - (i : Nat)) c) where
  mem := by simp
  obj := fun i h st b hb => by
    have e : b = it := by simpa using hb
    subst e
    exact ⟨_, st, fun v z => nomatch z⟩
  keep := fun i h h' st k => k it (by simp) _ st
  item := by
    intro X hP hw hK hc i pins s σ H E I hf st hg
    subst hP hw hK
    obtain ⟨f0, f1, f2, f3, f4, f5⟩ := hf it (by simp)
    have WL := Walks.longrange (prog := X.prog) (w := X.w) (I.ok.hd hc) it lo c n
    refine WL.item i s _ _ hg st fun v h' tk hv st' kk => ?_
    obtain ⟨t, rfl⟩ := hv
    have I1 : Inv X pins σ H { s with heap := h', toks := tk } := I.turned (fun b o hb e => kk b o (by simpa using hb) e) f0 f1 f3 f4 f5
    exact ⟨_, rfl, go_of (s := { s with heap := h', toks := tk }) (n := "longrange_iterator") st' rfl rfl (by decide) ⟨.int (lo + (i : Nat) * c), H, I1, ⟨t, rfl⟩, ⟨rfl, rfl⟩, st', fun b hb => (hf b hb).1⟩⟩
  done := by
    intro X hP hw hK hc i pins s σ H E I hf st hg
    subst hP hw hK
    obtain ⟨f0, f1, f2, f3, f4, f5⟩ := hf it (by simp)
    exact wpAny_pyNext_long_end (I.ok.hd hc) st (by have : n ≤ i := hg; omega) fun h' eb => ⟨rfl, I.turned (t' := s.toks) (fun b o hb e => eb b o hb e) f0 f1 f3 f4 f5⟩
  self := fun A i s Q E st h => wpAny_pyIter_longiter st h
/-- range(i, j, c) of n items, with a step that is no giant -/
def RgX (i j c : Int) (n : Nat) : Prop := c ≠ 0 ∧ c.natAbs.log2 < 9000 ∧ Builtin.Range.rangeSize i j c = n
open PyProof.Rows in
def iRngX (ta : TA) : TI := fun σ H R => ta σ H fun vs H1 => ∃ (i j c : Int) (n : Nat), vs = [.int i, .int j, .int c] ∧ RgX i j c n ∧ R (Itc i c n) H1
section
variable {X : Cx} {tg : Expr}
open PyProof.Rows in
theorem pi_rangeX {a b c : Expr} {ta : TA} {p pos : Pos} (hg : Gl X "range") (hm : X.mg "range" = none) (ha : PA X [a, b, c] ta)
    (hs : starEach [a, b, c] X.env = (false, eval a X.env) :: starEach [b, c] X.env := by rfl) (hpl : (backTo pos (starEach [b, c] X.env)).any (·.1) = false := by rfl) :
    PI X tg (.Call (.Name "range" p) [a, b, c] [] pos) (iRngX ta) := by
  refine ⟨fun pins s σ H R I h => ?_⟩
  refine Call_ (ld_blt I hg hm boot_range (PyProof.Rows.callWith_type1 (thn (ha.run pos pins s σ H _ I h) fun us s1 ⟨vs, H1, I1, r1, q1⟩ => ?_) hs hpl))
  obtain ⟨i, j, k, n, e, ⟨c0, c1, c3⟩, q⟩ := q1
  subst e
  cases r1 with
  | cons r rr =>
    cases rr with
    | cons r' rr =>
      cases rr with
      | cons r'' rr =>
        cases rr
        obtain ⟨t, rfl⟩ := r
        obtain ⟨t', rfl⟩ := r'
        obtain ⟨t'', rfl⟩ := r''
        refine call_range_3 c0 ?_ (.inl (PyProof.noPylong_of_log2 c1))
        have e1 : i + ((0 : Nat) : Int) * k = i := by simp
        have e2 : (n : Int) - ((0 : Nat) : Int) = Builtin.Range.rangeSize i j k := by rw [c3]; simp
        have I2 : Inv X pins σ H1 { s1 with heap := s1.heap.push { cls := .type "range", data := .fields #[.int i t, .int j t', .int k t''] } } := I1.kept (t' := s1.toks) fun b o e => Heap.get?_push_of_some _ e
        cases c2 : Builtin.Range.small i j k with
        | true =>
          refine wpAny_pyIter_range (IsRange.new ..) c2 ?_
          refine pi_one (tk := s1.toks) I2 _ (turn_rangeC _ i k n) ?_ q
          show IsRangeIter _ _ (i + ((0 : Nat) : Int) * k) ((n : Int) - ((0 : Nat) : Int)) k
          rw [e1, e2]
          exact Heap.get?_push_size _ rfl
        | false =>
          refine wpAny_pyIter_longrange (IsRange.new ..) c2 ?_
          refine pi_one (tk := s1.toks) I2 _ (turn_longC _ i k n) ?_ q
          show IsLongIter _ _ (i + ((0 : Nat) : Int) * k) ((n : Int) - ((0 : Nat) : Int)) k
          rw [e1, e2]
          exact Heap.get?_push_size _ rfl
end
def forR (tg : Tg) (body : TDS) : List D → TDS
  | [], DD, s => DD.nx s
  | d :: ds, DD, s => setT tg d s fun s1 => body { DD with nx := forR tg body ds DD, cn := forR tg body ds DD, bk := DD.nx } s1
def sFor (ti : TDI) (tg : Tg) (body : TDS) : TDS := fun DD s => ti s (fun ds => forR tg body ds DD s) (xq DD s)
section
variable {X : Cx} {ct : CT} {W : WX} {e te : Expr} {sts : List Stmt} {ti : TDI} {tg : Tg} {tb : TDS} {pos : Pos}
theorem for_lift : ∀ E σ H, liftS X.K ct W (sFor ti tg tb) E σ H → tFor (liftI X.K ct W ti) (gT X.K tg) (liftS X.K ct W tb) E σ H := fun E σ H ⟨O0, H0, f, dσ, DD, h, t, en⟩ => by
  refine ⟨_, f, dσ, _, _, h.e, t, fun J ds H1 s1 it q => ?_, h.ke en⟩
  have h1 := h.sm s1
  obtain ⟨hc1, hc2, hc3⟩ := h1.cut
  have I := it _ hc1
  have en1 := en.rebase hc3 h.dom0
  refine ⟨fun i m σ' H' => m = ds.length - i ∧ i ≤ ds.length ∧ ∃ f' dσ', StS X.K ct O0 (cutH H1 (ownP f dσ)) H' f' dσ' σ' ∧ forR tg tb (ds.drop i) DD dσ', ⟨ds.length, rfl, Nat.zero_le _, f, dσ, hc2, q⟩, ?_⟩
  rintro i m σ' H' ⟨rfl, hi', f', dσ', h', q'⟩
  by_cases hlt : i < ds.length
  · rw [List.drop_eq_getElem_cons hlt] at q'
    refine .inr ⟨I.go i H' h'.same hlt, fun σ2 H2 => ∃ f2 dσ2, StS X.K ct O0 (cutH H1 (ownP f dσ)) H2 f2 dσ2 σ2 ∧ forR tg tb (ds.drop (i + 1)) DD dσ2, fun σ2 H2 ⟨f2, dσ2, h2, q2⟩ => ⟨ds.length - (i + 1), by omega, rfl, hlt, f2, dσ2, h2, q2⟩, fun x H2 y => ?_⟩
    obtain ⟨s2, d, ed, rd⟩ := I.yld i H' x H2 h'.same hlt y
    rw [List.getElem?_eq_getElem hlt] at ed
    cases ed
    have r2 : Rep X.K ct H2 (Own O0 f' dσ') ds[i] x := rd _ fun b z => by
      rcases z with z | ⟨j, t, e1, o1, ef⟩
      · exact .inl (.inl z)
      · rw [← ef]
        exact .inr (h'.fresh j t e1 o1)
    refine gT_ok (h'.sm s2) r2 q' fun dσ3 σ3 h3 q3 => ?_
    refine ⟨O0, _, f', dσ3, _, h3, q3, ⟨fun σ4 H4 f4 dσ4 h4 q4 => ⟨f4, dσ4, h4, q4⟩, fun σ4 H4 f4 dσ4 h4 q4 => en1.nx σ4 H4 f4 dσ4 h4 q4, fun σ4 H4 f4 dσ4 h4 q4 => ⟨f4, dσ4, h4, q4⟩, en1.rt, en1.rn, en1.ex⟩⟩
  · have ei : i = ds.length := by omega
    subst ei
    rw [List.drop_length] at q'
    exact .inl ⟨I.stop H' h'.same, en1.nx _ _ _ _ h' q'⟩
theorem ds_for (hp : PassesOwn (model X.prog X.w) X.A X.env X.xe) (hc : X.calm = true) (hi : DI X ct W te e ti) (hg : PG X te (gT X.K tg)) (hb : DSs X ct W sts tb) (hs : ∀ x, foldedSetIterable e X.env x = pure x := by intro _; rfl) :
    DS X ct W (.For te e sts [] pos) (sFor ti tg tb) := PS.imp (ps_for hp hc hi hg hb hs) for_lift
end
section
variable {X : Cx} {ct : CT} {W : WX} {e c a b : Expr} {es : List Expr} {sts : List Stmt} {ta : TD} {tda : TDA} {tt : TDT} {tb : TDS} {pos : Pos} {tg : Expr} {te0 : TE}
/-- a list, a tuple, a text -/
def itD : D → (List D → Prop) → Prop
  | .lst xs, Q => Q xs
  | .tup xs, Q => Q xs
  | .str x, Q => Q (chrs x)
  | .scr ns, Q => Q (ns.map D.int)
  | _, _ => False
def iVal (t : TD) : TDI := fun s Q E => t s (fun d => itD d Q) E
def iR1 (t : TDA) : TDI := fun s Q E => t s (fun ds => match ds with
  | [.int n] => -(2 ^ 62) ≤ n ∧ n < 2 ^ 62 ∧ Q (intsD 0 n.toNat)
  | _ => False) E
def iR2 (t : TDA) : TDI := fun s Q E => t s (fun ds => match ds with
  | [.int a, .int n] => (-(2 ^ 62) ≤ a ∧ a < 2 ^ 62 ∧ -(2 ^ 62) ≤ n ∧ n < 2 ^ 62) ∧ Q (intsD a (n - a).toNat)
  | _ => False) E
def iR3 (t : TDA) : TDI := fun s Q E => t s (fun ds => match ds with
  | [.int a, .int b, .int c] => ∃ n, RgX a b c n ∧ Q (intsC a c n)
  | _ => False) E
theorem pi_any (he : PE X e te0) : PI X tg e (fun σ H R => te0 σ H fun v H1 => (∃ a xs, v = .ref a ∧ SqL X.K H1 a xs ∧ R (Itl X.K a) H1) ∨ (∃ a xs, v = .ref a ∧ SqT X.K H1 a xs ∧ R (Itt X.K a) H1) ∨ ∃ x, v = .str x ∧ R (Its x) H1) := by
  constructor
  intro pins s σ H R I h
  refine thn (he.run pins s σ H _ I h) ?_
  rintro v s1 ⟨y, H1, I1, r1, q | q | q⟩
  · obtain ⟨a, xs, ea, hq, q⟩ := q
    subst ea
    cases r1
    obtain ⟨its, rv, p, hz⟩ := I1.list hq
    exact PySem.wpAny_pyIter_list p.isList (pi_one (tk := s1.toks) I1 _ (turn_list a _) ⟨_, Heap.get?_push_size _ rfl, rfl, rfl⟩ q)
  · obtain ⟨a, xs, ea, hq, q⟩ := q
    subst ea
    cases r1
    obtain ⟨its, rv, p, hz⟩ := I1.tuple hq
    exact PySem.wpAny_pyIter_tuple (show s1.heap.IsTuple a its.toArray from p) (pi_one (tk := s1.toks) I1 _ (turn_tuple a _) ⟨_, Heap.get?_push_size _ rfl, rfl, rfl⟩ q)
  · obtain ⟨x, ea, q⟩ := q
    subst ea
    obtain ⟨t, rfl⟩ := r1
    cases ha : x.cps.all (· < 128) with
    | false => exact PySem.wpAny_pyIter_wide ha (pi_one (tk := s1.toks) I1 _ (turn_str _ x t "str_iterator" (.inr rfl)) ⟨_, Heap.get?_push_size _ rfl, rfl, rfl⟩ q)
    | true => exact PySem.wpAny_pyIter_ascii ha (pi_one (tk := s1.toks) I1 _ (turn_str _ x t "str_ascii_iterator" (.inl rfl)) ⟨_, Heap.get?_push_size _ rfl, rfl, rfl⟩ q)
theorem scr_rep {K : PySem.W.Frag} {H : Hp} {O : Addr → Prop} {a : Addr} {ns : List Int} (l : LAt K H O a (ns.map V.int)) : ∀ Hb, Cut O H Hb → ItOk K ct O Hb (Itl K a) (ns.map D.int) := fun Hb c => by
  have lb : LAt K Hb O a (ns.map V.int) := c.2.lat l
  have up : ∀ H1, Same Hb H1 → SqL K H1 a (ns.map V.int) := fun H1 s => ((Chg.of (O := O) s).lat lb).sq
  refine ⟨fun i H1 s hi => ?_, fun i H1 x H2 s hi y => ?_, fun H1 s => ⟨_, up _ s, by rw [List.length_map, List.length_map] <;> exact Nat.le_refl _⟩⟩
  · rw [List.length_map] at hi
    exact ⟨_, .int ns[i], up _ s, by rw [List.getElem?_map, List.getElem?_eq_getElem hi] <;> rfl⟩
  · obtain ⟨e, z⟩ := y
    subst e
    rw [List.length_map] at hi
    have z2 := z _ (up _ s)
    rw [List.getElem?_map, List.getElem?_eq_getElem hi] at z2
    refine ⟨Same.refl _, .int ns[i], by rw [List.getElem?_map, List.getElem?_eq_getElem hi] <;> rfl, fun O' _ => rep_int.mpr (Option.some.inj z2).symm⟩
theorem di_val (he : DE X ct W e ta) : DI X ct W tg e (iVal ta) := PI.imp (pi_any he) fun σ H R ⟨O, f, dσ, QD, QE, hs, h, k, kx⟩ => by
  refine ⟨O, f, dσ, _, QE, hs, h, fun v d H1 e1 r q => ?_, kx⟩
  cases d with
  | lst xs =>
    obtain ⟨a, vs, ea, n, l, rl⟩ := rep_lst.mp r
    exact .inl ⟨a, vs, ea, SqL.of l, k _ _ _ e1 (fun Hb c => it_list c n l rl) q⟩
  | tup xs =>
    obtain ⟨a, vs, ea, l, rl⟩ := rep_tup.mp r
    exact .inr (.inl ⟨a, vs, ea, l, k _ _ _ e1 (fun Hb c => it_tup c l rl) q⟩)
  | str x => exact .inr (.inr ⟨x, rep_str.mp r, k _ _ _ e1 (fun Hb c => it_str) q⟩)
  | scr ns =>
    obtain ⟨a, ea, l⟩ := rep_scr.mp r
    exact .inl ⟨a, _, ea, l.sq, k _ _ _ e1 (scr_rep l) q⟩
  | _ => exact q.elim
theorem di_r1 {p : Pos} (hg : Gl X "range") (hm : X.mg "range" = none) (ha : DA X ct W [a] tda) (hs : starEach [a] X.env = [(false, eval a X.env)] := by rfl) : DI X ct W tg (.Call (.Name "range" p) [a] [] pos) (iR1 tda) :=
  PI.imp (pi_range1 hg hm ha hs) fun σ H R ⟨O, f, dσ, QD, QE, hs, h, k, kx⟩ => by
    refine ⟨O, f, dσ, _, QE, hs, h, fun vs ds H1 e1 r q => ?_, kx⟩
    split at q
    · rename_i n
      have ev := RepL.ints_inv (ns := [n]) r
      exact ⟨n, ev, q.1, q.2.1, k _ _ _ e1 (fun Hb c => it_rng) q.2.2⟩
    · exact q.elim
theorem di_r2 {p : Pos} (hg : Gl X "range") (hm : X.mg "range" = none) (ha : DA X ct W [a, b] tda) (hs : starEach [a, b] X.env = [(false, eval a X.env), (false, eval b X.env)] := by rfl) (hs2 : starEach [b] X.env = [(false, eval b X.env)] := by rfl) :
    DI X ct W tg (.Call (.Name "range" p) [a, b] [] pos) (iR2 tda) :=
  PI.imp (pi_range2 hg hm ha hs hs2) fun σ H R ⟨O, f, dσ, QD, QE, hs, h, k, kx⟩ => by
    refine ⟨O, f, dσ, _, QE, hs, h, fun vs ds H1 e1 r q => ?_, kx⟩
    split at q
    · rename_i n m
      have ev := RepL.ints_inv (ns := [n, m]) r
      exact ⟨n, m, ev, q.1, k _ _ _ e1 (fun Hb c => it_rng) q.2⟩
    · exact q.elim
theorem di_r3 {p : Pos} (hg : Gl X "range") (hm : X.mg "range" = none) (ha : DA X ct W [a, b, c] tda) (hs : starEach [a, b, c] X.env = (false, eval a X.env) :: starEach [b, c] X.env := by rfl) (hpl : (backTo pos (starEach [b, c] X.env)).any (·.1) = false := by rfl) :
    DI X ct W tg (.Call (.Name "range" p) [a, b, c] [] pos) (iR3 tda) :=
  PI.imp (pi_rangeX hg hm ha hs hpl) fun σ H R ⟨O, f, dσ, QD, QE, hs, h, k, kx⟩ => by
    refine ⟨O, f, dσ, _, QE, hs, h, fun vs ds H1 e1 r q => ?_, kx⟩
    split at q
    · rename_i n m l
      have ev := RepL.ints_inv (ns := [n, m, l]) r
      obtain ⟨N, g, q⟩ := q
      exact ⟨n, m, l, N, ev, g, k _ _ _ e1 (fun Hb c => it_rngC) q⟩
    · exact q.elim
end
def compR (tg : Tg) (tt : TDT) (te : TD) (s : List Sl) : List D → (List D → Prop) → Prop
  | [], Q => Q []
  | d :: ds, Q => setT tg d s fun s1 => tt s1 (fun b => match b with
    | true => te s1 (fun y => compR tg tt te s ds fun ys => Q (y :: ys)) fun _ _ => False
    | false => compR tg tt te s ds Q) fun _ _ => False
def wipeD (s : List Sl) : List Nat → List Sl
  | [] => s
  | v :: vs => (wipeD s vs).set v .un
def dLc (ti : TDI) (tg : Tg) (tt : TDT) (te : TD) (vs : List Nat) : TD := fun s Q E => ti s (fun ds => ds.length ≤ sizeLine ∧ compR tg tt te (wipeD s vs) ds fun ys => Q (.lst ys)) E
def tYesD : TDT := fun _ Q _ => Q true
def W0 : WX := fun _ _ _ _ => False
def tgIn : Tg → List Nat → Bool
  | .nm i, vs => vs.contains i
  | .tp is, vs => is.all fun i => vs.contains i
  | .tq i is, vs => vs.contains i && is.all fun i => vs.contains i
end Dl
set_option Elab.async false
set_option linter.all false
set_option maxRecDepth 100000
set_option maxHeartbeats 4000000
namespace Dl
open PySem PySem.Spec L2
section
variable {K : PySem.W.Frag} {ct : CT} {W : WX} {O O' : Addr → Prop} {H H' : Hp} {f : Nat → Addr} {dσ : List Sl} {σ : St}
theorem StE.set_s (h : StE K ct H O f dσ σ) {i : Nat} {s : Sl} {x : Option V} (r : SlOk K ct H O (f i) s x) : StE K ct H O f (dσ.set i s) (σ.set i x) where
  len := by rw [List.length_set, List.length_set]; exact h.len
  at_ := fun j t e => by
    rcases getS e with ⟨e1, e2, e3⟩ | ⟨e1, e2⟩
    · subst e1
      subst e2
      exact ⟨x, List.getElem?_set_self (by rw [← h.len]; exact e3), r⟩
    · obtain ⟨o, a, b⟩ := h.at_ j t e2
      exact ⟨o, by rw [List.getElem?_set_ne (Ne.symm e1)]; exact a, b⟩
  dom := h.dom
theorem StE.set_v (h : StE K ct H O f dσ σ) {i : Nat} {d : D} {x : V} (r : Rep K ct H O d x) : StE K ct H O f (dσ.set i (.v d)) (σ.set i (some x)) := h.set_s ⟨x, rfl, r⟩
theorem StE.wipe (h : StE K ct H O f dσ σ) : ∀ vs, StE K ct H O f (wipeD dσ vs) (L2.wipe σ vs)
  | [] => h
  | v :: vs => (StE.wipe h vs).set_s (s := .un) (x := none) trivial
theorem wipe_get (σ : St) (j : Nat) : ∀ vs : List Nat, (L2.wipe σ vs)[j]? = if j ∈ vs then (if j < σ.length then some none else none) else σ[j]?
  | [] => by simp [L2.wipe]
  | v :: vs => by
    unfold L2.wipe
    by_cases e : v = j
    · subst e
      rw [if_pos (List.mem_cons_self ..)]
      by_cases hl : v < σ.length
      · rw [if_pos hl, List.getElem?_set_self (by rw [L2.wipe_length]; exact hl)]
      · rw [if_neg hl, List.getElem?_eq_none (by rw [List.length_set, L2.wipe_length]; omega)]
    · rw [List.getElem?_set_ne e, wipe_get σ j vs]
      have e2 : (j ∈ v :: vs) ↔ j ∈ vs := by
        rw [List.mem_cons]
        exact ⟨fun z => z.elim (fun z => absurd z.symm e) id, .inr⟩
      simp only [e2]
theorem wipe_set {σ : St} {i : Nat} {x : Option V} {vs : List Nat} (h : i ∈ vs) : L2.wipe (σ.set i x) vs = L2.wipe σ vs := by
  apply List.ext_getElem?
  intro j
  rw [wipe_get, wipe_get, List.length_set]
  by_cases z : j ∈ vs
  · rw [if_pos z, if_pos z]
  · rw [if_neg z, if_neg z, List.getElem?_set_ne fun e => z (by rw [← e]; exact h)]
theorem wipe_wipe {σ : St} {vs : List Nat} : L2.wipe (L2.wipe σ vs) vs = L2.wipe σ vs := by
  apply List.ext_getElem?
  intro j
  rw [wipe_get, wipe_get]
  by_cases z : j ∈ vs
  · rw [if_pos z, if_pos z, L2.wipe_length]
  · rw [if_neg z, if_neg z]
theorem gsN_okE {vs : List Nat} {ρ : St} : ∀ {is : List Nat} {ds : List D} {xs : List V} {dσ : List Sl} {σ : St} {Q : St → Hp → Prop}, (∀ i ∈ is, i ∈ vs) → StE K ct H O f dσ σ → L2.wipe σ vs = ρ → RepL K ct H O ds xs → ds.length = is.length →
    (∀ σ', StE K ct H O f (setM is ds dσ) σ' → L2.wipe σ' vs = ρ → Q σ' H) → gsN is xs σ H Q
  | [], ds, xs, dσ, σ, Q, hv, h, hw, r, e, k => by
    have e1 : ds = [] := List.eq_nil_of_length_eq_zero e
    subst e1
    simp only [RepL] at r
    exact ⟨r, k σ h hw⟩
  | i :: is, [], xs, dσ, σ, Q, hv, h, hw, r, e, k => by cases e
  | i :: is, d :: ds, xs, dσ, σ, Q, hv, h, hw, r, e, k => by
    obtain ⟨v, q, ev, h1, h2⟩ := r.cons_inv
    subst ev
    refine ⟨v, q, rfl, ?_⟩
    exact gsN_okE (dσ := dσ.set i (.v d)) (fun j hj => hv j (List.mem_cons_of_mem _ hj)) (h.set_v h1) (by rw [wipe_set (hv i (List.mem_cons_self ..))]; exact hw) h2 (Nat.succ.inj e) k
theorem gT_okE {tg : Tg} {d : D} {x : V} {vs : List Nat} {Q : St → Hp → Prop} {QQ : List Sl → Prop} (hv : tgIn tg vs = true) (h : StE K ct H O f dσ σ) (hw : L2.wipe σ vs = σ) (r : Rep K ct H O d x) (t : setT tg d dσ QQ)
    (k : ∀ dσ' σ', StE K ct H O f dσ' σ' → L2.wipe σ' vs = σ → QQ dσ' → Q σ' H) : gT K tg x σ H Q := by
  cases tg with
  | nm i =>
    have hi : i ∈ vs := by simpa [tgIn] using hv
    exact k _ _ (h.set_v r) (by rw [wipe_set hi]; exact hw) t
  | tp is =>
    cases d with
    | tup ds =>
      obtain ⟨e, q⟩ := t
      obtain ⟨a, us, ea, l, rl⟩ := rep_tup.mp r
      have hi : ∀ i ∈ is, i ∈ vs := fun i z => by
        have q := List.all_eq_true.mp hv i z
        simpa using q
      exact ⟨a, us, ea, l, by rw [rl.length, e], gsN_okE hi h hw rl e fun σ' h' w' => k _ _ h' w' q⟩
    | _ => exact t.elim
  | tq i is =>
    obtain ⟨d1, es, rfl, e, q⟩ := setT_tq t
    obtain ⟨a, vs2, ea, l, rl⟩ := rep_tup.mp r
    obtain ⟨v1, v2, rfl, r1, r2⟩ := rl.two
    obtain ⟨b, us, eb, lb, rb⟩ := rep_tup.mp r2
    have hv2 : i ∈ vs ∧ ∀ j ∈ is, j ∈ vs := by
      simp only [tgIn, Bool.and_eq_true] at hv
      refine ⟨by simpa using hv.1, fun j z => ?_⟩
      have q := List.all_eq_true.mp hv.2 j z
      simpa using q
    refine ⟨a, _, ea, l, rfl, v1, _, rfl, v2, _, rfl, ?_⟩
    exact ⟨b, us, eb, lb, by rw [rb.length, e], gsN_okE (dσ := dσ.set i (.v d1)) hv2.2 (h.set_v r1) (by rw [wipe_set hv2.1]; exact hw) rb e fun σ' h' w' => ⟨rfl, k _ _ h' w' q⟩⟩
end
theorem PTs.imp {X : Cx} {es : List Expr} {t t' : TT} (h : PTs X es t) (c : ∀ σ H Q, t' σ H Q → t σ H Q) : PTs X es t' := ⟨fun pins s σ H Q I q => h.run pins s σ H Q I (c _ _ _ q)⟩
def DTs (X : Cx) (ct : CT) (W : WX) (es : List Expr) (tt : TDT) : Prop := PTs X es (liftT X.K ct W tt)
section
variable {X : Cx} {ct : CT} {W : WX} {e c a b elt te : Expr} {es ifs : List Expr} {td : TD} {tt : TDT} {ti : TDI} {tg : Tg} {pos : Pos} {scope : Scope} {own : List (Str × Nat)}
theorem dts_nil : DTs X ct W [] tYesD := PTs.imp pts_nil fun σ H Q ⟨O, f, dσ, QD, QE, hs, h, k, kx⟩ => k _ H (Same.refl H) h
theorem dts_one (h : DT X ct W c tt) : DTs X ct W [c] tt := pts_one h
theorem de_lc (hc : X.calm = true) (hN : X.N.Nodup) (hi : DI X ct W te e ti) (ok : BlkOk X.N X.env.scope scope own)
    (hg : ∀ (s : Shared) (H : Hp) (C : Addr) (cl : List (Str × Addr)) (fp : List Addr), PG (X.blk s H scope (compEnvC scope cl C X.env) fp) te (gT X.K tg)) (ht : ∀ (s : Shared) (H : Hp) (C : Addr) (cl : List (Str × Addr)) (fp : List Addr), DTs (X.blk s H scope (compEnvC scope cl C X.env) fp) ct W0 ifs tt)
    (he : ∀ (s : Shared) (H : Hp) (C : Addr) (cl : List (Str × Addr)) (fp : List Addr), DE (X.blk s H scope (compEnvC scope cl C X.env) fp) ct W0 elt td) (hin : tgIn tg (own.map (·.2)) = true) (hs : ∀ x, foldedSetIterable e X.env x = pure x := by intro _; rfl) :
    DE X ct W (.ListComp elt [⟨te, e, ifs, 0⟩] scope pos) (dLc ti tg tt td (own.map (·.2))) := PE.imp (pe_lc (tt := liftT X.K ct W0 tt) (te := liftE X.K ct W0 td) hc hN hi ok hg ht he hs) fun σ H Q ⟨O, f, dσ, QD, QE, hs, h, k, kx⟩ => by
  refine ⟨O, f, dσ, _, QE, hs, h, fun J ds H1 e1 it ⟨hl, q⟩ p hp => ?_, kx⟩
  have I := it H1 Cut.refl
  have h1 := hs.same e1
  have hO : ¬ O p := fun z => by
    obtain ⟨u, g⟩ := h1.dom p z
    rw [hp] at g
    cases g
  refine ⟨fun i m H' => m = ds.length - i ∧ i ≤ ds.length ∧ Same H1 H' ∧ ∃ acc accD, H' p = some (.lst acc) ∧ RepL X.K ct H' (fun b => O b ∨ b = p) accD acc ∧ accD.length ≤ i ∧ compR tg tt td (wipeD dσ (own.map (·.2))) (ds.drop i) (fun ys => QD (.lst (accD ++ ys))),
    ⟨ds.length, rfl, Nat.zero_le _, same_new hp, [], [], upd_same, RepL.nil, Nat.le_refl _, q⟩, ?_⟩
  rintro i m H' ⟨rfl, hi', s1, acc, accD, ea, ra, la, q'⟩
  by_cases hlt : i < ds.length
  · rw [List.drop_eq_getElem_cons hlt] at q'
    refine .inr ⟨I.go i H' s1 hlt, fun H2 => Same H1 H2 ∧ ∃ acc accD, H2 p = some (.lst acc) ∧ RepL X.K ct H2 (fun b => O b ∨ b = p) accD acc ∧ accD.length ≤ i + 1 ∧ compR tg tt td (wipeD dσ (own.map (·.2))) (ds.drop (i + 1)) (fun ys => QD (.lst (accD ++ ys))),
      fun H2 z => ⟨ds.length - (i + 1), by omega, rfl, hlt, z⟩, fun x H2 y => ?_⟩
    obtain ⟨s2, d, ed, rd⟩ := I.yld i H' x H2 s1 hlt y
    rw [List.getElem?_eq_getElem hlt] at ed
    cases ed
    have r2 : Rep X.K ct H2 (fun b => O b ∨ b = p) ds[i] x := rd _ fun b z => z.elim .inl fun z => .inr (by rw [z]; exact hp)
    -- the frame at H2
    have hE : ∀ {H3 : Hp}, Same H1 H3 → (∃ xs, H3 p = some (.lst xs)) → StE X.K ct H3 (fun b => O b ∨ b = p) f (wipeD dσ (own.map (·.2))) (L2.wipe σ (own.map (·.2))) := fun {H3} s3 ⟨xs, ex⟩ => by
      have z := h1.wipe (own.map (·.2))
      refine ⟨z.len, fun j t e => ?_, fun a ha => ?_⟩
      · obtain ⟨u, g1, g2⟩ := z.at_ j t e
        refine ⟨u, g1, ?_⟩
        cases t with
        | un => trivial
        | v d =>
          obtain ⟨v, e, r⟩ := g2
          exact ⟨v, e, (r.fresh hp fun b z => z).same s3⟩
        | own xs =>
          obtain ⟨e, n, vs, z, r⟩ := g2
          exact ⟨e, .inl n, vs, s3 _ _ z, (r.fresh hp fun b z => z).same s3⟩
        | ini c fs =>
          obtain ⟨e, n, ea, vs, z, r⟩ := g2
          exact ⟨e, .inl n, ea, vs, s3 _ _ z, (r.fresh hp fun b z => z).same s3⟩
        | exc k x => exact ⟨g2.1, (g2.2.fresh hp fun b z => z).same s3⟩
        | dic ks xs =>
          obtain ⟨e, n, vs, z, hl, r⟩ := g2
          exact ⟨e, .inl n, vs, s3 _ _ z, hl, (r.fresh hp fun b z => z).same s3⟩
      · rcases ha with ha | ha
        · obtain ⟨u, g⟩ := z.dom a ha
          exact ⟨u, s3 _ _ g⟩
        · rw [ha]
          exact ⟨_, ex⟩
    refine gT_okE hin (hE (s1.trans s2) ⟨acc, s2 _ _ ea⟩) wipe_wipe r2 q' fun dσ3 σ3 h3 w3 q3 => ⟨w3, ?_⟩
    refine ⟨_, f, dσ3, _, _, h3, q3, fun bb H4 s4 q4 => ?_, fun c x cls dd H5 _ _ z => z.elim⟩
    cases bb with
    | true =>
      rw [if_pos rfl]
      refine ⟨_, f, dσ3, _, _, h3.same s4, q4, fun v d H5 s5 r5 q5 => ⟨acc, s5 _ _ (s4 _ _ (s2 _ _ ea)), ?_, ?_, ?_⟩, fun c x cls dd H5 _ _ z => z.elim⟩
      · rw [ra.length]
        omega
      · intro b o e
        have ne : b ≠ p := fun z => by
          rw [z, hp] at e
          cases e
        rw [upd_ne ne]
        exact s5 _ _ (s4 _ _ (s2 _ _ (s1 b o e)))
      · have c : Chg (fun b => O b ∨ b = p) H5 (upd H5 p (.lst (acc ++ [v]))) := fun b o e => by
          by_cases z : b = p
          · subst z
            rw [s5 _ _ (s4 _ _ (s2 _ _ ea))] at e
            cases e
            exact .inr ⟨.inr rfl, trivial⟩
          · exact .inl (by rw [upd_ne z]; exact e)
        refine ⟨acc ++ [v], accD ++ [d], upd_same, (((ra.same (s2.trans (s4.trans s5))).app (RepL.cons r5 RepL.nil)).chg c), ?_, ?_⟩
        · rw [List.length_append]
          show accD.length + 1 ≤ i + 1
          omega
        · simp only [List.append_assoc, List.singleton_append]
          exact q5
    | false =>
      rw [if_neg Bool.false_ne_true]
      exact ⟨s1.trans (s2.trans s4), acc, accD, s4 _ _ (s2 _ _ ea), ra.same (s2.trans s4), Nat.le_succ_of_le la, q4⟩
  · have ei : i = ds.length := by omega
    subst ei
    rw [List.drop_length] at q'
    refine .inl ⟨I.stop H' s1, k _ (.lst accD) H' (e1.trans s1) (rep_lst.mpr ⟨p, acc, rfl, hO, ea, ra.less fun b z => .inl z⟩) ?_⟩
    have z : QD (.lst (accD ++ [])) := q'
    rw [List.append_nil] at z
    exact z
end
end Dl
set_option Elab.async false
set_option linter.all false
set_option maxRecDepth 100000
set_option maxHeartbeats 4000000
namespace Dl
open PySem PySem.Spec L2
abbrev Wf := List D → (D → Prop) → QX → Prop
def spD (K : PySem.W.Frag) (ct : CT) (wf : Wf) : Sp := fun vs H Q E => ∃ O ds QR QE, Dom H O ∧ RepL K ct H O ds vs ∧ wf ds QR QE ∧ (∀ v d H', Same H H' → Rep K ct H' O d v → QR d → Q v H') ∧
  ∀ c x cls dd H', Same H H' → ExcAt K ct H' O c x cls dd → QE c x → E cls dd H'
/-- __init__ of the class number c: what the object's attributes are behind it -/
abbrev Wi := List D → (List (Str × D) → Prop) → QX → Prop
def spI (K : PySem.W.Frag) (ct : CT) (c : Nat) (wi : Wi) : Sp := fun vs H Q E => ∃ O ds QR QE a dx us, vs = .ref a :: us ∧ H a = some (.ins (ct.addr c) dx []) ∧ (∀ b, O b → ∃ o, b ≠ a ∧ H b = some o) ∧ RepL K ct H (fun b => O b ∨ b = a) ds us ∧ wi ds QR QE ∧
  (∀ fs ws H', (∀ b o, b ≠ a → H b = some o → H' b = some o) → H' a = some (.ins (ct.addr c) dx ((fs.map (·.1)).zip ws)) → RepL K ct H' (fun b => O b ∨ b = a) (fs.map (·.2)) ws → QR fs → Q .non H') ∧
  ∀ k x cls dd H', (∀ b o, b ≠ a → H b = some o → H' b = some o) → ExcAt K ct H' O k x cls dd → QE k x → E cls dd H'
section
variable {X : Cx} {k : Nat} {f C : Addr} {fd : FuncData} {ps : List Str} {sp : Sp} {dvs : List V} {ds : List Value} {W : WX} {x m : Str} {p pos apos : Pos} {e o : Expr} {es : List Expr} {ta : TE} {t : TA}
/-- C(e, ..) -/
theorem run_mk {pins : List (Addr × Obj)} {σ : St} {H : Hp} {s : Shared} {Q : VK} {us : List Value} {vs : List V} (M : Mk X.K C f) (F : FnOk X.prog X.w X.K X.mg X.base (L2.CX X.prog X.w) k f fd ps sp) (hr : Room (k + 1) X.A) (hb : Binds X.K fd ps ds) (hd : Vals dvs ds)
    (tk : Takes X W) (I : Inv X pins σ H s) (r : Vals vs us)
    (h : ∀ x dx, H x = none → H dx = none → dx ≠ x → sp (.ref x :: (vs ++ dvs)) (upd (upd H dx (.own x)) x (.ins C dx [])) (fun v H2 => v = .non ∧ Q (.ref x) H2) (WE W σ)) :
    wpAny (model X.prog X.w) X.A (call (.ref C) us) (EP X pins σ Q) X.xe s := by
  have q0 := h (s.heap.objs.size + 1) s.heap.objs.size (I.hok.fresh (Nat.le_succ _)) (I.hok.fresh (Nat.le_refl _)) (Nat.ne_of_lt (Nat.lt_succ_self _))
  have J := Inv.made (C := C) I
  have rr : Vals (V.ref (s.heap.objs.size + 1) :: (vs ++ dvs)) (Value.ref (s.heap.objs.size + 1) :: (us ++ ds)) := .cons rfl (r.append hd)
  have hl : (Value.ref (s.heap.objs.size + 1) :: us ++ ds).length = ps.length := rr.length.symm.trans (F.len _ _ _ _ q0)
  have run := F.run _ X.stack _ _ ⟨Value.ref (s.heap.objs.size + 1) :: us, []⟩ (Value.ref (s.heap.objs.size + 1) :: (us ++ ds)) _ _ (WE W σ) (hr.make C us []) (J.env0.make C us []) (hb _ (Value.ref (s.heap.objs.size + 1) :: us) J.kIn hl) rr q0
  refine wpAny_call (make_map (f := f) I.kIn M.makes M.init (beq_iff_eq.mp M.fn) (codeAny_mono run fun r s' z => ?_))
  cases r with
  | error e => exact passAt tk σ pins _ _ e s' J z
  | ok fl => cases fl with
    | ret u =>
      obtain ⟨v, H', I3, rv, ev, q3⟩ := J.after z
      subst ev
      exact ⟨rv, V.ref (s.heap.objs.size + 1), H', I3, rfl, q3⟩
    | _ => exact z
theorem pe_mk (M : Mk X.K C f) (F : FnOk X.prog X.w X.K X.mg X.base (L2.CX X.prog X.w) k f fd ps sp) (hr : Room (k + 1) X.A) (hg : Gl X x) (hm : X.mg x = some (.ref C)) (hb : Binds X.K fd ps ds) (hd : Vals dvs ds) (tk : Takes X W)
    (ha : PA X (e :: es) t) (hdb : (x == ("__debug__" : Str)) = false) (he : starEach (e :: es) X.env = (false, eval e X.env) :: starEach es X.env) (hpl : (backTo pos (starEach es X.env)).any (·.1) = false) :
    PE X (.Call (.Name x p) (e :: es) [] pos) (fun σ H Q => tMake C sp dvs (WE W σ) t σ H Q) := by
  constructor
  intro pins s σ H Q I h
  refine wpAny_Call_Name_kw (ld_glob I hg hm ?_ hdb)
  refine PySem.W.callWith_K (h₀ := X.base) I.ok.mod.kin M.kp (thn (ha.run pos pins s σ H _ I h) ?_) he hpl
  rintro us s1 ⟨vs, H1, I1, r, q⟩
  exact ⟨I1.kIn, run_mk M F hr hb hd tk I1 r q⟩
theorem pe_mk0 (M : Mk X.K C f) (F : FnOk X.prog X.w X.K X.mg X.base (L2.CX X.prog X.w) k f fd ps sp) (hr : Room (k + 1) X.A) (hg : Gl X x) (hm : X.mg x = some (.ref C)) (hb : Binds X.K fd ps ds) (hd : Vals dvs ds) (tk : Takes X W)
    (hdb : (x == ("__debug__" : Str)) = false) : PE X (.Call (.Name x p) [] [] pos) (fun σ H Q => tMake C sp dvs (WE W σ) tNil σ H Q) := by
  constructor
  intro pins s σ H Q I h
  refine wpAny_Call_Name_kw (ld_glob I hg hm ?_ hdb)
  exact PySem.W.callWith_K0 I.kIn M.kp (run_mk (us := []) M F hr hb hd tk I .nil h)
end
end Dl
set_option Elab.async false
set_option linter.all false
set_option maxRecDepth 100000
set_option maxHeartbeats 4000000
namespace Dl
open PySem PySem.Spec L2
def dCall (wf : Wf) (dfl : List D) (ta : TDA) : TD := fun s Q E => ta s (fun ds => wf (ds ++ dfl) Q E) E
def dMake (c : Nat) (nm : List Str) (wi : Wi) (dfl : List D) (ta : TDA) : TD := fun s Q E => ta s (fun ds => wi (ds ++ dfl) (fun fs => fs.map (·.1) = nm ∧ Q (.obj c (fs.map (·.2)))) E) E
def dProp (tbl : Nat → Option Wf) (to : TD) : TD := fun s Q E => to s (fun x => match x with
  | .obj c fs => match tbl c with
    | some wf => wf [.obj c fs] Q fun _ _ => False
    | none => False
  | _ => False) E
/-- an attribute: its place in the objects of a class -/
def dFld (ix : Nat → Option Nat) (to : TD) : TD := fun s Q E => to s (fun x => match x with
  | .obj c fs => match ix c with
    | some k => ∃ d, fs[k]? = some d ∧ Q d
    | none => False
  | _ => False) E
/-- constants -/
def Konst (K : PySem.W.Frag) (ct : CT) (ds : List D) (vs : List V) : Prop := ∀ H O, RepL K ct H O ds vs
theorem Konst.nil {K : PySem.W.Frag} {ct : CT} : Konst K ct [] [] := fun _ _ => RepL.nil
section
variable {K : PySem.W.Frag} {ct : CT} {H : Hp} {O : Addr → Prop}
theorem lookup_zip : ∀ {nm : List Str} {vs : List V} {k : Nat} {x : Str}, (nm.findIdx? fun y => x == y) = some k → vs.length = nm.length → (nm.zip vs).lookup x = vs[k]?
  | [], _, _, _, h, _ => by simp at h
  | y :: nm, [], _, _, _, hl => by cases hl
  | y :: nm, v :: vs, k, x, h, hl => by
    rw [List.findIdx?_cons] at h
    cases e : (x == y) with
    | true =>
      rw [e] at h
      have hk : 0 = k := Option.some.inj h
      subst hk
      simp [List.lookup, e]
    | false =>
      rw [e] at h
      simp only [Bool.false_eq_true, if_false, Option.map_eq_some_iff] at h
      obtain ⟨j, hj, ek⟩ := h
      subst ek
      have z := lookup_zip (vs := vs) hj (Nat.succ.inj hl)
      simp only [List.zip_cons_cons, List.lookup, e, List.getElem?_cons_succ]
      exact z
end
structure PropAt (X : Cx) (ct : CT) (m : Str) (n : Nat) (wf : Wf) : Prop where
  cl : Cls X.K (ct.addr n)
  fn : ∃ p g fd ps k, PropOf X.K (ct.addr n) m p g ∧ FnOk X.prog X.w X.K X.mg X.base (L2.CX X.prog X.w) k g fd ps (spD X.K ct wf) ∧ Room (k + 1) X.A ∧ Binds X.K fd ps []
section
variable {X : Cx} {ct : CT} {W : WX} {e o a b : Expr} {es : List Expr} {td to : TD} {tda : TDA} {pos apos p : Pos} {x m : Str} {k c : Nat} {fd : FuncData} {ps nm : List Str} {dvs : List V} {ds : List Value} {dfl : List D} {wf : Wf} {wi : Wi} {tbl : Nat → Option Wf}
theorem sp_call {H : Hp} {Q : VK} {E : XK} {O : Addr → Prop} {ds : List D} {vs : List V} {QD : D → Prop} {QE : QX} (dm : Dom H O) (r : RepL X.K ct H O ds vs) (hk : Konst X.K ct dfl dvs) (q : wf (ds ++ dfl) QD QE)
    (k : ∀ v d H', Same H H' → Rep X.K ct H' O d v → QD d → Q v H') (kx : ∀ c x cls dd H', Same H H' → ExcAt X.K ct H' O c x cls dd → QE c x → E cls dd H') : spD X.K ct wf (vs ++ dvs) H Q E :=
  ⟨O, ds ++ dfl, QD, QE, dm, r.app (hk H O), q, k, kx⟩
theorem de_call {f : Addr} (F : FnOk X.prog X.w X.K X.mg X.base (L2.CX X.prog X.w) k f fd ps (spD X.K ct wf)) (hr : Room k X.A) (hm : X.mg x = some (.ref f)) (hkp : PySem.W.keepIn X.K (.ref f) = true) (hb : Binds X.K fd ps ds) (hd : Vals dvs ds) (hc : Konst X.K ct dfl dvs) (tk : Takes X W)
    (ha : DA X ct W (e :: es) tda) (hg : Gl X x := by rfl) (hdb : (x == ("__debug__" : Str)) = false := by decide) (he : starEach (e :: es) X.env = (false, eval e X.env) :: starEach es X.env := by rfl) (hpl : (backTo pos (starEach es X.env)).any (·.1) = false := by rfl) :
    DE X ct W (.Call (.Name x p) (e :: es) [] pos) (dCall wf dfl tda) := PE.imp (pe_callSD F hr hg hm hkp hb hd (passAt tk) ha hdb he hpl) fun σ H Q ⟨O, f, dσ, QD, QE, hs, h, k, kx⟩ => by
  refine ⟨O, f, dσ, _, QE, hs, h, fun vs ds H1 e1 r q => ?_, kx⟩
  exact sp_call (hs.same e1).dom r hc q (fun v d H2 e2 => k v d H2 (e1.trans e2)) fun c x cls dd H2 e2 => kx c x cls dd H2 (e1.trans e2)
end
end Dl
set_option Elab.async false
set_option linter.all false
set_option maxRecDepth 100000
set_option maxHeartbeats 4000000
namespace Dl
open PySem PySem.Spec L2
/-- an attribute of the objects of the class number c stands at place k -/
structure FldAt (X : Cx) (ct : CT) (f : Str) (c k : Nat) : Prop where
  cl : Cls X.K (ct.addr c)
  no : NoAttr X.K (ct.addr c) f
  ix : ((ct.names c).findIdx? fun y => f == y) = some k
section
variable {X : Cx} {ct : CT} {W : WX} {e o a b : Expr} {es : List Expr} {td to : TD} {tda : TDA} {pos pos' apos p : Pos} {x m f : Str} {k c : Nat} {fd : FuncData} {ps nm : List Str} {dvs : List V} {ds : List Value} {dfl : List D} {wf : Wf} {wi : Wi} {tbl : Nat → Option Wf} {ix : Nat → Option Nat}
theorem de_fld (he : DE X ct W e to) (hx : ∀ n k, ix n = some k → FldAt X ct f n k) (hb : attributeBase e f X.env (eval e X.env) = eval e X.env := by rfl) : DE X ct W (.Attribute e f pos) (dFld ix to) :=
  PE.imp (pe_fld he hb) fun σ H Q ⟨O, g, dσ, QD, QE, hs, h, k, kx⟩ => by
    refine ⟨O, g, dσ, _, QE, hs, h, fun v d H1 e1 r q => ?_, kx⟩
    cases d with
    | obj n fs =>
      have q2 : (match ix n with
        | some k => ∃ d, fs[k]? = some d ∧ QD d
        | none => False) := q
      split at q2
      · rename_i j hj
        obtain ⟨d, ed, q2⟩ := q2
        obtain ⟨a, dx, vs, ea, na, l, hl, rl⟩ := rep_obj.mp r
        obtain ⟨cl, no, hix⟩ := hx n j hj
        obtain ⟨v, ev, rv⟩ := rl.get ed
        exact ⟨a, _, dx, _, v, ea, l, cl, no, by rw [lookup_zip hix hl]; exact ev, k _ _ _ e1 rv q2⟩
      · exact q2.elim
    | _ => exact q.elim
/-- a property: by the object's class -/
theorem pe_propP {P : Nat → Prop} {ad : Nat → Addr} {spn : Nat → Sp} {ta : TE} (he : PE X e ta) (hcs : ∀ n, P n → Cls X.K (ad n) ∧ ∃ p g fd ps k, PropOf X.K (ad n) f p g ∧ FnOk X.prog X.w X.K X.mg X.base (L2.CX X.prog X.w) k g fd ps (spn n) ∧ Room (k + 1) X.A ∧ Binds X.K fd ps [])
    (hab : attributeBase e f X.env (eval e X.env) = eval e X.env) : PE X (.Attribute e f pos) (fun σ H Q => ta σ H fun x H1 => ∃ a dx fs n, P n ∧ x = .ref a ∧ H1 a = some (.ins (ad n) dx fs) ∧ spn n [.ref a] H1 Q (fun _ _ _ => False)) := by
  constructor
  intro pins s σ H Q I h
  refine attr_of hab (thn (he.run pins s σ H _ I h) ?_)
  rintro u s1 ⟨y, H1, I1, rx, a, dx, fs, n, hP, ex, ea, q⟩
  subst ex
  obtain rfl : u = Value.ref a := rx
  obtain ⟨c, p, g, fd, ps, k, hp, F, hr, hb⟩ := hcs n hP
  exact getprop_ok (dvs := []) I1 ea c hp F hr hb .nil passL q
theorem de_prop (he : DE X ct W e to) (hcs : ∀ n wf, tbl n = some wf → PropAt X ct f n wf) (hb : attributeBase e f X.env (eval e X.env) = eval e X.env := by rfl) : DE X ct W (.Attribute e f pos) (dProp tbl to) :=
  PE.imp (pe_propP (P := fun n => ∃ wf, tbl n = some wf) (ad := ct.addr) (spn := fun n vs H Q E => ∃ wf, tbl n = some wf ∧ spD X.K ct wf vs H Q E) he (fun n ⟨wf, z⟩ => by
      obtain ⟨c, p, g, fd, ps, k, hp, F, hr, hb⟩ := hcs n wf z
      refine ⟨c, p, g, fd, ps, k, hp, F.imp ?_, hr, hb⟩
      rintro vs H Q E ⟨w2, z2, h⟩
      rw [z] at z2
      cases z2
      exact h) hb) fun σ H Q ⟨O, g, dσ, QD, QE, hs, h, k, kx⟩ => by
    refine ⟨O, g, dσ, _, QE, hs, h, fun v d H1 e1 r q => ?_, kx⟩
    cases d with
    | obj n fs =>
      have q2 : (match tbl n with
        | some wf => wf [.obj n fs] QD fun _ _ => False
        | none => False) := q
      split at q2
      · rename_i wf hw
        obtain ⟨a, dx, vs, ea, na, l, hl, rl⟩ := rep_obj.mp r
        subst ea
        exact ⟨a, dx, _, n, ⟨wf, hw⟩, rfl, l, wf, hw, O, _, QD, _, (hs.same e1).dom, RepL.cons r RepL.nil, q2, fun v d H3 e3 => k v d H3 (e1.trans e3), fun c x cls dd H3 _ _ z => z.elim⟩
      · exact q2.elim
    | _ => exact q.elim
/-- C(e, ..) -/
theorem mk_call {O : Addr → Prop} {H : Hp} {Q : VK} {E : XK} {ds : List D} {vs : List V} {QD : D → Prop} {QE : QX} (hn : ct.names c = nm) (dm : Dom H O) (r : RepL X.K ct H O ds vs) (hk : Konst X.K ct dfl dvs) (q : wi (ds ++ dfl) (fun fs => fs.map (·.1) = nm ∧ QD (.obj c (fs.map (·.2)))) QE)
    (k : ∀ v d H', Same H H' → Rep X.K ct H' O d v → QD d → Q v H') (kx : ∀ n x cls dd H', Same H H' → ExcAt X.K ct H' O n x cls dd → QE n x → E cls dd H') :
    ∀ x dx, H x = none → H dx = none → dx ≠ x → spI X.K ct c wi (.ref x :: (vs ++ dvs)) (upd (upd H dx (.own x)) x (.ins (ct.addr c) dx [])) (fun v H2 => v = .non ∧ Q (.ref x) H2) E := fun x dx hx hdx ne => by
  have s1 : Same H (upd (upd H dx (.own x)) x (.ins (ct.addr c) dx [])) := fun b o e => by
    rw [upd_ne (ne_of_none e hx), upd_ne (ne_of_none e hdx)]
    exact e
  have back : ∀ H', (∀ b o, b ≠ x → (upd (upd H dx (.own x)) x (.ins (ct.addr c) dx [])) b = some o → H' b = some o) → Same H H' := fun H' h b o e => h b o (ne_of_none e hx) (s1 b o e)
  refine ⟨O, ds ++ dfl, _, QE, x, dx, vs ++ dvs, rfl, upd_same, fun b z => ?_, ?_, q, fun fs ws H' h1 h2 h3 ⟨h4, h5⟩ => ⟨rfl, ?_⟩, fun n y cls dd H' h1 h2 h3 => kx n y cls dd H' (back H' h1) h2 h3⟩
  · obtain ⟨o, e⟩ := dm b z
    exact ⟨o, ne_of_none e hx, s1 b o e⟩
  · exact (RepL.fresh hx (fun b z => z) (r.app (hk H O))).same s1
  · refine k _ (.obj c (fs.map (·.2))) H' (back H' h1) (rep_obj.mpr ⟨x, dx, ws, rfl, fun z => ?_, ?_, ?_, h3.less fun b z => .inl z⟩) h5
    · obtain ⟨o, e⟩ := dm x z
      rw [hx] at e
      cases e
    · rw [hn, ← h4]
      exact h2
    · rw [hn, ← h4, h3.length, List.length_map, List.length_map]
theorem de_make {fI : Addr} (hn : ct.names c = nm) (M : Mk X.K (ct.addr c) fI) (F : FnOk X.prog X.w X.K X.mg X.base (L2.CX X.prog X.w) k fI fd ps (spI X.K ct c wi)) (hr : Room (k + 1) X.A) (hm : X.mg x = some (.ref (ct.addr c))) (hb : Binds X.K fd ps ds) (hd : Vals dvs ds) (hc : Konst X.K ct dfl dvs) (tk : Takes X W)
    (ha : DA X ct W (e :: es) tda) (hg : Gl X x := by rfl) (hdb : (x == ("__debug__" : Str)) = false := by decide) (he : starEach (e :: es) X.env = (false, eval e X.env) :: starEach es X.env := by rfl) (hpl : (backTo pos (starEach es X.env)).any (·.1) = false := by rfl) :
    DE X ct W (.Call (.Name x p) (e :: es) [] pos) (dMake c nm wi dfl tda) := PE.imp (pe_mk M F hr hg hm hb hd tk ha hdb he hpl) fun σ H Q ⟨O, g, dσ, QD, QE, hs, h, k, kx⟩ => by
  refine ⟨O, g, dσ, _, QE, hs, h, fun vs ds H1 e1 r q => ?_, kx⟩
  exact mk_call hn (hs.same e1).dom r hc q (fun v d H2 e2 => k v d H2 (e1.trans e2)) fun c x cls dd H2 e2 => kx c x cls dd H2 (e1.trans e2)
theorem de_make0 {fI : Addr} (hn : ct.names c = nm) (M : Mk X.K (ct.addr c) fI) (F : FnOk X.prog X.w X.K X.mg X.base (L2.CX X.prog X.w) k fI fd ps (spI X.K ct c wi)) (hr : Room (k + 1) X.A) (hm : X.mg x = some (.ref (ct.addr c))) (hb : Binds X.K fd ps ds) (hd : Vals dvs ds) (hc : Konst X.K ct dfl dvs) (tk : Takes X W)
    (hg : Gl X x := by rfl) (hdb : (x == ("__debug__" : Str)) = false := by decide) : DE X ct W (.Call (.Name x p) [] [] pos) (dMake c nm wi dfl aNil) := PE.imp (pe_mk0 M F hr hg hm hb hd tk hdb) fun σ H Q ⟨O, g, dσ, QD, QE, hs, h, k, kx⟩ =>
  mk_call (ds := []) (vs := []) hn hs.dom RepL.nil hc h k kx
end
def sFldI (i : Nat) (f : Str) (t : TD) : TDS := fun DD s => match s[i]? with
  | some (.ini c fs) => t s (fun d => (fs.any fun q => q.1 == f) = false ∧ fs.length < 900 ∧ DD.nx (s.set i (.ini c (fs ++ [(f, d)])))) (xq DD s)
  | _ => False
section
variable {K : PySem.W.Frag} {ct : CT} {W : WX} {O0 : Addr → Prop} {H0 H H' : Hp} {f : Nat → Addr} {dσ : List Sl} {σ : St}
theorem putF_new (g : Str) (v : V) : ∀ (nm : List Str) (ws : List V), (nm.any fun y => y == g) = false → ws.length = nm.length → putF g v (nm.zip ws) = (nm ++ [g]).zip (ws ++ [v])
  | [], [], _, _ => rfl
  | [], _ :: _, _, h => by cases h
  | _ :: _, [], _, h => by cases h
  | y :: nm, w :: ws, h, hl => by
    simp only [List.any_cons, Bool.or_eq_false_iff] at h
    have ne : ¬ y = g := fun z => by
      have := h.1
      rw [z] at this
      simp at this
    show (if y = g then (y, v) :: nm.zip ws else (y, w) :: putF g v (nm.zip ws)) = _
    rw [if_neg ne, putF_new g v nm ws h.2 (Nat.succ.inj hl)]
    rfl
/-- the object that is being made changes -/
theorem StS.upd_ini (h : StS K ct O0 H0 H f dσ σ) {i c : Nat} {fs gs : List (Str × D)} {ws us : List V} (hi : dσ[i]? = some (.ini c fs)) (he : H (f i) = some (.ins (ct.addr c) ct.gh.sdx ((fs.map (·.1)).zip ws))) (r : RepL K ct H (Own O0 f dσ) (gs.map (·.2)) us) :
    StS K ct O0 H0 (upd H (f i) (.ins (ct.addr c) ct.gh.sdx ((gs.map (·.1)).zip us))) f (dσ.set i (.ini c gs)) σ := by
  have il : i < dσ.length := (List.getElem?_eq_some_iff.mp hi).1
  obtain ⟨o, ho, e1, n1, es, _⟩ := h.e.at_ i _ hi
  subst e1
  have l : ∀ b, Own O0 f (dσ.set i (.ini c gs)) b → Own O0 f dσ b := fun b z => by
    rcases z with z | ⟨j, t, e, o, ea⟩
    · exact .inl z
    · rcases getS e with ⟨e1, _, _⟩ | ⟨e1, e2⟩
      · rw [← ea, e1]
        exact n1
      · exact .inr ⟨j, t, e2, o, ea⟩
  have g : Chg (Own O0 f dσ) H (upd H (f i) (.ins (ct.addr c) ct.gh.sdx ((gs.map (·.1)).zip us))) := fun b o e => by
    by_cases z : b = f i
    · subst z
      rw [he] at e
      cases e
      exact .inr ⟨n1, trivial⟩
    · exact .inl (by rw [upd_ne z]; exact e)
  refine ⟨⟨by rw [List.length_set]; exact h.e.len, fun j t e => ?_, fun a z => ?_⟩, fun b o e => ?_, fun j t e o => ?_, fun j k s1 t1 e1 o1 e2 o2 ef => ?_, h.dom0⟩
  · rcases getS e with ⟨e3, e4, _⟩ | ⟨e3, e4⟩
    · subst e3
      subst e4
      exact ⟨_, ho, rfl, .inr ⟨_, _, e, rfl, rfl⟩, es, us, upd_same, (r.chg g).less l⟩
    · obtain ⟨o, a, b⟩ := h.e.at_ j t e4
      refine ⟨o, a, ?_⟩
      have nj : isOwn t = true → f j ≠ f i := fun ot z => e3 (h.inj j i t _ e4 ot hi rfl z)
      cases t with
      | un => trivial
      | v d =>
        obtain ⟨v, e, r⟩ := b
        exact ⟨v, e, (r.chg g).less l⟩
      | own xs =>
        obtain ⟨e5, n, us2, z, r⟩ := b
        exact ⟨e5, .inr ⟨j, _, e, rfl, rfl⟩, us2, by rw [upd_ne (nj rfl)]; exact z, (r.chg g).less l⟩
      | ini c2 fs =>
        obtain ⟨e5, n, ea, us2, z, r⟩ := b
        exact ⟨e5, .inr ⟨j, _, e, rfl, rfl⟩, ea, us2, by rw [upd_ne (nj rfl)]; exact z, (r.chg g).less l⟩
      | exc k x => exact ⟨b.1, (b.2.chg g).less l⟩
      | dic ks xs =>
        obtain ⟨e5, n, us2, z, hl, r⟩ := b
        exact ⟨e5, .inr ⟨j, _, e, rfl, rfl⟩, us2, by rw [upd_ne (nj rfl)]; exact z, hl, (r.chg g).less l⟩
  · obtain ⟨u, q⟩ := h.e.dom a (l a z)
    by_cases z2 : a = f i
    · rw [z2]
      exact ⟨_, upd_same⟩
    · exact ⟨u, by rw [upd_ne z2]; exact q⟩
  · have ne : b ≠ f i := fun z => by
      rw [z, h.fresh i _ hi rfl] at e
      cases e
    rw [upd_ne ne]
    exact h.same b o e
  · rcases getS e with ⟨e3, _, _⟩ | ⟨_, e4⟩
    · rw [e3]
      exact h.fresh i _ hi rfl
    · exact h.fresh j t e4 o
  · rcases getS e1 with ⟨z1, _, _⟩ | ⟨z1, y1⟩
    · rcases getS e2 with ⟨z2, _, _⟩ | ⟨z2, y2⟩
      · rw [z1, z2]
      · rw [z1] at ef ⊢
        exact h.inj i k _ t1 hi rfl y2 o2 ef
    · rcases getS e2 with ⟨z2, _, _⟩ | ⟨z2, y2⟩
      · rw [z2] at ef ⊢
        exact h.inj j i s1 _ y1 o1 hi rfl ef
      · exact h.inj j k s1 t1 y1 o1 y2 o2 ef
end
section
variable {X : Cx} {ct : CT} {W : WX} {e o : Expr} {td : TD} {pos pos' : Pos} {f : Str} {i c : Nat}
theorem ds_fld (ho : PE X o (tVar i)) (he : DE X ct W e td) (cl : ∀ k, k = c → Cls X.K (ct.addr k) ∧ NoAttr X.K (ct.addr k) f) (hs : swapsWith e (some (.Attribute o f pos')) pos.line X.env = pure false := by rfl) :
    DS X ct W (.Assign [.Attribute o f pos'] e pos) (fun DD s => (∃ fs, s[i]? = some (.ini c fs)) ∧ sFldI i f td DD s) := PS.imp (ps_fld ho he hs) fun E σ H ⟨O0, H0, g, dσ, DD, h, ⟨⟨fs, hi⟩, t⟩, en⟩ => by
  have t2 : td dσ (fun d => (fs.any fun q => q.1 == f) = false ∧ fs.length < 900 ∧ DD.nx (dσ.set i (.ini c (fs ++ [(f, d)])))) (xq DD dσ) := by
    unfold sFldI at t
    rw [hi] at t
    exact t
  obtain ⟨u, ho', e1, n1, es, ws, e2, r2⟩ := h.e.at_ i _ hi
  subst e1
  refine h.ex en t2 fun v d H1 s1 r ⟨q1, q2, q3⟩ => ⟨_, ho', g i, _, _, _, rfl, s1 _ _ e2, (cl c rfl).1, (cl c rfl).2, ?_, ?_⟩
  · have := r2.length
    rw [List.length_zip, List.length_map]
    omega
  · have hl : ws.length = (fs.map (·.1)).length := by rw [r2.length, List.length_map, List.length_map]
    have ez : putF f v ((fs.map (·.1)).zip ws) = ((fs ++ [(f, d)]).map (·.1)).zip (ws ++ [v]) := by
      rw [putF_new f v _ ws (by rw [List.any_map]; exact q1) hl, List.map_append]
      rfl
    rw [ez]
    refine en.nx _ _ _ _ ((h.sm s1).upd_ini hi (s1 _ _ e2) ?_) q3
    rw [List.map_append]
    exact (r2.same s1).app (RepL.cons r RepL.nil)
end
end Dl
set_option Elab.async false
set_option linter.all false
set_option maxRecDepth 100000
set_option maxHeartbeats 4000000
namespace Dl
open PySem PySem.Spec L2
def startD (n : Nat) (ds : List D) : List Sl := ds.map Sl.v ++ List.replicate (n - ds.length) Sl.un
def retE (Q : D → Prop) (E : QX) : DEnds := { nx := fun _ => Q .non, rt := Q, rn := fun ds => Q (.lst ds), bk := fun _ => False, cn := fun _ => False, ex := fun c x _ => E c x }
/-- n parameters, m names in all -/
def wfOf (n m : Nat) (ts : TDS) : Wf := fun ds Q E => ds.length = n ∧ ts (retE Q E) (startD m ds)
def iniE (c : Nat) (Q : List (Str × D) → Prop) (E : QX) : DEnds := { nx := fun s => ∃ fs, s[0]? = some (.ini c fs) ∧ Q fs, rt := fun _ => False, rn := fun _ => False, bk := fun _ => False, cn := fun _ => False, ex := fun c x _ => E c x }
/-- an __init__ of the class number c: n parameters besides self -/
def wiOf (c n m : Nat) (ts : TDS) : Wi := fun ds Q E => ds.length = n ∧ ts (iniE c Q E) (.ini c [] :: startD m ds)
abbrev Wn := List D → (List D → Prop) → QX → Prop
def newE (Q : List D → Prop) (E : QX) : DEnds := { nx := fun _ => False, rt := fun _ => False, rn := Q, bk := fun _ => False, cn := fun _ => False, ex := fun c x _ => E c x }
def wnOf (n m : Nat) (ts : TDS) : Wn := fun ds Q E => ds.length = n ∧ ts (newE Q E) (startD m ds)
def spN (K : PySem.W.Frag) (ct : CT) (wn : Wn) : Sp := fun vs H Q E => ∃ O ds QR QE, Dom H O ∧ RepL K ct H O ds vs ∧ wn ds QR QE ∧ (∀ p us ds' H', H p = none → Same H H' → H' p = some (.lst us) → RepL K ct H' (fun b => O b ∨ b = p) ds' us → QR ds' → Q (.ref p) H') ∧
  ∀ c x cls dd H', Same H H' → ExcAt K ct H' O c x cls dd → QE c x → E cls dd H'
def WOf (E : XK) : WX := fun cls d _ H' => E cls d H'
section
variable {P : Program} {w : World} {K : PySem.W.Frag} {ct : CT} {mg : Str → Option Value} {base : Heap} {x qual : Str} {params : Arguments} {body : List Stmt} {scope : Scope} {dvs : List V} {kws : List (Str × V)} {f : Addr} {fd : FuncData} {N ps : List Str} {k n m c : Nat} {ts : TDS} {wf : Wf} {wi : Wi}
theorem start_get {vs : List V} {i : Nat} {v : V} (h : vs[i]? = some v) : (L2.start N vs)[i]? = some (some v) := by
  unfold L2.start
  have hi : i < vs.length := (List.getElem?_eq_some_iff.mp h).1
  rw [List.getElem?_append_left (by simpa using hi), List.getElem?_map, h]
  rfl
theorem startD_get {ds : List D} {i : Nat} {s : Sl} (h : (startD m ds)[i]? = some s) : (∃ d, ds[i]? = some d ∧ s = .v d) ∨ (s = .un ∧ ds.length ≤ i ∧ i < ds.length + (m - ds.length)) := by
  unfold startD at h
  by_cases hi : i < ds.length
  · rw [List.getElem?_append_left (by simpa using hi), List.getElem?_map] at h
    cases e : ds[i]? with
    | none =>
      rw [e] at h
      cases h
    | some d =>
      rw [e] at h
      exact .inl ⟨d, rfl, (Option.some.inj h).symm⟩
  · rw [List.getElem?_append_right (by simpa using hi), List.getElem?_replicate] at h
    split at h
    · rename_i h2
      rw [List.length_map] at h2
      exact .inr ⟨(Option.some.inj h).symm, by omega, by omega⟩
    · cases h
theorem start_len {vs : List V} : (L2.start N vs).length = vs.length + (N.length - vs.length) := by
  unfold L2.start
  rw [List.length_append, List.length_map, List.length_replicate]
theorem startD_len {ds : List D} : (startD m ds).length = ds.length + (m - ds.length) := by
  unfold startD
  rw [List.length_append, List.length_map, List.length_replicate]
theorem startD_own {ds : List D} {i : Nat} {s : Sl} (h : (startD m ds)[i]? = some s) : isOwn s = false := by
  rcases startD_get h with ⟨d, _, e⟩ | ⟨e, _⟩
  · rw [e] <;> rfl
  · rw [e] <;> rfl
theorem StS.start {H : Hp} {O : Addr → Prop} {ds : List D} {vs : List V} {f : Nat → Addr} (dm : Dom H O) (r : RepL K ct H O ds vs) : StS K ct O H H f (startD N.length ds) (L2.start N vs) := by
  have own : ∀ a, Own O f (startD N.length ds) a → O a := fun a z => by
    rcases z with z | ⟨i, s, e, o, _⟩
    · exact z
    · rw [startD_own e] at o
      cases o
  refine ⟨⟨by rw [startD_len, start_len, r.length], fun i s e => ?_, fun a z => dm a (own a z)⟩, Same.refl H, fun i s e o => ?_, fun i j s t e o => ?_, dm⟩
  · rcases startD_get e with ⟨d, e1, e2⟩ | ⟨e1, h1, h2⟩
    · subst e2
      obtain ⟨v, ev, rv⟩ := r.get e1
      exact ⟨_, start_get ev, v, rfl, rv.less own⟩
    · subst e1
      have hl : i < (L2.start N vs).length := by
        rw [start_len, r.length]
        exact h2
      exact ⟨_, List.getElem?_eq_getElem hl, trivial⟩
  · rw [startD_own e] at o
    cases o
  · rw [startD_own e] at o
    cases o
/-- THE RULE for a def: its body, once -/
theorem fn_d (F : FunD K x qual params body scope dvs kws f fd) (S : FnScope N ps scope) (hn : ps.length = n) (hm : N.length = m)
    (hb : ∀ (cdv : Value) (A : Around) (outer : List Env) (s : Shared) (H : Hp) (E : XK), Room k (A.deeper (PyProof.Rows.envOfC qual scope s.heap.objs.size f cdv)) → DSs (cxOf (L2.CX P w) P w K mg base N qual scope f cdv A outer s H E) ct (WOf E) body ts) :
    FnOk P w K mg base (L2.CX P w) (k + 1) f fd ps (spD K ct (wfOf n m ts)) := by
  refine F.ok S (fun vs H Q E h => ?_) (fun cdv A outer s H vs Q E hr h => ⟨_, hb cdv A outer s H E hr, ?_⟩)
  · obtain ⟨O, ds, QR, QE, dm, r, ⟨h1, _⟩, _⟩ := h
    rw [r.length, h1, hn]
  · obtain ⟨O, ds, QR, QE, dm, r, ⟨h1, q⟩, k1, k2⟩ := h
    subst hm
    refine ⟨O, H, fun _ => 0, _, _, StS.start dm r, q, ⟨fun σ H' f dσ h z => k1 _ _ _ h.same (rep_non.mpr rfl) z, fun σ H' f dσ h z => z.elim, fun σ H' f dσ h z => z.elim, fun v d H' s r z => k1 v d H' s r z, fun p vs ds H' hp s l r z => k1 _ (.lst ds) H' s (rep_lst.mpr ⟨p, vs, rfl, (fun y => by
      obtain ⟨o, e⟩ := dm p y
      rw [hp] at e
      cases e), l, r.less fun b z => .inl z⟩) z, fun c x cls dd σ H' f dσ h a z => k2 c x cls dd H' h.same (a.less fun b z => .inl z) z⟩⟩
/-- .. that hands back a list that it has made -/
theorem fn_n (F : FunD K x qual params body scope dvs kws f fd) (S : FnScope N ps scope) (hn : ps.length = n) (hm : N.length = m)
    (hb : ∀ (cdv : Value) (A : Around) (outer : List Env) (s : Shared) (H : Hp) (E : XK), Room k (A.deeper (PyProof.Rows.envOfC qual scope s.heap.objs.size f cdv)) → DSs (cxOf (L2.CX P w) P w K mg base N qual scope f cdv A outer s H E) ct (WOf E) body ts) :
    FnOk P w K mg base (L2.CX P w) (k + 1) f fd ps (spN K ct (wnOf n m ts)) := by
  refine F.ok S (fun vs H Q E h => ?_) (fun cdv A outer s H vs Q E hr h => ⟨_, hb cdv A outer s H E hr, ?_⟩)
  · obtain ⟨O, ds, QR, QE, dm, r, ⟨h1, _⟩, _⟩ := h
    rw [r.length, h1, hn]
  · obtain ⟨O, ds, QR, QE, dm, r, ⟨h1, q⟩, k1, k2⟩ := h
    subst hm
    exact ⟨O, H, fun _ => 0, _, _, StS.start dm r, q, ⟨fun σ H' f dσ h z => z.elim, fun σ H' f dσ h z => z.elim, fun σ H' f dσ h z => z.elim, fun v d H' s r z => z.elim, fun p vs ds H' hp s l r z => k1 p vs ds H' hp s l r z, fun c x cls dd σ H' f dσ h a z => k2 c x cls dd H' h.same (a.less fun b z => .inl z) z⟩⟩
/-- .. for an __init__ -/
theorem fn_i (F : FunD K x qual params body scope dvs kws f fd) (S : FnScope N ps scope) (hn : ps.length = n + 1) (hm : N.length = m + 1)
    (hb : ∀ (g : Gh) (cdv : Value) (A : Around) (outer : List Env) (s : Shared) (H : Hp) (E : XK), Room k (A.deeper (PyProof.Rows.envOfC qual scope s.heap.objs.size f cdv)) → DSs (cxOf (L2.CX P w) P w K mg base N qual scope f cdv A outer s H E) (ct.w g) (WOf E) body ts) :
    FnOk P w K mg base (L2.CX P w) (k + 1) f fd ps (spI K ct c (wiOf c n m ts)) := by
  refine F.ok S (fun vs H Q E h => ?_) (fun cdv A outer s H vs Q E hr h => ?_)
  · obtain ⟨O, ds, QR, QE, a, dx, us, rfl, _, _, r, ⟨h1, _⟩, _⟩ := h
    show us.length + 1 = ps.length
    rw [r.length, h1, hn]
  · obtain ⟨O, ds, QR, QE, a, dx, us, rfl, ha, dm, r, ⟨h1, q⟩, k1, k2⟩ := h
    refine ⟨_, hb { slf := a, sdx := dx } cdv A outer s H E hr, ?_⟩
    have cb : ∀ {H' : Hp}, Same (del H a) H' → ∀ b o, b ≠ a → H b = some o → H' b = some o := fun s b o n e => s b o (by rw [del_ne n]; exact e)
    have s0 : Same (del H a) H := fun b o e => by
      by_cases z : b = a
      · rw [z, del_same] at e
        cases e
      · rw [del_ne z] at e
        exact e
    have own1 : ∀ {b : Addr}, Own O (fun _ => a) (.ini c [] :: startD m ds) b → O b ∨ b = a := fun z => by
      rcases z with z | ⟨i, s, _, _, z⟩
      · exact .inl z
      · exact .inr z.symm
    have own2 : ∀ {b : Addr}, O b ∨ b = a → Own O (fun _ => a) (.ini c [] :: startD m ds) b := fun z => by
      rcases z with z | z
      · exact .inl z
      · exact .inr ⟨0, _, rfl, rfl, z.symm⟩
    have get0 : ∀ {i : Nat} {s : Sl}, (Sl.ini c [] :: startD m ds)[i]? = some s → (i = 0 ∧ s = .ini c []) ∨ ∃ j, i = j + 1 ∧ (startD m ds)[j]? = some s := fun {i s} e => by
      cases i with
      | zero => exact .inl ⟨rfl, (Option.some.inj e).symm⟩
      | succ j => exact .inr ⟨j, rfl, by simpa using e⟩
    have N1 : ∃ x0 N', N = x0 :: N' := by
      cases N with
      | nil => cases hm
      | cons x0 N' => exact ⟨x0, N', rfl⟩
    obtain ⟨x0, N', rfl⟩ := N1
    have hm' : N'.length = m := Nat.succ.inj hm
    subst hm'
    have est : L2.start (x0 :: N') (.ref a :: us) = some (.ref a) :: L2.start N' us := by
      unfold L2.start
      simp
    rw [est]
    have st : StS K (ct.w { slf := a, sdx := dx }) O (del H a) H (fun _ => a) (.ini c [] :: startD N'.length ds) (some (.ref a) :: L2.start N' us) := by
      refine ⟨⟨?_, fun i s e => ?_, fun b z => ?_⟩, s0, fun i s e o => del_same, fun i j s t e o e2 o2 _ => ?_, fun b z => ?_⟩
      · show (startD N'.length ds).length + 1 = (L2.start N' us).length + 1
        rw [startD_len, start_len, r.length]
      · rcases get0 e with ⟨e1, e2⟩ | ⟨j, e1, e2⟩
        · subst e1
          subst e2
          exact ⟨_, rfl, rfl, own2 (.inr rfl), rfl, [], ha, RepL.nil⟩
        · subst e1
          rcases startD_get e2 with ⟨d, e3, e4⟩ | ⟨e3, h2, h3⟩
          · subst e4
            obtain ⟨v, ev, rv⟩ := r.get e3
            exact ⟨some v, by simpa using start_get ev, v, rfl, Rep.w.mpr (rv.less fun b z => own1 z)⟩
          · subst e3
            have hl : j < (L2.start N' us).length := by
              rw [start_len, r.length]
              exact h3
            exact ⟨_, by rw [List.getElem?_cons_succ]; exact List.getElem?_eq_getElem hl, trivial⟩
      · rcases own1 z with z | z
        · obtain ⟨o, _, e⟩ := dm b z
          exact ⟨o, e⟩
        · rw [z]
          exact ⟨_, ha⟩
      · have z1 : i = 0 := by
          rcases get0 e with ⟨z, _⟩ | ⟨j', _, z⟩
          · exact z
          · rw [startD_own z] at o
            cases o
        have z2 : j = 0 := by
          rcases get0 e2 with ⟨z, _⟩ | ⟨j', _, z⟩
          · exact z
          · rw [startD_own z] at o2
            cases o2
        rw [z1, z2]
      · obtain ⟨o, n, e⟩ := dm b z
        exact ⟨o, by rw [del_ne n]; exact e⟩
    refine ⟨O, _, fun _ => a, _, _, st, q, ⟨fun σ H' f' dσ h z => ?_, fun σ H' f dσ h z => z.elim, fun σ H' f dσ h z => z.elim, fun v d H' s r z => z.elim, fun p vs ds H' hp s l r z => z.elim, fun c x cls dd σ H' f dσ h b z => k2 c x cls dd H' (cb h.same) ((ExcAt.w.mp b).less fun b z => .inl z) z⟩⟩
    obtain ⟨fs, e0, z⟩ := z
    obtain ⟨u, eu, e1, n1, es, ws, e2, r2⟩ := h.e.at_ 0 _ e0
    rw [es] at e2
    refine k1 fs ws H' (cb h.same) e2 (RepL.w.mp (r2.less fun b y => ?_)) z
    rcases y with y | y
    · exact .inl y
    · exact .inr ⟨0, _, e0, rfl, es.trans y.symm⟩
end
end Dl
set_option Elab.async false
set_option linter.all false
set_option maxRecDepth 100000
set_option maxHeartbeats 4000000
namespace Dl
open PySem PySem.Spec L2
theorem oexB_ok {K : PySem.W.Frag} {C : Addr} (h : oexB K C = true) : OexC K C := by
  unfold oexB at h
  rw [Bool.and_eq_true_iff, Bool.and_eq_true_iff, Bool.and_eq_true_iff, Bool.and_eq_true_iff] at h
  obtain ⟨h0, h1, h2, h3, h4⟩ := h
  refine ⟨?_, of_decide_eq_true h1, of_decide_eq_true h2, of_decide_eq_true h3, h4⟩
  split at h0
  · rename_i t dd cd sl ho
    rw [Bool.and_eq_true_iff] at h0
    obtain ⟨ht, h0⟩ := h0
    split at h0
    · rename_i C' bm k0 k1 k2 k3 n k5 hm hs
      simp only [Bool.and_eq_true, beq_iff_eq, Bool.not_eq_true'] at h0 ht
      obtain ⟨rfl, rfl, hdel, hdic, hv⟩ := h0
      subst ht
      obtain ⟨nm, bs, mro, ns, qn, hd, sn, sub, ab, col, del⟩ := cd
      dsimp only at hm hdel hdic
      subst hm hdel hdic
      have hsl : sl = #[k0, k1, k2, k3, some (.builtin "ValueError.__new__"), k5] := by
        obtain ⟨l⟩ := sl
        simp only at hs
        rw [hs]
      subst hsl
      exact ⟨nm, qn, ns, bs, bm, sn, sub, ab, col, dd, k0, k1, k2, k3, k5, ho, hv⟩
    · cases h0
  · cases h0
/-- what __init__(self, v) of an own error does: self.f = v -/
def spX (f : Str) (C : Addr) : Sp := fun vs H Q _ => ∃ a v, vs = [.ref a, v] ∧ H a = some (exo a C none) ∧ ∀ dx, H dx = none → dx ≠ a → Q .non (upd (upd H dx (exd dx [(f, v)])) a (exo a C (some dx)))
section
variable {P : Program} {w : World} {K : PySem.W.Frag} {mg : Str → Option Value} {base : Heap} {x qual g : Str} {params : Arguments} {body : List Stmt} {scope : Scope} {dvs : List V} {kws : List (Str × V)} {fa C : Addr} {fd : FuncData} {n0 n1 : Str} {p1 p2 p3 p4 : Pos}
theorem fn_x (F : FunD K x qual params body scope dvs kws fa fd) (S : FnScope [n0, n1] [n0, n1] scope) (hb : body = [.Assign [.Attribute (.Name n0 p1) g p2] (.Name n1 p3) p4]) (T : OexC K C) (hno : PySem.W.findIn K (.ref C) g = some none)
    (v0 : Vis scope n0) (v1 : Vis scope n1) (d0 : (n0 == ("__debug__" : Str)) = false) (d1 : (n1 == ("__debug__" : Str)) = false) (c0 : (n0 == ("__classdict__" : Str)) = false) (c1 : (n1 == ("__classdict__" : Str)) = false)
    (hs : ∀ env : Env, swapsWith (.Name n1 p3) (some (.Attribute (.Name n0 p1) g p2)) p4.line env = pure false) : FnOk P w K mg base (L2.CX P w) 1 fa fd [n0, n1] (spX g C) := by
  refine F.ok (k := 0) S (fun vs H Q E h => ?_) (fun cdv A outer s H vs Q E hr h => ?_)
  · obtain ⟨a, v, rfl, _⟩ := h
    rfl
  · obtain ⟨a, v, rfl, ha, q⟩ := h
    subst hb
    refine ⟨_, pss_one (ps_ost (pe_var (i := 0) rfl v0 d0 c0) (pe_var (i := 1) rfl v1 d1 c1) (hs _)), ?_⟩
    exact ⟨_, rfl, _, rfl, a, C, rfl, T, hno, .inl ⟨ha, fun dx hd ne => q dx hd ne⟩⟩
end
def sRaise (c : Nat) (t : TD) : TDS := fun DD s => t s (fun d => DD.ex c d s) (xq DD s)
/-- no error is held, no object is being made -/
def plainB : List Sl → Bool
  | [] => true
  | .ini _ _ :: _ => false
  | .exc _ _ :: _ => false
  | _ :: r => plainB r
section
variable {X : Cx} {ct : CT} {W : WX} {e o : Expr} {es : List Expr} {td : TD} {tda : TDA} {pos pos' p np : Pos} {f x n : Str} {i c k : Nat} {fd : FuncData} {ps : List Str} {body suite : List Stmt} {b0 : Stmt} {tb tu : TDS}
theorem ds_raise {fI : Addr} (hc : X.calm = true) (tk : Takes X W) (T : OexC X.K (ct.addr c)) (iC : PySem.W.findIn X.K (.ref (ct.addr c)) "__init__" = some (some (.ref fI))) (tI : PySem.W.typeIn X.K (.ref fI) = some (.type "function")) (hn : ct.names c = [f])
    (F1 : FnOk X.prog X.w X.K X.mg X.base (L2.CX X.prog X.w) k fI fd ps (spX f (ct.addr c))) (hr : Room (k + 1) X.A) (hb : Binds X.K fd ps []) (hm : X.mg x = some (.ref (ct.addr c))) (he : DE X ct W e td) (hg : Gl X x := by rfl) (hdb : (x == ("__debug__" : Str)) = false := by decide)
    (hs : starEach [e] X.env = (false, eval e X.env) :: starEach [] X.env := by rfl) (hpl : (backTo pos (starEach [] X.env)).any (·.1) = false := by rfl) :
    DS X ct W (.Raise (some (.Call (.Name x p) [e] [] pos)) none pos') (sRaise c td) := PS.imp (ps_raise hc tk (pmk_oex (dvs := []) T iC tI F1 hr hb .nil passL hg hm (pa_cons he pa_nil hs) hdb hs hpl)) fun E σ H ⟨O0, H0, g, dσ, DD, h, t, en⟩ => by
  refine h.ex en t fun v d H1 s1 r q => ⟨(by show 1 ≤ 1000; decide), fun a ha => ⟨a, v, rfl, upd_same, fun dx hd ne => ⟨rfl, dx, [(f, v)], upd_same, ?_, ?_, ?_⟩⟩⟩
  · rw [upd_ne ne, upd_same]
  · rw [upd_ne ne] at hd
    exact hd
  · rw [upd_ne ne] at hd
    have s2 : Same H1 (upd (del (upd (upd (upd H1 a (exo a (ct.addr c) none)) dx (exd dx [(f, v)])) a (exo a (ct.addr c) (some dx))) a) dx (.xd [(f, v)])) := fun b o eb => by
      rw [upd_ne (ne_of_none eb hd), del_ne (ne_of_none eb ha), upd_ne (ne_of_none eb ha), upd_ne (ne_of_none eb hd), upd_ne (ne_of_none eb ha)]
      exact eb
    refine en.ex c d _ _ σ _ g dσ (h.sm (s1.trans s2)) ⟨rfl, dx, v, rfl, ?_, r.same s2⟩ q
    rw [upd_same, hn]
    rfl
theorem plain_no : ∀ {dσ : List Sl} {i : Nat} {s : Sl}, plainB dσ = true → dσ[i]? = some s → (∀ c fs, s ≠ .ini c fs) ∧ ∀ c x, s ≠ .exc c x
  | [], _, _, _, e => by simp at e
  | t :: r, 0, s, h, e => by
    have e' : t = s := by simpa using e
    subst e'
    constructor
    · rintro c fs rfl
      cases h
    · rintro c x rfl
      cases h
  | t :: r, i + 1, s, h, e => by
    have h' : plainB r = true := by
      cases t <;> first | exact h | cases h
    exact plain_no (i := i) h' (by simpa using e)
theorem StS.gh {K : PySem.W.Frag} {ct ct' : CT} {W : WX} {O0 : Addr → Prop} {H0 H : Hp} {g : Nat → Addr} {dσ : List Sl} {σ : St} (hp : plainB dσ = true) (hr : ∀ d v O, Rep K ct H O d v → Rep K ct' H O d v) (hrl : ∀ d v O, RepL K ct H O d v → RepL K ct' H O d v) (h : StS K ct O0 H0 H g dσ σ) : StS K ct' O0 H0 H g dσ σ := by
  refine ⟨⟨h.e.len, fun i s e => ?_, h.e.dom⟩, h.same, h.fresh, h.inj, h.dom0⟩
  obtain ⟨o, a, b⟩ := h.e.at_ i s e
  obtain ⟨n1, n2⟩ := plain_no hp e
  refine ⟨o, a, ?_⟩
  cases s with
  | un => trivial
  | v d =>
    obtain ⟨v, e, r⟩ := b
    exact ⟨v, e, hr _ _ _ r⟩
  | own xs =>
    obtain ⟨e, n, vs, z, r⟩ := b
    exact ⟨e, n, vs, z, hrl _ _ _ r⟩
  | ini c fs => exact absurd rfl (n1 c fs)
  | dic ks xs =>
    obtain ⟨e, n, vs, z, hl, r⟩ := b
    exact ⟨e, n, vs, z, hl, hrl _ _ _ r⟩
  | exc c x => exact absurd rfl (n2 c x)
end
end Dl
set_option Elab.async false
set_option linter.all false
set_option maxRecDepth 100000
set_option maxHeartbeats 4000000
namespace Dl
open PySem PySem.Spec L2
def dB (c : List D → (D → Prop) → Prop) (ta : TDA) : TD := fun s Q E => ta s (fun ds => c ds Q) E
/-- x.m(e, ..), x a text -/
def dM (c : D → List D → (D → Prop) → Prop) (to : TD) (ta : TDA) : TD := fun s Q E => to s (fun x => ∃ z, x = .str z ∧ ta s (fun ds => c (.str z) ds Q) E) E
section
variable {X : Cx} {ct : CT} {W : WX} {e o a b : Expr} {es : List Expr} {td to : TD} {tda : TDA} {pos apos p : Pos} {x m : Str} {c : List D → (D → Prop) → Prop}
theorem de_B {id : String} (hc : CallR X (.builtin id) (RCD X.K ct c)) (hm : X.mg x = none) (ha : DA X ct W (e :: es) tda) (hv : bootBuiltins x = some (.builtin id) := by decide +kernel) (hg : Gl X x := by rfl) (hn : x ≠ "__name__" := by decide) (hdb : (x == ("__debug__" : Str)) = false := by decide)
    (he : starEach (e :: es) X.env = (false, eval e X.env) :: starEach es X.env := by rfl) (hpl : (backTo pos (starEach es X.env)).any (·.1) = false := by rfl) : DE X ct W (.Call (.Name x p) (e :: es) [] pos) (dB c tda) :=
  PE.imp (pe_callB hc hg hm hv ha hn hdb he hpl) fun σ H Q ⟨O, f, dσ, QD, QE, hs, h, k, kx⟩ => by
    refine ⟨O, f, dσ, _, QE, hs, h, fun vs ds H1 e1 r q => ?_, kx⟩
    exact ⟨O, ds, QD, (hs.same e1).dom, r, q, fun v d H2 e2 => k v d H2 (e1.trans e2)⟩
theorem de_T {T : String} (hc : CallR X (.type T) (RCD X.K ct c)) (hm : X.mg x = none) (ha : DA X ct W (e :: es) tda) (hv : bootBuiltins x = some (.type T) := by decide +kernel) (hg : Gl X x := by rfl) (hn : x ≠ "__name__" := by decide) (hdb : (x == ("__debug__" : Str)) = false := by decide)
    (he : starEach (e :: es) X.env = (false, eval e X.env) :: starEach es X.env := by rfl) (hpl : (backTo pos (starEach es X.env)).any (·.1) = false := by rfl) : DE X ct W (.Call (.Name x p) (e :: es) [] pos) (dB c tda) :=
  PE.imp (pe_callTy hc hg hm hv ha hn hdb he hpl) fun σ H Q ⟨O, f, dσ, QD, QE, hs, h, k, kx⟩ => by
    refine ⟨O, f, dσ, _, QE, hs, h, fun vs ds H1 e1 r q => ?_, kx⟩
    exact ⟨O, ds, QD, (hs.same e1).dom, r, q, fun v d H2 e2 => k v d H2 (e1.trans e2)⟩
theorem rep1 {H : Hp} {O : Addr → Prop} {K : PySem.W.Frag} {d : D} {vs : List V} (r : RepL K ct H O [d] vs) : ∃ v, vs = [v] ∧ Rep K ct H O d v := by
  obtain ⟨v, q, e, h1, h2⟩ := r.cons_inv
  simp only [RepL] at h2
  subst h2
  exact ⟨v, e, h1⟩
theorem rep2 {H : Hp} {O : Addr → Prop} {K : PySem.W.Frag} {d e : D} {vs : List V} (r : RepL K ct H O [d, e] vs) : ∃ v u, vs = [v, u] ∧ Rep K ct H O d v ∧ Rep K ct H O e u := by
  obtain ⟨v, q, e, h1, h2⟩ := r.cons_inv
  obtain ⟨u, e2, h3⟩ := rep1 h2
  subst e2
  exact ⟨v, u, e, h1, h3⟩
def bLen : List D → (D → Prop) → Prop
  | [.str z], Q => z.length ≤ sizeLine ∧ Q (.int z.length)
  | [.lst xs], Q => Q (.int xs.length)
  | [.tup xs], Q => Q (.int xs.length)
  | [.scr xs], Q => Q (.int xs.length)
  | _, _ => False
theorem cd_len : CallR X (.builtin "len") (RCD X.K ct bLen) := by
  intro pins s σ H vs us Q I rv ⟨O, ds, QD, dm, r, o, k⟩
  unfold bLen at o
  split at o
  · obtain ⟨v, e, h1⟩ := rep1 r
    subst e
    exact call_len_str pins s σ H _ us Q I rv ⟨_, by rw [rep_str.mp h1], o.1, k _ _ H (Same.refl H) (rep_int.mpr rfl) o.2⟩
  · obtain ⟨v, e, h1⟩ := rep1 r
    obtain ⟨p, ys, e2, n, l, rl⟩ := rep_lst.mp h1
    subst e e2
    exact call_len_seq pins s σ H _ us Q I rv ⟨p, ys, rfl, .inl (SqL.of l), k _ _ H (Same.refl H) (rep_int.mpr (by rw [rl.length])) o⟩
  · obtain ⟨v, e, h1⟩ := rep1 r
    obtain ⟨p, ys, e2, l, rl⟩ := rep_tup.mp h1
    subst e e2
    exact call_len_seq pins s σ H _ us Q I rv ⟨p, ys, rfl, .inr l, k _ _ H (Same.refl H) (rep_int.mpr (by rw [rl.length])) o⟩
  · obtain ⟨v, e, h1⟩ := rep1 r
    obtain ⟨p, e2, l⟩ := rep_scr.mp h1
    subst e e2
    exact call_len_seq pins s σ H _ us Q I rv ⟨p, _, rfl, .inl l.sq, k _ _ H (Same.refl H) (rep_int.mpr (by rw [List.length_map])) o⟩
  · exact o.elim
def bTuple : List D → (D → Prop) → Prop
  | [.lst xs], Q => Q (.tup xs)
  | [.tup xs], Q => Q (.tup xs)
  | _, _ => False
theorem cd_tuple : CallR X (.type "tuple") (RCD X.K ct bTuple) := by
  intro pins s σ H vs us Q I rv ⟨O, ds, QD, dm, r, o, k⟩
  unfold bTuple at o
  split at o
  · obtain ⟨v, e, h1⟩ := rep1 r
    obtain ⟨p, ys, e2, n, l, rl⟩ := rep_lst.mp h1
    subst e e2
    exact call_tuple_of pins s σ H _ us Q I rv ⟨p, ys, rfl, .inl ⟨SqL.of l, fun l hl => k _ _ _ (same_new hl) (new_tup hl rl) o⟩⟩
  · obtain ⟨v, e, h1⟩ := rep1 r
    obtain ⟨p, ys, e2, l, rl⟩ := rep_tup.mp h1
    subst e e2
    exact call_tuple_of pins s σ H _ us Q I rv ⟨p, ys, rfl, .inr ⟨l, k _ _ H (Same.refl H) (rep_tup.mpr ⟨p, ys, rfl, l, rl⟩) o⟩⟩
  · exact o.elim
def bInt : List D → (D → Prop) → Prop
  | [.int i], Q => Q (.int i)
  | [.bl b], Q => Q (.int (if b then 1 else 0))
  | _, _ => False
theorem cd_int : CallR X (.type "int") (RCD X.K ct bInt) := by
  intro pins s σ H vs us Q I rv ⟨O, ds, QD, dm, r, o, k⟩
  unfold bInt at o
  split at o
  · obtain ⟨v, e, h1⟩ := rep1 r
    subst e
    exact call_int1 pins s σ H _ us Q I rv (.inl ⟨_, by rw [rep_int.mp h1], k _ _ H (Same.refl H) (rep_int.mpr rfl) o⟩)
  · obtain ⟨v, e, h1⟩ := rep1 r
    subst e
    exact call_int1 pins s σ H _ us Q I rv (.inr ⟨_, by rw [rep_bl.mp h1], k _ _ H (Same.refl H) (rep_int.mpr rfl) o⟩)
  · exact o.elim
def bSum (ds : List D) (Q : D → Prop) : Prop := ∃ ns : List Int, ds = [.lst (ns.map D.int)] ∧ Q (.int ns.sum)
theorem cd_sum (hc : X.calm = true) : CallR X (.builtin "sum") (RCD X.K ct bSum) := by
  intro pins s σ H vs us Q I rv ⟨O, ds, QD, dm, r, ⟨ns, ed, q⟩, k⟩
  subst ed
  obtain ⟨v, e, h1⟩ := rep1 r
  obtain ⟨p, ys, e2, n, l, rl⟩ := rep_lst.mp h1
  have e3 := RepL.ints_inv rl
  subst e e2 e3
  exact cr_sum hc pins s σ H _ us Q I rv ⟨p, ns, rfl, SqL.of l, k _ _ H (Same.refl H) (rep_int.mpr rfl) q⟩
def bAll (ds : List D) (Q : D → Prop) : Prop := ∃ bs : List Bool, ds = [.lst (bs.map D.bl)] ∧ Q (.bl (bs.all id))
def bAny (ds : List D) (Q : D → Prop) : Prop := ∃ bs : List Bool, ds = [.lst (bs.map D.bl)] ∧ Q (.bl (bs.any id))
theorem cd_all (hc : X.calm = true) : CallR X (.builtin "all") (RCD X.K ct bAll) := by
  intro pins s σ H vs us Q I rv ⟨O, ds, QD, dm, r, ⟨ns, ed, q⟩, k⟩
  subst ed
  obtain ⟨v, e, h1⟩ := rep1 r
  obtain ⟨p, ys, e2, n, l, rl⟩ := rep_lst.mp h1
  have e3 := RepL.bls_inv rl
  subst e e2 e3
  exact cr_all hc pins s σ H _ us Q I rv ⟨p, ns, rfl, SqL.of l, k _ _ H (Same.refl H) (rep_bl.mpr rfl) q⟩
theorem cd_any (hc : X.calm = true) : CallR X (.builtin "any") (RCD X.K ct bAny) := by
  intro pins s σ H vs us Q I rv ⟨O, ds, QD, dm, r, ⟨ns, ed, q⟩, k⟩
  subst ed
  obtain ⟨v, e, h1⟩ := rep1 r
  obtain ⟨p, ys, e2, n, l, rl⟩ := rep_lst.mp h1
  have e3 := RepL.bls_inv rl
  subst e e2 e3
  exact cr_any hc pins s σ H _ us Q I rv ⟨p, ns, rfl, SqL.of l, k _ _ H (Same.refl H) (rep_bl.mpr rfl) q⟩
def bMin : List D → (D → Prop) → Prop
  | [.int i, .int j], Q => Q (.int (if j < i then j else i))
  | _, _ => False
theorem cd_min (hc : X.calm = true) : CallR X (.builtin "min") (RCD X.K ct bMin) := by
  intro pins s σ H vs us Q I rv ⟨O, ds, QD, dm, r, o, k⟩
  unfold bMin at o
  split at o
  · obtain ⟨v, u, e, h1, h2⟩ := rep2 r
    subst e
    exact call_min2 hc pins s σ H _ us Q I rv ⟨_, _, by rw [rep_int.mp h1, rep_int.mp h2], k _ _ H (Same.refl H) (rep_int.mpr rfl) o⟩
  · exact o.elim
end
end Dl
set_option Elab.async false
set_option linter.all false
set_option maxRecDepth 100000
set_option maxHeartbeats 4000000
namespace Dl.G
open PySem PySem.SeqAt
open AutoSeq1 (wpAny_loadPart')
open MeetsSeq MeetsSeq2 MeetsSeq3 SeqRoads2
section
variable {prg : Program} {w : World} {A : Around} {R : Result → Shared → Prop}
/-- two lists of N us1 each, read anew at each turn; item i is equal where e says so -/
def ListB (prg : Program) (w : World) (A : Around) (E : Value → Shared → Prop) (l b : Addr) (N : Nat) (e : Nat → Bool) (I : Shared → Prop) : Prop :=
  ∀ s, I s → ∃ (us1 us2 : Array Value) (n n2 : Nat), s.heap.get? l = some { cls := .type "list", data := .seq us1 n } ∧ s.heap.get? b = some { cls := .type "list", data := .seq us2 n2 } ∧ us1.size = N ∧ us2.size = N ∧
    ∀ i (h1 : i < us1.size) (h2 : i < us2.size), wpAny (model prg w) A.in1 (eqBool us1[i] us2[i]) (fun r s' => r = e i ∧ I s') E s
theorem eq_loopB (l b : Addr) (N : Nat) (e : Nat → Bool) (I : Shared → Prop) (hl : ListB prg w A (fun e s' => R (.error e) s') l b N e I) (k : Nat) :
    ∀ i : Nat, N - i = k → i ≤ N → (∀ s, I s → R (.ok (.ret (.bool (((List.range N).drop i).all e)))) s) → ∀ s, I s →
      wpAny (model prg w) A.in1 (Builtin.«list.__eq__.loop» ⟨[.ref l, .ref b, rawInt i, rawInt 2], []⟩) (GQ.FinOf prg w A R) (fun e s' => R (.error e) s') s := by
  induction k with
  | zero =>
    intro i hk hi fin s h
    obtain ⟨us1, us2, n, n2, kl, kb, sa, sb, _⟩ := hl _ h
    have hi' : i = N := by omega
    have hRR := fin s h
    have hdr : (List.range N).drop i = [] := by simp; omega
    rw [hdr] at hRR
    obtain ⟨hq0, g, d, tk0, os0⟩ := s
    wp_walk using wpAny_loadPart' kl, wpAny_loadPart' kb
    have ge1 : us1[((i : Nat) : Int).toNat]? = none := by simp; omega
    have ge2 : us2[((i : Nat) : Int).toNat]? = none := by simp; omega
    rw [ge1, ge2]
    wp_walk using wpAny_loadPart' kl, wpAny_loadPart' kb
    show R (.ok (.ret (.bool (us1.size == us2.size)))) _
    rw [sa, sb]
    simpa using hRR
  | succ k ih =>
    intro i hk hi fin s h
    obtain ⟨us1, us2, n, n2, kl, kb, sa, sb, turn⟩ := hl _ h
    have lt1 : i < us1.size := by omega
    have lt2 : i < us2.size := by omega
    have htn := turn i lt1 lt2
    have hdr : (List.range N).drop i = i :: (List.range N).drop (i + 1) := by
      have : i < N := by omega
      simp [List.drop_eq_getElem_cons, this]
    obtain ⟨hq0, g, d, tk0, os0⟩ := s
    wp_walk using wpAny_loadPart' kl, wpAny_loadPart' kb
    have ge1 : us1[((i : Nat) : Int).toNat]? = some us1[i] := by simp [lt1]
    have ge2 : us2[((i : Nat) : Int).toNat]? = some us2[i] := by simp [lt2]
    have hcs : ((i : Int) + 1) = ((i + 1 : Nat) : Int) := by omega
    rw [ge1, ge2]
    refine wpAny_bind (wpAny_mono htn (fun r s2 h2 => ?_) fun _ _ x => x)
    obtain ⟨hr, h2⟩ := h2
    subst hr
    cases hee : e i with
    | true =>
      have again := ih (i + 1) (by omega) (by omega) (fun s h => by
        have z := fin s h
        rw [hdr, List.all_cons, hee, Bool.true_and] at z
        exact z) s2 h2
      obtain ⟨hq2, g2, d2, tk02, os02⟩ := s2
      wp_walk
      rw [hcs]
      exact ⟨plainId_quiet plain_eq_loop _, codeAny_builtin entry_eq_loop (by
        rw [Around.under_plainId plain_eq_loop _]
        exact again)⟩
    | false =>
      have hRR := fin s2 h2
      rw [hdr, List.all_cons, hee, Bool.false_and] at hRR
      obtain ⟨us1', us2', n', n2', kl', kb', sa', sb', _⟩ := hl _ h2
      have lt1' : i < us1'.size := by omega
      have lt2' : i < us2'.size := by omega
      have ge1' : us1'[((i : Nat) : Int).toNat]? = some us1'[i] := by simp [lt1']
      have ge2' : us2'[((i : Nat) : Int).toNat]? = some us2'[i] := by simp [lt2']
      obtain ⟨hq2, g2, d2, tk02, os02⟩ := s2
      wp_walk using wpAny_loadPart' kl', wpAny_loadPart' kb'
      rw [ge1', ge2']
      wp_walk
      exact hRR
theorem ne_loopB (l b : Addr) (N : Nat) (e : Nat → Bool) (I : Shared → Prop) (hl : ListB prg w A (fun e s' => R (.error e) s') l b N e I) (k : Nat) :
    ∀ i : Nat, N - i = k → i ≤ N → (∀ s, I s → R (.ok (.ret (.bool (!((List.range N).drop i).all e)))) s) → ∀ s, I s →
      wpAny (model prg w) A.in1 (Builtin.«list.__eq__.loop» ⟨[.ref l, .ref b, rawInt i, rawInt 3], []⟩) (GQ.FinOf prg w A R) (fun e s' => R (.error e) s') s := by
  induction k with
  | zero =>
    intro i hk hi fin s h
    obtain ⟨us1, us2, n, n2, kl, kb, sa, sb, _⟩ := hl _ h
    have hi' : i = N := by omega
    have hRR := fin s h
    have hdr : (List.range N).drop i = [] := by simp; omega
    rw [hdr] at hRR
    obtain ⟨hq0, g, d, tk0, os0⟩ := s
    wp_walk using wpAny_loadPart' kl, wpAny_loadPart' kb
    have ge1 : us1[((i : Nat) : Int).toNat]? = none := by simp; omega
    have ge2 : us2[((i : Nat) : Int).toNat]? = none := by simp; omega
    rw [ge1, ge2]
    wp_walk using wpAny_loadPart' kl, wpAny_loadPart' kb
    show R (.ok (.ret (.bool (us1.size != us2.size)))) _
    rw [sa, sb]
    simpa using hRR
  | succ k ih =>
    intro i hk hi fin s h
    obtain ⟨us1, us2, n, n2, kl, kb, sa, sb, turn⟩ := hl _ h
    have lt1 : i < us1.size := by omega
    have lt2 : i < us2.size := by omega
    have htn := turn i lt1 lt2
    have hdr : (List.range N).drop i = i :: (List.range N).drop (i + 1) := by
      have : i < N := by omega
      simp [List.drop_eq_getElem_cons, this]
    obtain ⟨hq0, g, d, tk0, os0⟩ := s
    wp_walk using wpAny_loadPart' kl, wpAny_loadPart' kb
    have ge1 : us1[((i : Nat) : Int).toNat]? = some us1[i] := by simp [lt1]
    have ge2 : us2[((i : Nat) : Int).toNat]? = some us2[i] := by simp [lt2]
    have hcs : ((i : Int) + 1) = ((i + 1 : Nat) : Int) := by omega
    rw [ge1, ge2]
    refine wpAny_bind (wpAny_mono htn (fun r s2 h2 => ?_) fun _ _ x => x)
    obtain ⟨hr, h2⟩ := h2
    subst hr
    cases hee : e i with
    | true =>
      have again := ih (i + 1) (by omega) (by omega) (fun s h => by
        have z := fin s h
        rw [hdr, List.all_cons, hee, Bool.true_and] at z
        exact z) s2 h2
      obtain ⟨hq2, g2, d2, tk02, os02⟩ := s2
      wp_walk
      rw [hcs]
      exact ⟨plainId_quiet plain_eq_loop _, codeAny_builtin entry_eq_loop (by
        rw [Around.under_plainId plain_eq_loop _]
        exact again)⟩
    | false =>
      have hRR := fin s2 h2
      rw [hdr, List.all_cons, hee, Bool.false_and] at hRR
      obtain ⟨us1', us2', n', n2', kl', kb', sa', sb', _⟩ := hl _ h2
      have lt1' : i < us1'.size := by omega
      have lt2' : i < us2'.size := by omega
      have ge1' : us1'[((i : Nat) : Int).toNat]? = some us1'[i] := by simp [lt1']
      have ge2' : us2'[((i : Nat) : Int).toNat]? = some us2'[i] := by simp [lt2']
      obtain ⟨hq2, g2, d2, tk02, os02⟩ := s2
      wp_walk using wpAny_loadPart' kl', wpAny_loadPart' kb'
      rw [ge1', ge2']
      wp_walk
      exact hRR
theorem list_eqB (l b : Addr) (N : Nat) (e : Nat → Bool) (I : Shared → Prop) (hl : ListB prg w A (fun e s' => R (.error e) s') l b N e I)
    (fin : ∀ s, I s → R (.ok (.ret (.bool ((List.range N).all e)))) s) {s : Shared} (h : I s) :
    wpAny (model prg w) A.in1 (Builtin.«list.__eq__» ⟨[.ref l, .ref b], []⟩) (GQ.FinOf prg w A R) (fun e s' => R (.error e) s') s := by
  obtain ⟨us1, us2, n, n2, kl, kb, sa, sb, _⟩ := hl _ h
  have again := eq_loopB (A := A) (R := R) l b N e I hl _ 0 rfl (Nat.zero_le _) (by simpa using fin) s h
  obtain ⟨hq0, g, d, tk0, os0⟩ := s
  have f3 := AutoSeq1.sub_list_list
  have hnn : ¬ (us1.size != us2.size) = true := by simp [sa, sb]
  wp_walk using wpAny_loadPart' kl, wpAny_loadPart' kb
  exact ⟨plainId_quiet plain_eq_loop _, codeAny_builtin entry_eq_loop (by
    rw [Around.under_plainId plain_eq_loop _]
    exact again)⟩
theorem list_neB (l b : Addr) (N : Nat) (e : Nat → Bool) (I : Shared → Prop) (hl : ListB prg w A (fun e s' => R (.error e) s') l b N e I)
    (fin : ∀ s, I s → R (.ok (.ret (.bool (!(List.range N).all e)))) s) {s : Shared} (h : I s) :
    wpAny (model prg w) A.in1 (Builtin.«list.__ne__» ⟨[.ref l, .ref b], []⟩) (GQ.FinOf prg w A R) (fun e s' => R (.error e) s') s := by
  obtain ⟨us1, us2, n, n2, kl, kb, sa, sb, _⟩ := hl _ h
  have again := ne_loopB (A := A) (R := R) l b N e I hl _ 0 rfl (Nat.zero_le _) (by simpa using fin) s h
  obtain ⟨hq0, g, d, tk0, os0⟩ := s
  have f3 := AutoSeq1.sub_list_list
  have hnn : ¬ (us1.size != us2.size) = true := by simp [sa, sb]
  wp_walk using wpAny_loadPart' kl, wpAny_loadPart' kb
  exact ⟨plainId_quiet plain_eq_loop _, codeAny_builtin entry_eq_loop (by
    rw [Around.under_plainId plain_eq_loop _]
    exact again)⟩
end
end Dl.G
set_option Elab.async false
set_option linter.all false
set_option maxRecDepth 100000
set_option maxHeartbeats 4000000
namespace Dl.G
open PySem PySem.SeqAt
open AutoSeq1 (wpAny_loadPart')
open MeetsSeq MeetsSeq2 MeetsSeq3 SeqRoads2
section
variable {prg : Program} {w : World} {A : Around} {R : Result → Shared → Prop}
theorem tuple_eqB (l b : Addr) (us1 us2 : Array Value) (n n2 : Nat) (dd dd2 : Option Addr) (sl sl2 : Array (Option Value)) (e : Nat → Bool) (I : Shared → Prop)
    (trn : ∀ i (h1 : i < us1.size) (h2 : i < us2.size) s, I s → wpAny (model prg w) A.in1 (eqBool us1[i] us2[i]) (fun r s' => r = e i ∧ I s') (fun e s' => R (.error e) s') s)
    (fn : ∀ s, I s → R (.ok (.ret (.bool ((List.range (min us1.size us2.size)).all e && us1.size == us2.size)))) s) {s : Shared} (kl : s.heap.get? l = some { cls := .type "tuple", dict := dd, data := .seq us1 n, slots := sl }) (kb : s.heap.get? b = some { cls := .type "tuple", dict := dd2, data := .seq us2 n2, slots := sl2 }) (h : I s) :
    wpAny (model prg w) A.in1 (Builtin.«tuple.__eq__» ⟨[.ref l, .ref b], []⟩) (GQ.FinOf prg w A R) (fun e s' => R (.error e) s') s := by
  have f2 := AutoSeq1.sub_tuple_tuple
  have hZip : (us1.toList.zip us2.toList).length = min us1.size us2.size := by simp
  have h0 := h
  obtain ⟨hq0, g, d, tk0, os0⟩ := s
  wp_walk using wpAny_loadPart' kl, wpAny_loadPart' kb, wpAny_forIn_list _ (fun rest b s' => b.1 = none ∧ I s' ∧ ∃ i, rest = (us1.toList.zip us2.toList).drop i ∧ ∀ s, I s → R (.ok (.ret (.bool (((List.range (min us1.size us2.size)).drop i).all e && us1.size == us2.size)))) s) _
  case turn =>
    rintro ⟨y, x⟩ rest b s' ⟨hee, hI, i, hz, hRR⟩
    have lt1 : i < (us1.toList.zip us2.toList).length := by
      rcases Nat.lt_or_ge i (us1.toList.zip us2.toList).length with h' | h'
      · exact h'
      · rw [List.drop_of_length_le h'] at hz; cases hz
    have hm : i < min us1.size us2.size := hZip ▸ lt1
    have h1 : i < us1.size := Nat.lt_of_lt_of_le hm (Nat.min_le_left _ _)
    have h2 : i < us2.size := Nat.lt_of_lt_of_le hm (Nat.min_le_right _ _)
    rw [List.drop_eq_getElem_cons lt1] at hz
    injection hz with hpq hre
    have hy : y = us1[i] := by have := congrArg Prod.fst hpq; simpa using this
    have hx : x = us2[i] := by have := congrArg Prod.snd hpq; simpa using this
    subst hy hx
    have hdr : (List.range (min us1.size us2.size)).drop i = i :: (List.range (min us1.size us2.size)).drop (i + 1) := by simp [List.drop_eq_getElem_cons, hm]
    rw [hdr] at hRR
    refine wpAny_bind (wpAny_mono (trn i h1 h2 s' hI) (fun r s2 q2 => ?_) fun _ _ x => x)
    obtain ⟨hr, q2⟩ := q2
    subst hr
    cases hy : e i with
    | true =>
      wp_walk
      exact ⟨rfl, q2, i + 1, hre, fun s h => by
        have z := hRR s h
        rw [List.all_cons, hy, Bool.true_and] at z
        exact z⟩
    | false =>
      have z := hRR s2 q2
      rw [List.all_cons, hy] at z
      wp_walk
      simpa using z
  case fin =>
    rintro ⟨b1, b2⟩ s' ⟨hee, hI, i, hz, hRR⟩
    simp only at hee
    subst hee
    have hgge : min us1.size us2.size ≤ i := by
      rcases Nat.lt_or_ge i (us1.toList.zip us2.toList).length with h' | h'
      · rw [List.drop_eq_getElem_cons h'] at hz; cases hz
      · exact hZip ▸ h'
    have z := hRR s' hI
    rw [List.drop_of_length_le (by simpa using hgge)] at z
    wp_walk
    simpa [Builtin.Tuple.tupleCompareSizes] using z
  case h =>
    exact ⟨rfl, h0, 0, rfl, by simpa using fn⟩
theorem tuple_neB (l b : Addr) (us1 us2 : Array Value) (n n2 : Nat) (dd dd2 : Option Addr) (sl sl2 : Array (Option Value)) (e : Nat → Bool) (I : Shared → Prop)
    (trn : ∀ i (h1 : i < us1.size) (h2 : i < us2.size) s, I s → wpAny (model prg w) A.in1 (eqBool us1[i] us2[i]) (fun r s' => r = e i ∧ I s') (fun e s' => R (.error e) s') s)
    (fn : ∀ s, I s → R (.ok (.ret (.bool (!((List.range (min us1.size us2.size)).all e && us1.size == us2.size))))) s) {s : Shared} (kl : s.heap.get? l = some { cls := .type "tuple", dict := dd, data := .seq us1 n, slots := sl }) (kb : s.heap.get? b = some { cls := .type "tuple", dict := dd2, data := .seq us2 n2, slots := sl2 }) (h : I s) :
    wpAny (model prg w) A.in1 (Builtin.«tuple.__ne__» ⟨[.ref l, .ref b], []⟩) (GQ.FinOf prg w A R) (fun e s' => R (.error e) s') s := by
  have f2 := AutoSeq1.sub_tuple_tuple
  have hZip : (us1.toList.zip us2.toList).length = min us1.size us2.size := by simp
  have h0 := h
  obtain ⟨hq0, g, d, tk0, os0⟩ := s
  wp_walk using wpAny_loadPart' kl, wpAny_loadPart' kb, wpAny_forIn_list _ (fun rest b s' => b.1 = none ∧ I s' ∧ ∃ i, rest = (us1.toList.zip us2.toList).drop i ∧ ∀ s, I s → R (.ok (.ret (.bool (!(((List.range (min us1.size us2.size)).drop i).all e && us1.size == us2.size))))) s) _
  case turn =>
    rintro ⟨y, x⟩ rest b s' ⟨hee, hI, i, hz, hRR⟩
    have lt1 : i < (us1.toList.zip us2.toList).length := by
      rcases Nat.lt_or_ge i (us1.toList.zip us2.toList).length with h' | h'
      · exact h'
      · rw [List.drop_of_length_le h'] at hz; cases hz
    have hm : i < min us1.size us2.size := hZip ▸ lt1
    have h1 : i < us1.size := Nat.lt_of_lt_of_le hm (Nat.min_le_left _ _)
    have h2 : i < us2.size := Nat.lt_of_lt_of_le hm (Nat.min_le_right _ _)
    rw [List.drop_eq_getElem_cons lt1] at hz
    injection hz with hpq hre
    have hy : y = us1[i] := by have := congrArg Prod.fst hpq; simpa using this
    have hx : x = us2[i] := by have := congrArg Prod.snd hpq; simpa using this
    subst hy hx
    have hdr : (List.range (min us1.size us2.size)).drop i = i :: (List.range (min us1.size us2.size)).drop (i + 1) := by simp [List.drop_eq_getElem_cons, hm]
    rw [hdr] at hRR
    refine wpAny_bind (wpAny_mono (trn i h1 h2 s' hI) (fun r s2 q2 => ?_) fun _ _ x => x)
    obtain ⟨hr, q2⟩ := q2
    subst hr
    cases hy : e i with
    | true =>
      wp_walk
      exact ⟨rfl, q2, i + 1, hre, fun s h => by
        have z := hRR s h
        rw [List.all_cons, hy, Bool.true_and] at z
        exact z⟩
    | false =>
      have z := hRR s2 q2
      rw [List.all_cons, hy] at z
      wp_walk
      simpa using z
  case fin =>
    rintro ⟨b1, b2⟩ s' ⟨hee, hI, i, hz, hRR⟩
    simp only at hee
    subst hee
    have hgge : min us1.size us2.size ≤ i := by
      rcases Nat.lt_or_ge i (us1.toList.zip us2.toList).length with h' | h'
      · rw [List.drop_eq_getElem_cons h'] at hz; cases hz
      · exact hZip ▸ h'
    have z := hRR s' hI
    rw [List.drop_of_length_le (by simpa using hgge)] at z
    wp_walk
    simpa [Builtin.Tuple.tupleCompareSizes, bne] using z
  case h =>
    exact ⟨rfl, h0, 0, rfl, by simpa using fn⟩
end
section
variable {prg : Program} {w : World} {A : Around} {E : Value → Shared → Prop} {s : Shared}
theorem rc_listB {l b : Addr} {N : Nat} {e : Nat → Bool} {Q : Value → Shared → Prop} (hu : A.units < cLine) (I : Shared → Prop) (hl : ListB prg w A E l b N e I)
    (fin : ∀ s, I s → Q (.bool ((List.range N).all e)) s) (h : I s) : wpAny (model prg w) A (richCompare .Eq (.ref l) (.ref b)) Q E s := by
  obtain ⟨us1, us2, n, n2, kl, kb, _, _, _⟩ := hl _ h
  refine wpAny_richCompare_same_room (op := .Eq) ⟨_, kl, rfl⟩ ⟨_, kb, rfl⟩ F.slot_list_eq (GQ.call_here F.slot_list_eq ⟨_, kl, rfl⟩ F.entry_list_eq (F.args_list_eq_2 _ _) ?_) hu
  exact list_eqB (R := wants (fun v s' => v ≠ .notImplemented ∧ Q v s') E) l b N e I hl (fun s' q => ⟨(fun x => nomatch x), fin s' q⟩) h
theorem rcn_listB {l b : Addr} {N : Nat} {e : Nat → Bool} {Q : Value → Shared → Prop} (hu : A.units < cLine) (I : Shared → Prop) (hl : ListB prg w A E l b N e I)
    (fin : ∀ s, I s → Q (.bool (!(List.range N).all e)) s) (h : I s) : wpAny (model prg w) A (richCompare .NotEq (.ref l) (.ref b)) Q E s := by
  obtain ⟨us1, us2, n, n2, kl, kb, _, _, _⟩ := hl _ h
  refine wpAny_richCompare_same_room (op := .NotEq) ⟨_, kl, rfl⟩ ⟨_, kb, rfl⟩ F.slot_list_ne (GQ.call_here F.slot_list_ne ⟨_, kl, rfl⟩ F.entry_list_ne (F.args_list_ne_2 _ _) ?_) hu
  exact list_neB (R := wants (fun v s' => v ≠ .notImplemented ∧ Q v s') E) l b N e I hl (fun s' q => ⟨(fun x => nomatch x), fin s' q⟩) h
theorem rc_tupB {l b : Addr} {us1 us2 : Array Value} {e : Nat → Bool} {Q : Value → Shared → Prop} (hu : A.units < cLine) (I : Shared → Prop)
    (hl : s.heap.IsTuple l us1) (hb : s.heap.IsTuple b us2)
    (turn : ∀ i (h1 : i < us1.size) (h2 : i < us2.size) s, I s → wpAny (model prg w) A.in1 (eqBool us1[i] us2[i]) (fun r s' => r = e i ∧ I s') E s)
    (fin : ∀ s, I s → Q (.bool ((List.range (min us1.size us2.size)).all e && us1.size == us2.size)) s) (h : I s) : wpAny (model prg w) A (richCompare .Eq (.ref l) (.ref b)) Q E s := by
  obtain ⟨⟨cls, dd, data, sl⟩, ho, hcs, n, hdr⟩ := id hl
  obtain ⟨⟨cls2, dd2, data2, sl2⟩, ho2, hc2, n2, hd2⟩ := id hb
  simp only at hcs hdr hc2 hd2
  subst hcs hdr hc2 hd2
  refine wpAny_richCompare_same_room (op := .Eq) ⟨_, ho, rfl⟩ ⟨_, ho2, rfl⟩ F.slot_tuple_eq (GQ.call_here F.slot_tuple_eq ⟨_, ho, rfl⟩ F.entry_tuple_eq (F.args_tuple_eq_2 _ _) ?_) hu
  exact tuple_eqB (R := wants (fun v s' => v ≠ .notImplemented ∧ Q v s') E) l b us1 us2 n n2 dd dd2 sl sl2 e I turn (fun s' q => ⟨(fun x => nomatch x), fin s' q⟩) ho ho2 h
theorem rcn_tupB {l b : Addr} {us1 us2 : Array Value} {e : Nat → Bool} {Q : Value → Shared → Prop} (hu : A.units < cLine) (I : Shared → Prop)
    (hl : s.heap.IsTuple l us1) (hb : s.heap.IsTuple b us2)
    (turn : ∀ i (h1 : i < us1.size) (h2 : i < us2.size) s, I s → wpAny (model prg w) A.in1 (eqBool us1[i] us2[i]) (fun r s' => r = e i ∧ I s') E s)
    (fin : ∀ s, I s → Q (.bool (!((List.range (min us1.size us2.size)).all e && us1.size == us2.size))) s) (h : I s) : wpAny (model prg w) A (richCompare .NotEq (.ref l) (.ref b)) Q E s := by
  obtain ⟨⟨cls, dd, data, sl⟩, ho, hcs, n, hdr⟩ := id hl
  obtain ⟨⟨cls2, dd2, data2, sl2⟩, ho2, hc2, n2, hd2⟩ := id hb
  simp only at hcs hdr hc2 hd2
  subst hcs hdr hc2 hd2
  refine wpAny_richCompare_same_room (op := .NotEq) ⟨_, ho, rfl⟩ ⟨_, ho2, rfl⟩ F.slot_tuple_ne (GQ.call_here F.slot_tuple_ne ⟨_, ho, rfl⟩ F.entry_tuple_ne (F.args_tuple_ne_2 _ _) ?_) hu
  exact tuple_neB (R := wants (fun v s' => v ≠ .notImplemented ∧ Q v s') E) l b us1 us2 n n2 dd dd2 sl sl2 e I turn (fun s' q => ⟨(fun x => nomatch x), fin s' q⟩) ho ho2 h
/-- == of two objects inside a builtin: the same object is equal to itself -/
theorem eqBool_refB {l b : Addr} {Q : Bool → Shared → Prop} (hs : l = b → Q true s) (h : l ≠ b → wpAny (model prg w) A (richCompare .Eq (.ref l) (.ref b)) (fun v s' => ∃ r, v = .bool r ∧ Q r s') E s) : wpAny (model prg w) A (eqBool (.ref l) (.ref b)) Q E s := by
  by_cases e : l = b
  · subst e
    exact SeqAt.EqAt.same (A := A) (s := s) (.ref l) prg w E Q (hs rfl)
  · exact GQ.eqBool_refG e (h e)
end
end Dl.G
set_option Elab.async false
set_option linter.all false
set_option maxRecDepth 100000
set_option maxHeartbeats 4000000
namespace Dl.G
open PySem PySem.Spec PySem.SeqAt
section
variable {prg : Program} {w : World} {A A₀ : Around} {E : Value → Shared → Prop} {s : Shared} {K : PySem.W.Frag} {x C f : Addr} {ox : Obj} {od : Option Obj} {b tb : Value}
/-- a class with an __eq__ of its own and the __ne__ of object -/
theorem ifBound_ne {M : Model} {args : List Value} {Q : Option Value → Shared → Prop} (X : K.In s.heap) (I : PySem.W.InstAt s.heap x ox C od) (hs : PySem.W.findIn K (.ref C) "__ne__" = some (some (.builtin "object.__ne__")))
    (h : wpAny M A (call (.builtin "object.__ne__") (.ref x :: args)) (fun v => Q (some v)) E s) : wpAny M A (callSpecialIfBound? (.ref x) "__ne__" args) Q E s := by
  simp only [callSpecialIfBound?, bindSpecialIfBound?]
  refine wpAny_holding (wpAny_bind (wpAny_bind (wpAny_bind (I.type.here ((PySem.W.looks_findIn X hs).here ?_)))))
  refine wpAny_bind (wpAny_askSetting (wpAny_ite ?_))
  have go : wpAny M A (call (.builtin "object.__ne__") ([.ref x] ++ args) >>= fun v => pure (some v)) Q E s := wpAny_bind (wpAny_mono h (fun v s' h' => wpAny_pure h') fun _ _ h' => h')
  split
  · exact wpAny_bind (wpAny_of_eq (F.cmp_object.ne.bind _) (wpAny_pure (by exact go)))
  · exact wpAny_tryCatch (wpAny_bind (wpAny_of_eq (F.cmp_object.ne.bind _) (wpAny_pure (by exact go))))
theorem entry_ne (hu : A.units < cLine) (X : K.In s.heap) (I : PySem.W.InstAt s.heap x ox C od) (hs : PySem.W.findIn K (.ref C) "__eq__" = some (some (.ref f))) (hf : PySem.W.isFn K (.ref f) = true) {Q : Fin → Shared → Prop}
    (h : wpAny (model prg w) A (call (.ref f) [.ref x, b]) (fun v s' => ∃ r, v = .bool r ∧ Q (.done (.ret (.bool (!r)))) s') E s) : wpAny (model prg w) A (Builtin.«object.__ne__» ⟨[.ref x, b], []⟩) Q E s := by
  unfold Builtin.«object.__ne__»
  repeat (first
    | with_reducible refine wpAny_cRoomFor hu ?_
    | (refine wpAny_bind (m := callSpecialIfBound? (.ref x) (Str.ofString "__eq__") [b])
        (PySem.W.ifBound_K X I hs hf (wpAny_mono h (fun r s' hr => by
          obtain ⟨b, rfl, hq⟩ := hr
          repeat (first | exact hq | exact wpAny_pure hq | exact wpAny_truthy_bool hq | (refine wpAny_bind (m := truthy (.bool _)) (wpAny_truthy_bool ?_)) | wp_step)) fun _ _ e => e)))
    | wp_step)
theorem ncmp_K {Q : Value → Shared → Prop} (hu : A.units + 1 < cLine) (X : K.In s.heap) (I : PySem.W.InstAt s.heap x ox C od) (hb : PySem.W.Looks (model prg w) s.heap (typeOf b) tb) (hn : PySem.W.notFirst K C tb = true) (hm : PySem.W.mroIn K C (.type "object") = some true)
    (hs : PySem.W.findIn K (.ref C) "__eq__" = some (some (.ref f))) (hnn : PySem.W.findIn K (.ref C) "__ne__" = some (some (.builtin "object.__ne__"))) (hf : PySem.W.isFn K (.ref f) = true)
    (h : wpAny (model prg w) A.in1 (call (.ref f) [.ref x, b]) (fun v s' => ∃ r, v = .bool r ∧ Q (.bool (!r)) s') E s) : wpAny (model prg w) A (richCompare .NotEq (.ref x) b) Q E s := by
  have one : wpAny (model prg w) A (tryCompare (.ref x) "__ne__" b) (fun r s' => ∃ v, r = some v ∧ Q v s') E s := by
    unfold tryCompare
    refine wpAny_bind (ifBound_ne X I hnn (wpAny_call (codeAny_call_builtin F.cmp_object.ne.plain F.cmpEntry_ne (PySem.W.check_slot F.cmpKind_ne F.cmpSplit_ne (I.type.andThen (PySem.W.looks_mroIn X hm)) (F.cmpArgs_ne _ _) (entry_ne (A := A.in1) hu X I hs hf (wpAny_mono h (fun v s' hv => ?_) fun _ _ e => e))))))
    obtain ⟨r, rfl, q⟩ := hv
    refine ⟨r, rfl, ?_⟩
    exact wpAny_pure ⟨_, rfl, q⟩
  unfold richCompare
  simp only [oneThing_ref]
  refine wpAny_holding (wpAny_bind (wpAny_cRoomFor (Nat.lt_of_succ_lt hu) ?_))
  refine wpAny_bind (I.type.here (wpAny_bind (hb.here ?_)))
  split
  · rename_i q
    have e : PySem.W.subIn K tb (.ref C) = some false := by
      rcases Bool.or_eq_true_iff.mp hn with e | e
      · rw [beq_iff_eq.mp e] at q; simp at q
      · exact beq_iff_eq.mp e
    refine wpAny_bind ((PySem.W.looks_subIn X e).here ?_)
    simp only [Bool.false_eq_true, if_false]
    refine wpAny_bind (wpAny_mono one (fun r s' z => ?_) fun _ _ e => e)
    obtain ⟨v, rfl, hq⟩ := z
    exact wpAny_pure hq
  · refine wpAny_bind (wpAny_pure ?_)
    simp only [Bool.false_eq_true, if_false]
    refine wpAny_bind (wpAny_mono one (fun r s' z => ?_) fun _ _ e => e)
    obtain ⟨v, rfl, hq⟩ := z
    exact wpAny_pure hq
end
end Dl.G
set_option Elab.async false
set_option linter.all false
set_option maxRecDepth 100000
set_option maxHeartbeats 4000000
namespace Dl
open PySem PySem.Spec L2
mutual
def eqD : D → D → Bool
  | .non, .non => true
  | .bl a, .bl b => a == b
  | .bl a, .int b => (if a then 1 else 0) == b
  | .int a, .bl b => a == (if b then 1 else 0)
  | .int a, .int b => a == b
  | .str a, .str b => a == b
  | .lst xs, .lst ys => eqDs xs ys
  | .tup xs, .tup ys => eqDs xs ys
  | .obj c fs, .obj c' gs => c == c' && eqDs fs gs
  | .tok j, .tok k => j == 7 && k == 7
  | _, _ => false
def eqDs : List D → List D → Bool
  | [], [] => true
  | x :: xs, y :: ys => eqD x y && eqDs xs ys
  | _, _ => false
end
/-- kinds -/
def flatD : D → Bool
  | .non => true
  | .bl _ => true
  | .int _ => true
  | .str _ => true
  | _ => false
def isLstD : D → Bool
  | .lst _ => true
  | _ => false
def isTupD : D → Bool
  | .tup _ => true
  | _ => false
/-- the classes with an == of their own: the room that it wants, what it does -/
abbrev EqT := Nat → Option (Nat × Wf)
/-- what may stand on the right of an own == -/
def ownRight (T : EqT) : D → Bool
  | .obj c _ => (T c).isSome
  | .tok k => k == 7
  | d => flatD d || isLstD d || isTupD d
mutual
/-- data through and through -/
def pureD (T : EqT) : D → Bool
  | .non => true
  | .bl _ => true
  | .int _ => true
  | .str _ => true
  | .lst xs => pureDs T xs
  | .tup xs => pureDs T xs
  | .obj c fs => (T c).isSome && pureDs T fs
  | .tok k => k == 7
  | _ => false
def pureDs (T : EqT) : List D → Bool
  | [] => true
  | x :: xs => pureD T x && pureDs T xs
end
mutual
/-- == is told of these, with so much room -/
def okE (T : EqT) : D → D → Nat → Prop
  | .lst xs, .lst ys, n => xs.length = ys.length → ∃ m, n = m + 1 ∧ okEs T xs ys m
  | .tup xs, .tup ys, n => ∃ m, n = m + 1 ∧ okEs T xs ys m
  | .obj c fs, y, n => ∃ k wf, T c = some (k, wf) ∧ k ≤ n ∧ ownRight T y = true ∧ (pureD T (.obj c fs) && pureD T y) = true ∧ wf [.obj c fs, y] (fun r => r = .bl (eqD (.obj c fs) y)) (fun _ _ => False)
  | .lst _, y, _ => (flatD y || isTupD y) = true
  | .tup _, y, _ => (flatD y || isLstD y) = true
  | .non, y, _ => (flatD y || isLstD y || isTupD y) = true
  | .bl _, y, _ => (flatD y || isLstD y || isTupD y) = true
  | .int _, y, _ => (flatD y || isLstD y || isTupD y) = true
  | .str _, y, _ => (flatD y || isLstD y || isTupD y) = true
  | .tok j, .tok k, _ => j = 7 ∧ k = 7
  | _, _, _ => False
def okEs (T : EqT) : List D → List D → Nat → Prop
  | x :: xs, y :: ys, n => okE T x y n ∧ okEs T xs ys n
  | _, _, _ => True
end
/-- the item-wise answer -/
theorem okEs_get {T : EqT} {n : Nat} : ∀ {xs ys : List D} {i : Nat} {x y : D}, okEs T xs ys n → xs[i]? = some x → ys[i]? = some y → okE T x y n
  | [], _, _, _, _, _, h, _ => by simp at h
  | _ :: _, [], _, _, _, _, _, h => by simp at h
  | a :: xs, b :: ys, 0, x, y, h, h1, h2 => by
    simp at h1 h2
    subst h1
    subst h2
    simp only [okEs] at h
    exact h.1
  | a :: xs, b :: ys, i + 1, x, y, h, h1, h2 => by
    simp only [okEs] at h
    exact okEs_get (i := i) h.2 (by simpa using h1) (by simpa using h2)
def eqAtI (xs ys : List D) (i : Nat) : Bool := match xs[i]?, ys[i]? with
  | some x, some y => eqD x y
  | _, _ => false
theorem all_range_succ (e : Nat → Bool) (n : Nat) : (List.range (n + 1)).all e = (e 0 && (List.range n).all fun i => e (i + 1)) := by
  rw [List.range_succ_eq_map, List.all_cons, List.all_map]
  rfl
theorem eqDs_all : ∀ {xs ys : List D}, ((List.range (min xs.length ys.length)).all (eqAtI xs ys) && xs.length == ys.length) = eqDs xs ys
  | [], [] => by simp [eqDs]
  | [], _ :: _ => by simp [eqDs]
  | _ :: _, [] => by simp [eqDs]
  | x :: xs, y :: ys => by
    have ih := eqDs_all (xs := xs) (ys := ys)
    simp only [List.length_cons, Nat.add_min_add_right, all_range_succ, eqDs]
    rw [← ih]
    have e0 : eqAtI (x :: xs) (y :: ys) 0 = eqD x y := rfl
    have e1 : (fun i => eqAtI (x :: xs) (y :: ys) (i + 1)) = eqAtI xs ys := by
      funext i
      simp [eqAtI]
    rw [e0, e1, Bool.and_assoc]
    congr 2
    simp
theorem eqDs_all' {xs ys : List D} (h : xs.length = ys.length) : (List.range xs.length).all (eqAtI xs ys) = eqDs xs ys := by
  rw [← eqDs_all, ← h, Nat.min_self]
  simp
theorem eqDs_len : ∀ {xs ys : List D}, xs.length ≠ ys.length → eqDs xs ys = false
  | [], [], h => absurd rfl h
  | [], _ :: _, _ => by simp [eqDs]
  | _ :: _, [], _ => by simp [eqDs]
  | x :: xs, y :: ys, h => by
    simp only [eqDs]
    rw [eqDs_len (xs := xs) (ys := ys) (fun z => h (by simp [z])), Bool.and_false]
/-- the classes stand apart -/
def ApartT (T : EqT) (ct : CT) : Prop := ∀ c c', (T c).isSome = true → (T c').isSome = true → ct.addr c = ct.addr c' → c = c'
theorem zip_inj {nm : List Str} : ∀ {vs us : List V}, vs.length = nm.length → us.length = nm.length → nm.zip vs = nm.zip us → vs = us := by
  induction nm with
  | nil =>
    intro vs us h1 h2 _
    rw [List.eq_nil_of_length_eq_zero h1, List.eq_nil_of_length_eq_zero h2]
  | cons n nm ih =>
    intro vs us h1 h2 h
    cases vs with
    | nil => cases h1
    | cons v vs =>
      cases us with
      | nil => cases h2
      | cons u us =>
        simp only [List.zip_cons_cons, List.cons.injEq, Prod.mk.injEq, true_and] at h
        rw [h.1, ih (Nat.succ.inj h1) (Nat.succ.inj h2) h.2]
section
variable {K : PySem.W.Frag} {ct : CT} {T : EqT} {H : Hp} {O : Addr → Prop} (ap : ApartT T ct) (tj : ∀ {a : Addr} {vs us : List V}, SqT K H a vs → SqT K H a us → vs = us) (tl : ∀ {a : Addr} {vs us : List V}, H a = some (.lst vs) → ¬ SqT K H a us) (ti : ∀ {a : Addr} {C dx : Addr} {fs us}, H a = some (.ins C dx fs) → ¬ SqT K H a us) (tk : ∀ a, ct.tok 7 a = .dK []) (td : ∀ {a : Addr} {kvs us}, H a = some (.dK kvs) → ¬ SqT K H a us)
include ap tj tl ti tk td
mutual
/-- one and the same value -/
theorem same_eqD : ∀ {d d' : D} {v : V}, pureD T d = true → pureD T d' = true → Rep K ct H O d v → Rep K ct H O d' v → eqD d d' = true
  | .non, d', v, p, p', r, r' => by
    rw [rep_non] at r
    subst r
    cases d' <;> first | (simp [pureD] at p'; done) | (simp [Rep] at r'; done) | simp [eqD]
  | .bl b, d', v, p, p', r, r' => by
    rw [rep_bl] at r
    subst r
    cases d' <;> first | (simp [pureD] at p'; done) | (simp [Rep] at r'; done) | (simp [Rep] at r'; simp [eqD, r'])
  | .int b, d', v, p, p', r, r' => by
    rw [rep_int] at r
    subst r
    cases d' <;> first | (simp [pureD] at p'; done) | (simp [Rep] at r'; done) | (simp [Rep] at r'; simp [eqD, r'])
  | .str b, d', v, p, p', r, r' => by
    rw [rep_str] at r
    subst r
    cases d' <;> first | (simp [pureD] at p'; done) | (simp [Rep] at r'; done) | (simp [Rep] at r'; simp [eqD, r'])
  | .lst xs, d', v, p, p', r, r' => by
    obtain ⟨a, vs, rfl, _, l, rl⟩ := rep_lst.mp r
    cases d' with
    | lst ys =>
      obtain ⟨a', vs', e, _, l', rl'⟩ := rep_lst.mp r'
      cases e
      rw [l] at l'
      cases l'
      simp only [eqD]
      exact same_eqDs (by simpa [pureD] using p) (by simpa [pureD] using p') rl rl'
    | tup ys =>
      obtain ⟨a', vs', e, l', rl'⟩ := rep_tup.mp r'
      cases e
      exact absurd l' (tl l)
    | obj c gs =>
      obtain ⟨a', dx, vs', e, _, l', _⟩ := rep_obj.mp r'
      cases e
      rw [l] at l'
      cases l'
    | tok k =>
      cases (show k = 7 by simpa [pureD] using p')
      obtain ⟨a', e, _, l'⟩ := (rep_tok).mp r'
      cases e
      rw [tk, l] at l'
      cases l'
    | _ => first | (simp [pureD] at p'; done) | (simp [Rep] at r'; done)
  | .tup xs, d', v, p, p', r, r' => by
    obtain ⟨a, vs, rfl, l, rl⟩ := rep_tup.mp r
    cases d' with
    | lst ys =>
      obtain ⟨a', vs', e, _, l', rl'⟩ := rep_lst.mp r'
      cases e
      exact absurd l (tl l')
    | tup ys =>
      obtain ⟨a', vs', e, l', rl'⟩ := rep_tup.mp r'
      cases e
      cases tj l l'
      simp only [eqD]
      exact same_eqDs (by simpa [pureD] using p) (by simpa [pureD] using p') rl rl'
    | obj c gs =>
      obtain ⟨a', dx, vs', e, _, l', _⟩ := rep_obj.mp r'
      cases e
      exact absurd l (ti l')
    | tok k =>
      cases (show k = 7 by simpa [pureD] using p')
      obtain ⟨a', e, _, l'⟩ := (rep_tok).mp r'
      cases e
      rw [tk] at l'
      exact absurd l (td l')
    | _ => first | (simp [pureD] at p'; done) | (simp [Rep] at r'; done)
  | .obj c fs, d', v, p, p', r, r' => by
    obtain ⟨a, dx, vs, rfl, _, l, hl, rl⟩ := rep_obj.mp r
    cases d' with
    | lst ys =>
      obtain ⟨a', vs', e, _, l', rl'⟩ := rep_lst.mp r'
      cases e
      rw [l] at l'
      cases l'
    | tup ys =>
      obtain ⟨a', vs', e, l', rl'⟩ := rep_tup.mp r'
      cases e
      exact absurd l' (ti l)
    | obj c' gs =>
      obtain ⟨a', dx', vs', e, _, l', hl', rl'⟩ := rep_obj.mp r'
      cases e
      simp only [pureD, Bool.and_eq_true] at p p'
      rw [l] at l'
      injection l' with l'
      injection l' with e1 e2 e3
      cases ap c c' p.1 p'.1 e1
      cases zip_inj hl hl' e3
      simp only [eqD, beq_self_eq_true, Bool.true_and]
      exact same_eqDs p.2 p'.2 rl rl'
    | tok k =>
      cases (show k = 7 by simpa [pureD] using p')
      obtain ⟨a', e, _, l'⟩ := (rep_tok).mp r'
      cases e
      rw [tk, l] at l'
      cases l'
    | _ => first | (simp [pureD] at p'; done) | (simp [Rep] at r'; done)
  | .ty _, _, _, p, _, _, _ => by cases p
  | .scr _, _, _, p, _, _, _ => by cases p
  | .cls _, _, _, p, _, _, _ => by cases p
  | .tok j, d', v, p, p', r, r' => by
    cases (show j = 7 by simpa [pureD] using p)
    obtain ⟨a, rfl, _, l⟩ := (rep_tok).mp r
    rw [tk] at l
    cases d' with
    | lst ys =>
      obtain ⟨a', vs', e, _, l', rl'⟩ := rep_lst.mp r'
      cases e
      rw [l] at l'
      cases l'
    | tup ys =>
      obtain ⟨a', vs', e, l', rl'⟩ := rep_tup.mp r'
      cases e
      exact absurd l' (td l)
    | obj c gs =>
      obtain ⟨a', dx, vs', e, _, l', _⟩ := rep_obj.mp r'
      cases e
      rw [l] at l'
      cases l'
    | tok k =>
      cases (show k = 7 by simpa [pureD] using p')
      simp [eqD]
    | _ => first | (simp [pureD] at p'; done) | (simp [Rep] at r'; done)
theorem same_eqDs : ∀ {ds ds' : List D} {vs : List V}, pureDs T ds = true → pureDs T ds' = true → RepL K ct H O ds vs → RepL K ct H O ds' vs → eqDs ds ds' = true
  | [], ds', vs, p, p', r, r' => by
    simp only [RepL] at r
    subst r
    cases ds' with
    | nil => simp [eqDs]
    | cons d ds =>
      obtain ⟨_, _, e, _⟩ := r'.cons_inv
      cases e
  | d :: ds, ds', vs, p, p', r, r' => by
    obtain ⟨v, q, rfl, h1, h2⟩ := r.cons_inv
    cases ds' with
    | nil =>
      simp only [RepL] at r'
      cases r'
    | cons d' ds' =>
      obtain ⟨v', q', e, h1', h2'⟩ := r'.cons_inv
      cases e
      simp only [pureDs, Bool.and_eq_true] at p p'
      simp only [eqDs, Bool.and_eq_true]
      exact ⟨same_eqD p.1 p'.1 h1 h1', same_eqDs p.2 p'.2 h2 h2'⟩
end
end
/-- what an own == wants -/
structure EqAtO (X : Cx) (ct : CT) (T : EqT) (c k : Nat) (wf : Wf) : Prop where
  fn : ∃ f fd ps, PySem.W.findIn X.K (.ref (ct.addr c)) "__eq__" = some (some (.ref f)) ∧ PySem.W.isFn X.K (.ref f) = true ∧ FnOk X.prog X.w X.K X.mg X.base (L2.CX X.prog X.w) k f fd ps (spD X.K ct wf) ∧ Binds X.K fd ps []
  ne : PySem.W.findIn X.K (.ref (ct.addr c)) "__ne__" = some (some (.builtin "object.__ne__"))
  ob : PySem.W.mroIn X.K (ct.addr c) (.type "object") = some true
  bt : (["NoneType", "bool", "int", "str", "list", "tuple", "dict"].all fun n => PySem.W.notFirst X.K (ct.addr c) (.type n)) = true
  ow : ∀ c', (T c').isSome = true → PySem.W.notFirst X.K (ct.addr c) (.ref (ct.addr c')) = true
section
variable {X : Cx} {ct : CT} {T : EqT} {W : WX}
theorem looks_flat {d : D} {v : V} {u : Value} {H : Hp} {O : Addr → Prop} {h : Heap} (r : Rep X.K ct H O d v) (ru : RelV v u) (f : flatD d = true) : ∃ n, n ∈ ["NoneType", "bool", "int", "str", "list", "tuple", "dict"] ∧ PySem.W.Looks (model X.prog X.w) h (typeOf u) (.type n) := by
  cases d with
  | non =>
    rw [rep_non] at r
    subst r
    cases ru
    exact ⟨"NoneType", by simp, PySem.W.Looks.of_pure rfl⟩
  | bl b =>
    rw [rep_bl] at r
    subst r
    cases ru
    exact ⟨"bool", by simp, PySem.W.Looks.of_pure rfl⟩
  | int i =>
    rw [rep_int] at r
    subst r
    obtain ⟨t, rfl⟩ := ru
    exact ⟨"int", by simp, PySem.W.Looks.of_pure rfl⟩
  | str i =>
    rw [rep_str] at r
    subst r
    obtain ⟨t, rfl⟩ := ru
    exact ⟨"str", by simp, PySem.W.Looks.of_pure rfl⟩
  | _ => cases f
end
end Dl
set_option Elab.async false
set_option linter.all false
set_option maxRecDepth 100000
set_option maxHeartbeats 4000000
namespace Dl
open PySem PySem.Spec L2
section
variable {X : Cx} {ct : CT}
theorem flat_EqAt {A : Around} {s : Shared} {H : Hp} {O : Addr → Prop} {d d' : D} {x y : V} {u v : Value} (r : Rep X.K ct H O d x) (r' : Rep X.K ct H O d' y) (ru : RelV x u) (rv : RelV y v) (f : flatD d = true) (f' : flatD d' = true) : SeqAt.EqAt A s u v (eqD d d') := by
  cases d with
  | non =>
    rw [rep_non] at r
    subst r
    cases ru
    cases d' with
    | non =>
      rw [rep_non] at r'
      subst r'
      cases rv
      simpa only [eqD] using SeqAt.EqAt.same (A := A) (s := s) .none
    | bl b2 =>
      rw [rep_bl] at r'
      subst r'
      cases rv
      have z := SeqAt.EqAt.none_bool (A := A) (s := s) b2
      simpa only [eqD, Bool.not_true, Bool.not_false] using z
    | int i2 =>
      rw [rep_int] at r'
      subst r'
      obtain ⟨t2, rfl⟩ := rv
      have z := SeqAt.EqAt.none_int (A := A) (s := s) i2 t2
      simpa only [eqD, Bool.not_true, Bool.not_false] using z
    | str w2 =>
      rw [rep_str] at r'
      subst r'
      obtain ⟨t2, rfl⟩ := rv
      have z := SeqAt.EqAt.none_str (A := A) (s := s) w2 t2
      simpa only [eqD, Bool.not_true, Bool.not_false] using z
    | _ => cases f'
  | bl b =>
    rw [rep_bl] at r
    subst r
    cases ru
    cases d' with
    | non =>
      rw [rep_non] at r'
      subst r'
      cases rv
      have z := SeqAt.EqAt.bool_none (A := A) (s := s) b
      simpa only [eqD, Bool.not_true, Bool.not_false] using z
    | bl b2 =>
      rw [rep_bl] at r'
      subst r'
      cases rv
      have z := SeqAt.EqAt.bool_bool (A := A) (s := s) b b2
      simpa only [eqD, Bool.not_true, Bool.not_false] using z
    | int i2 =>
      rw [rep_int] at r'
      subst r'
      obtain ⟨t2, rfl⟩ := rv
      have z := SeqAt.EqAt.bool_int (A := A) (s := s) b i2 t2
      simpa only [eqD, Bool.not_true, Bool.not_false] using z
    | str w2 =>
      rw [rep_str] at r'
      subst r'
      obtain ⟨t2, rfl⟩ := rv
      have z := SeqAt.EqAt.bool_str (A := A) (s := s) b w2 t2
      simpa only [eqD, Bool.not_true, Bool.not_false] using z
    | _ => cases f'
  | int i =>
    rw [rep_int] at r
    subst r
    obtain ⟨t, rfl⟩ := ru
    cases d' with
    | non =>
      rw [rep_non] at r'
      subst r'
      cases rv
      have z := SeqAt.EqAt.int_none (A := A) (s := s) i t
      simpa only [eqD, Bool.not_true, Bool.not_false] using z
    | bl b2 =>
      rw [rep_bl] at r'
      subst r'
      cases rv
      have z := SeqAt.EqAt.int_bool (A := A) (s := s) i t b2
      simpa only [eqD, Bool.not_true, Bool.not_false] using z
    | int i2 =>
      rw [rep_int] at r'
      subst r'
      obtain ⟨t2, rfl⟩ := rv
      have z := SeqAt.EqAt.int_int (A := A) (s := s) i t i2 t2
      simpa only [eqD, Bool.not_true, Bool.not_false] using z
    | str w2 =>
      rw [rep_str] at r'
      subst r'
      obtain ⟨t2, rfl⟩ := rv
      have z := SeqAt.EqAt.int_str (A := A) (s := s) i t w2 t2
      simpa only [eqD, Bool.not_true, Bool.not_false] using z
    | _ => cases f'
  | str w =>
    rw [rep_str] at r
    subst r
    obtain ⟨t, rfl⟩ := ru
    cases d' with
    | non =>
      rw [rep_non] at r'
      subst r'
      cases rv
      have z := SeqAt.EqAt.str_none (A := A) (s := s) w t
      simpa only [eqD, Bool.not_true, Bool.not_false] using z
    | bl b2 =>
      rw [rep_bl] at r'
      subst r'
      cases rv
      have z := SeqAt.EqAt.str_bool (A := A) (s := s) w t b2
      simpa only [eqD, Bool.not_true, Bool.not_false] using z
    | int i2 =>
      rw [rep_int] at r'
      subst r'
      obtain ⟨t2, rfl⟩ := rv
      have z := SeqAt.EqAt.str_int (A := A) (s := s) w t i2 t2
      simpa only [eqD, Bool.not_true, Bool.not_false] using z
    | str w2 =>
      rw [rep_str] at r'
      subst r'
      obtain ⟨t2, rfl⟩ := rv
      have z := SeqAt.EqAt.str_str (A := A) (s := s) w t w2 t2
      simpa only [eqD, Bool.not_true, Bool.not_false] using z
    | _ => cases f'
  | _ => cases f
theorem flat_RcAt {A : Around} {s : Shared} {H : Hp} {O : Addr → Prop} {d d' : D} {x y : V} {u v : Value} (r : Rep X.K ct H O d x) (r' : Rep X.K ct H O d' y) (ru : RelV x u) (rv : RelV y v) (f : flatD d = true) (f' : flatD d' = true) : SeqAt.RcAt A s u v (eqD d d') := by
  cases d with
  | non =>
    rw [rep_non] at r
    subst r
    cases ru
    cases d' with
    | non =>
      rw [rep_non] at r'
      subst r'
      cases rv
      have z := SeqAt.RcAt.none_none (A := A) (s := s) 
      simpa only [eqD, Bool.not_true, Bool.not_false] using z
    | bl b2 =>
      rw [rep_bl] at r'
      subst r'
      cases rv
      have z := SeqAt.RcAt.none_bool (A := A) (s := s) b2
      simpa only [eqD, Bool.not_true, Bool.not_false] using z
    | int i2 =>
      rw [rep_int] at r'
      subst r'
      obtain ⟨t2, rfl⟩ := rv
      have z := SeqAt.RcAt.none_int (A := A) (s := s) i2 t2
      simpa only [eqD, Bool.not_true, Bool.not_false] using z
    | str w2 =>
      rw [rep_str] at r'
      subst r'
      obtain ⟨t2, rfl⟩ := rv
      have z := SeqAt.RcAt.none_str (A := A) (s := s) w2 t2
      simpa only [eqD, Bool.not_true, Bool.not_false] using z
    | _ => cases f'
  | bl b =>
    rw [rep_bl] at r
    subst r
    cases ru
    cases d' with
    | non =>
      rw [rep_non] at r'
      subst r'
      cases rv
      have z := SeqAt.RcAt.bool_none (A := A) (s := s) b
      simpa only [eqD, Bool.not_true, Bool.not_false] using z
    | bl b2 =>
      rw [rep_bl] at r'
      subst r'
      cases rv
      have z := SeqAt.RcAt.bool_bool (A := A) (s := s) b b2
      simpa only [eqD, Bool.not_true, Bool.not_false] using z
    | int i2 =>
      rw [rep_int] at r'
      subst r'
      obtain ⟨t2, rfl⟩ := rv
      have z := SeqAt.RcAt.bool_int (A := A) (s := s) b i2 t2
      simpa only [eqD, Bool.not_true, Bool.not_false] using z
    | str w2 =>
      rw [rep_str] at r'
      subst r'
      obtain ⟨t2, rfl⟩ := rv
      have z := SeqAt.RcAt.bool_str (A := A) (s := s) b w2 t2
      simpa only [eqD, Bool.not_true, Bool.not_false] using z
    | _ => cases f'
  | int i =>
    rw [rep_int] at r
    subst r
    obtain ⟨t, rfl⟩ := ru
    cases d' with
    | non =>
      rw [rep_non] at r'
      subst r'
      cases rv
      have z := SeqAt.RcAt.int_none (A := A) (s := s) i t
      simpa only [eqD, Bool.not_true, Bool.not_false] using z
    | bl b2 =>
      rw [rep_bl] at r'
      subst r'
      cases rv
      have z := SeqAt.RcAt.int_bool (A := A) (s := s) i t b2
      simpa only [eqD, Bool.not_true, Bool.not_false] using z
    | int i2 =>
      rw [rep_int] at r'
      subst r'
      obtain ⟨t2, rfl⟩ := rv
      have z := SeqAt.RcAt.int_int (A := A) (s := s) i t i2 t2
      simpa only [eqD, Bool.not_true, Bool.not_false] using z
    | str w2 =>
      rw [rep_str] at r'
      subst r'
      obtain ⟨t2, rfl⟩ := rv
      have z := SeqAt.RcAt.int_str (A := A) (s := s) i t w2 t2
      simpa only [eqD, Bool.not_true, Bool.not_false] using z
    | _ => cases f'
  | str w =>
    rw [rep_str] at r
    subst r
    obtain ⟨t, rfl⟩ := ru
    cases d' with
    | non =>
      rw [rep_non] at r'
      subst r'
      cases rv
      have z := SeqAt.RcAt.str_none (A := A) (s := s) w t
      simpa only [eqD, Bool.not_true, Bool.not_false] using z
    | bl b2 =>
      rw [rep_bl] at r'
      subst r'
      cases rv
      have z := SeqAt.RcAt.str_bool (A := A) (s := s) w t b2
      simpa only [eqD, Bool.not_true, Bool.not_false] using z
    | int i2 =>
      rw [rep_int] at r'
      subst r'
      obtain ⟨t2, rfl⟩ := rv
      have z := SeqAt.RcAt.str_int (A := A) (s := s) w t i2 t2
      simpa only [eqD, Bool.not_true, Bool.not_false] using z
    | str w2 =>
      rw [rep_str] at r'
      subst r'
      obtain ⟨t2, rfl⟩ := rv
      have z := SeqAt.RcAt.str_str (A := A) (s := s) w t w2 t2
      simpa only [eqD, Bool.not_true, Bool.not_false] using z
    | _ => cases f'
  | _ => cases f
theorem flat_RcNeAt {A : Around} {s : Shared} {H : Hp} {O : Addr → Prop} {d d' : D} {x y : V} {u v : Value} (r : Rep X.K ct H O d x) (r' : Rep X.K ct H O d' y) (ru : RelV x u) (rv : RelV y v) (f : flatD d = true) (f' : flatD d' = true) : SeqAt.RcNeAt A s u v (!eqD d d') := by
  cases d with
  | non =>
    rw [rep_non] at r
    subst r
    cases ru
    cases d' with
    | non =>
      rw [rep_non] at r'
      subst r'
      cases rv
      have z := SeqAt.RcNeAt.none_none (A := A) (s := s) 
      simpa only [eqD, Bool.not_true, Bool.not_false] using z
    | bl b2 =>
      rw [rep_bl] at r'
      subst r'
      cases rv
      have z := SeqAt.RcNeAt.none_bool (A := A) (s := s) b2
      simpa only [eqD, Bool.not_true, Bool.not_false] using z
    | int i2 =>
      rw [rep_int] at r'
      subst r'
      obtain ⟨t2, rfl⟩ := rv
      have z := SeqAt.RcNeAt.none_int (A := A) (s := s) i2 t2
      simpa only [eqD, Bool.not_true, Bool.not_false] using z
    | str w2 =>
      rw [rep_str] at r'
      subst r'
      obtain ⟨t2, rfl⟩ := rv
      have z := SeqAt.RcNeAt.none_str (A := A) (s := s) w2 t2
      simpa only [eqD, Bool.not_true, Bool.not_false] using z
    | _ => cases f'
  | bl b =>
    rw [rep_bl] at r
    subst r
    cases ru
    cases d' with
    | non =>
      rw [rep_non] at r'
      subst r'
      cases rv
      have z := SeqAt.RcNeAt.bool_none (A := A) (s := s) b
      simpa only [eqD, Bool.not_true, Bool.not_false] using z
    | bl b2 =>
      rw [rep_bl] at r'
      subst r'
      cases rv
      have z := SeqAt.RcNeAt.bool_bool (A := A) (s := s) b b2
      simpa only [eqD, Bool.not_true, Bool.not_false] using z
    | int i2 =>
      rw [rep_int] at r'
      subst r'
      obtain ⟨t2, rfl⟩ := rv
      have z := SeqAt.RcNeAt.bool_int (A := A) (s := s) b i2 t2
      simpa only [eqD, Bool.not_true, Bool.not_false] using z
    | str w2 =>
      rw [rep_str] at r'
      subst r'
      obtain ⟨t2, rfl⟩ := rv
      have z := SeqAt.RcNeAt.bool_str (A := A) (s := s) b w2 t2
      simpa only [eqD, Bool.not_true, Bool.not_false] using z
    | _ => cases f'
  | int i =>
    rw [rep_int] at r
    subst r
    obtain ⟨t, rfl⟩ := ru
    cases d' with
    | non =>
      rw [rep_non] at r'
      subst r'
      cases rv
      have z := SeqAt.RcNeAt.int_none (A := A) (s := s) i t
      simpa only [eqD, Bool.not_true, Bool.not_false] using z
    | bl b2 =>
      rw [rep_bl] at r'
      subst r'
      cases rv
      have z := SeqAt.RcNeAt.int_bool (A := A) (s := s) i t b2
      simpa only [eqD, Bool.not_true, Bool.not_false] using z
    | int i2 =>
      rw [rep_int] at r'
      subst r'
      obtain ⟨t2, rfl⟩ := rv
      have z := SeqAt.RcNeAt.int_int (A := A) (s := s) i t i2 t2
      simpa only [eqD, Bool.not_true, Bool.not_false] using z
    | str w2 =>
      rw [rep_str] at r'
      subst r'
      obtain ⟨t2, rfl⟩ := rv
      have z := SeqAt.RcNeAt.int_str (A := A) (s := s) i t w2 t2
      simpa only [eqD, Bool.not_true, Bool.not_false] using z
    | _ => cases f'
  | str w =>
    rw [rep_str] at r
    subst r
    obtain ⟨t, rfl⟩ := ru
    cases d' with
    | non =>
      rw [rep_non] at r'
      subst r'
      cases rv
      have z := SeqAt.RcNeAt.str_none (A := A) (s := s) w t
      simpa only [eqD, Bool.not_true, Bool.not_false] using z
    | bl b2 =>
      rw [rep_bl] at r'
      subst r'
      cases rv
      have z := SeqAt.RcNeAt.str_bool (A := A) (s := s) w t b2
      simpa only [eqD, Bool.not_true, Bool.not_false] using z
    | int i2 =>
      rw [rep_int] at r'
      subst r'
      obtain ⟨t2, rfl⟩ := rv
      have z := SeqAt.RcNeAt.str_int (A := A) (s := s) w t i2 t2
      simpa only [eqD, Bool.not_true, Bool.not_false] using z
    | str w2 =>
      rw [rep_str] at r'
      subst r'
      obtain ⟨t2, rfl⟩ := rv
      have z := SeqAt.RcNeAt.str_str (A := A) (s := s) w t w2 t2
      simpa only [eqD, Bool.not_true, Bool.not_false] using z
    | _ => cases f'
  | _ => cases f
theorem list_EqAt {A : Around} {s : Shared} {H : Hp} {O : Addr → Prop} {d' : D} {y : V} {l : Addr} {items : Array Value} {v : Value} (hl : s.heap.IsList l items) (hu : A.units < cLine) (r' : Rep X.K ct H O d' y) (rv : RelV y v) (f' : flatD d' = true) : SeqAt.EqAt A s (.ref l) v false := by
  cases d' with
  | non =>
    rw [rep_non] at r'
    subst r'
    cases rv
    exact SeqAt.EqAt.list_none hl hu
  | bl b2 =>
    rw [rep_bl] at r'
    subst r'
    cases rv
    exact SeqAt.EqAt.list_bool b2 hl hu
  | int i2 =>
    rw [rep_int] at r'
    subst r'
    obtain ⟨t2, rfl⟩ := rv
    exact SeqAt.EqAt.list_int i2 t2 hl hu
  | str w2 =>
    rw [rep_str] at r'
    subst r'
    obtain ⟨t2, rfl⟩ := rv
    exact SeqAt.EqAt.list_str w2 t2 hl hu
  | _ => cases f'
theorem EqAt_list {A : Around} {s : Shared} {H : Hp} {O : Addr → Prop} {d' : D} {y : V} {l : Addr} {items : Array Value} {v : Value} (hl : s.heap.IsList l items) (hu : A.units < cLine) (r' : Rep X.K ct H O d' y) (rv : RelV y v) (f' : flatD d' = true) : SeqAt.EqAt A s v (.ref l) false := by
  cases d' with
  | non =>
    rw [rep_non] at r'
    subst r'
    cases rv
    exact SeqAt.EqAt.none_list hl hu
  | bl b2 =>
    rw [rep_bl] at r'
    subst r'
    cases rv
    exact SeqAt.EqAt.bool_list b2 hl hu
  | int i2 =>
    rw [rep_int] at r'
    subst r'
    obtain ⟨t2, rfl⟩ := rv
    exact SeqAt.EqAt.int_list i2 t2 hl hu
  | str w2 =>
    rw [rep_str] at r'
    subst r'
    obtain ⟨t2, rfl⟩ := rv
    exact SeqAt.EqAt.str_list w2 t2 hl hu
  | _ => cases f'
theorem tuple_EqAt {A : Around} {s : Shared} {H : Hp} {O : Addr → Prop} {d' : D} {y : V} {l : Addr} {items : Array Value} {v : Value} (hl : s.heap.IsTuple l items) (hu : A.units < cLine) (r' : Rep X.K ct H O d' y) (rv : RelV y v) (f' : flatD d' = true) : SeqAt.EqAt A s (.ref l) v false := by
  cases d' with
  | non =>
    rw [rep_non] at r'
    subst r'
    cases rv
    exact SeqAt.EqAt.tuple_none hl hu
  | bl b2 =>
    rw [rep_bl] at r'
    subst r'
    cases rv
    exact SeqAt.EqAt.tuple_bool b2 hl hu
  | int i2 =>
    rw [rep_int] at r'
    subst r'
    obtain ⟨t2, rfl⟩ := rv
    exact SeqAt.EqAt.tuple_int i2 t2 hl hu
  | str w2 =>
    rw [rep_str] at r'
    subst r'
    obtain ⟨t2, rfl⟩ := rv
    exact SeqAt.EqAt.tuple_str w2 t2 hl hu
  | _ => cases f'
theorem EqAt_tuple {A : Around} {s : Shared} {H : Hp} {O : Addr → Prop} {d' : D} {y : V} {l : Addr} {items : Array Value} {v : Value} (hl : s.heap.IsTuple l items) (hu : A.units < cLine) (r' : Rep X.K ct H O d' y) (rv : RelV y v) (f' : flatD d' = true) : SeqAt.EqAt A s v (.ref l) false := by
  cases d' with
  | non =>
    rw [rep_non] at r'
    subst r'
    cases rv
    exact SeqAt.EqAt.none_tuple hl hu
  | bl b2 =>
    rw [rep_bl] at r'
    subst r'
    cases rv
    exact SeqAt.EqAt.bool_tuple b2 hl hu
  | int i2 =>
    rw [rep_int] at r'
    subst r'
    obtain ⟨t2, rfl⟩ := rv
    exact SeqAt.EqAt.int_tuple i2 t2 hl hu
  | str w2 =>
    rw [rep_str] at r'
    subst r'
    obtain ⟨t2, rfl⟩ := rv
    exact SeqAt.EqAt.str_tuple w2 t2 hl hu
  | _ => cases f'
theorem list_RcAt {A : Around} {s : Shared} {H : Hp} {O : Addr → Prop} {d' : D} {y : V} {l : Addr} {items : Array Value} {v : Value} (hl : s.heap.IsList l items) (hu : A.units < cLine) (r' : Rep X.K ct H O d' y) (rv : RelV y v) (f' : flatD d' = true) : SeqAt.RcAt A s (.ref l) v false := by
  cases d' with
  | non =>
    rw [rep_non] at r'
    subst r'
    cases rv
    exact SeqAt.RcAt.list_none hl hu
  | bl b2 =>
    rw [rep_bl] at r'
    subst r'
    cases rv
    exact SeqAt.RcAt.list_bool b2 hl hu
  | int i2 =>
    rw [rep_int] at r'
    subst r'
    obtain ⟨t2, rfl⟩ := rv
    exact SeqAt.RcAt.list_int i2 t2 hl hu
  | str w2 =>
    rw [rep_str] at r'
    subst r'
    obtain ⟨t2, rfl⟩ := rv
    exact SeqAt.RcAt.list_str w2 t2 hl hu
  | _ => cases f'
theorem RcAt_list {A : Around} {s : Shared} {H : Hp} {O : Addr → Prop} {d' : D} {y : V} {l : Addr} {items : Array Value} {v : Value} (hl : s.heap.IsList l items) (hu : A.units < cLine) (r' : Rep X.K ct H O d' y) (rv : RelV y v) (f' : flatD d' = true) : SeqAt.RcAt A s v (.ref l) false := by
  cases d' with
  | non =>
    rw [rep_non] at r'
    subst r'
    cases rv
    exact SeqAt.RcAt.none_list hl hu
  | bl b2 =>
    rw [rep_bl] at r'
    subst r'
    cases rv
    exact SeqAt.RcAt.bool_list b2 hl hu
  | int i2 =>
    rw [rep_int] at r'
    subst r'
    obtain ⟨t2, rfl⟩ := rv
    exact SeqAt.RcAt.int_list i2 t2 hl hu
  | str w2 =>
    rw [rep_str] at r'
    subst r'
    obtain ⟨t2, rfl⟩ := rv
    exact SeqAt.RcAt.str_list w2 t2 hl hu
  | _ => cases f'
theorem tuple_RcAt {A : Around} {s : Shared} {H : Hp} {O : Addr → Prop} {d' : D} {y : V} {l : Addr} {items : Array Value} {v : Value} (hl : s.heap.IsTuple l items) (hu : A.units < cLine) (r' : Rep X.K ct H O d' y) (rv : RelV y v) (f' : flatD d' = true) : SeqAt.RcAt A s (.ref l) v false := by
  cases d' with
  | non =>
    rw [rep_non] at r'
    subst r'
    cases rv
    exact SeqAt.RcAt.tuple_none hl hu
  | bl b2 =>
    rw [rep_bl] at r'
    subst r'
    cases rv
    exact SeqAt.RcAt.tuple_bool b2 hl hu
  | int i2 =>
    rw [rep_int] at r'
    subst r'
    obtain ⟨t2, rfl⟩ := rv
    exact SeqAt.RcAt.tuple_int i2 t2 hl hu
  | str w2 =>
    rw [rep_str] at r'
    subst r'
    obtain ⟨t2, rfl⟩ := rv
    exact SeqAt.RcAt.tuple_str w2 t2 hl hu
  | _ => cases f'
theorem RcAt_tuple {A : Around} {s : Shared} {H : Hp} {O : Addr → Prop} {d' : D} {y : V} {l : Addr} {items : Array Value} {v : Value} (hl : s.heap.IsTuple l items) (hu : A.units < cLine) (r' : Rep X.K ct H O d' y) (rv : RelV y v) (f' : flatD d' = true) : SeqAt.RcAt A s v (.ref l) false := by
  cases d' with
  | non =>
    rw [rep_non] at r'
    subst r'
    cases rv
    exact SeqAt.RcAt.none_tuple hl hu
  | bl b2 =>
    rw [rep_bl] at r'
    subst r'
    cases rv
    exact SeqAt.RcAt.bool_tuple b2 hl hu
  | int i2 =>
    rw [rep_int] at r'
    subst r'
    obtain ⟨t2, rfl⟩ := rv
    exact SeqAt.RcAt.int_tuple i2 t2 hl hu
  | str w2 =>
    rw [rep_str] at r'
    subst r'
    obtain ⟨t2, rfl⟩ := rv
    exact SeqAt.RcAt.str_tuple w2 t2 hl hu
  | _ => cases f'
theorem list_RcNeAt {A : Around} {s : Shared} {H : Hp} {O : Addr → Prop} {d' : D} {y : V} {l : Addr} {items : Array Value} {v : Value} (hl : s.heap.IsList l items) (hu : A.units < cLine) (r' : Rep X.K ct H O d' y) (rv : RelV y v) (f' : flatD d' = true) : SeqAt.RcNeAt A s (.ref l) v true := by
  cases d' with
  | non =>
    rw [rep_non] at r'
    subst r'
    cases rv
    exact SeqAt.RcNeAt.list_none hl hu
  | bl b2 =>
    rw [rep_bl] at r'
    subst r'
    cases rv
    exact SeqAt.RcNeAt.list_bool b2 hl hu
  | int i2 =>
    rw [rep_int] at r'
    subst r'
    obtain ⟨t2, rfl⟩ := rv
    exact SeqAt.RcNeAt.list_int i2 t2 hl hu
  | str w2 =>
    rw [rep_str] at r'
    subst r'
    obtain ⟨t2, rfl⟩ := rv
    exact SeqAt.RcNeAt.list_str w2 t2 hl hu
  | _ => cases f'
theorem RcNeAt_list {A : Around} {s : Shared} {H : Hp} {O : Addr → Prop} {d' : D} {y : V} {l : Addr} {items : Array Value} {v : Value} (hl : s.heap.IsList l items) (hu : A.units < cLine) (r' : Rep X.K ct H O d' y) (rv : RelV y v) (f' : flatD d' = true) : SeqAt.RcNeAt A s v (.ref l) true := by
  cases d' with
  | non =>
    rw [rep_non] at r'
    subst r'
    cases rv
    exact SeqAt.RcNeAt.none_list hl hu
  | bl b2 =>
    rw [rep_bl] at r'
    subst r'
    cases rv
    exact SeqAt.RcNeAt.bool_list b2 hl hu
  | int i2 =>
    rw [rep_int] at r'
    subst r'
    obtain ⟨t2, rfl⟩ := rv
    exact SeqAt.RcNeAt.int_list i2 t2 hl hu
  | str w2 =>
    rw [rep_str] at r'
    subst r'
    obtain ⟨t2, rfl⟩ := rv
    exact SeqAt.RcNeAt.str_list w2 t2 hl hu
  | _ => cases f'
theorem tuple_RcNeAt {A : Around} {s : Shared} {H : Hp} {O : Addr → Prop} {d' : D} {y : V} {l : Addr} {items : Array Value} {v : Value} (hl : s.heap.IsTuple l items) (hu : A.units < cLine) (r' : Rep X.K ct H O d' y) (rv : RelV y v) (f' : flatD d' = true) : SeqAt.RcNeAt A s (.ref l) v true := by
  cases d' with
  | non =>
    rw [rep_non] at r'
    subst r'
    cases rv
    exact SeqAt.RcNeAt.tuple_none hl hu
  | bl b2 =>
    rw [rep_bl] at r'
    subst r'
    cases rv
    exact SeqAt.RcNeAt.tuple_bool b2 hl hu
  | int i2 =>
    rw [rep_int] at r'
    subst r'
    obtain ⟨t2, rfl⟩ := rv
    exact SeqAt.RcNeAt.tuple_int i2 t2 hl hu
  | str w2 =>
    rw [rep_str] at r'
    subst r'
    obtain ⟨t2, rfl⟩ := rv
    exact SeqAt.RcNeAt.tuple_str w2 t2 hl hu
  | _ => cases f'
theorem RcNeAt_tuple {A : Around} {s : Shared} {H : Hp} {O : Addr → Prop} {d' : D} {y : V} {l : Addr} {items : Array Value} {v : Value} (hl : s.heap.IsTuple l items) (hu : A.units < cLine) (r' : Rep X.K ct H O d' y) (rv : RelV y v) (f' : flatD d' = true) : SeqAt.RcNeAt A s v (.ref l) true := by
  cases d' with
  | non =>
    rw [rep_non] at r'
    subst r'
    cases rv
    exact SeqAt.RcNeAt.none_tuple hl hu
  | bl b2 =>
    rw [rep_bl] at r'
    subst r'
    cases rv
    exact SeqAt.RcNeAt.bool_tuple b2 hl hu
  | int i2 =>
    rw [rep_int] at r'
    subst r'
    obtain ⟨t2, rfl⟩ := rv
    exact SeqAt.RcNeAt.int_tuple i2 t2 hl hu
  | str w2 =>
    rw [rep_str] at r'
    subst r'
    obtain ⟨t2, rfl⟩ := rv
    exact SeqAt.RcNeAt.str_tuple w2 t2 hl hu
  | _ => cases f'
end
end Dl
set_option Elab.async false
set_option linter.all false
set_option maxRecDepth 100000
set_option maxHeartbeats 4000000
namespace Dl
open PySem PySem.Spec L2
section
variable (X : Cx) (ct : CT) (T : EqT)
/-- inside a builtin | by the operators -/
def EqS (n : Nat) : Prop := ∀ (d d' : D), okE T d d' n → ∀ (A : Around) (pins : List (Addr × Obj)) (s : Shared) (σ : St) (H : Hp) (O : Addr → Prop) (x y : V) (u v : Value), Sub X n A → Inv X pins σ H s → RelV x u → RelV y v → Dom H O → Rep X.K ct H O d x → Rep X.K ct H O d' y →
  wpAny (model X.prog X.w) A (eqBool u v) (fun r s' => r = eqD d d' ∧ ∃ H', Inv X pins σ H' s' ∧ Same H H') X.xe s
def RcS (n : Nat) : Prop := ∀ (d d' : D), okE T d d' n → ∀ (A : Around) (pins : List (Addr × Obj)) (s : Shared) (σ : St) (H : Hp) (O : Addr → Prop) (x y : V) (u v : Value), Sub X n A → Inv X pins σ H s → RelV x u → RelV y v → Dom H O → Rep X.K ct H O d x → Rep X.K ct H O d' y →
  wpAny (model X.prog X.w) A (richCompare .Eq u v) (fun r s' => r = .bool (eqD d d') ∧ ∃ H', Inv X pins σ H' s' ∧ Same H H') X.xe s
def NeS (n : Nat) : Prop := ∀ (d d' : D), okE T d d' n → ∀ (A : Around) (pins : List (Addr × Obj)) (s : Shared) (σ : St) (H : Hp) (O : Addr → Prop) (x y : V) (u v : Value), Sub X (n + 1) A → Inv X pins σ H s → RelV x u → RelV y v → Dom H O → Rep X.K ct H O d x → Rep X.K ct H O d' y →
  wpAny (model X.prog X.w) A (richCompare .NotEq u v) (fun r s' => r = .bool (!eqD d d') ∧ ∃ H', Inv X pins σ H' s' ∧ Same H H') X.xe s
end
section
variable {X : Cx} {ct : CT} {T : EqT} {W : WX} {n : Nat}
theorem lst_at {pins : List (Addr × Obj)} {s : Shared} {σ : St} {H : Hp} {O : Addr → Prop} {xs : List D} {x : V} {u : Value} (I : Inv X pins σ H s) (ru : RelV x u) (r : Rep X.K ct H O (.lst xs) x) :
    ∃ a vs, u = .ref a ∧ x = .ref a ∧ H a = some (.lst vs) ∧ RepL X.K ct H O xs vs ∧ ∃ (its : List Value) (k : Nat), Vals vs its ∧ s.heap.get? a = some { cls := .type "list", data := .seq its.toArray k } := by
  obtain ⟨a, vs, rfl, _, l, rl⟩ := rep_lst.mp r
  cases ru
  obtain ⟨z, its, k, rv, e⟩ := I.hok a _ l
  exact ⟨a, vs, rfl, rfl, l, rl, its, k, rv, e⟩
theorem tup_at {pins : List (Addr × Obj)} {s : Shared} {σ : St} {H : Hp} {O : Addr → Prop} {xs : List D} {x : V} {u : Value} (I : Inv X pins σ H s) (ru : RelV x u) (r : Rep X.K ct H O (.tup xs) x) :
    ∃ a vs, u = .ref a ∧ x = .ref a ∧ RepL X.K ct H O xs vs ∧ ∃ (its : List Value), Vals vs its ∧ s.heap.IsTuple a its.toArray := by
  obtain ⟨a, vs, rfl, l, rl⟩ := rep_tup.mp r
  cases ru
  obtain ⟨its, r, e, z⟩ := I.tuple l
  exact ⟨a, vs, rfl, rfl, rl, its, r, e⟩
theorem looks_right (hd : ∀ a, ct.tok 7 a = .dK []) {pins : List (Addr × Obj)} {s : Shared} {σ : St} {H : Hp} {O : Addr → Prop} {d : D} {x : V} {u : Value} {c k : Nat} {wf : Wf} (I : Inv X pins σ H s) (ru : RelV x u) (r : Rep X.K ct H O d x) (f : ownRight T d = true) (E : EqAtO X ct T c k wf) :
    ∃ tb, PySem.W.Looks (model X.prog X.w) s.heap (typeOf u) tb ∧ PySem.W.notFirst X.K (ct.addr c) tb = true := by
  have bt := List.all_eq_true.mp E.bt
  cases d with
  | lst xs =>
    obtain ⟨a, vs, rfl, rfl, _, _, its, k, _, e⟩ := lst_at I ru r
    exact ⟨_, fun A Q E s k q => wpAny_typeOf_ref (k _ _ e) (by exact q), bt "list" (by simp)⟩
  | tup xs =>
    obtain ⟨a, vs, rfl, rfl, _, its, _, o, e, ec, _⟩ := tup_at I ru r
    exact ⟨.type "tuple", fun A Q E s k q => wpAny_typeOf_ref (k _ _ e) (by rw [ec]; exact q), bt "tuple" (by simp)⟩
  | obj c' fs =>
    obtain ⟨a, dx, vs, rfl, _, l, _, _⟩ := rep_obj.mp r
    cases ru
    obtain ⟨mA, J, _⟩ := ins_get I.hok l
    obtain ⟨od, J, _⟩ := J.look
    exact ⟨_, J.type, E.ow c' f⟩
  | tok k =>
    cases (show k = 7 by simpa [ownRight] using f)
    obtain ⟨a, rfl, _, l⟩ := (rep_tok).mp r
    cases ru
    rw [hd] at l
    obtain ⟨_, _, va, ra, da⟩ := (show ObjOk X.prog X.w H s.heap a (.dK []) from I.hok a _ l)
    obtain ⟨o, e, ec⟩ := da.typeIs
    exact ⟨.type "dict", fun A Q E s k q => wpAny_typeOf_ref (k _ _ e) (by rw [ec]; exact q), bt "dict" (by simp)⟩
  | non =>
    obtain ⟨n, hn, L⟩ := looks_flat (h := s.heap) r ru rfl
    exact ⟨_, L, bt n hn⟩
  | bl b =>
    obtain ⟨n, hn, L⟩ := looks_flat (h := s.heap) r ru rfl
    exact ⟨_, L, bt n hn⟩
  | int i =>
    obtain ⟨n, hn, L⟩ := looks_flat (h := s.heap) r ru rfl
    exact ⟨_, L, bt n hn⟩
  | str w =>
    obtain ⟨n, hn, L⟩ := looks_flat (h := s.heap) r ru rfl
    exact ⟨_, L, bt n hn⟩
  | _ => cases f
theorem own_run {pins : List (Addr × Obj)} {s : Shared} {σ : St} {H : Hp} {O : Addr → Prop} {A : Around} {d d' : D} {x y : V} {u v : Value} {k : Nat} {wf : Wf} {f : Addr} {fd : FuncData} {ps : List Str} {b : Bool} (tk : Takes X W)
    (F : FnOk X.prog X.w X.K X.mg X.base (L2.CX X.prog X.w) k f fd ps (spD X.K ct wf)) (hb : Binds X.K fd ps []) (sb : Sub X k A) (I : Inv X pins σ H s) (ru : RelV x u) (rv : RelV y v) (dm : Dom H O) (r : Rep X.K ct H O d x) (r' : Rep X.K ct H O d' y)
    (q : wf [d, d'] (fun r => r = .bl b) (fun _ _ => False)) : wpAny (model X.prog X.w) A (call (.ref f) [u, v]) (fun r s' => r = .bool b ∧ ∃ H', Inv X pins σ H' s' ∧ Same H H') X.xe s := by
  have hsp : spD X.K ct wf [x, y] H (fun v H' => v = .bl b ∧ Same H H') (WE W σ) := ⟨O, [d, d'], _, _, dm, RepL.cons r (RepL.cons r' RepL.nil), q, fun v d2 H' e r z => by
    subst z
    exact ⟨rep_bl.mp r, e⟩, fun _ _ _ _ _ _ _ z => z.elim⟩
  have e0 : Env0 X.prog X.w X.K X.mg X.base A X.stack s H := by
    have e := I.env0
    exact ⟨by rw [sb.fr]; exact e.frames, e.mod, e.bs, e.bsz, e.funs, e.frf, e.hok, e.bare⟩
  have hl := F.len _ _ _ _ hsp
  have r2 : Vals [x, y] [u, v] := .cons ru (.cons rv .nil)
  refine wpAny_call (codeAny_mono (F.run A X.stack s H ⟨[u, v], []⟩ [u, v] [x, y] _ (WE W σ) sb.room e0 (by
    have := hb s [u, v] I.kIn (by simpa using hl)
    simpa using this) r2 hsp) fun r s' hq => ?_)
  cases r with
  | error e => exact passAt tk σ pins H s e s' I hq
  | ok fl =>
    cases fl with
    | ret w =>
      obtain ⟨z, H', I', rz, ez, ex⟩ := I.after hq
      subst ez
      cases rz
      exact ⟨rfl, H', I', ex⟩
    | next => exact False.elim hq
    | brk => exact False.elim hq
    | cont => exact False.elim hq
/-- what the loop over items keeps -/
def LpI (X : Cx) (pins : List (Addr × Obj)) (σ : St) (H : Hp) (s' : Shared) : Prop := ∃ H', Inv X pins σ H' s' ∧ Same H H'
theorem turnS {m : Nat} (h : EqS X ct T m) {A : Around} (sb : Sub X (m + 1) A) {pins : List (Addr × Obj)} {σ : St} {H : Hp} {O : Addr → Prop} (dm : Dom H O) {xs ys : List D} {vs us : List V} {its its2 : List Value} (q : okEs T xs ys m) (r : RepL X.K ct H O xs vs) (r2 : RepL X.K ct H O ys us) (rv : Vals vs its) (rv2 : Vals us its2)
    (i : Nat) (h1 : i < its.toArray.size) (h2 : i < its2.toArray.size) (s' : Shared) (l : LpI X pins σ H s') :
    wpAny (model X.prog X.w) A.in1 (eqBool its.toArray[i] its2.toArray[i]) (fun r s2 => r = eqAtI xs ys i ∧ LpI X pins σ H s2) X.xe s' := by
  obtain ⟨H1, I1, e1⟩ := l
  have h1' : i < its.length := by simpa using h1
  have h2' : i < its2.length := by simpa using h2
  have g1 : its[i]? = some its.toArray[i] := by
    rw [List.getElem?_eq_getElem h1'] <;> simp
  have g2 : its2[i]? = some its2.toArray[i] := by
    rw [List.getElem?_eq_getElem h2'] <;> simp
  have k1 : i < vs.length := by rw [rv.length]; exact h1'
  have k2 : i < us.length := by rw [rv2.length]; exact h2'
  obtain ⟨u, hu, ru⟩ := rv.get (List.getElem?_eq_getElem k1)
  obtain ⟨v, hv, rv'⟩ := rv2.get (List.getElem?_eq_getElem k2)
  rw [g1] at hu
  rw [g2] at hv
  obtain ⟨d, hd, rd⟩ := r.getV (List.getElem?_eq_getElem k1)
  obtain ⟨d', hd', rd'⟩ := r2.getV (List.getElem?_eq_getElem k2)
  have eI : eqAtI xs ys i = eqD d d' := by
    unfold eqAtI
    rw [hd, hd']
  rw [Option.some.inj hu, Option.some.inj hv, eI]
  have dm1 : Dom H1 O := fun a z => by
    obtain ⟨o, e⟩ := dm a z
    exact ⟨o, e1 a o e⟩
  refine wpAny_mono (h d d' (okEs_get q hd hd') A.in1 pins s' σ H1 O _ _ u v sb.in1 I1 ru rv' dm1 (rd.same e1) (rd'.same e1)) (fun r s2 q => ?_) fun _ _ x => x
  obtain ⟨hr, H2, I2, e2⟩ := q
  exact ⟨hr, H2, I2, e1.trans e2⟩
theorem listB {m : Nat} (h : EqS X ct T m) {A : Around} (sb : Sub X (m + 1) A) {pins : List (Addr × Obj)} {σ : St} {H : Hp} {O : Addr → Prop} (dm : Dom H O) {xs ys : List D} {vs us : List V} {a b : Addr} (hl : xs.length = ys.length) (q : okEs T xs ys m) (r : RepL X.K ct H O xs vs) (r2 : RepL X.K ct H O ys us)
    (ha : H a = some (.lst vs)) (hb : H b = some (.lst us)) : G.ListB X.prog X.w A X.xe a b xs.length (eqAtI xs ys) (LpI X pins σ H) := by
  intro s' z
  obtain ⟨H1, I1, e1⟩ := id z
  obtain ⟨_, its, k, rv, e⟩ := I1.hok a _ (e1 _ _ ha)
  obtain ⟨_, its2, k2, rv2, e2⟩ := I1.hok b _ (e1 _ _ hb)
  exact ⟨its.toArray, its2.toArray, k, k2, e, e2, by rw [List.size_toArray, ← rv.length, r.length], by rw [List.size_toArray, ← rv2.length, r2.length, hl], fun i h1 h2 => turnS h sb dm q r r2 rv rv2 i h1 h2 s' z⟩
end
end Dl
set_option Elab.async false
set_option linter.all false
set_option maxRecDepth 100000
set_option maxHeartbeats 4000000
namespace Dl
open PySem PySem.Spec L2
section
variable {X : Cx} {ct : CT} {T : EqT} {W : WX} {n : Nat} {pins : List (Addr × Obj)} {s : Shared} {σ : St} {H : Hp} {O : Addr → Prop}
theorem no_lst_tup (I : Inv X pins σ H s) {a : Addr} {vs us : List V} (h : H a = some (.lst vs)) : ¬ SqT X.K H a us := fun h' => by
  obtain ⟨z, its, k, rv, e⟩ := I.hok a _ h
  obtain ⟨its2, r, ⟨o, e2, ec, _⟩, _⟩ := I.tuple h'
  rw [e] at e2
  cases e2
  injection ec with z
  exact absurd z (by decide)
theorem no_ins_tup (I : Inv X pins σ H s) {a C dx : Addr} {fs : List (Str × V)} {us : List V} (h : H a = some (.ins C dx fs)) : ¬ SqT X.K H a us := fun h' => by
  obtain ⟨mA, J, _⟩ := ins_get I.hok h
  obtain ⟨od, J, _⟩ := J.look
  obtain ⟨its2, r, ⟨o, e2, ec, _⟩, _⟩ := I.tuple h'
  obtain ⟨e, ec2, _⟩ := J
  rw [e] at e2
  cases e2
  rw [ec2] at ec
  cases ec
theorem no_dk_tup (I : Inv X pins σ H s) {a : Addr} {kvs : List (Key × V)} {us : List V} (h : H a = some (.dK kvs)) : ¬ SqT X.K H a us := fun h' => by
  obtain ⟨_, _, va, ra, da⟩ := (show ObjOk X.prog X.w H s.heap a (.dK kvs) from I.hok a _ h)
  obtain ⟨o, e, ec⟩ := da.typeIs
  obtain ⟨its2, r, ⟨o2, e2, ec2, _⟩, _⟩ := I.tuple h'
  rw [e] at e2
  cases e2
  rw [ec] at ec2
  injection ec2 with z
  exact absurd z (by decide)
theorem same_here (I : Inv X pins σ H s) (hd : ∀ a, ct.tok 7 a = .dK []) (ap : ApartT T ct) {d d' : D} {v : V} (p : pureD T d = true) (p' : pureD T d' = true) (r : Rep X.K ct H O d v) (r' : Rep X.K ct H O d' v) : eqD d d' = true :=
  same_eqD ap (fun h h' => I.tuple_inj h h') (fun h => no_lst_tup I h) (fun h => no_ins_tup I h) hd (fun h => no_dk_tup I h) p p' r r'
mutual
theorem same_ok (I : Inv X pins σ H s) (hd : ∀ a, ct.tok 7 a = .dK []) (ap : ApartT T ct) : ∀ {d d' : D} {v : V} {n : Nat}, okE T d d' n → Rep X.K ct H O d v → Rep X.K ct H O d' v → eqD d d' = true
  | .lst xs, .lst ys, v, n, q, r, r' => by
    obtain ⟨a, vs, rfl, _, l, rl⟩ := rep_lst.mp r
    obtain ⟨a', vs', e, _, l', rl'⟩ := rep_lst.mp r'
    cases e
    rw [l] at l'
    cases l'
    simp only [okE] at q
    obtain ⟨m, _, q⟩ := q (by rw [← rl.length, ← rl'.length])
    simp only [eqD]
    exact same_oks I hd ap q rl rl'
  | .tup xs, .tup ys, v, n, q, r, r' => by
    obtain ⟨a, vs, rfl, l, rl⟩ := rep_tup.mp r
    obtain ⟨a', vs', e, l', rl'⟩ := rep_tup.mp r'
    cases e
    cases I.tuple_inj l l'
    simp only [okE] at q
    obtain ⟨m, _, q⟩ := q
    simp only [eqD]
    exact same_oks I hd ap q rl rl'
  | .obj c fs, y, v, n, q, r, r' => by
    simp only [okE, Bool.and_eq_true] at q
    obtain ⟨k, wf, _, _, _, ⟨p, p'⟩, _⟩ := q
    exact same_here I hd ap p p' r r'
  | .lst xs, .non, v, n, q, r, r' => by
    rw [rep_non] at r'
    subst r'
    obtain ⟨_, _, e, _⟩ := rep_lst.mp r
    cases e
  | .lst xs, .bl _, v, n, q, r, r' => by
    rw [rep_bl] at r'
    subst r'
    obtain ⟨_, _, e, _⟩ := rep_lst.mp r
    cases e
  | .lst xs, .int _, v, n, q, r, r' => by
    rw [rep_int] at r'
    subst r'
    obtain ⟨_, _, e, _⟩ := rep_lst.mp r
    cases e
  | .lst xs, .str _, v, n, q, r, r' => by
    rw [rep_str] at r'
    subst r'
    obtain ⟨_, _, e, _⟩ := rep_lst.mp r
    cases e
  | .lst xs, .tup _, v, n, q, r, r' => by
    obtain ⟨a, vs, rfl, _, l, rl⟩ := rep_lst.mp r
    obtain ⟨a', vs', e, l', rl'⟩ := rep_tup.mp r'
    cases e
    exact absurd l' (no_lst_tup I l)
  | .tup xs, .lst _, v, n, q, r, r' => by
    obtain ⟨a, vs, rfl, _, l, rl⟩ := rep_lst.mp r'
    obtain ⟨a', vs', e, l', rl'⟩ := rep_tup.mp r
    cases e
    exact absurd l' (no_lst_tup I l)
  | .tup xs, .non, v, n, q, r, r' => by
    rw [rep_non] at r'
    subst r'
    obtain ⟨_, _, e, _⟩ := rep_tup.mp r
    cases e
  | .tup xs, .bl _, v, n, q, r, r' => by
    rw [rep_bl] at r'
    subst r'
    obtain ⟨_, _, e, _⟩ := rep_tup.mp r
    cases e
  | .tup xs, .int _, v, n, q, r, r' => by
    rw [rep_int] at r'
    subst r'
    obtain ⟨_, _, e, _⟩ := rep_tup.mp r
    cases e
  | .tup xs, .str _, v, n, q, r, r' => by
    rw [rep_str] at r'
    subst r'
    obtain ⟨_, _, e, _⟩ := rep_tup.mp r
    cases e
  | .non, y, v, n, q, r, r' => by
    rw [rep_non] at r
    subst r
    cases y <;> first | (simp [Rep] at r'; done) | simp [eqD] | (simp [okE, flatD, isLstD, isTupD] at q; done)
  | .bl _, y, v, n, q, r, r' => by
    rw [rep_bl] at r
    subst r
    cases y <;> first | (simp [Rep] at r'; done) | (simp [Rep] at r'; simp [eqD, r']; done) | (simp [okE, flatD, isLstD, isTupD] at q; done)
  | .int _, y, v, n, q, r, r' => by
    rw [rep_int] at r
    subst r
    cases y <;> first | (simp [Rep] at r'; done) | (simp [Rep] at r'; simp [eqD, r']; done) | (simp [okE, flatD, isLstD, isTupD] at q; done)
  | .str _, y, v, n, q, r, r' => by
    rw [rep_str] at r
    subst r
    cases y <;> first | (simp [Rep] at r'; done) | (simp [Rep] at r'; simp [eqD, r']; done) | (simp [okE, flatD, isLstD, isTupD] at q; done)
  | .lst _, .obj _ _, _, _, q, _, _ => by simp [okE, flatD, isTupD] at q
  | .lst _, .cls _, _, _, q, _, _ => by simp [okE, flatD, isTupD] at q
  | .lst _, .tok _, _, _, q, _, _ => by simp [okE, flatD, isTupD] at q
  | .lst _, .ty _, _, _, q, _, _ => by simp [okE, flatD, isTupD] at q
  | .lst _, .scr _, _, _, q, _, _ => by simp [okE, flatD, isTupD] at q
  | .tup _, .obj _ _, _, _, q, _, _ => by simp [okE, flatD, isLstD] at q
  | .tup _, .cls _, _, _, q, _, _ => by simp [okE, flatD, isLstD] at q
  | .tup _, .tok _, _, _, q, _, _ => by simp [okE, flatD, isLstD] at q
  | .tup _, .ty _, _, _, q, _, _ => by simp [okE, flatD, isLstD] at q
  | .tup _, .scr _, _, _, q, _, _ => by simp [okE, flatD, isLstD] at q
  | .cls _, _, _, _, q, _, _ => by simp [okE] at q
  | .tok j, .tok k, _, _, q, _, _ => by
    simp only [okE] at q
    simp [eqD, q.1, q.2]
  | .tok _, .non, _, _, q, _, _ => by simp [okE] at q
  | .tok _, .bl _, _, _, q, _, _ => by simp [okE] at q
  | .tok _, .int _, _, _, q, _, _ => by simp [okE] at q
  | .tok _, .str _, _, _, q, _, _ => by simp [okE] at q
  | .tok _, .lst _, _, _, q, _, _ => by simp [okE] at q
  | .tok _, .tup _, _, _, q, _, _ => by simp [okE] at q
  | .tok _, .obj _ _, _, _, q, _, _ => by simp [okE] at q
  | .tok _, .cls _, _, _, q, _, _ => by simp [okE] at q
  | .tok _, .ty _, _, _, q, _, _ => by simp [okE] at q
  | .tok _, .scr _, _, _, q, _, _ => by simp [okE] at q
  | .ty _, _, _, _, q, _, _ => by simp [okE] at q
  | .scr _, _, _, _, q, _, _ => by simp [okE] at q
theorem same_oks (I : Inv X pins σ H s) (hd : ∀ a, ct.tok 7 a = .dK []) (ap : ApartT T ct) : ∀ {ds ds' : List D} {vs : List V} {n : Nat}, okEs T ds ds' n → RepL X.K ct H O ds vs → RepL X.K ct H O ds' vs → eqDs ds ds' = true
  | [], ds', vs, n, q, r, r' => by
    simp only [RepL] at r
    subst r
    cases ds' with
    | nil => simp [eqDs]
    | cons d ds =>
      obtain ⟨_, _, e, _⟩ := r'.cons_inv
      cases e
  | d :: ds, ds', vs, n, q, r, r' => by
    obtain ⟨v, w, rfl, h1, h2⟩ := r.cons_inv
    cases ds' with
    | nil =>
      simp only [RepL] at r'
      cases r'
    | cons d' ds' =>
      obtain ⟨v', q', e, h1', h2'⟩ := r'.cons_inv
      cases e
      simp only [okEs] at q
      simp only [eqDs, Bool.and_eq_true]
      exact ⟨same_ok I hd ap q.1 h1 h1', same_oks I hd ap q.2 h2 h2'⟩
end
end
end Dl
set_option Elab.async false
set_option linter.all false
set_option maxRecDepth 100000
set_option maxHeartbeats 4000000
namespace Dl
open PySem PySem.Spec L2
section
variable {T : EqT} {n : Nat} {d d' : D}
theorem okE_cases (q : okE T d d' n) : flatD d = true ∨ (∃ xs, d = .lst xs) ∨ (∃ xs, d = .tup xs) ∨ (∃ c fs, d = .obj c fs) ∨ (d = .tok 7 ∧ d' = .tok 7) := by
  cases d <;> first | exact .inl rfl | exact .inr (.inl ⟨_, rfl⟩) | exact .inr (.inr (.inl ⟨_, rfl⟩)) | exact .inr (.inr (.inr (.inl ⟨_, _, rfl⟩))) | (simp [okE] at q; done) | (cases d' <;> first | (simp [okE] at q; done) | exact .inr (.inr (.inr (.inr (by simpa [okE] using q)))))
theorem okE_flat (f : flatD d = true) (q : okE T d d' n) : flatD d' = true ∨ (∃ xs, d' = .lst xs) ∨ (∃ xs, d' = .tup xs) := by
  cases d <;> first | (cases f; done) | skip
  all_goals (cases d' <;> first | exact .inl rfl | exact .inr (.inl ⟨_, rfl⟩) | exact .inr (.inr ⟨_, rfl⟩) | (simp [okE, flatD, isLstD, isTupD] at q; done))
theorem okE_lst {xs : List D} (q : okE T (.lst xs) d' n) : flatD d' = true ∨ (∃ ys, d' = .tup ys) ∨ ∃ ys, d' = .lst ys ∧ (xs.length = ys.length → ∃ m, n = m + 1 ∧ okEs T xs ys m) := by
  cases d' with
  | lst ys => exact .inr (.inr ⟨ys, rfl, by simpa only [okE] using q⟩)
  | _ => first | exact .inl rfl | exact .inr (.inl ⟨_, rfl⟩) | (simp [okE, flatD, isTupD] at q; done)
theorem okE_tup {xs : List D} (q : okE T (.tup xs) d' n) : flatD d' = true ∨ (∃ ys, d' = .lst ys) ∨ ∃ ys m, d' = .tup ys ∧ n = m + 1 ∧ okEs T xs ys m := by
  cases d' with
  | tup ys =>
    simp only [okE] at q
    obtain ⟨m, e, q⟩ := q
    exact .inr (.inr ⟨ys, m, rfl, e, q⟩)
  | _ => first | exact .inl rfl | exact .inr (.inl ⟨_, rfl⟩) | (simp [okE, flatD, isLstD] at q; done)
theorem eqD_flat_lst {ys : List D} (f : flatD d = true) : eqD d (.lst ys) = false := by cases d <;> first | (cases f; done) | simp [eqD]
theorem eqD_flat_tup {ys : List D} (f : flatD d = true) : eqD d (.tup ys) = false := by cases d <;> first | (cases f; done) | simp [eqD]
theorem eqD_lst_flat {ys : List D} (f : flatD d = true) : eqD (.lst ys) d = false := by cases d <;> first | (cases f; done) | simp [eqD]
theorem eqD_tup_flat {ys : List D} (f : flatD d = true) : eqD (.tup ys) d = false := by cases d <;> first | (cases f; done) | simp [eqD]
theorem eqD_lst_tup {xs ys : List D} : eqD (.lst ys) (.tup xs) = false := by simp [eqD]
theorem eqD_tup_lst {xs ys : List D} : eqD (.tup ys) (.lst xs) = false := by simp [eqD]
end
section
variable {X : Cx} {ct : CT} {T : EqT} {W : WX} {n : Nat}
theorem rcS (tk : Takes X W) (hd : ∀ a, ct.tok 7 a = .dK []) (ET : ∀ c k wf, T c = some (k, wf) → EqAtO X ct T c k wf) (hm : ∀ m, n = m + 1 → EqS X ct T m) : RcS X ct T n := by
  intro d d' q A pins s σ H O x y u v sb I ru rv dm r r'
  have hu := sb.room.units0
  have self : ∃ H', Inv X pins σ H' s ∧ Same H H' := ⟨H, I, Same.refl H⟩
  rcases okE_cases q with f | ⟨xs, rfl⟩ | ⟨xs, rfl⟩ | ⟨c, fs, rfl⟩ | ⟨rfl, rfl⟩
  · rcases okE_flat f q with f' | ⟨ys, rfl⟩ | ⟨ys, rfl⟩
    · exact flat_RcAt r r' ru rv f f' X.prog X.w X.xe _ ⟨rfl, self⟩
    · obtain ⟨b, us, rfl, rfl, _, _, its, k, _, e⟩ := lst_at I rv r'
      rw [eqD_flat_lst f]
      exact RcAt_list ⟨_, e, rfl, k, rfl⟩ hu r ru f X.prog X.w X.xe _ ⟨rfl, self⟩
    · obtain ⟨b, us, rfl, rfl, _, its, _, e⟩ := tup_at I rv r'
      rw [eqD_flat_tup f]
      exact RcAt_tuple e hu r ru f X.prog X.w X.xe _ ⟨rfl, self⟩
  · obtain ⟨a, vs, rfl, rfl, la, ra, its, k, rva, e⟩ := lst_at I ru r
    rcases okE_lst q with f' | ⟨ys, rfl⟩ | ⟨ys, rfl, q2⟩
    · rw [eqD_lst_flat f']
      exact list_RcAt ⟨_, e, rfl, k, rfl⟩ hu r' rv f' X.prog X.w X.xe _ ⟨rfl, self⟩
    · obtain ⟨b, us, rfl, rfl, _, its2, _, e2⟩ := tup_at I rv r'
      rw [eqD_lst_tup]
      exact SeqAt.RcAt.list_tuple ⟨_, e, rfl, k, rfl⟩ e2 hu X.prog X.w X.xe _ ⟨rfl, self⟩
    · obtain ⟨b, us, rfl, rfl, lb, rb, its2, k2, rvb, e2⟩ := lst_at I rv r'
      by_cases hl : xs.length = ys.length
      · obtain ⟨m, rfl, q3⟩ := q2 hl
        refine G.rc_listB hu (LpI X pins σ H) (listB (hm m rfl) sb dm hl q3 ra rb la lb) (fun s' z => ⟨?_, z⟩) self
        rw [eqDs_all' hl]
        simp only [eqD]
      · simp only [eqD]
        rw [eqDs_len hl]
        refine SeqAt.RcAt.lists_lengths ⟨_, e, rfl, k, rfl⟩ ⟨_, e2, rfl, k2, rfl⟩ ?_ hu X.prog X.w X.xe _ ⟨rfl, self⟩
        have e3 : its.toArray.size = xs.length := by rw [List.size_toArray, ← rva.length, ra.length]
        have e4 : its2.toArray.size = ys.length := by rw [List.size_toArray, ← rvb.length, rb.length]
        rw [e3, e4]
        simpa using hl
  · obtain ⟨a, vs, rfl, rfl, ra, its, rva, e⟩ := tup_at I ru r
    rcases okE_tup q with f' | ⟨ys, rfl⟩ | ⟨ys, m, rfl, rfl, q2⟩
    · rw [eqD_tup_flat f']
      exact tuple_RcAt e hu r' rv f' X.prog X.w X.xe _ ⟨rfl, self⟩
    · obtain ⟨b, us, rfl, rfl, _, _, its2, k2, _, e2⟩ := lst_at I rv r'
      rw [eqD_tup_lst]
      exact SeqAt.RcAt.tuple_list e ⟨_, e2, rfl, k2, rfl⟩ hu X.prog X.w X.xe _ ⟨rfl, self⟩
    · obtain ⟨b, us, rfl, rfl, rb, its2, rvb, e2⟩ := tup_at I rv r'
      refine G.rc_tupB (e := eqAtI xs ys) hu (LpI X pins σ H) e e2 (fun i h1 h2 s' z => turnS (hm m rfl) sb dm q2 ra rb rva rvb i h1 h2 s' z) (fun s' z => ⟨?_, z⟩) self
      have e3 : its.toArray.size = xs.length := by rw [List.size_toArray, ← rva.length, ra.length]
      have e4 : its2.toArray.size = ys.length := by rw [List.size_toArray, ← rvb.length, rb.length]
      rw [e3, e4, eqDs_all]
      simp only [eqD]
  · simp only [okE, Bool.and_eq_true] at q
    obtain ⟨k, wf, hT, hk, ho, _, q⟩ := q
    have E := ET c k wf hT
    obtain ⟨tb, L, hn⟩ := looks_right hd I rv r' ho E
    obtain ⟨f, fd, ps, hs, hf, F, hb⟩ := E.fn
    obtain ⟨a, dx, vs, rfl, _, l, _, _⟩ := rep_obj.mp r
    have ru0 := ru
    cases ru
    obtain ⟨mA, J, _⟩ := ins_get I.hok l
    obtain ⟨od, J, _⟩ := J.look
    obtain ⟨m, hF⟩ := I.fr
    refine PySem.W.cmp_K (op := .Eq) hu hF I.ok.mod.kin J L hn hs hf ?_
    refine wpAny_mono (own_run tk F hb (sb.mono hk) I ru0 rv dm r r' q) (fun z s' hz => ?_) fun _ _ z => z
    obtain ⟨rfl, hz⟩ := hz
    exact ⟨rfl, hz⟩
  · obtain ⟨a, rfl, _, l⟩ := (rep_tok).mp r
    obtain ⟨b, rfl, _, l2⟩ := (rep_tok).mp r'
    cases ru
    cases rv
    rw [hd] at l l2
    obtain ⟨_, ya, va, ra, da⟩ := (show ObjOk X.prog X.w H s.heap a (.dK []) from I.hok a _ l)
    obtain ⟨_, yb, vb, rb, db⟩ := (show ObjOk X.prog X.w H s.heap b (.dK []) from I.hok b _ l2)
    have hl : va.length = vb.length := by rw [← ra.length, ← rb.length]
    exact PySem.W.keq_eq (knd := mixKind X.prog X.w) (r := true) ya yb da db hu (fun _ => by
      cases (List.eq_nil_of_length_eq_zero ra.length.symm : va = [])
      exact .nil) ⟨by simp [hl, eqD], self⟩
theorem neS (tk : Takes X W) (hd : ∀ a, ct.tok 7 a = .dK []) (ET : ∀ c k wf, T c = some (k, wf) → EqAtO X ct T c k wf) (hm : ∀ m, n = m + 1 → EqS X ct T m) : NeS X ct T n := by
  intro d d' q A pins s σ H O x y u v sb I ru rv dm r r'
  have hu := sb.room.units0
  have sb0 : Sub X n A := sb.mono (Nat.le_succ n)
  have self : ∃ H', Inv X pins σ H' s ∧ Same H H' := ⟨H, I, Same.refl H⟩
  rcases okE_cases q with f | ⟨xs, rfl⟩ | ⟨xs, rfl⟩ | ⟨c, fs, rfl⟩ | ⟨rfl, rfl⟩
  · rcases okE_flat f q with f' | ⟨ys, rfl⟩ | ⟨ys, rfl⟩
    · exact flat_RcNeAt r r' ru rv f f' X.prog X.w X.xe _ ⟨rfl, self⟩
    · obtain ⟨b, us, rfl, rfl, _, _, its, k, _, e⟩ := lst_at I rv r'
      rw [eqD_flat_lst f]
      exact RcNeAt_list ⟨_, e, rfl, k, rfl⟩ hu r ru f X.prog X.w X.xe _ ⟨rfl, self⟩
    · obtain ⟨b, us, rfl, rfl, _, its, _, e⟩ := tup_at I rv r'
      rw [eqD_flat_tup f]
      exact RcNeAt_tuple e hu r ru f X.prog X.w X.xe _ ⟨rfl, self⟩
  · obtain ⟨a, vs, rfl, rfl, la, ra, its, k, rva, e⟩ := lst_at I ru r
    rcases okE_lst q with f' | ⟨ys, rfl⟩ | ⟨ys, rfl, q2⟩
    · rw [eqD_lst_flat f']
      exact list_RcNeAt ⟨_, e, rfl, k, rfl⟩ hu r' rv f' X.prog X.w X.xe _ ⟨rfl, self⟩
    · obtain ⟨b, us, rfl, rfl, _, its2, _, e2⟩ := tup_at I rv r'
      rw [eqD_lst_tup]
      exact SeqAt.RcNeAt.list_tuple ⟨_, e, rfl, k, rfl⟩ e2 hu X.prog X.w X.xe _ ⟨rfl, self⟩
    · obtain ⟨b, us, rfl, rfl, lb, rb, its2, k2, rvb, e2⟩ := lst_at I rv r'
      by_cases hl : xs.length = ys.length
      · obtain ⟨m, rfl, q3⟩ := q2 hl
        refine G.rcn_listB hu (LpI X pins σ H) (listB (hm m rfl) sb0 dm hl q3 ra rb la lb) (fun s' z => ⟨?_, z⟩) self
        rw [eqDs_all' hl]
        simp only [eqD]
      · simp only [eqD]
        rw [eqDs_len hl]
        refine SeqAt.RcNeAt.lists_lengths ⟨_, e, rfl, k, rfl⟩ ⟨_, e2, rfl, k2, rfl⟩ ?_ hu X.prog X.w X.xe _ ⟨rfl, self⟩
        have e3 : its.toArray.size = xs.length := by rw [List.size_toArray, ← rva.length, ra.length]
        have e4 : its2.toArray.size = ys.length := by rw [List.size_toArray, ← rvb.length, rb.length]
        rw [e3, e4]
        simpa using hl
  · obtain ⟨a, vs, rfl, rfl, ra, its, rva, e⟩ := tup_at I ru r
    rcases okE_tup q with f' | ⟨ys, rfl⟩ | ⟨ys, m, rfl, rfl, q2⟩
    · rw [eqD_tup_flat f']
      exact tuple_RcNeAt e hu r' rv f' X.prog X.w X.xe _ ⟨rfl, self⟩
    · obtain ⟨b, us, rfl, rfl, _, _, its2, k2, _, e2⟩ := lst_at I rv r'
      rw [eqD_tup_lst]
      exact SeqAt.RcNeAt.tuple_list e ⟨_, e2, rfl, k2, rfl⟩ hu X.prog X.w X.xe _ ⟨rfl, self⟩
    · obtain ⟨b, us, rfl, rfl, rb, its2, rvb, e2⟩ := tup_at I rv r'
      refine G.rcn_tupB (e := eqAtI xs ys) hu (LpI X pins σ H) e e2 (fun i h1 h2 s' z => turnS (hm m rfl) sb0 dm q2 ra rb rva rvb i h1 h2 s' z) (fun s' z => ⟨?_, z⟩) self
      have e3 : its.toArray.size = xs.length := by rw [List.size_toArray, ← rva.length, ra.length]
      have e4 : its2.toArray.size = ys.length := by rw [List.size_toArray, ← rvb.length, rb.length]
      rw [e3, e4, eqDs_all]
      simp only [eqD]
  · simp only [okE, Bool.and_eq_true] at q
    obtain ⟨k, wf, hT, hk, ho, _, q⟩ := q
    have E := ET c k wf hT
    obtain ⟨tb, L, hn⟩ := looks_right hd I rv r' ho E
    obtain ⟨f, fd, ps, hs, hf, F, hb⟩ := E.fn
    obtain ⟨a, dx, vs, rfl, _, l, _, _⟩ := rep_obj.mp r
    have ru0 := ru
    cases ru
    obtain ⟨mA, J, _⟩ := ins_get I.hok l
    obtain ⟨od, J, _⟩ := J.look
    refine G.ncmp_K (by have := sb.room.un; omega) I.kIn J L hn E.ob hs E.ne hf ?_
    refine wpAny_mono (own_run tk F hb (sb.in1.mono hk) I ru0 rv dm r r' q) (fun z s' hz => ?_) fun _ _ z => z
    obtain ⟨rfl, hz⟩ := hz
    exact ⟨_, rfl, rfl, hz⟩
  · obtain ⟨a, rfl, _, l⟩ := (rep_tok).mp r
    obtain ⟨b, rfl, _, l2⟩ := (rep_tok).mp r'
    cases ru
    cases rv
    rw [hd] at l l2
    obtain ⟨_, ya, va, ra, da⟩ := (show ObjOk X.prog X.w H s.heap a (.dK []) from I.hok a _ l)
    obtain ⟨_, yb, vb, rb, db⟩ := (show ObjOk X.prog X.w H s.heap b (.dK []) from I.hok b _ l2)
    have hl : va.length = vb.length := by rw [← ra.length, ← rb.length]
    exact PySem.W.keq_ne (knd := mixKind X.prog X.w) (r := true) ya yb da db hu (fun _ => by
      cases (List.eq_nil_of_length_eq_zero ra.length.symm : va = [])
      exact .nil) ⟨by simp [hl, eqD], self⟩
/-- == inside a builtin -/
theorem eqBool_ne {prog : Program} {w : World} {A : Around} {E : Value → Shared → Prop} {s : Shared} {a : Addr} {v : Value} {Q : Bool → Shared → Prop} (hne : (Value.ref a == v) = false) (h : wpAny (model prog w) A (richCompare .Eq (.ref a) v) (fun z s' => ∃ r, z = .bool r ∧ Q r s') E s) : wpAny (model prog w) A (eqBool (.ref a) v) Q E s := by
  unfold eqBool
  refine wpAny_holding ?_
  refine wpAny_ite_split (fun hab => absurd hab (by rw [hne]; exact Bool.false_ne_true)) (fun _ => ?_)
  refine wpAny_bind (wpAny_mono h (fun v s' hv => ?_) fun _ _ x => x)
  obtain ⟨r, rfl, q⟩ := hv
  exact wpAny_truthy_bool q
theorem eqS_one (tk : Takes X W) (ET : ∀ c k wf, T c = some (k, wf) → EqAtO X ct T c k wf) (hd : ∀ a, ct.tok 7 a = .dK []) (ap : ApartT T ct) (hm : ∀ m, n = m + 1 → EqS X ct T m) : EqS X ct T n := by
  have rc := rcS tk hd ET hm
  intro d d' q A pins s σ H O x y u v sb I ru rv dm r r'
  have hu := sb.room.units0
  have self : ∃ H', Inv X pins σ H' s ∧ Same H H' := ⟨H, I, Same.refl H⟩
  have two : ∀ (a b : Addr), u = .ref a → v = .ref b → (x = .ref a) → (y = .ref b) → wpAny (model X.prog X.w) A (eqBool u v) (fun r s' => r = eqD d d' ∧ ∃ H', Inv X pins σ H' s' ∧ Same H H') X.xe s := fun a b e1 e2 e3 e4 => by
    subst e1 e2 e3 e4
    refine G.eqBool_refB (fun e => ?_) (fun e => wpAny_mono (rc d d' q A pins s σ H O _ _ _ _ sb I ru rv dm r r') (fun z s' hz => ?_) fun _ _ z => z)
    · subst e
      exact ⟨(same_ok I hd ap q r r').symm, self⟩
    · obtain ⟨rfl, hz⟩ := hz
      exact ⟨_, rfl, rfl, hz⟩
  rcases okE_cases q with f | ⟨xs, rfl⟩ | ⟨xs, rfl⟩ | ⟨c, fs, rfl⟩ | ⟨rfl, rfl⟩
  · rcases okE_flat f q with f' | ⟨ys, rfl⟩ | ⟨ys, rfl⟩
    · exact flat_EqAt r r' ru rv f f' X.prog X.w X.xe _ ⟨rfl, self⟩
    · obtain ⟨b, us, rfl, rfl, _, _, its, k, _, e⟩ := lst_at I rv r'
      rw [eqD_flat_lst f]
      exact EqAt_list ⟨_, e, rfl, k, rfl⟩ hu r ru f X.prog X.w X.xe _ ⟨rfl, self⟩
    · obtain ⟨b, us, rfl, rfl, _, its, _, e⟩ := tup_at I rv r'
      rw [eqD_flat_tup f]
      exact EqAt_tuple e hu r ru f X.prog X.w X.xe _ ⟨rfl, self⟩
  · obtain ⟨a, vs, rfl, rfl, la, ra, its, k, rva, e⟩ := lst_at I ru r
    rcases okE_lst q with f' | ⟨ys, rfl⟩ | ⟨ys, rfl, q2⟩
    · rw [eqD_lst_flat f']
      exact list_EqAt ⟨_, e, rfl, k, rfl⟩ hu r' rv f' X.prog X.w X.xe _ ⟨rfl, self⟩
    · obtain ⟨b, us, rfl, rfl, _, its2, _, e2⟩ := tup_at I rv r'
      rw [eqD_lst_tup]
      exact SeqAt.EqAt.list_tuple ⟨_, e, rfl, k, rfl⟩ e2 hu X.prog X.w X.xe _ ⟨rfl, self⟩
    · obtain ⟨b, us, rfl, rfl, lb, rb, its2, k2, rvb, e2⟩ := lst_at I rv r'
      exact two a b rfl rfl rfl rfl
  · obtain ⟨a, vs, rfl, rfl, ra, its, rva, e⟩ := tup_at I ru r
    rcases okE_tup q with f' | ⟨ys, rfl⟩ | ⟨ys, m, rfl, e9, q2⟩
    · rw [eqD_tup_flat f']
      exact tuple_EqAt e hu r' rv f' X.prog X.w X.xe _ ⟨rfl, self⟩
    · obtain ⟨b, us, rfl, rfl, _, _, its2, k2, _, e2⟩ := lst_at I rv r'
      rw [eqD_tup_lst]
      exact SeqAt.EqAt.tuple_list e ⟨_, e2, rfl, k2, rfl⟩ hu X.prog X.w X.xe _ ⟨rfl, self⟩
    · obtain ⟨b, us, rfl, rfl, rb, its2, rvb, e2⟩ := tup_at I rv r'
      exact two a b rfl rfl rfl rfl
  · obtain ⟨a, dx, vs, rfl, _, l, _, _⟩ := rep_obj.mp r
    have ru0 := ru
    cases ru
    have one : ((Value.ref a) == v) = false → wpAny (model X.prog X.w) A (eqBool (.ref a) v) (fun r s' => r = eqD (.obj c fs) d' ∧ ∃ H', Inv X pins σ H' s' ∧ Same H H') X.xe s := fun hne =>
      eqBool_ne hne (wpAny_mono (rc _ d' q A pins s σ H O _ _ _ _ sb I ru0 rv dm r r') (fun z s' hz => by
        obtain ⟨rfl, hz⟩ := hz
        exact ⟨_, rfl, rfl, hz⟩) fun _ _ z => z)
    cases d' with
    | lst ys =>
      obtain ⟨b, us, rfl, rfl, lb, rb, its2, k2, rvb, e2⟩ := lst_at I rv r'
      exact two a b rfl rfl rfl rfl
    | tup ys =>
      obtain ⟨b, us, rfl, rfl, rb, its2, rvb, e2⟩ := tup_at I rv r'
      exact two a b rfl rfl rfl rfl
    | obj c' gs =>
      obtain ⟨b, dx', vs', rfl, _, l', _, _⟩ := rep_obj.mp r'
      cases rv
      exact two a b rfl rfl rfl rfl
    | non =>
      rw [rep_non] at r'
      subst r'
      cases rv
      exact one rfl
    | bl b =>
      rw [rep_bl] at r'
      subst r'
      cases rv
      exact one rfl
    | int i =>
      rw [rep_int] at r'
      subst r'
      obtain ⟨t, rfl⟩ := rv
      exact one rfl
    | str w =>
      rw [rep_str] at r'
      subst r'
      obtain ⟨t, rfl⟩ := rv
      exact one rfl
    | tok k =>
      simp only [Rep] at r'
      obtain ⟨b, rfl, _, _⟩ := r'
      cases rv
      exact two a b rfl rfl rfl rfl
    | _ => simp [okE, ownRight, flatD, isLstD, isTupD] at q
  · obtain ⟨a, rfl, _, l⟩ := (rep_tok).mp r
    obtain ⟨b, rfl, _, l2⟩ := (rep_tok).mp r'
    cases ru
    cases rv
    exact two a b rfl rfl rfl rfl
theorem eqS (tk : Takes X W) (hd : ∀ a, ct.tok 7 a = .dK []) (ET : ∀ c k wf, T c = some (k, wf) → EqAtO X ct T c k wf) (ap : ApartT T ct) : ∀ n, EqS X ct T n
  | 0 => eqS_one tk ET hd ap fun m e => by cases e
  | n + 1 => eqS_one tk ET hd ap fun m e => by
    cases e
    exact eqS tk hd ET ap n
def oEqT (T : EqT) (n : Nat) : O2 := fun x y Q => okE T x y n ∧ Q (.bl (eqD x y))
def oNeT (T : EqT) (n : Nat) : O2 := fun x y Q => okE T x y n ∧ Q (.bl (!eqD x y))
theorem od_eqT (tk : Takes X W) (hd : ∀ a, ct.tok 7 a = .dK []) (ET : ∀ c k wf, T c = some (k, wf) → EqAtO X ct T c k wf) (ap : ApartT T ct) (hr : Room n X.A) : OpR X (compareOp .Eq) (R2D X.K ct (oEqT T n)) := by
  intro pins s σ H x y v u Q I rx ry h
  obtain ⟨O, dx, dy, QD, dm, r, r', ⟨q, hq⟩, k⟩ := h
  show wpAny (model X.prog X.w) X.A (richCompare .Eq v u) (EP X pins σ Q) X.xe s
  refine wpAny_mono (rcS tk hd ET (fun m _ => eqS tk hd ET ap m) dx dy q X.A pins s σ H O x y v u ⟨hr, rfl⟩ I rx ry dm r r') (fun z s' hz => ?_) fun _ _ z => z
  obtain ⟨rfl, H', I', e⟩ := hz
  exact ⟨.bl _, H', I', rfl, k _ _ _ e (rep_bl.mpr rfl) hq⟩
theorem od_neT (tk : Takes X W) (hd : ∀ a, ct.tok 7 a = .dK []) (ET : ∀ c k wf, T c = some (k, wf) → EqAtO X ct T c k wf) (ap : ApartT T ct) (hr : Room (n + 1) X.A) : OpR X (compareOp .NotEq) (R2D X.K ct (oNeT T n)) := by
  intro pins s σ H x y v u Q I rx ry h
  obtain ⟨O, dx, dy, QD, dm, r, r', ⟨q, hq⟩, k⟩ := h
  show wpAny (model X.prog X.w) X.A (richCompare .NotEq v u) (EP X pins σ Q) X.xe s
  refine wpAny_mono (neS tk hd ET (fun m _ => eqS tk hd ET ap m) dx dy q X.A pins s σ H O x y v u ⟨hr, rfl⟩ I rx ry dm r r') (fun z s' hz => ?_) fun _ _ z => z
  obtain ⟨rfl, H', I', e⟩ := hz
  exact ⟨.bl _, H', I', rfl, k _ _ _ e (rep_bl.mpr rfl) hq⟩
end
end Dl
set_option Elab.async false
set_option linter.all false
set_option maxRecDepth 100000
set_option maxHeartbeats 4000000
namespace Dl
open PySem PySem.Spec L2
section
variable {X : Cx} {ct : CT} {W : WX} {e o a b : Expr} {es : List Expr} {td to ta tb : TD} {tda : TDA} {pos apos p : Pos} {x m : Str}
theorem de_gcl {c : Nat} (hm : X.mg x = some (.ref (ct.addr c))) (hg : Gl X x := by rfl) (hd : (x == ("__debug__" : Str)) = false := by decide) : DE X ct W (.Name x pos) (dC (.cls c)) :=
  de_c (pe_glob hg hm (v := .ref (ct.addr c)) rfl hd) fun _ _ => rep_cls.mpr rfl
theorem de_gty {T : String} (hm : X.mg x = none) (hv : bootBuiltins x = some (.type T) := by decide +kernel) (hg : Gl X x := by rfl) (hn : x ≠ "__name__" := by decide) (hd : (x == ("__debug__" : Str)) = false := by decide) : DE X ct W (.Name x pos) (dC (.ty T)) :=
  de_c ⟨fun _ _ _ H _ I h => ld_blt I hg hm hv ⟨.ty T, H, I, rfl, h⟩ hn hd⟩ fun _ _ => by simp only [Rep]
theorem dom_new {H : Hp} {O : Addr → Prop} (dm : Dom H O) {p : Addr} (hp : H p = none) : ¬ O p := fun z => by
  obtain ⟨o, e⟩ := dm p z
  rw [hp] at e
  cases e
end
/-- one sign in a text; flat items in a list or tuple -/
def oIn : O2
  | .str x, .str z, Q => ∃ c, x = ⟨#[c]⟩ ∧ Q (.bl (decide (c ∈ z.cps.toList)))
  | d, .tup xs, Q => flatD d = true ∧ xs.all flatD = true ∧ Q (.bl (xs.any fun y => eqD y d))
  | d, .lst xs, Q => flatD d = true ∧ xs.all flatD = true ∧ Q (.bl (xs.any fun y => eqD y d))
  | _, _, _ => False
section
variable {K : PySem.W.Frag} {ct : CT} {H : Hp} {O : Addr → Prop}
theorem flat_rep {d : D} {v : V} (r : Rep K ct H O d v) (f : flatD d = true) : flatV v = true := by
  cases d <;> first | (cases f; done) | (simp only [Rep] at r; subst r; rfl)
theorem flat_eqV {d d' : D} {v u : V} (r : Rep K ct H O d v) (r' : Rep K ct H O d' u) (f : flatD d = true) (f' : flatD d' = true) : eqV v u = eqD d d' := by
  cases d <;> first | (cases f; done) | skip
  all_goals (cases d' <;> first | (cases f'; done) | (simp only [Rep] at r r'; subst r; subst r'; simp [eqV, eqD]))
theorem flat_all : ∀ {ds : List D} {vs : List V}, RepL K ct H O ds vs → ds.all flatD = true → vs.all flatV = true
  | [], vs, r, _ => by simp only [RepL] at r; subst r; rfl
  | d :: ds, vs, r, f => by
    obtain ⟨v, q, rfl, h1, h2⟩ := r.cons_inv
    rw [List.all_cons, Bool.and_eq_true] at f ⊢
    exact ⟨flat_rep h1 f.1, flat_all h2 f.2⟩
theorem flat_any {d : D} {v : V} (r0 : Rep K ct H O d v) (f0 : flatD d = true) : ∀ {ds : List D} {vs : List V}, RepL K ct H O ds vs → ds.all flatD = true → inV v vs = ds.any fun y => eqD y d
  | [], vs, r, _ => by simp only [RepL] at r; subst r; rfl
  | d' :: ds, vs, r, f => by
    obtain ⟨v', q, rfl, h1, h2⟩ := r.cons_inv
    rw [List.all_cons, Bool.and_eq_true] at f
    have ih := flat_any r0 f0 h2 f.2
    unfold inV at ih ⊢
    rw [List.any_cons, List.any_cons, ih, flat_eqV h1 r0 f.1 f0]
end
section
variable {X : Cx} {ct : CT}
theorem od_in : OpR X (compareOp .In) (R2D X.K ct oIn) := by
  intro pins s σ H x y v u Q I rx ry h
  obtain ⟨O, dx, dy, QD, dm, r, r', q, k⟩ := h
  unfold oIn at q
  split at q
  · obtain ⟨c, rfl, q⟩ := q
    exact op_in_sign pins s σ H x y v u Q I rx ry ⟨c, _, rep_str.mp r, rep_str.mp r', k _ _ H (Same.refl H) (rep_bl.mpr rfl) q⟩
  · obtain ⟨f, fs, q⟩ := q
    obtain ⟨a, vs, ea, l, rl⟩ := rep_tup.mp r'
    exact op_in_seq pins s σ H x y v u Q I rx ry ⟨a, vs, ea, .inr l, flat_rep r f, flat_all rl fs, k _ _ H (Same.refl H) (rep_bl.mpr (by rw [flat_any r f rl fs] <;> rfl)) q⟩
  · obtain ⟨f, fs, q⟩ := q
    obtain ⟨a, vs, ea, _, l, rl⟩ := rep_lst.mp r'
    exact op_in_seq pins s σ H x y v u Q I rx ry ⟨a, vs, ea, .inl (SqL.of l), flat_rep r f, flat_all rl fs, k _ _ H (Same.refl H) (rep_bl.mpr (by rw [flat_any r f rl fs] <;> rfl)) q⟩
  · exact q.elim
end
def kindD : D → Option String
  | .non => some "NoneType"
  | .bl _ => some "bool"
  | .int _ => some "int"
  | .str _ => some "str"
  | .lst _ => some "list"
  | .tup _ => some "tuple"
  | .tok k => if k = 7 then some "dict" else none
  | _ => none
def isiD (sub : Sub2) : D → D → Option Bool
  | .obj c _, .cls c' => sub c c'
  | .obj c _, .ty m => if (sub c c).isSome && kinds.contains m then some false else none
  | d, .cls c' => if (sub c' c').isSome then (kindD d).map fun _ => false else none
  | d, .ty m => if kinds.contains m then (kindD d).map fun k => isiB k m else none
  | _, _ => none
structure IsiOk (K : PySem.W.Frag) (ct : CT) (sub : Sub2) : Prop where
  bb : ∀ k m, k ∈ kinds → m ∈ kinds → PySem.W.kitOne K (.type k) (.type m) = some (isiB k m)
  oo : ∀ c c' b, sub c c' = some b → PySem.W.kitOne K (.ref (ct.addr c)) (.ref (ct.addr c')) = some b ∧ C8.InsC K (ct.addr c)
  ob : ∀ c m, (sub c c).isSome = true → m ∈ kinds → PySem.W.kitOne K (.ref (ct.addr c)) (.type m) = some false
  bo : ∀ c k, (sub c c).isSome = true → k ∈ kinds → PySem.W.kitOne K (.type k) (.ref (ct.addr c)) = some false
def bIsi (sub : Sub2) : List D → (D → Prop) → Prop
  | [d, c], Q => ∃ b, isiD sub d c = some b ∧ Q (.bl b)
  | _, _ => False
section
variable {X : Cx} {ct : CT} {sub : Sub2}
theorem ty_kind (hd : ∀ a, ct.tok 7 a = .dK []) {H : Hp} {O : Addr → Prop} {d : D} {v : V} {k : String} (hk : kindD d = some k) (r : Rep X.K ct H O d v) {pins : List (Addr × Obj)} {s : Shared} {σ : St} (I : Inv X pins σ H s) : k ∈ kinds ∧ TyX X.K H v (.type k) := by
  unfold kindD at hk
  split at hk
  · cases hk
    rw [rep_non] at r
    subst r
    exact ⟨by simp, .base .non⟩
  · cases hk
    rw [rep_bl] at r
    subst r
    exact ⟨by simp, .base (.bl _)⟩
  · cases hk
    rw [rep_int] at r
    subst r
    exact ⟨by simp, .base (.int _)⟩
  · cases hk
    rw [rep_str] at r
    subst r
    exact ⟨by simp, .base (.str _)⟩
  · cases hk
    obtain ⟨a, vs, rfl, _, l, _⟩ := rep_lst.mp r
    exact ⟨by simp, .base (.lst l)⟩
  · cases hk
    obtain ⟨a, vs, rfl, l, _⟩ := rep_tup.mp r
    refine ⟨by simp, ?_⟩
    rcases l with l | ⟨o, its, n, h1, h2, _⟩
    · rcases l with l | ⟨o, l⟩
      · exact .base (.tup l)
      · exact .fTuple l
    · exact .kTuple h1 h2
  · split at hk
    · rename_i e
      cases hk
      subst e
      obtain ⟨a, rfl, _, l⟩ := (rep_tok).mp r
      rw [hd] at l
      exact ⟨by simp, .base (.dK l)⟩
    · cases hk
  · cases hk
theorem cd_isi (hd : ∀ a, ct.tok 7 a = .dK []) (T : IsiOk X.K ct sub) : CallR X (.builtin "isinstance") (RCD X.K ct (bIsi sub)) := by
  intro pins s σ H vs us Q I rv ⟨O, ds, QD, dm, r, o, k⟩
  unfold bIsi at o
  split at o
  · rename_i d c
    obtain ⟨b, hb, q⟩ := o
    obtain ⟨v, u, rfl, h1, h2⟩ := rep2 r
    have go : ∀ (t : Value) (w : Value), ClsV u w → TyX X.K H v t → PySem.W.kitOne X.K t w = some b → wpAny (model X.prog X.w) X.A (call (.builtin "isinstance") us) (EP X pins σ Q) X.xe s := fun t w k1 k2 k3 =>
      call_isi pins s σ H _ us Q I rv ⟨v, u, t, w, b, rfl, k1, k2, k3, k _ _ H (Same.refl H) (rep_bl.mpr rfl) q⟩
    unfold isiD at hb
    split at hb
    · rename_i c0 fs c1
      obtain ⟨h3, h4⟩ := T.oo _ _ _ hb
      obtain ⟨a, dx, ws, rfl, _, l, _⟩ := rep_obj.mp h1
      rw [rep_cls] at h2
      subst h2
      exact go _ _ (.own _) (.base (.ins l h4.cl h4.ha h4.hn h4.htk h4.hm)) h3
    · rename_i c0 fs m
      split at hb
      · rename_i hc
        cases hb
        rw [Bool.and_eq_true] at hc
        obtain ⟨b', hb'⟩ := Option.isSome_iff_exists.mp hc.1
        obtain ⟨h3, h4⟩ := T.oo _ _ _ hb'
        obtain ⟨a, dx, ws, rfl, _, l, _⟩ := rep_obj.mp h1
        obtain rfl : u = .ty m := by simpa only [Rep] using h2
        exact go _ _ (.ty _) (.base (.ins l h4.cl h4.ha h4.hn h4.htk h4.hm)) (T.ob _ _ hc.1 (by simpa using hc.2))
      · cases hb
    · rename_i d' c1 hno
      split at hb
      · rename_i hc
        obtain ⟨k, hk, e⟩ := Option.map_eq_some_iff.mp hb
        subst e
        obtain ⟨h3, h4⟩ := ty_kind hd hk h1 I
        rw [rep_cls] at h2
        subst h2
        exact go _ _ (.own _) h4 (T.bo _ _ hc h3)
      · cases hb
    · rename_i d' m hno
      split at hb
      · rename_i hc
        obtain ⟨k, hk, e⟩ := Option.map_eq_some_iff.mp hb
        subst e
        obtain ⟨h3, h4⟩ := ty_kind hd hk h1 I
        obtain rfl : u = .ty m := by simpa only [Rep] using h2
        exact go _ _ (.ty _) h4 (T.bb _ _ h3 (by simpa using hc))
      · cases hb
    · cases hb
  · exact o.elim
end
end Dl
set_option Elab.async false
set_option linter.all false
set_option maxRecDepth 100000
set_option maxHeartbeats 4000000
namespace Dl
open PySem PySem.Spec L2
def sPar2 (i j : Nat) (ta : TDA) : TDS := fun DD s => ta s (fun ds => match ds with
  | [d, e] => DD.nx ((s.set i (.v d)).set j (.v e))
  | _ => False) (xq DD s)
section
variable {X : Cx} {ct : CT} {W : WX} {e o a b : Expr} {es : List Expr} {st : Stmt} {ts : TDS} {td tl th : TD} {tda : TDA} {pos apos p p2 : Pos} {x n : Str}
theorem ds_par2 {i j : Nat} {x y : Str} {px py pt : Pos} {kt k2 pt2} (hc : X.calm = true) (hN : X.N.Nodup) (hi : X.N[i]? = some x) (hj : X.N[j]? = some y) (hx : X.env.scope.names.lookup x = some .local) (hy : X.env.scope.names.lookup y = some .local) (ha : DA X ct W [a, b] tda) (hij : i ≠ j := by decide)
    (hw : swappedStores [.Tuple [.Name x px, .Name y py] kt pt] (.Tuple [a, b] k2 pt2) X.env = pure (some [x, y]) := by rfl)
    (hs : swapsWithSole [.Tuple [.Name x px, .Name y py] kt pt] (.Tuple [a, b] k2 pt2) pos.line X.env = pure false := by rfl) :
    DS X ct W (.Assign [.Tuple [.Name x px, .Name y py] kt pt] (.Tuple [a, b] k2 pt2) pos) (sPar2 i j tda) :=
  PS.imp (ps_par hc hN hi hj hij hx hy ha hw hs) fun E σ H ⟨O0, H0, f, dσ, DD, h, t, e⟩ => h.aa e t fun vs ds H' s r q => by
    split at q
    · rename_i d1 d2
      obtain ⟨v, u, rfl, r1, r2⟩ := rep2 r
      have h1 := h.sm s
      have h2 := h1.set_v (i := i) r1
      exact ⟨v, u, rfl, e.nx _ _ _ _ (h2.set_v (i := j) (r2.less fun b z => own_set rfl z)) q⟩
    · exact q.elim
end
end Dl
set_option Elab.async false
set_option linter.all false
set_option maxRecDepth 100000
set_option maxHeartbeats 4000000
namespace Dl
open PySem PySem.Spec L2
def frz1 : Sl → Sl
  | .own xs => .v (.lst xs)
  | .dic ks xs => .v (.dic ks xs)
  | .ini _ _ => .un
  | s => s
def frzS (s : List Sl) : List Sl := s.map frz1
end Dl
set_option Elab.async false
set_option linter.all false
set_option maxRecDepth 100000
set_option maxHeartbeats 4000000
namespace Dl.Hd
open PySem PySem.Spec L2
theorem DefP.funD {K : PySem.W.Frag} {d : DefP} (e : fnA K (d.adr K) = d.val) (c : d.fine K = true) : ∃ fd, FunD K d.nam d.qua d.par d.bod d.sco (d.dvs K) (d.kvs K) (d.adr K) fd := by
  obtain ⟨kp, c2⟩ := He.ba c
  unfold fnA at e
  cases q : K.lookup (d.adr K) with
  | none =>
    rw [q] at c2
    cases c2
  | some o =>
    obtain ⟨oc, od, dt, osl⟩ := o
    rw [q] at c2 e
    cases dt with
    | func fd =>
      obtain ⟨a1, a2, a3, a4, a5, a6, a7, a8, a9, b1, b2, b3, b4, b5, b6⟩ := fd
      have e2 : (some (a1, a2, a3, a4, a5, a6, a7, b6) : He.FnW) = some (d.nam, d.qua, d.par, .stmts d.bod, d.sco, mainGlobals, [], builtinsNs) := e
      simp only [Option.some.injEq, Prod.mk.injEq] at e2
      obtain ⟨h1, h2, h3, h4, h5, h6, h7, h8⟩ := e2
      subst h1 h2 h3 h4 h5 h6 h7 h8
      have c3 : (PySem.W.codeIn K b4 d.qua && (He.dflB K a8 (d.dvs K) && He.kwdB K a9 (d.kvs K))) = true := c2
      obtain ⟨k1, k2⟩ := He.ba c3
      obtain ⟨k3, k4⟩ := He.ba k2
      exact ⟨_, ⟨oc, od, a8, a9, b1, b2, b3, b4, b5, osl, rfl, q, k1, He.dflB_ok k3, He.kwdB_ok k4⟩, kp⟩
    | _ => cases c2
theorem obsG_eq {n : Nat} {fa : List (PySem.W.Frag → Bool)} {fn : List DefP} {g : Addr → Option Obj} {s : Shared} (h : ∀ a, g a = s.heap.get? a) : obsG n fa fn g = (hook n fa fn).obs s := by
  have e : g = s.heap.get? := funext h
  rw [e] <;> rfl
section
variable {fa : List (PySem.W.Frag → Bool)} {fn : List DefP} {K : PySem.W.Frag}
theorem map_true {α β : Type} {l : List α} {m : List β} {f : α → Bool} {g : β → Bool} (h : l.map f ++ m.map g = (l.map fun _ => true) ++ (m.map fun _ => true)) : (∀ x ∈ l, f x = true) ∧ ∀ y ∈ m, g y = true := by
  have e := List.append_inj h (by simp)
  constructor
  · intro x hx
    have : f x ∈ l.map f := List.mem_map_of_mem hx
    rw [e.1] at this
    obtain ⟨_, _, z⟩ := List.mem_map.mp this
    exact z.symm
  · intro x hx
    have : g x ∈ m.map g := List.mem_map_of_mem hx
    rw [e.2] at this
    obtain ⟨_, _, z⟩ := List.mem_map.mp this
    exact z.symm
theorem Says.fact (c : Says fa fn K) (i : Nat) {f : PySem.W.Frag → Bool} (h : fa[i]? = some f := by rfl) : f K = true := (map_true (congrArg (fun z : Al => z.1) c)).1 f (List.mem_of_getElem? h)
theorem Says.fun_ (c : Says fa fn K) (i : Nat) {d : DefP} (h : fn[i]? = some d := by rfl) : ∃ fd, FunD K d.nam d.qua d.par d.bod d.sco (d.dvs K) (d.kvs K) (d.adr K) fd := by
  have c1 := (map_true (congrArg (fun z : Al => z.1) c)).2 d (List.mem_of_getElem? h)
  have c2 : (fn.map fun d => fnA K (d.adr K)) = fn.map DefP.val := congrArg (fun z : Al => z.2) c
  have c3 := congrArg (fun l => l[i]?) c2
  simp only [List.getElem?_map, h, Option.map_some, Option.some.injEq] at c3
  exact d.funD c3 c1
end
theorem prB_ok {K : PySem.W.Frag} {x f : Str} (h : prB x f K = true) : PropOf K (He.ga K x) f (He.ma K (He.ga K x) f) (gA x f K) := by
  obtain ⟨h1, h⟩ := He.ba h
  obtain ⟨h2, h⟩ := He.ba h
  obtain ⟨h3, h4⟩ := He.ba h
  refine ⟨He.eqO_ok h1, He.eqO_ok h2, of_decide_eq_true h3, ?_⟩
  unfold gA
  split at h4
  · rename_i g rest e
    rw [e]
    exact ⟨rest, rfl⟩
  · cases h4
theorem exB_ok {K : PySem.W.Frag} {x n : Str} (h : exB x n K = true) : OexC K (He.ga K x) ∧ PySem.W.findIn K (.ref (He.ga K x)) "__init__" = some (some (.ref (He.ma K (He.ga K x) "__init__"))) ∧ PySem.W.typeIn K (.ref (He.ma K (He.ga K x) "__init__")) = some (.type "function") ∧
    PySem.W.findIn K (.ref (He.ga K x)) n = some none ∧ XfC K (He.ga K x) := by
  obtain ⟨h1, h⟩ := He.ba h
  obtain ⟨h2, h⟩ := He.ba h
  obtain ⟨h3, h⟩ := He.ba h
  obtain ⟨h4, h5⟩ := He.ba h
  exact ⟨oexB_ok h1, He.eqO_ok h2, of_decide_eq_true h3, He.eqO_ok h4, xfB_ok h5⟩
def PurseAt (a : Addr) (h : Heap) : Prop := ∃ (i j k : Int) (its : List Value) (n : Nat), Vals [V.int i, V.int j, V.int k] its ∧ h.get? a = some { cls := .type "list", data := .seq its.toArray n }
def SpringAt (a : Addr) (h : Heap) : Prop := ∃ (i : Int) (its : List Value) (n : Nat), Vals [V.int i] its ∧ h.get? a = some { cls := .type "list", data := .seq its.toArray n }
/-- values that never change once made, told by a number: range(0, n), a dict whose keys are tuples of whole numbers -/
inductive TokV where
  | rng (n : Int)
  | tab (l : List (List Int × Int))
def pr (a b : Nat) : Nat := 2 ^ a * (2 * b + 1)
theorem pr_inj : ∀ {a b c d : Nat}, pr a b = pr c d → a = c ∧ b = d
  | 0, b, 0, d, h => by
    unfold pr at h
    simp at h
    exact ⟨rfl, by omega⟩
  | 0, b, c + 1, d, h => by
    unfold pr at h
    rw [Nat.pow_succ, Nat.mul_comm (2 ^ c) 2, Nat.mul_assoc] at h
    simp at h
    omega
  | a + 1, b, 0, d, h => by
    unfold pr at h
    rw [Nat.pow_succ, Nat.mul_comm (2 ^ a) 2, Nat.mul_assoc] at h
    simp at h
    omega
  | a + 1, b, c + 1, d, h => by
    have e : pr a b = pr c d := by
      unfold pr at h ⊢
      rw [Nat.pow_succ, Nat.mul_comm (2 ^ a) 2, Nat.mul_assoc, Nat.pow_succ, Nat.mul_comm (2 ^ c) 2, Nat.mul_assoc] at h
      omega
    obtain ⟨e1, e2⟩ := pr_inj e
    exact ⟨by rw [e1], e2⟩
theorem pr_pos {a b : Nat} : pr a b ≠ 0 := fun h => by
  unfold pr at h
  rcases Nat.mul_eq_zero.mp h with h | h
  · exact absurd h (Nat.ne_of_gt (Nat.two_pow_pos a))
  · omega
def enI : Int → Nat
  | .ofNat n => 2 * n
  | .negSucc n => 2 * n + 1
theorem enI_inj : ∀ {a b : Int}, enI a = enI b → a = b
  | .ofNat a, .ofNat b, h => by
    have h : 2 * a = 2 * b := h
    rw [show a = b by omega]
  | .ofNat a, .negSucc b, h => by
    have h : 2 * a = 2 * b + 1 := h
    omega
  | .negSucc a, .ofNat b, h => by
    have h : 2 * a + 1 = 2 * b := h
    omega
  | .negSucc a, .negSucc b, h => by
    have h : 2 * a + 1 = 2 * b + 1 := h
    rw [show a = b by omega]
def enL {α : Type} (f : α → Nat) : List α → Nat
  | [] => 0
  | x :: l => pr (f x) (enL f l)
theorem enL_inj {α : Type} {f : α → Nat} (hf : ∀ {x y}, f x = f y → x = y) : ∀ {a b : List α}, enL f a = enL f b → a = b
  | [], [], _ => rfl
  | [], _ :: _, h => absurd h.symm pr_pos
  | _ :: _, [], h => absurd h pr_pos
  | x :: a, y :: b, h => by
    obtain ⟨e1, e2⟩ := pr_inj (show pr (f x) (enL f a) = pr (f y) (enL f b) from h)
    rw [hf e1, enL_inj hf e2]
def enE (e : List Int × Int) : Nat := pr (enL enI e.1) (enI e.2)
theorem enE_inj {x y : List Int × Int} (h : enE x = enE y) : x = y := by
  obtain ⟨e1, e2⟩ := pr_inj h
  exact Prod.ext (enL_inj enI_inj e1) (enI_inj e2)
def TokV.en : TokV → Nat
  | .rng n => 2 * enI n
  | .tab l => 2 * enL enE l + 1
theorem TokV.en_inj : ∀ {x y : TokV}, x.en = y.en → x = y
  | .rng a, .rng b, h => by
    have h : 2 * enI a = 2 * enI b := h
    rw [enI_inj (a := a) (b := b) (by omega)]
  | .rng a, .tab b, h => by
    have h : 2 * enI a = 2 * enL enE b + 1 := h
    omega
  | .tab a, .rng b, h => by
    have h : 2 * enL enE a + 1 = 2 * enI b := h
    omega
  | .tab a, .tab b, h => by
    have h : 2 * enL enE a + 1 = 2 * enL enE b + 1 := h
    rw [enL_inj enE_inj (show enL enE a = enL enE b by omega)]
open Classical in
noncomputable def tokV (k : Nat) : TokV := if h : ∃ x : TokV, x.en = k then Classical.choose h else .rng 0
theorem tokV_en (x : TokV) : tokV x.en = x := by
  unfold tokV
  rw [dif_pos ⟨x, rfl⟩]
  exact TokV.en_inj (Classical.choose_spec (⟨x, rfl⟩ : ∃ y : TokV, y.en = x.en))
def RngAt (n : Int) (a : Addr) (h : Heap) : Prop := ∃ t u v, IsRange h a 0 n 1 t u v
def tokH (x : TokV) (a : Addr) : HO := match x with
  | .rng n => .ext (RngAt n a)
  | .tab l => .dK []
/-- the number of such a value -/
def TokV.no (x : TokV) : Nat := 1000 + x.en
noncomputable def tokK (k : Nat) (a : Addr) : HO := if k = 0 then .ext (PurseAt a) else if k = 1 then .ext (SpringAt a) else if k < 1000 then .dK [] else tokH (tokV (k - 1000)) a
theorem tokK_no (x : TokV) (a : Addr) : tokK x.no a = tokH x a := by
  unfold tokK TokV.no
  rw [if_neg (by omega), if_neg (by omega), if_neg (by omega), Nat.add_sub_cancel_left, tokV_en]
theorem tokK_ok (k : Nat) (a : Addr) : (∀ xs, tokK k a ≠ .lst xs) ∧ ∀ C dx fs, tokK k a ≠ .ins C dx fs := by
  unfold tokK
  split
  · exact ⟨(fun _ h => by cases h), (fun _ _ _ h => by cases h)⟩
  · split
    · exact ⟨(fun _ h => by cases h), (fun _ _ _ h => by cases h)⟩
    · split
      · exact ⟨(fun _ h => by cases h), (fun _ _ _ h => by cases h)⟩
      · cases tokV (k - 1000) with
        | rng n => exact ⟨(fun _ h => by cases h), (fun _ _ _ h => by cases h)⟩
        | tab l => exact ⟨(fun _ h => by cases h), (fun _ _ _ h => by cases h)⟩
/-- what the dict of a number holds -/
noncomputable def tokL (k : Nat) : List (List Int × Int) := match tokV (k - 1000) with
  | .tab l => l
  | _ => []
theorem tokL_no (l : List (List Int × Int)) : tokL (TokV.tab l).no = l := by
  unfold tokL TokV.no
  rw [Nat.add_sub_cancel_left, tokV_en]
theorem isTab_tab (l : List (List Int × Int)) : isTab (TokV.tab l).no = true := by
  unfold isTab
  have e : (TokV.tab l).no % 2 = 1 := by
    show (1000 + (2 * enL enE l + 1)) % 2 = 1
    omega
  have e2 : Nat.ble 1001 (TokV.tab l).no = true := Nat.ble_eq.mpr (by
    show 1001 ≤ 1000 + (2 * enL enE l + 1)
    omega)
  rw [e, e2] <;> rfl
noncomputable def ctK (cn : List Str) (nm : List (List Str)) (K : PySem.W.Frag) : CT := { addr := ad cn K, names := fun n => nm.getD n [], tok := tokK, tokOk := tokK_ok, tabl := tokL }
theorem inB_ok {C : Addr} {K : PySem.W.Frag} (c : Cls K C) (h : inB C K = true) : C8.InsC K C := by
  obtain ⟨h1, h⟩ := He.ba h
  obtain ⟨h2, h⟩ := He.ba h
  obtain ⟨h3, h⟩ := He.ba h
  obtain ⟨h4, h5⟩ := He.ba h
  exact ⟨c, He.eqO_ok h1, He.eqO_ok h2, of_decide_eq_true h3, of_decide_eq_true h4, of_decide_eq_true h5⟩
theorem allP_ok {n : Nat} {p : Nat → Bool} (h : allP n p = true) {i : Nat} (hi : i < n) : p i = true := List.all_eq_true.mp h i (List.mem_range.mpr hi)
theorem isB_ok {cn : List Str} {nm : List (List Str)} {sub : Sub2} {K : PySem.W.Frag} (h : isB cn sub K = true) (hs : ∀ c c' b, sub c c' = some b → c < cn.length ∧ c' < cn.length ∧ (sub c c).isSome = true) : IsiOk K (ctK cn nm K) sub := by
  obtain ⟨h1, h2⟩ := He.ba h
  have h3 : ∀ c, (sub c c).isSome = true → clB (cn.getD c Str.empty) K = true ∧ inB (ad cn K c) K = true ∧ ∀ m ∈ kinds, PySem.W.kitOne K (.ref (ad cn K c)) (.type m) = some false ∧ PySem.W.kitOne K (.type m) (.ref (ad cn K c)) = some false := fun c hc => by
    obtain ⟨b, e⟩ := Option.isSome_iff_exists.mp hc
    obtain ⟨q, _⟩ := He.ba (allP_ok h2 (hs _ _ _ e).1)
    rw [e] at q
    obtain ⟨q1, q⟩ := He.ba q
    obtain ⟨q2, q3⟩ := He.ba q
    refine ⟨q1, q2, fun m hm => ?_⟩
    obtain ⟨q4, q5⟩ := He.ba (List.all_eq_true.mp q3 m hm)
    exact ⟨of_decide_eq_true q4, of_decide_eq_true q5⟩
  refine ⟨fun k m hk hm => of_decide_eq_true (List.all_eq_true.mp (List.all_eq_true.mp h1 k hk) m hm), fun c c' b e => ?_, fun c m hc hm => ((h3 c hc).2.2 m hm).1, fun c m hc hm => ((h3 c hc).2.2 m hm).2⟩
  obtain ⟨_, q⟩ := He.ba (allP_ok h2 (hs _ _ _ e).1)
  have q2 := allP_ok q (hs _ _ _ e).2.1
  rw [e] at q2
  have z := h3 c (hs _ _ _ e).2.2
  exact ⟨of_decide_eq_true q2, inB_ok (He.cls_ok z.1) z.2.1⟩
theorem eqB_ok {cn : List Str} {nm : List (List Str)} {has : Nat → Bool} {K : PySem.W.Frag} (h : eqB cn has K = true) (T : EqT) (hT : ∀ c, (T c).isSome = true → has c = true ∧ c < cn.length) : ApartT T (ctK cn nm K) ∧
    ∀ (X : Cx) (k : Nat) (wf : Wf) (c : Nat), X.K = K → (T c).isSome = true → (∃ fd ps, FnOk X.prog X.w X.K X.mg X.base (L2.CX X.prog X.w) k (He.ma K (ad cn K c) "__eq__") fd ps (spD X.K (ctK cn nm K) wf) ∧ Binds X.K fd ps []) → EqAtO X (ctK cn nm K) T c k wf := by
  have one : ∀ c, (T c).isSome = true → PySem.W.findIn K (.ref (ad cn K c)) "__eq__" = some (some (.ref (He.ma K (ad cn K c) "__eq__"))) ∧ PySem.W.isFn K (.ref (He.ma K (ad cn K c) "__eq__")) = true ∧ PySem.W.findIn K (.ref (ad cn K c)) "__ne__" = some (some (.builtin "object.__ne__")) ∧
      PySem.W.mroIn K (ad cn K c) (.type "object") = some true ∧ (["NoneType", "bool", "int", "str", "list", "tuple", "dict"].all fun n => PySem.W.notFirst K (ad cn K c) (.type n)) = true ∧ ∀ c', (T c').isSome = true → PySem.W.notFirst K (ad cn K c) (.ref (ad cn K c')) = true ∧ (decide (ad cn K c = ad cn K c') == (c == c')) = true := fun c hc => by
    obtain ⟨z1, z2⟩ := hT c hc
    have q := allP_ok h z2
    rw [if_pos z1] at q
    obtain ⟨q1, q⟩ := He.ba q
    obtain ⟨q2, q⟩ := He.ba q
    obtain ⟨q3, q⟩ := He.ba q
    obtain ⟨q4, q⟩ := He.ba q
    obtain ⟨q5, q6⟩ := He.ba q
    refine ⟨He.eqO_ok q1, q2, He.eqO_ok q3, of_decide_eq_true q4, q5, fun c' hc' => ?_⟩
    obtain ⟨y1, y2⟩ := hT c' hc'
    have r := allP_ok q6 y2
    rw [if_pos y1] at r
    exact He.ba r
  refine ⟨fun c c' hc hc' e => ?_, fun X k wf c eX hc hF => ?_⟩
  · have z := ((one c hc).2.2.2.2.2 c' hc').2
    rw [decide_eq_true (show ad cn K c = ad cn K c' from e)] at z
    have z2 : true = (c == c') := eq_of_beq z
    exact eq_of_beq z2.symm
  · subst eX
    obtain ⟨o1, o2, o3, o4, o5, o6⟩ := one c hc
    obtain ⟨fd, ps, F, b⟩ := hF
    exact ⟨⟨_, fd, ps, o1, o2, F, b⟩, o3, o4, o5, fun c' hc' => (o6 c' hc').1⟩
end Dl.Hd
set_option Elab.async false
set_option linter.all false
set_option maxRecDepth 100000
set_option maxHeartbeats 4000000
namespace Dl
open PySem PySem.Spec L2
def CPowX (a n : Int) : Prop := 0 ≤ n ∧ (Builtin.Int.intBits a : Int) * n ≤ 2 ^ 27
def oPow : O2
  | .int i, .int j, Q => CPowX i j ∧ Q (.int (i ^ j.toNat))
  | _, _, _ => False
section
variable {X : Cx} {ct : CT} {W : WX} {e o : Expr} {td : TD} {pos pos' p : Pos} {i c : Nat} {f : Str}
theorem op_powX : OpR X (binaryOp .Pow) (rI CPowX fun i j => .int (i ^ j.toNat)) := opI fun _ _ _ _ _ _ _ hc q => PyProof.Rows.pow_int hc.1 hc.2 q
theorem od_pow : OpR X (binaryOp .Pow) (R2D X.K ct oPow) := od_int (C := CPowX) op_powX fun x y Q h => by
  unfold oPow at h
  split at h
  · exact ⟨_, _, rfl, rfl, h.1, h.2⟩
  · exact h.elim
theorem takes0 {X : Cx} : Takes X W0 := fun _ _ ⟨_, _, _, _, _, _, _, _, _, _, _, _, _, _, _, _, w⟩ => w.elim
def sFld (c i : Nat) (f : Str) (td : TD) : TDS := fun DD s => (∃ fs, s[i]? = some (.ini c fs)) ∧ sFldI i f td DD s
theorem ds_fldc (ho : PE X o (tVar i)) (he : DE X ct W e td) (cl : Cls X.K (ct.addr c)) (na : NoAttr X.K (ct.addr c) f) (hs : swapsWith e (some (.Attribute o f pos')) pos.line X.env = pure false := by rfl) : DS X ct W (.Assign [.Attribute o f pos'] e pos) (sFld c i f td) :=
  ds_fld (c := c) ho he (fun k ek => by subst ek; exact ⟨cl, na⟩) hs
theorem pg_nm {x : Str} (hN : X.N.Nodup) (hi : X.N[i]? = some x) (hx : Loc X.env.scope x) (hf : X.fn x = true ∨ X.env.scope.names.lookup x = some .local := by first | exact .inl rfl | exact .inr rfl | assumption) : PG X (.Name x pos) (gT X.K (.nm i)) := pg_name hN hi hx hf
theorem pg_tp2 {x y : Str} {i j k : Nat} {p1 p2 : Pos} (hc : X.calm = true) (h1 : PG X (.Name x p1) (gName i)) (h2 : PG X (.Name y p2) (gName j)) (hn : (assignEach [.Name x p1, .Name y p2] X.env).length = 2 := by rfl) (hst : (assignEach [.Name x p1, .Name y p2] X.env).findIdx? (·.1) = none := by rfl)
    (ha : (assignEach [.Name x p1, .Name y p2] X.env).map (·.2) = assign (.Name x p1) X.env :: (assignEach [.Name y p2] X.env).map (·.2) := by rfl) (hb : (assignEach [.Name y p2] X.env).map (·.2) = assign (.Name y p2) X.env :: (assignEach [] X.env).map (·.2) := by rfl) :
    PG X (.Tuple [.Name x p1, .Name y p2] k pos) (gT X.K (.tp [i, j])) := pg_tup hc (pgs_cons h1 (pgs_cons h2 pgs_nil hb) ha) hn hst
end
end Dl
set_option Elab.async false
set_option linter.all false
set_option maxRecDepth 100000
set_option maxHeartbeats 4000000
namespace Dl
open PySem PySem.Spec L2
def vOf : D → V
  | .bl b => .bl b
  | .int i => .int i
  | .str x => .str x
  | _ => .non
theorem konst_of {K : PySem.W.Frag} {ct : CT} : ∀ {ds : List D} {vs : List V}, ds.all flatD = true → vs = ds.map vOf → Konst K ct ds vs
  | [], vs, _, e => by subst e; exact Konst.nil
  | d :: ds, vs, f, e => by
    subst e
    rw [List.all_cons, Bool.and_eq_true] at f
    intro H O
    refine RepL.cons ?_ (konst_of f.2 rfl H O)
    cases d <;> first | (cases f.1; done) | (simp only [Rep]; rfl)
def listOfD : D → Option (List D)
  | .lst xs => some xs
  | .tup xs => some xs
  | .scr ns => some (ns.map D.int)
  | .str z => some (chrs z)
  | _ => none
section
variable {K : PySem.W.Frag} {ct : CT} {P : Program} {w : World} {mg : Str → Option Value} {base : Heap} {k c : Nat} {f : Addr} {fd : FuncData} {ps : List Str} {wf : Wf} {wi : Wi}
theorem fn_w (g : Gh) (F : FnOk P w K mg base (L2.CX P w) k f fd ps (spD K ct wf)) : FnOk P w K mg base (L2.CX P w) k f fd ps (spD K (ct.w g) wf) :=
  F.imp fun vs H Q E ⟨O, ds, QR, QE, dm, r, q, k, kx⟩ => ⟨O, ds, QR, QE, dm, RepL.w.mp r, q, fun v d H' s r2 => k v d H' s (Rep.w.mpr r2), fun c x cls dd H' s a => kx c x cls dd H' s (ExcAt.w.mpr a)⟩
end
end Dl
set_option Elab.async false
set_option linter.all false
set_option maxRecDepth 100000
set_option maxHeartbeats 4000000
namespace Dl
open PySem PySem.Spec L2
def spDrawL : Sp := fun vs H Q _ => ∃ (a : Addr) (i j k m : Int), vs = [.ref a, .int m] ∧ H a = some (.lst [.int i, .int j, .int k]) ∧ 0 < m ∧ m.natAbs.log2 < 9000 ∧ ∀ d i' j' k' : Int, 0 ≤ d → d < m → Q (.int d) (upd H a (.lst [.int i', .int j', .int k']))
def wDraw : Wf := fun ds Q _ => ∃ m : Int, ds = [.tok 0, .int m] ∧ 0 < m ∧ m.natAbs.log2 < 9000 ∧ ∀ d : Int, 0 ≤ d → d < m → Q (.int d)
def wPur (wn : Wn) : Wf := fun ds Q E => wn ds (fun ds' => (∃ i j k : Int, ds' = [.int i, .int j, .int k]) ∧ Q (.tok 0)) E
section
variable {K : PySem.W.Frag} {ct : CT} {P : Program} {w : World} {mg : Str → Option Value} {base : Heap} {k c : Nat} {f : Addr} {fd : FuncData} {ps : List Str} {wn : Wn}
theorem ext_mono {a : Addr} {h1 h2 : Heap} (h : Hd.PurseAt a h1) (k : ∀ o, h1.get? a = some o → h2.get? a = some o) : Hd.PurseAt a h2 := by
  obtain ⟨i, j, k', its, n, r, e⟩ := h
  exact ⟨i, j, k', its, n, r, k _ e⟩
theorem ext_ok {H : Hp} {h : Heap} {a : Addr} (e : Hd.PurseAt a h) : ObjOk P w H h a (.ext (Hd.PurseAt a)) := by
  obtain ⟨i, j, k', its, n, r, e2⟩ := id e
  exact ⟨e, ⟨_, e2⟩, fun h1 h2 x y => ext_mono x y⟩
theorem draw_tok (ht : ∀ a, ct.tok 0 a = .ext (Hd.PurseAt a)) (F : FnOk P w K mg base (L2.CX P w) k f fd ps spDrawL) (hp : ps.length = 2) : FnOk P w K mg base (L2.CX P w) k f fd ps (spD K ct wDraw) := by
  refine ⟨fun vs H Q E h => ?_, fun A outer s H args us vs Q E hr e0 hb r h => ?_⟩
  · obtain ⟨O, ds, QR, QE, dm, r, ⟨m, rfl, _⟩, _⟩ := h
    rw [r.length, hp]
    rfl
  · obtain ⟨O, ds, QR, QE, dm, rr, ⟨m, rfl, hm, hl, q⟩, k1, _⟩ := h
    obtain ⟨v, u, rfl, h1, h2⟩ := rep2 rr
    obtain ⟨a, rfl, _, ha⟩ := (rep_tok).mp h1
    rw [rep_int] at h2
    subst h2
    rw [ht] at ha
    obtain ⟨⟨i, j, n, its, nn, rv, eo⟩, _, _⟩ := (show ObjOk P w H s.heap a (.ext (Hd.PurseAt a)) from e0.hok a _ ha)
    have back : ∀ xs, upd (upd H a (.lst xs)) a (.ext (Hd.PurseAt a)) = H := fun xs => by
      rw [upd_upd]
      funext b
      by_cases z : b = a
      · subst z
        rw [upd_same, ha]
      · rw [upd_ne z]
    have ok1 : HOk P w (upd H a (.lst [.int i, .int j, .int n])) s.heap := e0.hok.write (x := a) (e := a) (by rw [ha]; exact trivial) (.inl rfl) (fun _ _ _ q => q) ⟨_, eo⟩ ⟨by show 3 ≤ sizeLine; decide, its, nn, rv, eo⟩
    have e1 : Env0 P w K mg base A outer s (upd H a (.lst [.int i, .int j, .int n])) := ⟨e0.frames, e0.mod, fun b o z => by
      obtain ⟨z1, z2⟩ := e0.bs b o z
      exact ⟨z1, by rw [upd_ne (fun y => by rw [y, ha] at z2; cases z2)]; exact z2⟩, e0.bsz, e0.funs, fun b hb => by
      have z2 := e0.frf b hb
      rw [upd_ne (fun y => by rw [y, ha] at z2; cases z2)]
      exact z2, ok1, e0.bare⟩
    refine codeAny_mono (F.run A outer s _ args us _ (fun v H' => ∃ d i' j' k' : Int, 0 ≤ d ∧ d < m ∧ v = .int d ∧ H' = upd (upd H a (.lst [.int i, .int j, .int n])) a (.lst [.int i', .int j', .int k'])) (fun _ _ _ => False) hr e1 hb r ⟨a, i, j, n, m, rfl, upd_same, hm, hl, fun d i' j' k' h0 h1 => ⟨d, i', j', k', h0, h1, rfl, rfl⟩⟩) fun res s' hs => ?_
    cases res with
    | error e =>
      obtain ⟨_, _, _, _, _, _, _, _, _, _, _, _, z⟩ := hs
      exact z.elim
    | ok fl =>
      cases fl with
      | ret u =>
        obtain ⟨v, H', os, bare, un, hok, ru, d, i', j', k', h0, h1, rfl, rfl⟩ := hs
        rw [upd_upd] at hok un
        obtain ⟨z, its', nn', rv', eo'⟩ := hok a _ upd_same
        have okH : HOk P w H s'.heap := by
          have y := hok.write (x := a) (e := a) (h' := s'.heap) (o' := .ext (Hd.PurseAt a)) (by rw [upd_same]; exact trivial) (.inl rfl) (fun _ _ _ q => q) ⟨_, eo'⟩ (ext_ok ⟨i', j', k', its', nn', rv', eo'⟩)
          rw [back] at y
          exact y
        have ne : ∀ b, H b = none → b ≠ a := fun b hb z => by
          rw [z, ha] at hb
          cases hb
        refine ⟨.int d, H, os, bare, ⟨fun b o e hb hf hx => un.keep b o e (by rw [upd_ne (ne b hb)]; exact hb) hf hx, fun b o e hb hf hx => un.slot b o e (by rw [upd_ne (ne b hb)]; exact hb) hf hx, fun b o e hb hx => hb, un.there, fun b xs e => e, fun b o u e => e, fun b ps e => ⟨#[], by simpa using e⟩⟩, okH, ru, ?_⟩
        exact k1 _ (.int d) H (Same.refl H) (rep_int.mpr rfl) (q d h0 h1)
      | _ => exact hs
theorem purse_tok (ht : ∀ a, ct.tok 0 a = .ext (Hd.PurseAt a)) (F : FnOk P w K mg base (L2.CX P w) k f fd ps (spN K ct wn)) : FnOk P w K mg base (L2.CX P w) k f fd ps (spD K ct (wPur wn)) := by
  refine ⟨fun vs H Q E h => ?_, fun A outer s H args us vs Q E hr e0 hb r h => ?_⟩
  · obtain ⟨O, ds, QR, QE, dm, r, q, k1, k2⟩ := h
    exact F.len vs H (fun _ _ => True) E ⟨O, ds, _, QE, dm, r, q, fun _ _ _ _ _ _ _ _ _ => trivial, k2⟩
  · obtain ⟨O, ds, QR, QE, dm, rr, q, k1, k2⟩ := h
    refine codeAny_mono (F.run A outer s H args us vs (fun v H' => ∃ p i j n, v = .ref p ∧ H p = none ∧ Same H H' ∧ H' p = some (.lst [.int i, .int j, .int n]) ∧ QR (.tok 0)) E hr e0 hb r ⟨O, ds, _, QE, dm, rr, q, fun p us ds' H' hp s l r z => by
      obtain ⟨⟨i, j, n, rfl⟩, z⟩ := z
      obtain ⟨v1, q1, rfl, y1, r1⟩ := r.cons_inv
      obtain ⟨v2, v3, rfl, y2, y3⟩ := rep2 r1
      rw [rep_int] at y1 y2 y3
      subst y1 y2 y3
      exact ⟨p, i, j, n, rfl, hp, s, l, z⟩, k2⟩) fun res s' hs => ?_
    cases res with
    | error e => exact hs
    | ok fl =>
      cases fl with
      | ret u =>
        obtain ⟨v, H', os, bare, un, hok, ru, p, i, j, n, rfl, hp, sm, hl, z⟩ := hs
        obtain ⟨_, its', nn', rv', eo'⟩ := hok p _ hl
        have ok2 := hok.write (x := p) (e := p) (h' := s'.heap) (o' := .ext (Hd.PurseAt p)) (by rw [hl]; exact trivial) (.inl rfl) (fun _ _ _ q => q) ⟨_, eo'⟩ (ext_ok ⟨i, j, n, its', nn', rv', eo'⟩)
        have ne : ∀ b o, H b = some o → b ≠ p := fun b o hb z => by
          rw [z, hp] at hb
          cases hb
        refine ⟨.ref p, _, os, bare, ⟨un.keep, un.slot, fun b o e hb hx => ?_, un.there, fun b xs e => by rw [upd_ne (ne b _ e)]; exact un.tups b xs e, fun b o u e => by rw [upd_ne (ne b _ e)]; exact un.frzs b o u e, fun b ps e => by
          obtain ⟨more, y⟩ := un.tbls b ps e
          exact ⟨more, by rw [upd_ne (ne b _ e)]; exact y⟩⟩, ok2, ru, ?_⟩
        · have y := un.free b o e hb hx
          have nb : b ≠ p := fun z => by
            rw [z, hl] at y
            cases y
          rw [upd_ne nb]
          exact y
        · refine k1 _ (.tok 0) _ (fun b o e => by rw [upd_ne (ne b _ e)]; exact sm b o e) ((rep_tok).mpr ⟨p, rfl, dom_new dm hp, by rw [ht]; exact upd_same⟩) z
      | _ => exact hs
end
end Dl
set_option Elab.async false
set_option linter.all false
set_option maxRecDepth 100000
set_option maxHeartbeats 4000000
namespace Dl
open PySem PySem.Spec L2
end Dl
set_option Elab.async false
set_option linter.all false
set_option maxRecDepth 100000
set_option maxHeartbeats 400000
namespace Dl
open PySem PySem.Spec L2
end Dl
set_option Elab.async false
set_option linter.all false
set_option maxRecDepth 100000
set_option maxHeartbeats 4000000
namespace Dl
open PySem PySem.Spec L2
section
variable {X : Cx} {ct : CT} {W : WX} {e o : Expr} {td to : TD} {te : TE} {pos apos p p' : Pos} {x x' y z : Str}
theorem ds_pass : DS X ct W (.Pass pos) sNil := PS.imp ps_pass fun E σ H ⟨O0, H0, f, dσ, DD, h, t, e⟩ => e.nx _ _ _ _ h t
end
end Dl
set_option Elab.async false
set_option linter.all false
set_option maxRecDepth 100000
set_option maxHeartbeats 4000000
namespace Dl
open PySem PySem.Spec L2
def bLenO (tbl : Nat → Option Wf) : List D → (D → Prop) → Prop
  | [.obj c fs], Q => ∃ wf, tbl c = some wf ∧ wf [.obj c fs] (fun d => ∃ n : Int, d = .int n ∧ 0 ≤ n ∧ n < 2 ^ 63 ∧ Q (.int n)) (fun _ _ => False)
  | ds, Q => bLen ds Q
structure LenAt (X : Cx) (ct : CT) (n : Nat) (wf : Wf) : Prop where
  fn : ∃ f fd ps k ds, Meth X.K (ct.addr n) "__len__" f ∧ FnOk X.prog X.w X.K X.mg X.base (L2.CX X.prog X.w) k f fd ps (spD X.K ct wf) ∧ Vals [] ds ∧ Binds X.K fd ps ds ∧ Room (k + 1) X.A
section
variable {X : Cx} {ct : CT} {W : WX} {k : Nat} {f : Addr} {fd : FuncData} {ps : List Str} {wf : Wf}
/-- a def's run somewhere below, no error wanted -/
theorem own_run0 {pins : List (Addr × Obj)} {s : Shared} {σ : St} {H : Hp} {O : Addr → Prop} {A : Around} {ds : List D} {vs : List V} {us : List Value} {Q : D → Prop} {E : Value → Shared → Prop}
    (F : FnOk X.prog X.w X.K X.mg X.base (L2.CX X.prog X.w) k f fd ps (spD X.K ct wf)) (hb : Binds X.K fd ps []) (sb : Sub X k A) (I : Inv X pins σ H s) (rv : Vals vs us) (dm : Dom H O) (r : RepL X.K ct H O ds vs)
    (q : wf ds Q (fun _ _ => False)) : wpAny (model X.prog X.w) A (call (.ref f) us) (fun u s' => ∃ d v H', Q d ∧ Inv X pins σ H' s' ∧ Same H H' ∧ RelV v u ∧ Rep X.K ct H' O d v) E s := by
  have hsp : spD X.K ct wf vs H (fun v H' => ∃ d, Q d ∧ Same H H' ∧ Rep X.K ct H' O d v) (fun _ _ _ => False) := ⟨O, ds, _, _, dm, r, q, fun v d2 H' e r z => ⟨d2, z, e, r⟩, fun _ _ _ _ _ _ _ z => z.elim⟩
  have e0 : Env0 X.prog X.w X.K X.mg X.base A X.stack s H := by
    have e := I.env0
    exact ⟨(by rw [sb.fr]; exact e.frames), e.mod, e.bs, e.bsz, e.funs, e.frf, e.hok, e.bare⟩
  have hl := F.len _ _ _ _ hsp
  refine wpAny_call (codeAny_mono (F.run A X.stack s H ⟨us, []⟩ us vs _ (fun _ _ _ => False) sb.room e0 (by
    have := hb s us I.kIn (by rw [List.append_nil, ← rv.length]; exact hl)
    simpa using this) rv hsp) fun res s' hq => ?_)
  cases res with
  | error e =>
    obtain ⟨_, _, _, _, _, _, _, _, _, _, _, _, z⟩ := hq
    exact z.elim
  | ok fl =>
    cases fl with
    | ret u =>
      obtain ⟨v, H', I', rv', d, hd, e, r'⟩ := I.after hq
      exact ⟨d, v, H', hd, I', e, rv', r'⟩
    | next => exact False.elim hq
    | brk => exact False.elim hq
    | cont => exact False.elim hq
theorem cd_lenO {tbl : Nat → Option Wf} (hX : X.A.frames = X.A.frames) (h : ∀ n wf, tbl n = some wf → LenAt X ct n wf) : CallR X (.builtin "len") (RCD X.K ct (bLenO tbl)) := by
  intro pins s σ H vs us Q I rv hq
  obtain ⟨O, ds, QD, dm, r, o, k⟩ := hq
  by_cases z : ∃ c fs, ds = [.obj c fs]
  · obtain ⟨c, fs, rfl⟩ := z
    obtain ⟨wf, ht, q⟩ := o
    obtain ⟨f, fd, ps, kk, ds0, hm, F, hv0, hb, hr⟩ := (h c wf ht).fn
    cases hv0
    obtain ⟨v, e, h1⟩ := rep1 r
    subst e
    obtain ⟨a, dx, ws, rfl, na, l, hl, rl⟩ := rep_obj.mp h1
    obtain ⟨u, rfl, ru⟩ := Vals.one rv
    cases ru
    obtain ⟨mA, J, _⟩ := ins_get I.hok l
    obtain ⟨od, J, _⟩ := J.look
    obtain ⟨m, hF⟩ := I.fr
    refine PySem.W.len_K hF I.ok.mod.kin J hm.at_ hm.fn (wpAny_mono (own_run0 F hb ⟨hr.in1, rfl⟩ I rv dm r q) (fun u s' hs => ?_) fun _ _ y => y)
    obtain ⟨d, v, H', ⟨n, rfl, n0, n1, qn⟩, I', e, rv', r'⟩ := hs
    rw [rep_int.mp r'] at rv'
    obtain ⟨t, rfl⟩ := rv'
    exact ⟨⟨n0, n1⟩, .int n, H', I'.tok _, ⟨_, rfl⟩, k _ _ H' e (rep_int.mpr rfl) qn⟩
  · have o' : bLen ds QD := by
      unfold bLenO at o
      split at o
      · exact absurd ⟨_, _, rfl⟩ z
      · exact o
    exact cd_len (ct := ct) pins s σ H vs us Q I rv ⟨O, ds, QD, dm, r, o', k⟩
end
end Dl
set_option Elab.async false
set_option linter.all false
set_option maxRecDepth 100000
set_option maxHeartbeats 4000000
namespace Dl
open PySem PySem.Spec L2
theorem blB_ok {K : PySem.W.Frag} {h : Heap} {mg : Str → Option Value} (X : K.In h) (G : h.Ns mainGlobals mg) {x : Str} {id : String} (c : blB x id K = true) : mg x = some (.builtin id) := PySem.W.mg_of X G (He.eqO_ok c)
def bLcm : List D → (D → Prop) → Prop
  | [.int a, .int b], Q => a.natAbs < 2 ^ 6000 ∧ b.natAbs < 2 ^ 6000 ∧ Q (.int (a.natAbs.lcm b.natAbs : Nat))
  | _, _ => False
section
variable {X : Cx} {ct : CT} {W : WX} {e a : Expr} {es : List Expr} {td ta : TD} {tda : TDA} {pos p : Pos} {x : Str} {c : List D → (D → Prop) → Prop} {id : String}
theorem de_Bf (hc : CallR X (.builtin id) (RCD X.K ct c)) (hm : X.mg x = some (.builtin id)) (ha : DA X ct W (e :: es) tda) (hg : Gl X x := by rfl) (hdb : (x == ("__debug__" : Str)) = false := by decide)
    (he : starEach (e :: es) X.env = (false, eval e X.env) :: starEach es X.env := by rfl) (hpl : (backTo pos (starEach es X.env)).any (·.1) = false := by rfl) : DE X ct W (.Call (.Name x p) (e :: es) [] pos) (dB c tda) :=
  PE.imp (pe_callBfun hc hg hm ha hdb he hpl) fun σ H Q ⟨O, f, dσ, QD, QE, hs, h, k, kx⟩ => by
    refine ⟨O, f, dσ, _, QE, hs, h, fun vs ds H1 e1 r q => ?_, kx⟩
    exact ⟨O, ds, QD, (hs.same e1).dom, r, q, fun v d H2 e2 => k v d H2 (e1.trans e2)⟩
theorem log_lt {n k : Nat} (h : n < 2 ^ k) (hk : 0 < k) : n.log2 < k := by
  by_cases h0 : n = 0
  · subst h0
    rw [Nat.log2_zero]
    exact hk
  · exact (Nat.log2_lt h0).mpr h
theorem cd_lcm : CallR X (.builtin "math.lcm") (RCD X.K ct bLcm) := by
  intro pins s σ H vs us Q I rv ⟨O, ds, QD, dm, r, o, k⟩
  unfold bLcm at o
  split at o
  · rename_i a b
    obtain ⟨v, u, e, h1, h2⟩ := rep2 r
    subst e
    rw [rep_int.mp h1, rep_int.mp h2] at rv
    obtain ⟨t, u, rfl⟩ := Vals.int2 rv
    obtain ⟨ha, hb, q⟩ := o
    have e1 : Nat.lcm 1 a.natAbs = a.natAbs := Nat.lcm_one_left _
    have l1 : (max 1 a.natAbs).log2 < 6000 := log_lt (Nat.max_lt.mpr ⟨Nat.one_lt_two_pow (by decide), ha⟩) (by decide)
    have l2 : (max a.natAbs b.natAbs).log2 < 6000 := log_lt (Nat.max_lt.mpr ⟨ha, hb⟩) (by decide)
    have hz : a.natAbs.lcm b.natAbs < 2 ^ 12000 := by
      have h3 : a.natAbs.lcm b.natAbs ≤ a.natAbs * b.natAbs := by
        unfold Nat.lcm
        exact Nat.div_le_self _ _
      have h4 : a.natAbs * b.natAbs < 2 ^ 6000 * 2 ^ 6000 := Nat.mul_lt_mul'' ha hb
      rw [← Nat.pow_add] at h4
      omega
    have l3 : (a.natAbs.lcm b.natAbs).log2 < 12000 := log_lt hz (by decide)
    have hb3 : bitsLine = 134217728 := by decide
    refine call_function_meets PySem.W.MGF.kind_lcm PySem.W.MGF.plain_lcm PySem.W.MGF.entry_lcm (PySem.W.MGF.args_lcm _ _) (PySem.W.mg_run_lcm a t b u (by omega) (by omega) ?_).meets ?_
    · rw [e1, Int.natAbs_natCast, hb3]
      omega
    · rw [e1]
      exact ⟨.int _, H, I.tok _, ⟨_, rfl⟩, k _ _ H (Same.refl H) (rep_int.mpr rfl) q⟩
  · exact o.elim
end
end Dl
set_option Elab.async false
set_option linter.all false
set_option maxRecDepth 100000
set_option maxHeartbeats 4000000
namespace Dl
open PySem PySem.Spec L2
section
variable {X : Cx} {ct : CT} {W : WX} {e te elt : Expr} {ifs : List Expr} {td : TD} {tt : TDT} {ti : TDI} {tg : Tg} {pos pos' pos0 : Pos} {scope : Scope} {own : List (Str × Nat)}
theorem lc_low {σ : St} {H : Hp} {Q : VK} (hin : tgIn tg (own.map (·.2)) = true) (h0 : liftE X.K ct W (dLc ti tg tt td (own.map (·.2))) σ H Q) :
    tLc (liftI X.K ct W ti) (gT X.K tg) (liftT X.K ct W0 tt) (liftE X.K ct W0 td) (own.map (·.2)) σ H Q := by
  obtain ⟨O, f, dσ, QD, QE, hs, h, k, kx⟩ := h0
  refine ⟨O, f, dσ, _, QE, hs, h, fun J ds H1 e1 it ⟨hl, q⟩ p hp => ?_, kx⟩
  have I := it H1 Cut.refl
  have h1 := hs.same e1
  have hO : ¬ O p := fun z => by
    obtain ⟨u, g⟩ := h1.dom p z
    rw [hp] at g
    cases g
  refine ⟨fun i m H' => m = ds.length - i ∧ i ≤ ds.length ∧ Same H1 H' ∧ ∃ acc accD, H' p = some (.lst acc) ∧ RepL X.K ct H' (fun b => O b ∨ b = p) accD acc ∧ accD.length ≤ i ∧ compR tg tt td (wipeD dσ (own.map (·.2))) (ds.drop i) (fun ys => QD (.lst (accD ++ ys))),
    ⟨ds.length, rfl, Nat.zero_le _, same_new hp, [], [], upd_same, RepL.nil, Nat.le_refl _, q⟩, ?_⟩
  rintro i m H' ⟨rfl, hi', s1, acc, accD, ea, ra, la, q'⟩
  by_cases hlt : i < ds.length
  · rw [List.drop_eq_getElem_cons hlt] at q'
    refine .inr ⟨I.go i H' s1 hlt, fun H2 => Same H1 H2 ∧ ∃ acc accD, H2 p = some (.lst acc) ∧ RepL X.K ct H2 (fun b => O b ∨ b = p) accD acc ∧ accD.length ≤ i + 1 ∧ compR tg tt td (wipeD dσ (own.map (·.2))) (ds.drop (i + 1)) (fun ys => QD (.lst (accD ++ ys))),
      fun H2 z => ⟨ds.length - (i + 1), by omega, rfl, hlt, z⟩, fun x H2 y => ?_⟩
    obtain ⟨s2, d, ed, rd⟩ := I.yld i H' x H2 s1 hlt y
    rw [List.getElem?_eq_getElem hlt] at ed
    cases ed
    have r2 : Rep X.K ct H2 (fun b => O b ∨ b = p) ds[i] x := rd _ fun b z => z.elim .inl fun z => .inr (by rw [z]; exact hp)
    -- the frame at H2
    have hE : ∀ {H3 : Hp}, Same H1 H3 → (∃ xs, H3 p = some (.lst xs)) → StE X.K ct H3 (fun b => O b ∨ b = p) f (wipeD dσ (own.map (·.2))) (L2.wipe σ (own.map (·.2))) := fun {H3} s3 ⟨xs, ex⟩ => by
      have z := h1.wipe (own.map (·.2))
      refine ⟨z.len, fun j t e => ?_, fun a ha => ?_⟩
      · obtain ⟨u, g1, g2⟩ := z.at_ j t e
        refine ⟨u, g1, ?_⟩
        cases t with
        | un => trivial
        | v d =>
          obtain ⟨v, e, r⟩ := g2
          exact ⟨v, e, (r.fresh hp fun b z => z).same s3⟩
        | own xs =>
          obtain ⟨e, n, vs, z, r⟩ := g2
          exact ⟨e, .inl n, vs, s3 _ _ z, (r.fresh hp fun b z => z).same s3⟩
        | ini c fs =>
          obtain ⟨e, n, ea, vs, z, r⟩ := g2
          exact ⟨e, .inl n, ea, vs, s3 _ _ z, (r.fresh hp fun b z => z).same s3⟩
        | exc k x => exact ⟨g2.1, (g2.2.fresh hp fun b z => z).same s3⟩
        | dic ks xs =>
          obtain ⟨e, n, vs, z, hl, r⟩ := g2
          exact ⟨e, .inl n, vs, s3 _ _ z, hl, (r.fresh hp fun b z => z).same s3⟩
      · rcases ha with ha | ha
        · obtain ⟨u, g⟩ := z.dom a ha
          exact ⟨u, s3 _ _ g⟩
        · rw [ha]
          exact ⟨_, ex⟩
    refine gT_okE hin (hE (s1.trans s2) ⟨acc, s2 _ _ ea⟩) wipe_wipe r2 q' fun dσ3 σ3 h3 w3 q3 => ⟨w3, ?_⟩
    refine ⟨_, f, dσ3, _, _, h3, q3, fun bb H4 s4 q4 => ?_, fun c x cls dd H5 _ _ z => z.elim⟩
    cases bb with
    | true =>
      rw [if_pos rfl]
      refine ⟨_, f, dσ3, _, _, h3.same s4, q4, fun v d H5 s5 r5 q5 => ⟨acc, s5 _ _ (s4 _ _ (s2 _ _ ea)), ?_, ?_, ?_⟩, fun c x cls dd H5 _ _ z => z.elim⟩
      · rw [ra.length]
        omega
      · intro b o e
        have ne : b ≠ p := fun z => by
          rw [z, hp] at e
          cases e
        rw [upd_ne ne]
        exact s5 _ _ (s4 _ _ (s2 _ _ (s1 b o e)))
      · have c : Chg (fun b => O b ∨ b = p) H5 (upd H5 p (.lst (acc ++ [v]))) := fun b o e => by
          by_cases z : b = p
          · subst z
            rw [s5 _ _ (s4 _ _ (s2 _ _ ea))] at e
            cases e
            exact .inr ⟨.inr rfl, trivial⟩
          · exact .inl (by rw [upd_ne z]; exact e)
        refine ⟨acc ++ [v], accD ++ [d], upd_same, (((ra.same (s2.trans (s4.trans s5))).app (RepL.cons r5 RepL.nil)).chg c), ?_, ?_⟩
        · rw [List.length_append]
          show accD.length + 1 ≤ i + 1
          omega
        · simp only [List.append_assoc, List.singleton_append]
          exact q5
    | false =>
      rw [if_neg Bool.false_ne_true]
      exact ⟨s1.trans (s2.trans s4), acc, accD, s4 _ _ (s2 _ _ ea), ra.same (s2.trans s4), Nat.le_succ_of_le la, q4⟩
  · have ei : i = ds.length := by omega
    subst ei
    rw [List.drop_length] at q'
    refine .inl ⟨I.stop H' s1, k _ (.lst accD) H' (e1.trans s1) (rep_lst.mpr ⟨p, acc, rfl, hO, ea, ra.less fun b z => .inl z⟩) ?_⟩
    have z : QD (.lst (accD ++ [])) := q'
    rw [List.append_nil] at z
    exact z
theorem ds_asgL {i : Nat} {x : Str} (hc : X.calm = true) (hN : X.N.Nodup) (hx : X.N[i]? = some x) (hl : X.env.scope.names.lookup x = some .local)
    (hsw : swapsWith (.ListComp elt [⟨te, e, ifs, 0⟩] scope pos) (some (.Name x pos')) pos0.line X.env = pure true) (hi : DI X ct W te e ti) (ok : BlkOk X.N X.env.scope scope own)
    (hg : ∀ (s : Shared) (H : Hp) (C : Addr) (cl : List (Str × Addr)) (fp : List Addr), PG (X.blk s H scope (compEnvC scope cl C X.env) fp) te (gT X.K tg)) (ht : ∀ (s : Shared) (H : Hp) (C : Addr) (cl : List (Str × Addr)) (fp : List Addr), DTs (X.blk s H scope (compEnvC scope cl C X.env) fp) ct W0 ifs tt)
    (he : ∀ (s : Shared) (H : Hp) (C : Addr) (cl : List (Str × Addr)) (fp : List Addr), DE (X.blk s H scope (compEnvC scope cl C X.env) fp) ct W0 elt td) (hin : tgIn tg (own.map (·.2)) = true) (hs : ∀ x, foldedSetIterable e X.env x = pure x := by intro _; rfl) :
    DS X ct W (.Assign [.Name x pos'] (.ListComp elt [⟨te, e, ifs, 0⟩] scope pos) pos0) (sAsg i (dLc ti tg tt td (own.map (·.2)))) :=
  PS.imp (ps_setLc (tt := liftT X.K ct W0 tt) (te := liftE X.K ct W0 td) hc hN hx hl hsw hi ok hg ht he hs) fun E σ H ⟨O0, H0, f, dσ, DD, h, t, en⟩ =>
    lc_low hin (h.ex en t fun v d H' s r q => en.nx _ _ _ _ ((h.sm s).set_v r) q)
end
end Dl
set_option Elab.async false
set_option linter.all false
set_option maxRecDepth 100000
set_option maxHeartbeats 4000000
namespace Dl
open PySem PySem.Spec L2
end Dl
set_option Elab.async false
set_option linter.all false
set_option maxRecDepth 100000
set_option maxHeartbeats 4000000
namespace L2
open PySem PySem.Spec PyProof.Rows CwR
def PTT (X : Cx) (e : Expr) (t : TT) : Prop :=
  ∀ (pins : List (Addr × Obj)) (s : Shared) (σ : St) (H : Hp) (Q : Bool → Hp → Prop), 1 ≤ s.toks → Inv X pins σ H s → t σ H Q → wpAny (model X.prog X.w) X.A (isTrue e X.env (eval e X.env)) (TP X pins σ Q) X.xe s
def PWT (X : Cx) (e : Expr) (t : TT) : Prop :=
  ∀ (whole : Sem Value) (pins : List (Addr × Obj)) (s : Shared) (σ : St) (H : Hp) (Q : Bool → Hp → Prop), 1 ≤ s.toks → Inv X pins σ H s → t σ H Q → wpAny (model X.prog X.w) X.A (isTrue e X.env whole) (TP X pins σ Q) X.xe s
section
variable {X : Cx} {a b e c : Expr} {ta tb te : TE} {tt tu : TT} {pos : Pos} {rest : List Expr}
theorem PTT.of (h : PT X e tt) : PTT X e tt := fun pins s σ H Q _ I q => h.run pins s σ H Q I q
theorem PWT.of (h : PW X e tt) : PWT X e tt := fun wh pins s σ H Q _ I q => h.run wh pins s σ H Q I q
theorem PWT.pt (h : PWT X e tt) : PTT X e tt := h _
theorem PET.imp {t' : TE} (h : PET X e te) (c : ∀ σ H Q, t' σ H Q → te σ H Q) : PET X e t' := fun pins s σ H Q h0 I q => h pins s σ H Q h0 I (c _ _ _ q)
theorem PTT.imp {t' : TT} (h : PTT X e tt) (c : ∀ σ H Q, t' σ H Q → tt σ H Q) : PTT X e t' := fun pins s σ H Q h0 I q => h pins s σ H Q h0 I (c _ _ _ q)
theorem PWT.imp {t' : TT} (h : PWT X e tt) (c : ∀ σ H Q, t' σ H Q → tt σ H Q) : PWT X e t' := fun wh pins s σ H Q h0 I q => h wh pins s σ H Q h0 I (c _ _ _ q)
theorem PST.imp {st : Stmt} {t t' : TS} (h : PST X st t) (c : ∀ D σ H, t' D σ H → t D σ H) : PST X st t' := fun pins s σ H D h0 I q => h pins s σ H D h0 I (c _ _ _ q)
theorem PSsT.imp {st : List Stmt} {t t' : TS} (h : PSsT X st t) (c : ∀ D σ H, t' D σ H → t D σ H) : PSsT X st t' := fun pins s σ H D h0 I q => h pins s σ H D h0 I (c _ _ _ q)
end
end L2
namespace Dl
open PySem PySem.Spec L2
end Dl
set_option Elab.async false
set_option linter.all false
set_option maxRecDepth 100000
set_option maxHeartbeats 4000000
namespace L2
open PySem PySem.Spec PyProof.Rows
end L2
namespace Dl
open PySem PySem.Spec L2
end Dl
set_option Elab.async false
set_option linter.all false
set_option maxRecDepth 100000
set_option maxHeartbeats 4000000
namespace Dl
open PySem PySem.Spec L2 PySem.W PySem.Calls PyProof.Rows
/-- what may stand on the right of an own operator of the class c -/
def rightO (c : Nat) : D → Bool
  | .obj c' _ => c' == c
  | d => (kindD d).isSome
end Dl
set_option Elab.async false
set_option linter.all false
set_option maxRecDepth 100000
set_option maxHeartbeats 4000000
namespace Dl
open PySem PySem.Spec L2 PySem.W PySem.Calls PyProof.Rows
end Dl
set_option Elab.async false
set_option linter.all false
set_option maxRecDepth 100000
set_option maxHeartbeats 4000000
namespace Dl
open PySem PySem.Spec L2 PySem.W PySem.Calls PyProof.Rows
/-- a base heap made longer by places where nothing stands -/
def padH (h : Heap) (n : Nat) : Heap := ⟨h.objs ++ Array.replicate (n - h.objs.size) ⟨.none, none, .freed, #[]⟩, h.life⟩
theorem pad_size {h : Heap} {n : Nat} (l : h.objs.size ≤ n) : (padH h n).objs.size = n := by
  unfold padH
  rw [Array.size_append, Array.size_replicate]
  omega
theorem pad_get {h : Heap} {n : Nat} {a : Addr} : (padH h n).get? a = h.get? a := by
  unfold padH Heap.get?
  dsimp only
  rcases Nat.lt_or_ge a h.objs.size with l | l
  · rw [Array.getElem?_append_left l]
  · rw [Array.getElem?_append_right l, Array.getElem?_eq_none l]
    rw [Array.getElem?_replicate]
    by_cases l2 : a - h.objs.size < n - h.objs.size
    · rw [if_pos l2]
    · rw [if_neg l2]
theorem pad_keeps {h : Heap} {n : Nat} : ∀ b o, h.get? b = some o → (padH h n).get? b = some o := fun b o e => by rw [pad_get]; exact e
theorem funs_pad {h base : Heap} {n : Nat} : ∀ {l : List Env}, h.FunFrames base l → h.FunFrames (padH base n) l
  | [], _ => trivial
  | env :: rest, ⟨hk, ⟨L, o, hf, hn, ho, hd⟩, hr⟩ => ⟨hk, ⟨L, o, hf, by rw [pad_get]; exact hn, ho, hd⟩, funs_pad hr⟩
theorem mod_pad {K : Frag} {mg : Str → Option Value} {base : Heap} {n : Nat} (m : Mod K mg base) : Mod K mg (padH base n) := by
  obtain ⟨mb, h1, h2⟩ := m.blt
  exact ⟨m.kin.keeps pad_keeps, m.glob.keeps pad_keeps, ⟨mb, h1.keeps pad_keeps, h2⟩, m.nolimit.keeps pad_keeps⟩
theorem env0_pad {P : Program} {w : World} {K : Frag} {mg : Str → Option Value} {base : Heap} {A : Around} {outer : List Env} {s : Shared} {H : Hp} (e : Env0 P w K mg base A outer s H) : Env0 P w K mg (padH base s.heap.objs.size) A outer s H :=
  ⟨e.frames, mod_pad e.mod, fun b o z => e.bs b o (by rw [pad_get] at z; exact z), by rw [pad_size e.bsz]; exact Nat.le_refl _, funs_pad e.funs, e.frf, e.hok, e.bare⟩
/-- iterators just made -/
def StrIt (x : Str) (it : Addr) : HO := .ext fun h => ∃ t ty, (ty = "str_ascii_iterator" ∨ ty = "str_iterator") ∧ h.IsStrIter it ty x t 0
def TupIt (a it : Addr) : HO := .ext fun h => h.IsTupleIter it a 0
def rIterA (K : Frag) (n : Nat) : List V → Hp → VK → Prop := fun xs H Q => ∃ v, xs = [v] ∧
  ((∃ x, v = .str x ∧ ∀ it, H it = none → n ≤ it → Q (.ref it) (upd H it (StrIt x it))) ∨ ∃ a zs, v = .ref a ∧ SqT K H a zs ∧ ∀ it, H it = none → n ≤ it → Q (.ref it) (upd H it (TupIt a it)))
section
variable {X : Cx}
theorem call_iter0 {prog : Program} {w : World} {A : Around} {E : Value → Shared → Prop} {s : Shared} {v : Value} {Q : Value → Shared → Prop} (h : ∀ A', wpAny (model prog w) A' (pyIter v) Q E s) : wpAny (model prog w) A (call (.builtin "iter") [v]) Q E s := by
  refine Calls.call_function_entry (by decide +kernel) (by decide +kernel) PySem.W.kdk_entry_iter (PySem.W.kdk_args_iter _) ?_
  unfold Builtin.«iter»
  refine wpAny_bind (m := someArgs "iter" 1 2 _) (wpAny_of_eq (a := [v]) (by first | rfl | kernel_rfl!) ?_)
  show wpAny _ _ (pyIter v >>= _) _ _ _
  refine wpAny_bind (wpAny_mono (h _) (fun u s' q => ?_) fun _ _ z => z)
  exact wpAny_pure ⟨_, rfl, q⟩
theorem call_iterA : CallR X (.builtin "iter") (rIterA X.K X.base.objs.size) := by
  intro pins s σ H xs us Q I r h
  obtain ⟨v, rfl, h⟩ := h
  obtain ⟨u, rfl, ru⟩ := Vals.one r
  refine call_iter0 fun A' => ?_
  rcases h with ⟨x, rfl, q⟩ | ⟨a, zs, rfl, hq, q⟩
  · obtain ⟨t, rfl⟩ := ru
    have fin : ∀ ty, (ty = "str_ascii_iterator" ∨ ty = "str_iterator") → EP X pins σ Q (.ref s.heap.objs.size) { s with heap := s.heap.push { cls := .type ty, data := .fields #[.str x t, .int 0 0] } } := fun ty hty => by
      have e : (s.heap.push { cls := .type ty, data := .fields #[.str x t, .int 0 0] }).IsStrIter s.heap.objs.size ty x t 0 := ⟨_, Heap.get?_push_size _ rfl, rfl, rfl⟩
      exact ⟨.ref s.heap.objs.size, _, I.laid (t' := s.toks) (o := StrIt x s.heap.objs.size) (fun b u e => Heap.get?_push_of_some _ e) (Nat.le_refl _) ⟨⟨t, ty, hty, e⟩, ⟨_, Heap.get?_push_size _ rfl⟩, fun h1 h2 ⟨t, ty, hty, o, e1, e2⟩ k => ⟨t, ty, hty, o, k _ e1, e2⟩⟩, rfl, q _ (I.hok.fresh (Nat.le_refl _)) (Nat.le_trans I.ok.bsz I.sz)⟩
    cases ha : x.cps.all (· < 128)
    · exact wpAny_pyIter_wide ha (fin _ (.inr rfl))
    · exact wpAny_pyIter_ascii ha (fin _ (.inl rfl))
  · cases ru
    obtain ⟨its, rv, pl, hz⟩ := I.tuple hq
    refine wpAny_pyIter_tuple (show s.heap.IsTuple a its.toArray from pl) ?_
    exact ⟨.ref s.heap.objs.size, _, I.laid (t' := s.toks) (o := TupIt a s.heap.objs.size) (fun b u e => Heap.get?_push_of_some _ e) (Nat.le_refl _) ⟨⟨_, Heap.get?_push_size _ rfl, rfl, rfl⟩, ⟨_, Heap.get?_push_size _ rfl⟩, fun h1 h2 ⟨o, e1, e2⟩ k => ⟨o, k _ e1, e2⟩⟩, rfl, q _ (I.hok.fresh (Nat.le_refl _)) (Nat.le_trans I.ok.bsz I.sz)⟩
end
/-- what the def gives: an iterator over the attribute's text or tuple -/
def spIt (ad : Addr) (nm : List Str) (x : Str) (n : Nat) : PySem.W.Frag → Sp := fun K vs H Q _ => ∃ a dx ws v, vs = [.ref a] ∧ H a = some (.ins ad dx (nm.zip ws)) ∧ (nm.zip ws).lookup x = some v ∧
  ((∃ z, v = .str z ∧ ∀ it, H it = none → n ≤ it → Q (.ref it) (upd H it (StrIt z it))) ∨ ∃ b zs, v = .ref b ∧ SqT K H b zs ∧ ∀ it, H it = none → n ≤ it → Q (.ref it) (upd H it (TupIt b it)))
section
variable {P : Program} {w : World} {K : PySem.W.Frag} {mg : Str → Option Value} {base : Heap} {qual x y : Str} {params : Arguments} {body : List Stmt} {scope : Scope} {dvs : List V} {kws : List (Str × V)} {f ad : Addr} {fd : FuncData} {nm : List Str} {N : List Str} {xx : Str} {p1 p2 p3 p4 p5 : Pos}
theorem fn_it (F : FunD K y qual params body scope dvs kws f fd) (S : FnScope ["self"] ["self"] scope) (c : Cls K ad) (no : NoAttr K ad x)
    (hb : ∀ cdv A outer s H E, PSs (cxOf (L2.CX P w) P w K mg base ["self"] qual scope f cdv A outer s H E) body (tRet (tCB (rIterA K base.objs.size) (tCons (tFld K (tVar 0) x) tNil)))) :
    FnOk P w K mg base (L2.CX P w) 1 f fd ["self"] (spIt ad nm x base.objs.size K) := by
  refine F.ok S (fun vs H Q E h => ?_) (fun cdv A outer s H vs Q E hr h => ⟨_, hb cdv A outer s H E, ?_⟩)
  · obtain ⟨a, dx, ws, v, rfl, _⟩ := h
    rfl
  · obtain ⟨a, dx, ws, v, rfl, ha, hlk, h⟩ := h
    exact ⟨_, rfl, a, ad, dx, _, v, rfl, ha, c, no, hlk, v, rfl, h⟩
end
structure ItAt (X : Cx) (ct : CT) (n k : Nat) : Prop where
  fn : ∃ x f fd, ((ct.names n).findIdx? fun y => x == y) = some k ∧ Meth X.K (ct.addr n) "__iter__" f ∧ (∀ base, FnOk X.prog X.w X.K X.mg base (L2.CX X.prog X.w) 1 f fd ["self"] (spIt (ct.addr n) (ct.names n) x base.objs.size X.K)) ∧ Room 1 X.A ∧ Binds X.K fd ["self"] []
def itO (tbl : Nat → Option Nat) : D → (List D → Prop) → Prop
  | .obj c fs, Q => match tbl c with
    | some k => match fs[k]? with
      | some (.str x) => Q (chrs x)
      | some (.tup xs) => Q xs
      | _ => False
    | none => False
  | d, Q => itD d Q
def iObj (tbl : Nat → Option Nat) (t : TD) : TDI := fun s Q E => t s (fun d => itO tbl d Q) E
section
variable {X : Cx} {ct : CT} {W : WX} {tg e : Expr} {ta : TD} {tbl : Nat → Option Nat}
theorem own_iter {pins : List (Addr × Obj)} {σ : L2.St} {H : Hp} {s : Shared} {R : It → Hp → Prop} {n k : Nat} {a dx : Addr} {ws : List V} {v : V} (h : ItAt X ct n k) (I : Inv X pins σ H s) (l : H a = some (.ins (ct.addr n) dx ((ct.names n).zip ws))) (hl : ws.length = (ct.names n).length) (hv : ws[k]? = some v)
    (q : (∃ x, v = .str x ∧ R (Its x) H) ∨ ∃ b zs, v = .ref b ∧ SqT X.K H b zs ∧ R (Itt X.K b) H) : wpAny (model X.prog X.w) X.A (pyIter (.ref a)) (PIE X pins σ tg R) X.xe s := by
  obtain ⟨x, f, fd, hx, hm, F, hr, hbd⟩ := h.fn
  obtain ⟨mA, J, _⟩ := ins_get I.hok l
  obtain ⟨od, J, _⟩ := J.look
  obtain ⟨m, hF⟩ := I.fr
  have hlk : ((ct.names n).zip ws).lookup x = some v := by rw [lookup_zip hx hl, hv]
  refine owit_iter hF I.ok.mod.kin J hm.at_ hm.fn ?_
  have F' := F (padH X.base s.heap.objs.size)
  have e0 := env0_pad I.env0
  have bsz : X.base.objs.size ≤ s.heap.objs.size := Nat.le_trans I.ok.bsz I.sz
  have hsp : spIt (ct.addr n) (ct.names n) x (padH X.base s.heap.objs.size).objs.size X.K [.ref a] H (fun u H' => ∃ it, u = .ref it ∧ H it = none ∧ s.heap.objs.size ≤ it ∧ ((∃ z, v = .str z ∧ H' = upd H it (StrIt z it)) ∨ ∃ b zs, v = .ref b ∧ SqT X.K H b zs ∧ H' = upd H it (TupIt b it))) (fun _ _ _ => False) := by
    refine ⟨a, dx, ws, v, rfl, l, hlk, ?_⟩
    rw [pad_size bsz]
    rcases q with ⟨z, ez, _⟩ | ⟨b, zs, ez, hz, _⟩
    · exact .inl ⟨z, ez, fun it h1 h2 => ⟨it, rfl, h1, h2, .inl ⟨z, ez, rfl⟩⟩⟩
    · exact .inr ⟨b, zs, ez, hz, fun it h1 h2 => ⟨it, rfl, h1, h2, .inr ⟨b, zs, ez, hz, rfl⟩⟩⟩
  refine wpAny_call (codeAny_mono (F'.run X.A X.stack s H ⟨[.ref a], []⟩ [.ref a] [.ref a] _ (fun _ _ _ => False) hr e0 (by
    have := hbd s [.ref a] I.kIn rfl
    simpa using this) (.cons rfl .nil) hsp) fun res s' hq => ?_)
  cases res with
  | error e =>
    obtain ⟨_, _, _, _, _, _, _, _, _, _, _, _, z⟩ := hq
    exact z.elim
  | ok fl =>
    cases fl with
    | next => exact False.elim hq
    | brk => exact False.elim hq
    | cont => exact False.elim hq
    | ret u =>
      obtain ⟨u', H', I', rv', it, rfl, h1, h2, hk⟩ := I.after hq
      cases rv'
      show OwitIt _ _ _ _ (.ref it) s'
      unfold OwitIt
      have h3 : X.s_0.heap.objs.size ≤ it := Nat.le_trans I.sz h2
      rcases hk with ⟨z, ez, rfl⟩ | ⟨b, zs, ez, hz, rfl⟩
      · obtain ⟨⟨t, ty, hty, hi⟩, _, _⟩ := (show ObjOk X.prog X.w _ s'.heap it (StrIt z it) from I'.hok it _ upd_same)
        have D' := ItX.inv_drop I' upd_same
        have fp := ItX.inv_fp I' upd_same h3
        rw [ItX.dropH_upd h1] at D' fp
        have hq2 : R (Its z) H := by
          rcases q with ⟨z2, e2, q⟩ | ⟨b, zs, e2, _⟩
          · rw [ez] at e2
            cases e2
            exact q
          · rw [ez] at e2
            cases e2
        have fin : PIE X pins σ tg R (.ref it) s' := ⟨it, [it], _, _, H, rfl, D', turn_str it z t ty hty, hi, fun b hb => by
          have e : b = it := by simpa using hb
          rw [e]
          exact fp, hq2⟩
        obtain ⟨o, ho, hc, hd⟩ := id hi
        rcases hty with e | e
        · rw [e] at hc
          exact wpAny_specialOf ⟨o, ho, hc⟩ PySem.F.slot_str_ascii_iterator_next.lookup fin
        · rw [e] at hc
          exact wpAny_specialOf ⟨o, ho, hc⟩ PySem.F.slot_str_iterator_next.lookup fin
      · obtain ⟨hi, _, _⟩ := (show ObjOk X.prog X.w _ s'.heap it (TupIt b it) from I'.hok it _ upd_same)
        have D' := ItX.inv_drop I' upd_same
        have fp := ItX.inv_fp I' upd_same h3
        rw [ItX.dropH_upd h1] at D' fp
        have hq2 : R (Itt X.K b) H := by
          rcases q with ⟨z2, e2, q⟩ | ⟨b2, zs2, e2, _, q⟩
          · rw [ez] at e2
            cases e2
          · rw [ez] at e2
            cases e2
            exact q
        have fin : PIE X pins σ tg R (.ref it) s' := ⟨it, [it], _, _, H, rfl, D', turn_tuple b it, hi, fun b hb => by
          have e : b = it := by simpa using hb
          rw [e]
          exact fp, hq2⟩
        exact wpAny_specialOf hi.typeIs PySem.F.slot_tuple_iterator_next.lookup fin
theorem di_obj (ht : ∀ n k, tbl n = some k → ItAt X ct n k) (he : DE X ct W e ta) : DI X ct W tg e (iObj tbl ta) := by
  constructor
  rintro pins s σ H R I ⟨O, f, dσ, QD, QE, hs, h, k, kx⟩
  refine thn (he.run pins s σ H (fun v H1 => ∃ d, Same H H1 ∧ Rep X.K ct H1 O d v ∧ itO tbl d QD) I ⟨O, f, dσ, _, QE, hs, h, fun v d H1 e1 r q => ⟨d, e1, r, q⟩, kx⟩) ?_
  rintro v s1 ⟨y, H1, I1, ry, d, e1, r, q⟩
  have base : itD d QD → wpAny (model X.prog X.w) X.A (pyIter v) (PIE X pins σ tg R) X.xe s1 := fun q => by
    cases d with
    | lst xs =>
      obtain ⟨a, vs, ea, n, l, rl⟩ := rep_lst.mp r
      subst ea
      cases ry
      obtain ⟨its, rv, p, hz⟩ := I1.list (SqL.of l)
      exact PySem.wpAny_pyIter_list p.isList (pi_one (tk := s1.toks) I1 _ (turn_list a _) ⟨_, Heap.get?_push_size _ rfl, rfl, rfl⟩ (k _ _ _ e1 (fun Hb c => it_list c n l rl) q))
    | tup xs =>
      obtain ⟨a, vs, ea, l, rl⟩ := rep_tup.mp r
      subst ea
      cases ry
      obtain ⟨its, rv, p, hz⟩ := I1.tuple l
      exact PySem.wpAny_pyIter_tuple (show s1.heap.IsTuple a its.toArray from p) (pi_one (tk := s1.toks) I1 _ (turn_tuple a _) ⟨_, Heap.get?_push_size _ rfl, rfl, rfl⟩ (k _ _ _ e1 (fun Hb c => it_tup c l rl) q))
    | str x =>
      rw [rep_str] at r
      subst r
      obtain ⟨t, rfl⟩ := ry
      have q2 := k _ _ _ e1 (fun Hb c => it_str) q
      cases ha : x.cps.all (· < 128) with
      | false => exact PySem.wpAny_pyIter_wide ha (pi_one (tk := s1.toks) I1 _ (turn_str _ x t "str_iterator" (.inr rfl)) ⟨_, Heap.get?_push_size _ rfl, rfl, rfl⟩ q2)
      | true => exact PySem.wpAny_pyIter_ascii ha (pi_one (tk := s1.toks) I1 _ (turn_str _ x t "str_ascii_iterator" (.inl rfl)) ⟨_, Heap.get?_push_size _ rfl, rfl, rfl⟩ q2)
    | scr ns =>
      obtain ⟨a, ea, l⟩ := rep_scr.mp r
      subst ea
      cases ry
      obtain ⟨its, rv, p, hz⟩ := I1.list l.sq
      exact PySem.wpAny_pyIter_list p.isList (pi_one (tk := s1.toks) I1 _ (turn_list a _) ⟨_, Heap.get?_push_size _ rfl, rfl, rfl⟩ (k _ _ _ e1 (scr_rep l) q))
    | _ => exact q.elim
  by_cases z : ∃ c fs, d = .obj c fs
  · obtain ⟨c, fs, rfl⟩ := z
    unfold itO at q
    dsimp only at q
    split at q
    · rename_i j hj
      obtain ⟨a, dx, ws, ea, na, l, hl, rl⟩ := rep_obj.mp r
      subst ea
      cases ry
      split at q
      · rename_i x hx
        obtain ⟨u, hu, ru⟩ := rl.get hx
        rw [rep_str] at ru
        subst ru
        exact own_iter (ht c j hj) I1 l hl hu (.inl ⟨x, rfl, k _ _ _ e1 (fun Hb c => it_str) q⟩)
      · rename_i xs hx
        obtain ⟨u, hu, ru⟩ := rl.get hx
        obtain ⟨b, us, rfl, lb, rb⟩ := rep_tup.mp ru
        exact own_iter (ht c j hj) I1 l hl hu (.inr ⟨b, us, rfl, lb, k _ _ _ e1 (fun Hb c => it_tup c lb rb) q⟩)
      · exact q.elim
    · exact q.elim
  · refine base ?_
    unfold itO at q
    split at q
    · exact absurd ⟨_, _, rfl⟩ z
    · exact q
end
end Dl
set_option Elab.async false
set_option linter.all false
set_option maxRecDepth 100000
set_option maxHeartbeats 4000000
namespace L2
open PySem PySem.Spec PyProof.Rows CwR
end L2
namespace Dl
open PySem PySem.Spec L2
section
variable {X : Cx} {ct : CT} {W : WX} {e te : Expr} {es : List Expr} {td : TD} {tda : TDA} {ti : TDI} {tg : Tg} {tb : TDS} {sts : List Stmt} {pos pos' : Pos}
theorem PAT.imp {t t' : TA} (h : PAT X es t) (c : ∀ σ H Q, t' σ H Q → t σ H Q) : PAT X es t' := fun pos pins s σ H Q h0 I q => h pos pins s σ H Q h0 I (c _ _ _ q)
end
end Dl
set_option Elab.async false
set_option linter.all false
set_option maxRecDepth 100000
set_option maxHeartbeats 4000000
namespace Dl
open PySem PySem.Spec L2
mutual
def noL : D → Bool
  | .lst _ => false
  | .scr _ => false
  | .dic _ _ => false
  | .tok _ => false
  | .ref _ => false
  | .tup xs => noLs xs
  | .obj _ fs => noLs fs
  | _ => true
def noLs : List D → Bool
  | [] => true
  | x :: xs => noL x && noLs xs
end
/-- a place with a list or a dict -/
def IsL (H : Hp) (b : Addr) : Prop := (∃ vs, H b = some (.lst vs)) ∨ ∃ q, H b = some (.dK q)
section
variable {K : PySem.W.Frag} {ct : CT} {H H' : Hp} {O O' : Addr → Prop}
mutual
theorem Rep.wide (c : ∀ b, O' b → O b ∨ IsL H b) : ∀ {d : D} {v : V}, noL d = true → Rep K ct H O d v → Rep K ct H O' d v
  | .non, v, _, h => by simp only [Rep] at h ⊢; exact h
  | .bl b, v, _, h => by simp only [Rep] at h ⊢; exact h
  | .int i, v, _, h => by simp only [Rep] at h ⊢; exact h
  | .str x, v, _, h => by simp only [Rep] at h ⊢; exact h
  | .ty n, v, _, h => by simp only [Rep] at h ⊢; exact h
  | .cls n, v, _, h => by simp only [Rep] at h ⊢; exact h
  | .lst xs, v, e, h => by simp only [noL] at e; cases e
  | .scr xs, v, e, h => by simp only [noL] at e; cases e
  | .tok xs, v, e, h => by simp only [noL] at e; cases e
  | .ref xs, v, e, h => by simp only [noL] at e; cases e
  | .dic ks xs, v, e, h => by simp only [noL] at e; cases e
  | .tup xs, v, e, h => by
    simp only [noL] at e
    simp only [Rep] at h ⊢
    obtain ⟨a, vs, ea, l, r⟩ := h
    exact ⟨a, vs, ea, l, RepL.wide c e r⟩
  | .obj k fs, v, e, h => by
    simp only [noL] at e
    simp only [Rep] at h ⊢
    obtain ⟨a, dx, vs, ea, n, l, hl, r⟩ := h
    refine ⟨a, dx, vs, ea, fun z => ?_, l, hl, RepL.wide c e r⟩
    rcases c a z with z | ⟨us, z⟩ | ⟨q, z⟩
    · exact n z
    · rw [l] at z; cases z
    · rw [l] at z; cases z
theorem RepL.wide (c : ∀ b, O' b → O b ∨ IsL H b) : ∀ {d : List D} {v : List V}, noLs d = true → RepL K ct H O d v → RepL K ct H O' d v
  | [], v, _, h => by simp only [RepL] at h ⊢; exact h
  | d :: ds, v, e, h => by
    simp only [noLs, Bool.and_eq_true] at e
    obtain ⟨u, q, ev, h1, h2⟩ := h.cons_inv
    subst ev
    exact RepL.cons (Rep.wide c e.1 h1) (RepL.wide c e.2 h2)
end
theorem ExcAt.wide {c : Nat} {x : D} {cls : Value} {dd : Option Addr} (w : ∀ b, O' b → O b ∨ IsL H b) (e : noL x = true) (h : ExcAt K ct H O c x cls dd) : ExcAt K ct H O' c x cls dd := by
  obtain ⟨e1, d, v, e2, e3, r⟩ := h
  exact ⟨e1, d, v, e2, e3, r.wide w e⟩
theorem ExcAt.lessW {c : Nat} {x : D} {cls : Value} {dd : Option Addr} (w : ∀ b, O' b → O b) (h : ExcAt K ct H O c x cls dd) : ExcAt K ct H O' c x cls dd := by
  obtain ⟨e1, d, v, e2, e3, r⟩ := h
  exact ⟨e1, d, v, e2, e3, r.less w⟩
end
def lisO : Sl → Sl
  | .v d => if noL d then .v d else .un
  | .own xs => if noLs xs then .own xs else .un
  | .ini c fs => if noLs (fs.map (·.2)) then .ini c fs else .un
  | _ => .un
def lisS : List Sl → List Sl
  | [] => []
  | t :: s => lisO t :: lisS s
theorem lisS_get : ∀ {s : List Sl} {i : Nat}, (lisS s)[i]? = (s[i]?).map lisO
  | [], i => rfl
  | t :: s, 0 => rfl
  | t :: s, i + 1 => lisS_get (s := s) (i := i)
theorem lisS_len : ∀ (s : List Sl), (lisS s).length = s.length
  | [] => rfl
  | t :: s => congrArg Nat.succ (lisS_len s)
section
variable {K : PySem.W.Frag} {ct : CT} {W : WX} {H0 H H' : Hp} {O0 O : Addr → Prop} {f : Nat → Addr} {dσ : List Sl} {σ : St}
theorem StE.lis (h : StE K ct H O f dσ σ) : StE K ct H (fun b => O b ∨ IsL H b) f (lisS dσ) σ where
  len := by rw [lisS_len]; exact h.len
  at_ := fun j t e => by
    rw [lisS_get] at e
    cases e1 : dσ[j]? with
    | none => rw [e1] at e; cases e
    | some s =>
      rw [e1] at e
      cases e
      obtain ⟨o, eo, r⟩ := h.at_ j s e1
      refine ⟨o, eo, ?_⟩
      cases s with
      | un => trivial
      | v d =>
        obtain ⟨v, ev, r⟩ := r
        show SlOk K ct H _ (f j) (if noL d = true then .v d else .un) o
        split
        · rename_i n
          exact ⟨v, ev, r.wide (fun b z => z) n⟩
        · trivial
      | own xs =>
        obtain ⟨ev, n, vs, l, r⟩ := r
        show SlOk K ct H _ (f j) (if noLs xs = true then .own xs else .un) o
        split
        · rename_i z
          exact ⟨ev, .inl n, vs, l, r.wide (fun b z => z) z⟩
        · trivial
      | ini c fs =>
        obtain ⟨ev, n, ea, vs, l, r⟩ := r
        show SlOk K ct H _ (f j) (if noLs (fs.map (·.2)) = true then .ini c fs else .un) o
        split
        · rename_i z
          exact ⟨ev, .inl n, ea, vs, l, r.wide (fun b z => z) z⟩
        · trivial
      | exc k x => trivial
      | dic ks xs => trivial
  dom := fun a z => by
    rcases z with z | ⟨vs, z⟩ | ⟨q, z⟩
    · exact h.dom a z
    · exact ⟨_, z⟩
    · exact ⟨_, z⟩
/-- a slot takes a new list over -/
theorem StS.take_own (h : StS K ct O0 H0 H f dσ σ) (s : Same H H') {i : Nat} {ds : List D} {vs : List V} {p : Addr} (hp : H p = none) (hl : H' p = some (.lst vs)) (r : RepL K ct H' (fun b => Own O0 f dσ b ∨ b = p) ds vs) :
    StS K ct O0 H0 H' (putA f i p) (dσ.set i (.own ds)) (σ.set i (some (.ref p))) := by
  have l : ∀ b, Own O0 (putA f i p) (dσ.set i (.own ds)) b → Own O0 f dσ b ∨ b = p := fun b z => by
    rcases z with z | ⟨j, t, e, o, ea⟩
    · exact .inl (.inl z)
    · rcases getS e with ⟨e1, _, _⟩ | ⟨e1, e2⟩
      · rw [← ea, e1, putA_same]
        exact .inr rfl
      · rw [putA_ne e1] at ea
        exact .inl (.inr ⟨j, t, e2, o, ea⟩)
  have nf : ∀ j t, dσ[j]? = some t → isOwn t = true → f j ≠ p := fun j t e o z => by
    obtain ⟨u, q⟩ := h.e.dom (f j) (.inr ⟨j, t, e, o, rfl⟩)
    rw [z, hp] at q
    cases q
  refine ⟨⟨by rw [List.length_set, List.length_set]; exact h.e.len, fun j t e => ?_, fun a z => ?_⟩, h.same.trans s, fun j t e o => ?_, fun j k s1 t1 e1 o1 e2 o2 ef => ?_, h.dom0⟩
  · rcases getS e with ⟨e1, e2, e3⟩ | ⟨e1, e2⟩
    · subst e1
      subst e2
      refine ⟨_, List.getElem?_set_self (by rw [← h.e.len]; exact e3), ?_, .inr ⟨_, _, e, rfl, rfl⟩, vs, ?_, r.less l⟩
      · rw [putA_same]
      · rw [putA_same]
        exact hl
    · obtain ⟨o, a, b⟩ := h.e.at_ j t e2
      refine ⟨o, by rw [List.getElem?_set_ne (Ne.symm e1)]; exact a, ?_⟩
      rw [putA_ne e1]
      cases t with
      | un => trivial
      | v d =>
        obtain ⟨v, e, r⟩ := b
        exact ⟨v, e, (r.fresh hp l).same s⟩
      | own xs =>
        obtain ⟨e4, n, us, z, r⟩ := b
        exact ⟨e4, .inr ⟨j, _, e, rfl, putA_ne e1⟩, us, s _ _ z, (r.fresh hp l).same s⟩
      | ini c fs =>
        obtain ⟨e4, n, ea, us, z, r⟩ := b
        exact ⟨e4, .inr ⟨j, _, e, rfl, putA_ne e1⟩, ea, us, s _ _ z, (r.fresh hp l).same s⟩
      | exc k x => exact ⟨b.1, (b.2.fresh hp l).same s⟩
      | dic ks xs =>
        obtain ⟨e4, n, us, z, hl, r⟩ := b
        exact ⟨e4, .inr ⟨j, _, e, rfl, putA_ne e1⟩, us, s _ _ z, hl, (r.fresh hp l).same s⟩
  · rcases l a z with z | z
    · obtain ⟨o, e⟩ := h.e.dom a z
      exact ⟨o, s _ _ e⟩
    · rw [z]
      exact ⟨_, hl⟩
  · rcases getS e with ⟨e1, _, _⟩ | ⟨e1, e2⟩
    · rw [e1, putA_same]
      cases q : H0 p with
      | none => rfl
      | some u =>
        rw [h.same _ _ q] at hp
        cases hp
    · rw [putA_ne e1]
      exact h.fresh j t e2 o
  · rcases getS e1 with ⟨z1, _, _⟩ | ⟨z1, y1⟩
    · rcases getS e2 with ⟨z2, _, _⟩ | ⟨z2, y2⟩
      · rw [z1, z2]
      · rw [z1, putA_same, putA_ne z2] at ef
        exact absurd ef.symm (nf k t1 y2 o2)
    · rcases getS e2 with ⟨z2, _, _⟩ | ⟨z2, y2⟩
      · rw [z2, putA_same, putA_ne z1] at ef
        exact absurd ef (nf j s1 y1 o1)
      · rw [putA_ne z1, putA_ne z2] at ef
        exact h.inj j k s1 t1 y1 o1 y2 o2 ef
end
end Dl
set_option Elab.async false
set_option linter.all false
set_option maxRecDepth 100000
set_option maxHeartbeats 4000000
namespace Dl
open PySem PySem.Spec L2
end Dl
set_option Elab.async false
set_option linter.all false
set_option maxRecDepth 100000
set_option maxHeartbeats 4000000
namespace Dl
open PySem PySem.Spec L2
/-- some of these, in an order -/
def sel {α : Type} (p : List Nat) (l : List α) : List α := p.filterMap (l[·]?)
theorem Vals.at_ : ∀ {vs : List V} {us : List Value} (i : Nat), Vals vs us → (vs[i]? = none ∧ us[i]? = none) ∨ ∃ v u, vs[i]? = some v ∧ us[i]? = some u ∧ RelV v u
  | _, _, i, .nil => .inl ⟨by simp, by simp⟩
  | _, _, 0, .cons r _ => .inr ⟨_, _, rfl, rfl, r⟩
  | _, _, i + 1, .cons _ rr => by
    rw [List.getElem?_cons_succ, List.getElem?_cons_succ]
    exact Vals.at_ i rr
section
variable {K : PySem.W.Frag} {ct : CT} {H : Hp} {O : Addr → Prop}
theorem RepL.at_ : ∀ {ds : List D} {vs : List V} (i : Nat), RepL K ct H O ds vs → (ds[i]? = none ∧ vs[i]? = none) ∨ ∃ d v, ds[i]? = some d ∧ vs[i]? = some v ∧ Rep K ct H O d v
  | [], vs, i, h => by
    simp only [RepL] at h
    subst h
    exact .inl ⟨by simp, by simp⟩
  | d :: ds, vs, i, h => by
    obtain ⟨v, r, e, h1, h2⟩ := h.cons_inv
    subst e
    cases i with
    | zero => exact .inr ⟨d, v, rfl, rfl, h1⟩
    | succ i =>
      rw [List.getElem?_cons_succ, List.getElem?_cons_succ]
      exact RepL.at_ i h2
end
theorem PK.imp {X : Cx} {kws : List Keyword} {t t' : TA} (h : PK X kws t) (c : ∀ σ H Q, t' σ H Q → t σ H Q) : PK X kws t' := ⟨fun pos pins s σ H Q I q => h.run pos pins s σ H Q I (c _ _ _ q)⟩
end Dl
set_option Elab.async false
set_option linter.all false
set_option maxRecDepth 100000
set_option maxHeartbeats 4000000
namespace Dl
open PySem PySem.Spec L2
def par2E (i j : Nat) (s : List Sl) (nx : List Sl → Prop) : List D → Prop
  | [.lst xs, e] => noLs xs = true ∧ noL e = true ∧ nx ((s.set i (.own xs)).set j (.v e))
  | [d, .lst ys] => noL d = true ∧ noLs ys = true ∧ nx ((s.set i (.v d)).set j (.own ys))
  | _ => False
def sPar2E (i j : Nat) (ta : TDA) : TDS := fun DD s => ta (lisS s) (par2E i j s DD.nx) (xq DD s)
section
variable {K : PySem.W.Frag} {ct : CT} {H H' : Hp} {O : Addr → Prop} {f : Nat → Addr} {dσ : List Sl}
theorem RepL.set : ∀ {ds : List D} {vs : List V} (j : Nat) {d : D} {v : V}, RepL K ct H O ds vs → Rep K ct H O d v → RepL K ct H O (ds.set j d) (vs.set j v)
  | [], vs, j, d, v, h, _ => by simp only [RepL] at h; subst h; exact RepL.nil
  | e :: ds, vs, j, d, v, h, r => by
    obtain ⟨u, q, ev, h1, h2⟩ := h.cons_inv
    subst ev
    cases j with
    | zero => exact RepL.cons r h2
    | succ j => exact RepL.cons h1 (RepL.set j h2 r)
end
section
variable {X : Cx} {ct : CT} {W : WX} {e o a b : Expr} {es : List Expr} {td tk ta tb : TD} {tda : TDA} {pos pos' apos p p2 p3 : Pos} {x : Str}
theorem ds_par2E {i j : Nat} {x y : Str} {px py pt : Pos} {kt k2 pt2} (hc : X.calm = true) (hN : X.N.Nodup) (hi : X.N[i]? = some x) (hj : X.N[j]? = some y) (hx : X.env.scope.names.lookup x = some .local) (hy : X.env.scope.names.lookup y = some .local) (ha : DA X ct W [a, b] tda) (hij : i ≠ j := by decide)
    (hw : swappedStores [.Tuple [.Name x px, .Name y py] kt pt] (.Tuple [a, b] k2 pt2) X.env = pure (some [x, y]) := by rfl)
    (hs : swapsWithSole [.Tuple [.Name x px, .Name y py] kt pt] (.Tuple [a, b] k2 pt2) pos.line X.env = pure false := by rfl) :
    DS X ct W (.Assign [.Tuple [.Name x px, .Name y py] kt pt] (.Tuple [a, b] k2 pt2) pos) (sPar2E i j tda) :=
  PS.imp (ps_par hc hN hi hj hij hx hy ha hw hs) fun E σ H ⟨O0, H0, f, dσ, DD, h, t, en⟩ => by
    refine ⟨_, f, lisS dσ, _, _, h.e.lis, t, fun vs ds H' s r q => ?_, fun c x cls dd H' s a q => h.ke en c x cls dd H' s (a.lessW fun b z => .inl z) q⟩
    have new : ∀ {xs : List D} {v : V}, Rep X.K ct H' (fun b => Own O0 f dσ b ∨ IsL H b) (.lst xs) v → noLs xs = true → ∃ a us, v = .ref a ∧ H a = none ∧ H' a = some (.lst us) ∧ RepL X.K ct H' (fun b => Own O0 f dσ b ∨ b = a) xs us := fun {xs v} r n => by
      obtain ⟨a, us, ea, na, l, rl⟩ := rep_lst.mp r
      refine ⟨a, us, ea, ?_, l, rl.wide (fun b z => ?_) n⟩
      · cases z : H a with
        | none => rfl
        | some o =>
          have y := s _ _ z
          rw [l] at y
          cases y
          exact absurd (.inr (.inl ⟨us, z⟩)) na
      · rcases z with z | z
        · exact .inl (.inl z)
        · exact .inr (.inl ⟨us, by rw [z]; exact l⟩)
    unfold par2E at q
    split at q
    · rename_i xs d
      obtain ⟨n1, n2, q⟩ := q
      obtain ⟨v, u, rfl, r1, r2⟩ := r.two
      obtain ⟨p, us, rfl, hp, hl, rl⟩ := new r1 n1
      have h2 := h.take_own s (i := i) hp hl rl
      refine ⟨_, u, rfl, en.nx _ _ _ _ (h2.set_v (i := j) (r2.wide (fun b z => ?_) n2)) q⟩
      rcases z with z | ⟨k, t, e, o, ea⟩
      · exact .inl (.inl (.inl z))
      · rcases getS e with ⟨e1, _, _⟩ | ⟨e1, e2⟩
        · rw [e1, putA_same] at ea
          exact .inr (.inl ⟨us, by rw [← ea]; exact hl⟩)
        · rw [putA_ne e1] at ea
          exact .inl (.inl (.inr ⟨k, t, e2, o, ea⟩))
    · rename_i d ys _
      obtain ⟨n1, n2, q⟩ := q
      obtain ⟨v, u, rfl, r1, r2⟩ := r.two
      obtain ⟨p, us, rfl, hp, hl, rl⟩ := new r2 n2
      have h2 := h.take_own s (i := j) hp hl rl
      refine ⟨v, _, rfl, ?_⟩
      rw [List.set_comm _ _ hij] at q ⊢
      refine en.nx _ _ _ _ (h2.set_v (i := i) (r1.wide (fun b z => ?_) n1)) q
      rcases z with z | ⟨k, t, e, o, ea⟩
      · exact .inl (.inl (.inl z))
      · rcases getS e with ⟨e1, _, _⟩ | ⟨e1, e2⟩
        · rw [e1, putA_same] at ea
          exact .inr (.inl ⟨us, by rw [← ea]; exact hl⟩)
        · rw [putA_ne e1] at ea
          exact .inl (.inl (.inr ⟨k, t, e2, o, ea⟩))
    · exact q.elim
end
def ints? : List D → Option (List Int)
  | [] => some []
  | .int i :: ds => (ints? ds).map (i :: ·)
  | _ => none
def insI (x : Int) : List Int → List Int
  | [] => [x]
  | y :: l => if x ≤ y then x :: y :: l else y :: insI x l
def sortI : List Int → List Int
  | [] => []
  | x :: l => insI x (sortI l)
end Dl
set_option Elab.async false
set_option linter.all false
set_option maxRecDepth 100000
set_option maxHeartbeats 4000000
namespace Dl
open PySem PySem.Spec L2
end Dl
set_option Elab.async false
set_option linter.all false
set_option maxRecDepth 100000
set_option maxHeartbeats 4000000
namespace Dl
open PySem PySem.Spec L2
theorem IsiOk.w {K : PySem.W.Frag} {ct : CT} {sub : Sub2} {g : Gh} (h : IsiOk K ct sub) : IsiOk K (ct.w g) sub := ⟨h.bb, h.oo, h.ob, h.bo⟩
end Dl
set_option Elab.async false
set_option linter.all false
set_option maxRecDepth 100000
set_option maxHeartbeats 4000000
namespace Dl
open PySem PySem.Spec L2
def sBad : TDS := fun _ _ => False
end Dl
set_option Elab.async false
set_option linter.all false
set_option maxRecDepth 100000
set_option maxHeartbeats 4000000
namespace L2
open PySem PySem.Spec PyProof.Rows
def revStr (z : Str) : Str := ⟨z.cps.toList.reverse.toArray⟩
variable {X : Cx}
end L2
namespace Dl
open PySem PySem.Spec L2
end Dl
set_option Elab.async false
set_option linter.all false
set_option maxRecDepth 100000
set_option maxHeartbeats 4000000
namespace Dl
open PySem PySem.Spec L2
end Dl
set_option Elab.async false
set_option linter.all false
set_option maxRecDepth 100000
set_option maxHeartbeats 4000000
namespace Dl
open PySem PySem.Spec L2 PyProof.Rows
end Dl
set_option Elab.async false
set_option linter.all false
set_option maxRecDepth 100000
set_option maxHeartbeats 4000000
namespace Dl
open PySem PySem.Spec L2 PySem.W PySem.Calls PyProof.Rows
section
variable {X : Cx} {ct : CT} {W : WX} {e : Expr} {te : TD} {pos pos' : Pos} {tbl : Nat → Option Wf} {i : Nat} {x : Str}
/-- n += e, numbers -/
def sAugI (i : Nat) (te : TD) : TDS := fun DD s => ∃ n : Int, s[i]? = some (.v (.int n)) ∧ te s (fun y => ∃ k : Int, y = .int k ∧ DD.nx (s.set i (.v (.int (n + k))))) (xq DD s)
theorem ds_augI (hN : X.N.Nodup) (hi : X.N[i]? = some x) (hx : Loc X.env.scope x) (he : DE X ct W e te) (hf : X.fn x = true ∨ X.env.scope.names.lookup x = some .local := by first | exact .inl rfl | exact .inr rfl | assumption) : DS X ct W (.AugAssign (.Name x pos') .Add e pos) (sAugI i te) :=
  PS.imp (ps_aug (ti := rI0 fun i j => .int (i + j)) hN hi hx he (fun pins s σ H x y v u Q I rx ry q => iop_add pins s σ H x y v u Q I rx ry q) hf) fun E σ H ⟨O0, H0, f, dσ, DD, h, ⟨n, hs, t⟩, en⟩ => by
    obtain ⟨v, e1, r⟩ := h.e.var hs
    rw [rep_int] at r
    subst r
    refine ⟨_, e1, h.ex en t fun v d H1 s1 r1 ⟨k, ek, q⟩ => ?_⟩
    subst ek
    rw [rep_int] at r1
    subst r1
    exact ⟨n, k, rfl, rfl, en.nx _ _ f _ ((h.sm s1).set_v (rep_int.mpr rfl)) q⟩
end
end Dl
set_option Elab.async false
set_option linter.all false
set_option maxRecDepth 100000
set_option maxHeartbeats 4000000
namespace L2
open PySem PySem.Spec PyProof.Rows CwR
end L2
namespace Dl
open PySem PySem.Spec L2
end Dl
set_option Elab.async false
set_option linter.all false
set_option maxRecDepth 100000
set_option maxHeartbeats 4000000
namespace Dl
open PySem PySem.Spec L2 PySem.W PySem.Calls PyProof.Rows
end Dl
set_option Elab.async false
set_option linter.all false
set_option maxRecDepth 100000
set_option maxHeartbeats 4000000
namespace Dl
open PySem PySem.Spec L2
end Dl
set_option Elab.async false
set_option linter.all false
set_option maxRecDepth 100000
set_option maxHeartbeats 4000000
namespace Dl
open PySem PySem.Spec L2
theorem PE.ex {X : Cx} {e : Expr} {α : Type} {t : α → TE} (h : ∀ a, PE X e (t a)) : PE X e (fun σ H Q => ∃ a, t a σ H Q) := ⟨fun pins s σ H Q I q => let ⟨a, q⟩ := q; (h a).run pins s σ H Q I q⟩
end Dl
set_option Elab.async false
set_option linter.all false
set_option maxRecDepth 100000
set_option maxHeartbeats 4000000
namespace Dl
open PySem PySem.Spec L2 PyProof.Rows
theorem hu_rm {k : Nat} {A : Around} (r : Room k A) : A.units + 1 < cLine := by
  have := r.units
  omega
end Dl
set_option Elab.async false
set_option linter.all false
set_option maxRecDepth 100000
set_option maxHeartbeats 4000000
namespace Dl
open PySem PySem.Spec L2 PyProof.Rows
end Dl
set_option Elab.async false
set_option linter.all false
set_option maxRecDepth 100000
set_option maxHeartbeats 4000000
namespace Dl
open PySem PySem.Spec L2
end Dl
set_option Elab.async false
set_option linter.all false
set_option maxRecDepth 100000
set_option maxHeartbeats 4000000
namespace L2.DX
open PySem PySem.Spec PyProof.Rows PySem.W
end L2.DX
namespace Dl
open PySem PySem.Spec L2
end Dl
set_option Elab.async false
set_option linter.all false
set_option maxRecDepth 100000
set_option maxHeartbeats 4000000
namespace Dl.G
open PySem PySem.SeqAt
open AutoSeq1 (wpAny_loadPart')
open MeetsSeq MeetsSeq2 MeetsSeq3 SeqRoads2
end Dl.G
namespace Dl
open PySem PySem.Spec L2
end Dl
set_option Elab.async false
set_option linter.all false
set_option maxRecDepth 100000
set_option maxHeartbeats 4000000
namespace L2
open PySem PySem.Spec PyProof.Rows
end L2
namespace Dl
open PySem PySem.Spec L2
end Dl
set_option Elab.async false
set_option linter.all false
set_option maxRecDepth 100000
set_option maxHeartbeats 4000000
namespace Dl
open PySem PySem.Spec L2
end Dl
set_option Elab.async false
set_option linter.all false
set_option maxRecDepth 100000
set_option maxHeartbeats 4000000
namespace Dl
open PySem PySem.Spec L2
end Dl
set_option Elab.async false
set_option linter.all false
set_option maxRecDepth 100000
set_option maxHeartbeats 0
namespace K13
open PySem PySem.Spec L2 Dl Dl.Hd
def nm : List (List Str) := [[], ["value"], ["value"], [], [], ["_size"], ["_size"], ["_size"], ["_steps"]]
theorem ob_eq (s : PySem.W.SharedT) : ob s = hk.obs s.abs := by
  have e : HandSHeadRun.getT s = s.abs.heap.get? := funext (HandSHeadRun.getT_eq s)
  unfold ob
  rw [e]
  rfl
end K13
set_option Elab.async false
set_option linter.all false
set_option maxRecDepth 100000
set_option maxHeartbeats 4000000
namespace L2
open PySem PySem.Spec PyProof.Rows
end L2
namespace Dl
open PySem PySem.Spec L2
end Dl
set_option Elab.async false
set_option linter.all false
set_option maxRecDepth 100000
set_option maxHeartbeats 4000000
namespace Dl
open PySem PySem.Spec L2
end Dl
set_option Elab.async false
set_option linter.all false
set_option maxRecDepth 100000
set_option maxHeartbeats 4000000
namespace L2
open PySem PySem.Spec PyProof.Rows
end L2
namespace Dl
open PySem PySem.Spec L2
end Dl
set_option Elab.async false
set_option linter.all false
set_option maxRecDepth 100000
set_option maxHeartbeats 4000000
namespace L2
open PySem PySem.Spec PyProof.Rows
end L2
namespace Dl
open PySem PySem.Spec L2
end Dl
set_option Elab.async false
set_option linter.all false
set_option maxRecDepth 100000
set_option maxHeartbeats 4000000
namespace Dl
open PySem PySem.Spec L2
def oShl : O2
  | .int i, .int j, Q => CPow i j ∧ Q (.int (i * 2 ^ j.toNat))
  | _, _, _ => False
def oShr : O2
  | .int i, .int j, Q => 0 ≤ j ∧ Q (.int (i / 2 ^ j.toNat))
  | _, _, _ => False
def oBitI (f : Int → Int → Int) : O2
  | .int i, .int j, Q => Q (.int (f i j))
  | _, _, _ => False
abbrev oBand : O2 := oBitI Builtin.bitAnd
abbrev oBor : O2 := oBitI Builtin.bitOr
def dCh2 (o1 o2 : O2) (ta tb tc : TD) : TD := fun s Q E => ta s (fun x => tb s (fun y => o1 x y (fun z => ∃ k, z = .bl k ∧ if k = true then tc s (fun w => o2 y w Q) E else Q (.bl false))) E) E
def seqD : D → Option (List D)
  | .tup xs => some xs
  | .lst xs => some xs
  | _ => none
def aStar (td : TD) (tda : TDA) : TDA := fun s Q E => td s (fun d => ∃ xs, seqD d = some xs ∧ tda s (fun ys => Q (xs ++ ys)) E) E
def sExt (i : Nat) (td : TD) : TDS := fun DD s => match s[i]? with
  | some (.own xs) => td s (fun d => ∃ ys, d = .lst ys ∧ xs.length + ys.length ≤ sizeLine ∧ DD.nx (s.set i (.own (xs ++ ys)))) (xq DD s)
  | _ => False
section
variable {X : Cx} {ct : CT} {W : WX} {e a b c : Expr} {es : List Expr} {td ta tb tc : TD} {tda : TDA} {pos p : Pos}
theorem od_shl : OpR X (binaryOp .LShift) (R2D X.K ct oShl) := od_int (C := CPow) op_shl fun dx dy QD h => by
  unfold oShl at h
  split at h
  · exact ⟨_, _, rfl, rfl, h.1, h.2⟩
  · exact h.elim
theorem od_shr : OpR X (binaryOp .RShift) (R2D X.K ct oShr) := od_int (C := fun _ j => 0 ≤ j) op_shr fun dx dy QD h => by
  unfold oShr at h
  split at h
  · exact ⟨_, _, rfl, rfl, h.1, h.2⟩
  · exact h.elim
theorem od_bitI {f : Value → Value → Sem Value} {g : Int → Int → Int} (h : OpR X f (rI0 fun i j => .int (g i j))) : OpR X f (R2D X.K ct (oBitI g)) := od_int0 h fun dx dy QD h => by
  unfold oBitI at h
  split at h
  · exact ⟨_, _, rfl, rfl, h⟩
  · exact h.elim
theorem od_band : OpR X (binaryOp .BitAnd) (R2D X.K ct oBand) := od_bitI op_and
theorem od_bor : OpR X (binaryOp .BitOr) (R2D X.K ct oBor) := od_bitI op_or
def tCh2 (r1 r2 : R2) (ta tb tc : TE) : TE := fun σ H Q => ta σ H fun x H1 => tb σ H1 fun y H2 => r1 x y H2 fun z H3 => ∃ k, z = .bl k ∧ if k = true then tc σ H3 fun w H4 => r2 y w H4 Q else Q (.bl false) H3
theorem pe_ch2 {op1 op2 : CmpOp} {r1 r2 : R2} {ta tb tc : TE} (h1 : OpR X (compareOp op1) r1) (h2 : OpR X (compareOp op2) r2) (ha : PE X a ta) (hb : PE X b tb) (hc : PE X c tc) (hm : lastMarks [op1, op2] [b, c] = false) :
    PE X (.Compare a [op1, op2] [b, c] pos) (tCh2 r1 r2 ta tb tc) := by
  refine ⟨fun pins s σ H Q I h => ?_⟩
  refine PyProof.Rows.Compare_chain (thn (ha.run pins s σ H _ I h) fun v s1 ⟨x, H1, I1, rx, q1⟩ => PyProof.Rows.chain_link (thn (hb.run pins s1 σ H1 _ I1 q1) fun u s2 ⟨y, H2, I2, ry, q2⟩ =>
    thn (h1 pins s2 σ H2 x y v u _ I2 rx ry q2) fun c' s3 ⟨z, H3, I3, rz, k, ek, q3⟩ => ?_)) hm
  subst ek
  cases rz
  refine wpAny_truthy_bool ?_
  cases k with
  | false => exact ⟨.bl false, H3, I3, rfl, q3⟩
  | true => exact PyProof.Rows.chain_last (thn (hc.run pins s3 σ H3 _ I3 q3) fun t s4 ⟨w, H4, I4, rw', q4⟩ => h2 pins s4 σ H4 y w u t _ I4 ry rw' q4)
theorem de_ch2 {op1 op2 : CmpOp} {o1 o2 : O2} (h1 : OpR X (compareOp op1) (R2D X.K ct o1)) (h2 : OpR X (compareOp op2) (R2D X.K ct o2)) (ha : DE X ct W a ta) (hb : DE X ct W b tb) (hc : DE X ct W c tc) (hm : lastMarks [op1, op2] [b, c] = false := by with_unfolding_all rfl) :
    DE X ct W (.Compare a [op1, op2] [b, c] pos) (dCh2 o1 o2 ta tb tc) := PE.imp (pe_ch2 h1 h2 ha hb hc hm) fun σ H Q ⟨O, f, dσ, QD, QE, hs, h, k, kx⟩ => by
  refine ⟨O, f, dσ, _, QE, hs, h, fun x dx H1 e1 rx q1 => ?_, kx⟩
  refine ⟨O, f, dσ, _, QE, hs.same e1, q1, fun y dy H2 e2 ry q2 => ?_, kx.same e1⟩
  have hs2 := (hs.same e1).same e2
  refine ⟨O, dx, dy, _, hs2.dom, rx.same e2, ry, q2, fun v d H3 e3 r q3 => ?_⟩
  obtain ⟨k', ek, q3⟩ := q3
  subst ek
  refine ⟨k', rep_bl.mp r, ?_⟩
  cases k' with
  | false => exact k _ _ _ (e1.trans (e2.trans e3)) (rep_bl.mpr rfl) q3
  | true =>
    refine ⟨O, f, dσ, _, QE, hs2.same e3, q3, fun w dw H4 e4 rw' q4 => ?_, (kx.same e1).same (e2.trans e3)⟩
    exact ⟨O, dy, dw, QD, ((hs2.same e3).same e4).dom, ry.same (e3.trans e4), rw', q4, fun v d H5 e5 r q5 => k v d H5 (e1.trans (e2.trans (e3.trans (e4.trans e5)))) r q5⟩
theorem da_star (ha : DE X ct W e td) (hr : DA X ct W es tda) (hs : starEach (.Starred e p :: es) X.env = (true, eval e X.env) :: starEach es X.env := by rfl) : DA X ct W (.Starred e p :: es) (aStar td tda) :=
  PA.imp (StX.pa_star ha hr hs) fun σ H Q ⟨O, f, dσ, QD, QE, hs, h, k, kx⟩ => by
    refine ⟨O, f, dσ, _, QE, hs, h, fun x dx H1 e1 rx ⟨xs, ex, q1⟩ => ?_, kx⟩
    have go : ∃ a vs, x = V.ref a ∧ (SqT X.K H1 a vs ∨ SqL X.K H1 a vs) ∧ RepL X.K ct H1 O xs vs := by
      cases dx with
      | tup ys =>
        cases ex
        obtain ⟨a, vs, e, l, r⟩ := rep_tup.mp rx
        exact ⟨a, vs, e, .inl l, r⟩
      | lst ys =>
        cases ex
        obtain ⟨a, vs, e, n, l, r⟩ := rep_lst.mp rx
        exact ⟨a, vs, e, .inr (SqL.of l), r⟩
      | _ => cases ex
    obtain ⟨a, vs, ea, l, r⟩ := go
    refine ⟨a, vs, ea, l, O, f, dσ, _, QE, hs.same e1, q1, fun ws ds H2 e2 rs q2 => ?_, kx.same e1⟩
    exact k _ _ _ (e1.trans e2) ((r.same e2).app rs) q2
theorem ds_ext {i : Nat} {p1 p2 : Pos} (hp : PE X (.Call (.Attribute a "extend" p1) [e] [] p2) (tBM X.K "list" rExtend (tVar i) (tCons (liftE X.K ct W td) tNil)))
    (hs : swapsWith (.Call (.Attribute a "extend" p1) [e] [] p2) none pos.line X.env = pure false := by rfl) : DS X ct W (.Expr (.Call (.Attribute a "extend" p1) [e] [] p2) pos) (sExt i td) :=
  PS.imp (ps_expr hp hs) fun E σ H ⟨O0, H0, f, dσ, DD, h, t, e⟩ => by
    unfold sExt at t
    split at t
    · rename_i xs hi
      obtain ⟨o, ho, e1, n1, vs, e2, r2⟩ := h.e.at_ i _ hi
      subst e1
      refine ⟨_, ho, .inl ⟨rfl, _, SqL.of e2⟩, h.ex e t fun v d H' s r q => ?_⟩
      obtain ⟨ys, ed, hz, q⟩ := q
      subst ed
      obtain ⟨b, ws, ev, nb, lb, rb⟩ := rep_lst.mp r
      subst ev
      refine ⟨_, b, vs, ws, rfl, rfl, s _ _ e2, lb, by rw [r2.length, rb.length]; exact hz, ?_⟩
      exact e.nx _ _ _ _ ((h.sm s).upd_own hi ((r2.same s).app rb)) q
    · exact t.elim
end
end Dl
set_option Elab.async false
set_option linter.all false
set_option maxRecDepth 100000
set_option maxHeartbeats 4000000
namespace Dl
open PySem PySem.Spec L2
def compR2 (tg : Tg) (tt : TDT) (ti1 : TDI) (tg1 : Tg) (tt1 : TDT) (te : TD) (vs1 : List Nat) (s : List Sl) : List D → (List D → Prop) → Prop
  | [], Q => Q []
  | d :: ds, Q => setT tg d s fun s1 => tt s1 (fun b => match b with
    | true => ti1 s1 (fun es => es.length ≤ 4096 ∧ compR tg1 tt1 te (wipeD s1 vs1) es fun ys => compR2 tg tt ti1 tg1 tt1 te vs1 s ds fun zs => Q (ys ++ zs)) fun _ _ => False
    | false => compR2 tg tt ti1 tg1 tt1 te vs1 s ds Q) fun _ _ => False
def dLc2 (ti : TDI) (tg : Tg) (tt : TDT) (ti1 : TDI) (tg1 : Tg) (tt1 : TDT) (te : TD) (vs vs1 : List Nat) : TD := fun s Q E => ti s (fun ds => ds.length ≤ 4096 ∧ compR2 tg tt ti1 tg1 tt1 te vs1 (wipeD s vs) ds fun ys => Q (.lst ys)) E
/-- the names of one's own lists that a target leaves -/
def OwnIn (s' s : List Sl) : Prop := ∀ (j : Nat) (t : Sl), s'[j]? = some t → isOwn t = true → s[j]? = some t
theorem ownIn_set {s : List Sl} {i : Nat} {d : D} : OwnIn (s.set i (.v d)) s := fun j t e o => by
  rcases getS e with ⟨_, e2, _⟩ | ⟨_, e2⟩
  · subst e2
    cases o
  · exact e2
theorem OwnIn.trans {a b c : List Sl} (h : OwnIn a b) (k : OwnIn b c) : OwnIn a c := fun j t e o => k j t (h j t e o) o
theorem ownIn_setM : ∀ (is : List Nat) (ds : List D) (s : List Sl), OwnIn (setM is ds s) s
  | [], _, s => fun _ _ e _ => e
  | _ :: _, [], s => fun _ _ e _ => e
  | i :: is, d :: ds, s => (ownIn_setM is ds (s.set i (.v d))).trans ownIn_set
theorem ownIn_wipe {s : List Sl} : ∀ vs, OwnIn (wipeD s vs) s
  | [] => fun _ _ e _ => e
  | v :: vs => fun j t e o => by
    rcases getS (show ((wipeD s vs).set v .un)[j]? = some t from e) with ⟨_, e2, _⟩ | ⟨_, e2⟩
    · subst e2
      cases o
    · exact ownIn_wipe vs j t e2 o
theorem setT_own {tg : Tg} {d : D} {s : List Sl} {Q : List Sl → Prop} (t : setT tg d s Q) : setT tg d s fun s' => Q s' ∧ OwnIn s' s := by
  cases tg with
  | nm i => exact ⟨t, ownIn_set⟩
  | tp is =>
    cases d with
    | tup ds => exact ⟨t.1, t.2, ownIn_setM _ _ _⟩
    | _ => exact t.elim
  | tq i is =>
    obtain ⟨d1, es, rfl, e, q⟩ := setT_tq t
    exact ⟨e, q, (ownIn_setM is es _).trans ownIn_set⟩
section
variable {K : PySem.W.Frag} {ct : CT} {H H' : Hp} {O : Addr → Prop} {f : Nat → Addr} {dσ : List Sl} {σ : St} {p : Addr}
/-- the frame where p, none of its own, has changed -/
theorem StE.over (h : StE K ct H O f dσ σ) (hp : O p) (ho : ∀ j t, dσ[j]? = some t → isOwn t = true → f j ≠ p) (c : ∀ b o, b ≠ p → H b = some o → H' b = some o) (ml : ∀ o, H p = some o → Mutb o) (ex : ∃ o, H' p = some o) : StE K ct H' O f dσ σ := by
  have ch : Chg O H H' := fun b o e => by
    by_cases z : b = p
    · subst z
      exact .inr ⟨hp, ml _ e⟩
    · exact .inl (c b o z e)
  refine ⟨h.len, fun i s e => ?_, fun a z => ?_⟩
  · obtain ⟨u, a, b⟩ := h.at_ i s e
    refine ⟨u, a, ?_⟩
    cases s with
    | un => trivial
    | v d =>
      obtain ⟨v, e, r⟩ := b
      exact ⟨v, e, r.chg ch⟩
    | own xs =>
      obtain ⟨e1, n, vs, z, r⟩ := b
      exact ⟨e1, n, vs, c _ _ (ho i _ e rfl) z, r.chg ch⟩
    | ini k fs =>
      obtain ⟨e1, n, ea, vs, z, r⟩ := b
      exact ⟨e1, n, ea, vs, c _ _ (ho i _ e rfl) z, r.chg ch⟩
    | exc k x => exact ⟨b.1, b.2.chg ch⟩
    | dic ks xs =>
      obtain ⟨e1, n, vs, z, hl, r⟩ := b
      exact ⟨e1, n, vs, c _ _ (ho i _ e rfl) z, hl, r.chg ch⟩
  · obtain ⟨u, e⟩ := h.dom a z
    by_cases z2 : a = p
    · rw [z2]
      exact ex
    · exact ⟨u, c a u z2 e⟩
end
section
variable {X : Cx} {ct : CT} {W : WX} {e c a b elt te e1 te1 : Expr} {ifs ifs1 : List Expr} {td : TD} {tt tt1 : TDT} {ti ti1 : TDI} {tg tg1 : Tg} {pos : Pos} {scope : Scope} {own : List (Str × Nat)} {vs1 : List Nat}
theorem de_lc2 (hc : X.calm = true) (hN : X.N.Nodup) (hi : DI X ct W te e ti) (ok : BlkOk X.N X.env.scope scope own) (hv : ∀ i ∈ vs1, i ∈ own.map (·.2))
    (hg : ∀ (s : Shared) (H : Hp) (C : Addr) (cl : List (Str × Addr)) (fp : List Addr), PG (X.blk s H scope (compEnvC scope cl C X.env) fp) te (gT X.K tg)) (ht : ∀ (s : Shared) (H : Hp) (C : Addr) (cl : List (Str × Addr)) (fp : List Addr), DTs (X.blk s H scope (compEnvC scope cl C X.env) fp) ct W0 ifs tt)
    (hi1 : ∀ (s : Shared) (H : Hp) (C : Addr) (cl : List (Str × Addr)) (fp : List Addr), DI (X.blk s H scope (compEnvC scope cl C X.env) fp) ct W0 te1 e1 ti1)
    (hg1 : ∀ (s : Shared) (H : Hp) (C : Addr) (cl : List (Str × Addr)) (fp : List Addr), PG (X.blk s H scope (compEnvC scope cl C X.env) fp) te1 (gT X.K tg1)) (ht1 : ∀ (s : Shared) (H : Hp) (C : Addr) (cl : List (Str × Addr)) (fp : List Addr), DTs (X.blk s H scope (compEnvC scope cl C X.env) fp) ct W0 ifs1 tt1)
    (he : ∀ (s : Shared) (H : Hp) (C : Addr) (cl : List (Str × Addr)) (fp : List Addr), DE (X.blk s H scope (compEnvC scope cl C X.env) fp) ct W0 elt td) (hin : tgIn tg (own.map (·.2)) = true) (hin1 : tgIn tg1 vs1 = true)
    (hs : ∀ x, foldedSetIterable e X.env x = pure x := by intro _; rfl) (hs1 : ∀ env x, foldedSetIterable e1 env x = pure x := by intro _ _; rfl) :
    DE X ct W (.ListComp elt [⟨te, e, ifs, 0⟩, ⟨te1, e1, ifs1, 0⟩] scope pos) (dLc2 ti tg tt ti1 tg1 tt1 td (own.map (·.2)) vs1) :=
  PE.imp (pe_lc2 (tt := liftT X.K ct W0 tt) (tt1 := liftT X.K ct W0 tt1) (wi1 := liftI X.K ct W0 ti1) (te := liftE X.K ct W0 td) hc hN hi ok hv hg ht hi1 hg1 ht1 he hs hs1) fun σ H Q ⟨O, f, dσ, QD, QE, hs, h, k, kx⟩ => by
  refine ⟨O, f, dσ, _, QE, hs, h, fun J ds H1 e1 it ⟨hl, q⟩ p hp => ?_, kx⟩
  have I := it H1 Cut.refl
  have h1 := hs.same e1
  have hO : ¬ O p := fun z => by
    obtain ⟨u, g⟩ := h1.dom p z
    rw [hp] at g
    cases g
  -- own lists of the frame are not p
  have hf0 : ∀ j t, dσ[j]? = some t → isOwn t = true → f j ≠ p := fun j t e o z => by
    obtain ⟨u, a, b⟩ := h1.at_ j t e
    have nn : H1 (f j) = none := by rw [z]; exact hp
    cases t with
    | un => cases o
    | v d => cases o
    | own xs =>
      obtain ⟨_, _, vs, z, _⟩ := b
      rw [z] at nn
      cases nn
    | ini c fs =>
      obtain ⟨_, _, _, vs, z, _⟩ := b
      rw [z] at nn
      cases nn
    | exc k x => cases o
    | dic ks xs =>
      obtain ⟨_, _, vs, z, _, _⟩ := b
      rw [z] at nn
      cases nn
  refine ⟨fun i m H' => m = ds.length - i ∧ i ≤ ds.length ∧ Same H1 H' ∧ ∃ acc accD, H' p = some (.lst acc) ∧ RepL X.K ct H' (fun b => O b ∨ b = p) accD acc ∧ accD.length ≤ i * 4096 ∧ compR2 tg tt ti1 tg1 tt1 td vs1 (wipeD dσ (own.map (·.2))) (ds.drop i) (fun ys => QD (.lst (accD ++ ys))),
    ⟨ds.length, rfl, Nat.zero_le _, same_new hp, [], [], upd_same, RepL.nil, Nat.zero_le _, q⟩, ?_⟩
  rintro i m H' ⟨rfl, hi', s1, acc, accD, ea, ra, la, q'⟩
  by_cases hlt : i < ds.length
  · rw [List.drop_eq_getElem_cons hlt] at q'
    refine .inr ⟨I.go i H' s1 hlt, fun H2 => Same H1 H2 ∧ ∃ acc accD, H2 p = some (.lst acc) ∧ RepL X.K ct H2 (fun b => O b ∨ b = p) accD acc ∧ accD.length ≤ (i + 1) * 4096 ∧ compR2 tg tt ti1 tg1 tt1 td vs1 (wipeD dσ (own.map (·.2))) (ds.drop (i + 1)) (fun ys => QD (.lst (accD ++ ys))),
      fun H2 z => ⟨ds.length - (i + 1), by omega, rfl, hlt, z⟩, fun x H2 y => ?_⟩
    obtain ⟨s2, d, ed, rd⟩ := I.yld i H' x H2 s1 hlt y
    rw [List.getElem?_eq_getElem hlt] at ed
    cases ed
    have r2 : Rep X.K ct H2 (fun b => O b ∨ b = p) ds[i] x := rd _ fun b z => z.elim .inl fun z => .inr (by rw [z]; exact hp)
    have hE : ∀ {H3 : Hp}, Same H1 H3 → (∃ xs, H3 p = some (.lst xs)) → StE X.K ct H3 (fun b => O b ∨ b = p) f (wipeD dσ (own.map (·.2))) (L2.wipe σ (own.map (·.2))) := fun {H3} s3 ⟨xs, ex⟩ => by
      have z := h1.wipe (own.map (·.2))
      refine ⟨z.len, fun j t e => ?_, fun a ha => ?_⟩
      · obtain ⟨u, g1, g2⟩ := z.at_ j t e
        refine ⟨u, g1, ?_⟩
        cases t with
        | un => trivial
        | v d =>
          obtain ⟨v, e, r⟩ := g2
          exact ⟨v, e, (r.fresh hp fun b z => z).same s3⟩
        | own xs =>
          obtain ⟨e, n, vs, z, r⟩ := g2
          exact ⟨e, .inl n, vs, s3 _ _ z, (r.fresh hp fun b z => z).same s3⟩
        | ini c fs =>
          obtain ⟨e, n, ea, vs, z, r⟩ := g2
          exact ⟨e, .inl n, ea, vs, s3 _ _ z, (r.fresh hp fun b z => z).same s3⟩
        | exc k x => exact ⟨g2.1, (g2.2.fresh hp fun b z => z).same s3⟩
        | dic ks xs =>
          obtain ⟨e, n, vs, z, hl, r⟩ := g2
          exact ⟨e, .inl n, vs, s3 _ _ z, hl, (r.fresh hp fun b z => z).same s3⟩
      · rcases ha with ha | ha
        · obtain ⟨u, g⟩ := z.dom a ha
          exact ⟨u, s3 _ _ g⟩
        · rw [ha]
          exact ⟨_, ex⟩
    refine gT_okE hin (hE (s1.trans s2) ⟨acc, s2 _ _ ea⟩) wipe_wipe r2 (setT_own q') fun dσ3 σ3 h3 w3 ⟨q3, o3⟩ => ⟨w3, ?_⟩
    have hf3 : ∀ j t, dσ3[j]? = some t → isOwn t = true → f j ≠ p := fun j t e o => hf0 j t (ownIn_wipe _ j t (o3 j t e o) o) o
    refine ⟨_, f, dσ3, _, _, h3, q3, fun bb H4 s4 q4 => ?_, fun c x cls dd H5 _ _ z => z.elim⟩
    cases bb with
    | false =>
      rw [if_neg Bool.false_ne_true]
      exact ⟨s1.trans (s2.trans s4), acc, accD, s4 _ _ (s2 _ _ ea), ra.same (s2.trans s4), by omega, q4⟩
    | true =>
      rw [if_pos rfl]
      refine ⟨_, f, dσ3, _, _, h3.same s4, q4, fun J1 es H5 s5 it1 ⟨hl1, q5⟩ => ?_, fun c x cls dd H5 _ _ z => z.elim⟩
      have ea5 : H5 p = some (.lst acc) := s5 _ _ (s4 _ _ (s2 _ _ ea))
      have s15 : Same H1 H5 := s1.trans (s2.trans (s4.trans s5))
      have h5 := (h3.same s4).same s5
      -- H5 without p
      have I1 := it1 (fun b => if b = p then none else H5 b) ⟨fun b o e => by
          by_cases z : b = p
          · simp only [z, if_pos] at e
            cases e
          · simp only [z, if_false] at e
            exact e, fun b o e => by
          by_cases z : b = p
          · subst z
            rw [ea5] at e
            cases e
            exact .inr ⟨.inr rfl, trivial⟩
          · refine .inl ?_
            simp only [z, if_false]
            exact e⟩
      have hcut : ∀ {H6 : Hp}, Same (fun b => if b = p then none else H5 b) H6 → ∀ b o, b ≠ p → H5 b = some o → H6 b = some o := fun s b o z e => s b o (by simp only [z, if_false]; exact e)
      refine ⟨fun j m H6 => m = es.length - j ∧ j ≤ es.length ∧ Same (fun b => if b = p then none else H5 b) H6 ∧ ∃ acc accD, H6 p = some (.lst acc) ∧ RepL X.K ct H6 (fun b => O b ∨ b = p) accD acc ∧ accD.length ≤ i * 4096 + j ∧ compR tg1 tt1 td (wipeD dσ3 vs1) (es.drop j) (fun ys => compR2 tg tt ti1 tg1 tt1 td vs1 (wipeD dσ (own.map (·.2))) (ds.drop (i + 1)) fun zs => QD (.lst (accD ++ (ys ++ zs)))),
        ⟨es.length, rfl, Nat.zero_le _, fun b o e => by
          by_cases z : b = p
          · simp only [z, if_pos] at e
            cases e
          · simp only [z, if_false] at e
            exact e, acc, accD, ea5, ra.same (s2.trans (s4.trans s5)), by omega, q5⟩, ?_⟩
      rintro j m H6 ⟨rfl, hj', c6, acc6, accD6, ea6, ra6, la6, q6⟩
      have s16 : Same H1 H6 := fun b o e => hcut c6 b o (fun z => by rw [z, hp] at e; cases e) (s15 b o e)
      by_cases hlt1 : j < es.length
      · rw [List.drop_eq_getElem_cons hlt1] at q6
        refine .inr ⟨I1.go j H6 c6 hlt1, fun H7 => Same (fun b => if b = p then none else H5 b) H7 ∧ ∃ acc accD, H7 p = some (.lst acc) ∧ RepL X.K ct H7 (fun b => O b ∨ b = p) accD acc ∧ accD.length ≤ i * 4096 + (j + 1) ∧ compR tg1 tt1 td (wipeD dσ3 vs1) (es.drop (j + 1)) (fun ys => compR2 tg tt ti1 tg1 tt1 td vs1 (wipeD dσ (own.map (·.2))) (ds.drop (i + 1)) fun zs => QD (.lst (accD ++ (ys ++ zs)))),
          fun H7 z => ⟨es.length - (j + 1), by omega, rfl, hlt1, z⟩, fun x1 H7 y1 => ?_⟩
        obtain ⟨s7, d1, ed1, rd1⟩ := I1.yld j H6 x1 H7 c6 hlt1 y1
        rw [List.getElem?_eq_getElem hlt1] at ed1
        cases ed1
        have r7 : Rep X.K ct H7 (fun b => O b ∨ b = p) es[j] x1 := rd1 _ fun b z => z.elim (fun z => .inl (.inl z)) fun z => .inl (.inr z)
        have h7 : StE X.K ct H7 (fun b => O b ∨ b = p) f (wipeD dσ3 vs1) (L2.wipe σ3 vs1) := ((h5.wipe vs1).over (p := p) (.inr rfl) (fun k t e o => hf3 k t (ownIn_wipe _ k t e o) o) (hcut c6) (fun o e => by rw [ea5] at e; cases e; trivial) ⟨_, ea6⟩).same s7
        refine gT_okE hin1 h7 wipe_wipe r7 q6 fun dσ8 σ8 h8 w8 q8 => ⟨w8, ?_⟩
        refine ⟨_, f, dσ8, _, _, h8, q8, fun bb H8 s8 q8 => ?_, fun c x cls dd H5 _ _ z => z.elim⟩
        have c8 : Same (fun b => if b = p then none else H5 b) H8 := c6.trans (s7.trans s8)
        cases bb with
        | false =>
          dsimp only
          rw [if_neg Bool.false_ne_true]
          exact ⟨c8, acc6, accD6, s8 _ _ (s7 _ _ ea6), ra6.same (s7.trans s8), by omega, q8⟩
        | true =>
          dsimp only
          rw [if_pos rfl]
          refine ⟨_, f, dσ8, _, _, h8.same s8, q8, fun v d H9 s9 r9 q9 => ⟨acc6, s9 _ _ (s8 _ _ (s7 _ _ ea6)), ?_, ?_, ?_⟩, fun c x cls dd H5 _ _ z => z.elim⟩
          · rw [ra6.length]
            have : sizeLine = 16777216 := sizeLine_eq
            omega
          · intro b o e
            have ne : b ≠ p := fun z => by
              simp only [z, if_pos] at e
              cases e
            rw [upd_ne ne]
            exact s9 _ _ (c8 b o e)
          · have ch : Chg (fun b => O b ∨ b = p) H9 (upd H9 p (.lst (acc6 ++ [v]))) := fun b o e => by
              by_cases z : b = p
              · subst z
                rw [s9 _ _ (s8 _ _ (s7 _ _ ea6))] at e
                cases e
                exact .inr ⟨.inr rfl, trivial⟩
              · exact .inl (by rw [upd_ne z]; exact e)
            refine ⟨acc6 ++ [v], accD6 ++ [d], upd_same, (((ra6.same (s7.trans (s8.trans s9))).app (RepL.cons r9 RepL.nil)).chg ch), ?_, ?_⟩
            · rw [List.length_append]
              show accD6.length + 1 ≤ i * 4096 + (j + 1)
              omega
            · simp only [List.append_assoc, List.singleton_append]
              exact q9
      · have ej : j = es.length := by omega
        subst ej
        rw [List.drop_length] at q6
        exact .inl ⟨I1.stop H6 c6, s16, acc6, accD6, ea6, ra6, by omega, q6⟩
  · have ei : i = ds.length := by omega
    subst ei
    rw [List.drop_length] at q'
    refine .inl ⟨I.stop H' s1, k _ (.lst accD) H' (e1.trans s1) (rep_lst.mpr ⟨p, acc, rfl, hO, ea, ra.less fun b z => .inl z⟩) ?_⟩
    have z : QD (.lst (accD ++ [])) := q'
    rw [List.append_nil] at z
    exact z
end
end Dl
set_option Elab.async false
set_option linter.all false
set_option maxRecDepth 100000
set_option maxHeartbeats 4000000
namespace Dl
open PySem PySem.Spec L2 PyProof.Rows
abbrev tokRng (n : Int) : D := .tok (Hd.TokV.rng n).no
theorem isTab_rng (n : Int) : isTab (Hd.TokV.rng n).no = false := by
  unfold isTab
  have e : (Hd.TokV.rng n).no % 2 = 0 := by
    show (1000 + 2 * Hd.enI n) % 2 = 0
    omega
  rw [e]
  exact Bool.and_false _
theorem rep_rng {K : PySem.W.Frag} {H : Hp} {O : Addr → Prop} {v : V} {ct : CT} {n : Int} (hk : ∀ x a, ct.tok (Hd.TokV.no x) a = Hd.tokH x a) : Rep K ct H O (tokRng n) v ↔ ∃ a, v = .ref a ∧ ¬ O a ∧ H a = some (.ext (Hd.RngAt n a)) := by
  rw [rep_tok (isTab_rng n)]
  simp only [hk]
  rfl
theorem rngO_ok {P : Program} {w : World} {H : Hp} {h : Heap} {a : Addr} {n : Int} (e : Hd.RngAt n a h) : ObjOk P w H h a (.ext (Hd.RngAt n a)) :=
  ⟨e, (let ⟨_, _, _, q⟩ := e; ⟨_, q⟩), fun h1 h2 x k => let ⟨t, u, v, q⟩ := x; ⟨t, u, v, k _ q⟩⟩
def tRngV (ta : TE) : TE := fun σ H Q => ta σ H fun x H1 => ∃ n, x = .int n ∧ ∀ q, H1 q = none → Q (.ref q) (upd H1 q (.ext (Hd.RngAt n q)))
def dRngV (ta : TD) : TD := fun s Q E => ta s (fun d => ∃ n, d = .int n ∧ Q (tokRng n)) E
def iRngV (t : TD) : TDI := fun s Q E => t s (fun d => ∃ n, d = tokRng n ∧ (-(2 ^ 62) ≤ n ∧ n < 2 ^ 62) ∧ Q (intsD 0 n.toNat)) E
section
variable {X : Cx} {ct : CT} {W : WX} {a e tg : Expr} {ta te : TE} {td : TD} {p pos : Pos}
theorem pe_rngV (hg : Gl X "range") (hm : X.mg "range" = none) (ha : PE X a ta) (na : starEach [a] X.env = (false, eval a X.env) :: starEach [] X.env := by rfl) : PE X (.Call (.Name "range" p) [a] [] pos) (tRngV ta) := by
  refine ⟨fun pins s σ H Q I h => ?_⟩
  refine Call_ (ld_blt I hg hm boot_range (PyProof.Rows.callWith_type1 (one_arg ha I h (fun v s2 x H2 I2 r q => ?_) na) na))
  obtain ⟨n, rfl, q⟩ := q
  obtain ⟨t, rfl⟩ := r
  refine call_range_1 ?_
  refine ⟨.ref s2.heap.objs.size, _, I2.laid (t' := _) (fun b u e => Heap.get?_push_of_some _ e) (Nat.le_refl _) (rngO_ok ⟨_, _, _, IsRange.new _ _ _ _ _ _ _⟩), rfl, q _ (I2.hok.fresh (Nat.le_refl _))⟩
theorem de_rngV (hk : ∀ x a, ct.tok (Hd.TokV.no x) a = Hd.tokH x a) (hg : Gl X "range") (hm : X.mg "range" = none) (ha : DE X ct W a td) (na : starEach [a] X.env = (false, eval a X.env) :: starEach [] X.env := by rfl) : DE X ct W (.Call (.Name "range" p) [a] [] pos) (dRngV td) :=
  PE.imp (pe_rngV hg hm ha na) fun σ H Q ⟨O, f, dσ, QD, QE, hs, h, k, kx⟩ => by
    refine ⟨O, f, dσ, _, QE, hs, h, fun v d H1 e1 r ⟨n, ed, q⟩ => ?_, kx⟩
    subst ed
    refine ⟨n, rep_int.mp r, fun q0 hq => k _ _ _ (e1.trans (same_new hq)) ((rep_rng hk).mpr ⟨q0, rfl, fun z => ?_, upd_same⟩) q⟩
    obtain ⟨o, eo⟩ := (hs.same e1).dom _ z
    rw [hq] at eo
    cases eo
def iRngE (te : TE) : TI := fun σ H R => te σ H fun v H1 => ∃ a n, v = .ref a ∧ H1 a = some (.ext (Hd.RngAt n a)) ∧ (-(2 ^ 62) ≤ n ∧ n < 2 ^ 62) ∧ R (Itr 0 n.toNat) H1
theorem pi_rngV (he : PE X e te) : PI X tg e (iRngE te) := by
  constructor
  intro pins s σ H R I h
  refine thn (he.run pins s σ H _ I h) ?_
  rintro v s1 ⟨y, H1, I1, r1, a, n, ea, ho, ⟨b1, b2⟩, q⟩
  subst ea
  cases r1
  obtain ⟨t, u, w', hr⟩ := (show ObjOk X.prog X.w H1 s1.heap a (.ext (Hd.RngAt n a)) from I1.hok a _ ho).1
  refine wpAny_pyIter_range hr (small_one (by decide) (by decide) b1 b2) ?_
  refine pi_one (tk := s1.toks) I1 _ (turn_range _ 0 n.toNat) ?_ q
  have e1 : (0 : Int) + ((0 : Nat) : Int) * 1 = 0 := by simp
  have e2 : ((n.toNat : Nat) : Int) - ((0 : Nat) : Int) = Builtin.Range.rangeSize 0 n 1 := by rw [rangeSize_one]; split <;> omega
  show IsRangeIter _ _ ((0 : Int) + ((0 : Nat) : Int) * 1) (((n.toNat : Nat) : Int) - ((0 : Nat) : Int)) 1
  rw [e1, e2]
  exact Heap.get?_push_size _ rfl
theorem di_rngV (hk : ∀ x a, ct.tok (Hd.TokV.no x) a = Hd.tokH x a) (he : DE X ct W e td) : DI X ct W tg e (iRngV td) := PI.imp (pi_rngV he) fun σ H R ⟨O, f, dσ, QD, QE, hs, h, k, kx⟩ => by
  refine ⟨O, f, dσ, _, QE, hs, h, fun v d H1 e1 r ⟨n, ed, b, q⟩ => ?_, kx⟩
  subst ed
  obtain ⟨a, ev, _, ho⟩ := (rep_rng hk).mp r
  exact ⟨a, n, ev, ho, b, k _ _ _ e1 (fun Hb c => it_rng) q⟩
end
end Dl
set_option Elab.async false
set_option linter.all false
set_option maxRecDepth 100000
set_option maxHeartbeats 4000000
namespace Dl
open PySem PySem.Spec PySem.W L2
mutual
def datD : D → PyData
  | .int i => .int i
  | .str x => .str x
  | .lst xs => .list (datDs xs)
  | .tup xs => .tuple (datDs xs)
  | _ => .none
def datDs : List D → List PyData
  | [] => []
  | d :: ds => datD d :: datDs ds
end
mutual
def dataOk : D → Bool
  | .int _ => true
  | .str _ => true
  | .lst xs => dataOks xs
  | .tup xs => dataOks xs
  | _ => false
def dataOks : List D → Bool
  | [] => true
  | d :: ds => dataOk d && dataOks ds
end
def leD (d e : D) : Bool := dataLe false datD d e
structure SortOk (xs : List D) : Prop where
  data : ∀ d ∈ xs, dataOk d = true
  like : ∀ d ∈ xs, ∀ e ∈ xs, alike (datD d) (datD e) = true
  kind : (∀ d ∈ xs, ∃ x r, datD d = .tuple (x :: r)) ∨ ∀ d ∈ xs, datD d ≠ .none ∧ ∀ ys, datD d ≠ .tuple ys
  deep : ∀ d ∈ xs, (datD d).depth ≤ 30
def bSortD : List D → (D → Prop) → Prop
  | [.lst xs], Q => SortOk xs ∧ Q (.lst (xs.mergeSort leD))
  | _, _ => False
section
variable {X : Cx} {ct : CT} {pins : List (Addr × Obj)} {σ : L2.St} {H : Hp} {s : Shared} {O : Addr → Prop}
mutual
theorem reads_of (I : Inv X pins σ H s) : ∀ {d : D} {v : V} {u : Value}, Rep X.K ct H O d v → RelV v u → dataOk d = true → ∃ as, Reads s.heap u (datD d) as
  | .int i, v, u, r, rv, _ => by
    rw [rep_int] at r
    subst r
    obtain ⟨t, rfl⟩ := rv
    exact ⟨[], .int _ _⟩
  | .str x, v, u, r, rv, _ => by
    rw [rep_str] at r
    subst r
    obtain ⟨t, rfl⟩ := rv
    exact ⟨[], .str _ _⟩
  | .lst xs, v, u, r, rv, k => by
    obtain ⟨a, vs, rfl, _, l, rl⟩ := rep_lst.mp r
    obtain ⟨its, rvs, pl, _⟩ := I.list (SqL.of l)
    cases rv
    obtain ⟨o, ho, hc, n, hd⟩ := pl.isList
    simp only [dataOk] at k
    obtain ⟨as, q⟩ := readsL_of I rl rvs k
    exact ⟨a :: as, .list ho hc hd (by simpa using q)⟩
  | .tup xs, v, u, r, rv, k => by
    obtain ⟨a, vs, rfl, l, rl⟩ := rep_tup.mp r
    obtain ⟨its, rvs, pl, _⟩ := I.tuple l
    cases rv
    obtain ⟨o, ho, hc, n, hd⟩ := (show s.heap.IsTuple a its.toArray from pl)
    simp only [dataOk] at k
    obtain ⟨as, q⟩ := readsL_of I rl rvs k
    exact ⟨as, .tuple ho hc hd (by simpa using q)⟩
  | .non, v, u, r, rv, k => by cases k
  | .bl _, v, u, r, rv, k => by cases k
  | .ty _, v, u, r, rv, k => by cases k
  | .scr _, v, u, r, rv, k => by cases k
  | .obj _ _, v, u, r, rv, k => by cases k
  | .cls _, v, u, r, rv, k => by cases k
  | .tok _, v, u, r, rv, k => by cases k
  | .ref _, v, u, r, rv, k => by cases k
  | .dic _ _, v, u, r, rv, k => by cases k
theorem readsL_of (I : Inv X pins σ H s) : ∀ {ds : List D} {vs : List V} {us : List Value}, RepL X.K ct H O ds vs → Vals vs us → dataOks ds = true → ∃ as, ReadsAll s.heap us (datDs ds) as
  | [], vs, us, r, rv, _ => by
    simp only [RepL] at r
    subst r
    cases rv
    exact ⟨[], .nil⟩
  | d :: ds, vs, us, r, rv, k => by
    obtain ⟨v, q, rfl, h1, h2⟩ := r.cons_inv
    cases rv with
    | cons r1 r2 =>
      simp only [dataOks, Bool.and_eq_true] at k
      obtain ⟨as, a⟩ := reads_of I h1 r1 k.1
      obtain ⟨bs, b⟩ := readsL_of I h2 r2 k.2
      exact ⟨as ++ bs, .cons a b⟩
end
theorem each_rep {R : Value → V × D → Prop} : ∀ {xs : List D} {vs : List V} {us : List Value}, RepL X.K ct H O xs vs → Vals vs us → (∀ d v u, d ∈ xs → Rep X.K ct H O d v → RelV v u → R u (v, d)) → EachIs R us (vs.zip xs)
  | [], vs, us, r, rv, _ => by
    simp only [RepL] at r
    subst r
    cases rv
    exact .nil
  | d :: ds, vs, us, r, rv, k => by
    obtain ⟨v, q, rfl, h1, h2⟩ := r.cons_inv
    cases rv with
    | cons r1 r2 => exact .cons (k _ _ _ List.mem_cons_self h1 r1) (each_rep h2 r2 fun d v u hd => k d v u (List.mem_cons_of_mem _ hd))
theorem vals_each : ∀ {us : List Value} {bs : List (V × D)}, EachIs (fun u (b : V × D) => RelV b.1 u) us bs → Vals (bs.map (·.1)) us
  | _, _, .nil => .nil
  | _, _, .cons h t => .cons h (vals_each t)
theorem repL_zip : ∀ {bs : List (V × D)}, (∀ b ∈ bs, Rep X.K ct H O b.2 b.1) → RepL X.K ct H O (bs.map (·.2)) (bs.map (·.1))
  | [], _ => RepL.nil
  | b :: bs, h => RepL.cons (h b List.mem_cons_self) (repL_zip fun c hc => h c (List.mem_cons_of_mem _ hc))
theorem mem_zip_rep : ∀ {xs : List D} {vs : List V}, RepL X.K ct H O xs vs → ∀ b ∈ vs.zip xs, Rep X.K ct H O b.2 b.1
  | [], vs, r, b, hb => by
    rw [List.zip_nil_right] at hb
    cases hb
  | d :: ds, vs, r, b, hb => by
    obtain ⟨v, q, rfl, h1, h2⟩ := r.cons_inv
    rw [List.zip_cons_cons] at hb
    rcases List.mem_cons.mp hb with rfl | hb
    · exact h1
    · exact mem_zip_rep h2 b hb
theorem cd_sortD (hu : X.A.units + 64 < cLine) : CallR X (.builtin "sorted") (RCD X.K ct bSortD) := by
  intro pins s σ H vs us Q I rv ⟨O, ds, QD, dm, r, o, k⟩
  unfold bSortD at o
  split at o
  · rename_i xs
    obtain ⟨v, rfl, h1⟩ := rep1 r
    obtain ⟨ok, q⟩ := o
    obtain ⟨a, ws, rfl, n, l, rl⟩ := rep_lst.mp h1
    obtain ⟨its, rvs, pl, hz⟩ := I.list (SqL.of l)
    rw [Vals.ref1 rv]
    have hlen : (ws.zip xs).length = xs.length := by rw [List.length_zip, rl.length, Nat.min_self]
    have hsnd : (ws.zip xs).map (·.2) = xs := List.map_snd_zip (by rw [rl.length]; exact Nat.le_refl _)
    have hm : ∀ b ∈ ws.zip xs, b.2 ∈ xs := fun b hb => by rw [← hsnd]; exact List.mem_map_of_mem hb
    refine sorted_data (bs := ws.zip xs) (enc := fun b => datD b.2) (R := fun u (b : V × D) => RelV b.1 u) (vs := its) (by simpa using pl.isList) (each_rep rl rvs fun d v u _ _ h => h) (each_rep rl rvs fun d v u hd h h2 => reads_of I h h2 (ok.data d hd)) ?_ ?_ ?_ ?_ fun out ol oe => ?_
    · intro x hx y hy
      obtain ⟨b, hb, rfl⟩ := List.mem_map.mp hx
      obtain ⟨c, hc, rfl⟩ := List.mem_map.mp hy
      exact ok.like _ (hm b hb) _ (hm c hc)
    · rcases ok.kind with z | z
      · refine .inl fun x hx => ?_
        obtain ⟨b, hb, rfl⟩ := List.mem_map.mp hx
        exact z _ (hm b hb)
      · refine .inr fun x hx => ?_
        obtain ⟨b, hb, rfl⟩ := List.mem_map.mp hx
        exact z _ (hm b hb)
    · rw [hlen, ← rl.length]
      exact hz
    · intro b hb
      have := ok.deep _ (hm b hb)
      show X.A.units + 2 + (datD b.2).depth < cLine
      omega
    · generalize hzs : (ws.zip xs).mergeSort (dataLe false fun b : V × D => datD b.2) = zs at oe
      have pz : zs.Perm (ws.zip xs) := by rw [← hzs]; exact List.mergeSort_perm _ _
      have hsort : zs.map (·.2) = xs.mergeSort leD := by
        rw [← hzs]
        refine (List.map_mergeSort (r := dataLe false fun b : V × D => datD b.2) (s := leD) (f := fun z : V × D => z.2) (l := ws.zip xs) fun _ _ _ _ => rfl).trans ?_
        rw [hsnd]
      obtain ⟨ep, he'⟩ := PyProof.Rows.sortedAll_at s.heap its out.toArray
      have hl2 : (zs.map (·.1)).length ≤ sizeLine := by
        rw [List.length_map, pz.length_eq, hlen, ← rl.length]
        exact hz
      have hn : H (s.heap.objs.size + 1) = none := I.hok.fresh (Nat.le_succ _)
      refine ⟨.ref _, upd H (s.heap.objs.size + 1) (.lst (zs.map (·.1))), I.laid (t' := s.toks) (fun _ _ => PyProof.Rows.sortedAll_old) (Nat.le_succ _) ⟨hl2, out, ep, vals_each oe, he'⟩, rfl, ?_⟩
      rw [← hsort] at q
      exact k _ _ _ (same_new hn) (new_lst hn dm (repL_zip fun b hb => mem_zip_rep rl b (pz.mem_iff.mp hb))) q
  · exact o.elim
end
end Dl
set_option Elab.async false
set_option linter.all false
set_option maxRecDepth 100000
set_option maxHeartbeats 4000000
namespace Dl
open PySem PySem.Spec L2
end Dl
set_option Elab.async false
set_option linter.all false
set_option maxRecDepth 100000
set_option maxHeartbeats 4000000
namespace Dl
open PySem PySem.Spec PySem.W L2
end Dl
set_option Elab.async false
set_option linter.all false
set_option maxRecDepth 100000
set_option maxHeartbeats 4000000
namespace Dl
open PySem PySem.Spec PyProof.Rows L2
theorem truth_nums {prog : Program} {w : World} {A : Around} {ns : List Int} {its : List Value} (rv : Vals (ns.map V.int) its) : TruthOf prog w A (fun i v => its.toArray[i]? = some v) (fun i => !(ns.getD i 0 == 0)) := fun i v s Q E hv hq => by
  have hv' : its[i]? = some v := by simpa using hv
  have hi : i < ns.length := by
    have h1 := (List.getElem?_eq_some_iff.mp hv').1
    have h2 := rv.length
    rw [List.length_map] at h2
    omega
  obtain ⟨u, hu, ru⟩ := rv.get (i := i) (x := V.int ns[i]) (by rw [List.getElem?_map, List.getElem?_eq_getElem hi]; rfl)
  rw [hv'] at hu
  cases hu
  obtain ⟨t, rfl⟩ := ru
  have hg : ns.getD i 0 = ns[i] := by rw [List.getD_eq_getElem?_getD, List.getElem?_eq_getElem hi] <;> rfl
  have hq' : Q (!(ns.getD i 0 == 0)) s := hq
  rw [hg] at hq'
  refine PyProof.Rows.truthy_int ?_
  exact hq'
theorem any_nums : ∀ ns : List Int, (List.range ns.length).any (fun i => !(ns.getD i 0 == 0)) = ns.any fun n => !(n == 0)
  | [] => rfl
  | n :: ns => by
    rw [List.length_cons, List.range_succ_eq_map, List.any_cons, List.any_map, List.any_cons, ← any_nums ns]
    all_goals rfl
def bAnyI (ds : List D) (Q : D → Prop) : Prop := ∃ ns : List Int, ds = [.lst (ns.map D.int)] ∧ Q (.bl (ns.any fun n => !(n == 0)))
theorem cd_anyI {X : Cx} {ct : CT} (hc : X.calm = true) : CallR X (.builtin "any") (RCD X.K ct bAnyI) := by
  intro pins s σ H vs us Q I rv ⟨O, ds, QD, dm, r, ⟨ns, ed, q⟩, k⟩
  subst ed
  obtain ⟨v, e, h1⟩ := rep1 r
  obtain ⟨p, ys, e2, n, l, rl⟩ := rep_lst.mp h1
  have e3 := RepL.ints_inv rl
  subst e e2 e3
  obtain ⟨its, rvs, hl, _⟩ := I.list (SqL.of l)
  rw [Vals.ref1 rv]
  refine call_any_walk (iter_any hl.isList fun s₂ e2 st hne => ?_)
  subst e2
  refine ⟨_, _, _, _, _, _, _, rfl, Walks.list (A := X.A.in1) (I.ok.hd hc) _ p hne its.toArray, st, truth_nums rvs, fun h' tk hk => ?_⟩
  refine ⟨.bl _, H, I.kept fun b o eo => hk b o (fun hmem => ?_) (Heap.get?_push_of_some _ eo), ?_, k _ (.bl (ns.any fun n => !(n == 0))) H (Same.refl H) (rep_bl.mpr rfl) q⟩
  · rcases List.mem_cons.mp hmem with e1 | hmem
    · exact absurd (e1 ▸ Heap.lt_size eo) (Nat.lt_irrefl _)
    · cases hmem
  · show Value.bool _ = Value.bool _
    have hz : its.toArray.size = ns.length := by
      have := rvs.length
      rw [List.length_map] at this
      rw [List.size_toArray]
      omega
    rw [← any_nums, hz]
end Dl
set_option Elab.async false
set_option linter.all false
set_option maxRecDepth 100000
set_option maxHeartbeats 4000000
namespace Dl
open PySem PySem.Spec L2
open PyProof.Rows hiding St
abbrev tokTab (l : List (List Int × Int)) : D := .tok (Hd.TokV.tab l).no
abbrev intT (ks : List Int) : D := .tup (ks.map D.int)
theorem hash_ints {P P' : Program} {w w' : World} (ks : List Int) : tupleKeyHash (mixKind P w) (ks.map Sum.inl) = tupleKeyHash (mixKind P' w') (ks.map Sum.inl) := by
  unfold tupleKeyHash
  rw [List.map_map, List.map_map]
  rfl
theorem kv_ints (ks : List Int) : (ks.map (Sum.inl : Int → Key)).map kV = ks.map V.int := by
  rw [List.map_map]
  rfl
section
variable {X : Cx} {pins : List (Addr × Obj)} {σ : St} {H : Hp} {s : Shared} {a q : Addr} {ks : List Int} {es : Array DictEntry} {ep : Nat} {l : List (List Int × Int)}
theorem key_sqt (I : Inv X pins σ H s) (h : SqT X.K H q (ks.map V.int)) : (tupleKind (mixKind X.prog X.w)).is s.heap (ks.map Sum.inl) q := by
  obtain ⟨its, r, ⟨o, h1, h2, n, h3⟩, _⟩ := I.tuple h
  rw [← kv_ints] at r
  exact ⟨o, its.toArray, n, h1, h2, h3, by simpa using items_are r⟩
theorem tab_at (I : Inv X pins σ H s) (h : H a = some (tabO a es ep)) : (a == sysModules) = false ∧ ∃ o, s.heap.get? a = some o ∧ o.ExactDict ∧ o.data = .dict es ep :=
  (show ObjOk X.prog X.w H s.heap a (tabO a es ep) from I.hok a _ h).1
/-- an entry told by its key, the key's place, its value -/
def TabX (K : PySem.W.Frag) (H : Hp) (p : List Int × Int) (x : List Key × Addr × Value) : Prop := x.1 = p.1.map Sum.inl ∧ SqT K H x.2.1 (p.1.map V.int) ∧ ∃ t, x.2.2 = .int p.2 t
theorem tab_xs {K : PySem.W.Frag} {P : Program} {w : World} : ∀ {l : List (List Int × Int)} {es : List DictEntry}, Paired (TabE K H) l es → ∃ xs : List (List Key × Addr × Value), es = xs.map (entryOfKey (tupleKind (mixKind P w))) ∧ Paired (TabX K H) l xs
  | _, _, .nil => ⟨[], rfl, .nil⟩
  | _, _, .cons (a := p) (b := e) h r => by
    obtain ⟨xs, e1, r1⟩ := tab_xs (P := P) (w := w) r
    obtain ⟨hh, q, t, h1, h2, h3⟩ := h
    refine ⟨(p.1.map Sum.inl, q, .int p.2 t) :: xs, ?_, .cons ⟨rfl, h2, t, rfl⟩ r1⟩
    rw [List.map_cons, ← e1]
    congr 1
    obtain ⟨e1, e2, e3⟩ := e
    have hz := hh P w
    dsimp only at h1 h3 hz
    subst h1 h3 hz
    rfl
theorem tab_back {K : PySem.W.Frag} {P : Program} {w : World} : ∀ {l : List (List Int × Int)} {xs : List (List Key × Addr × Value)}, Paired (TabX K H) l xs → Paired (TabE K H) l (xs.map (entryOfKey (tupleKind (mixKind P w))))
  | _, _, .nil => .nil
  | _, _, .cons (a := p) (b := x) h r => by
    obtain ⟨h1, h2, t, h3⟩ := h
    rw [List.map_cons]
    refine .cons ⟨fun P' w' => ?_, x.2.1, t, rfl, h2, h3⟩ (tab_back r)
    show tupleKeyHash (mixKind P w) x.1 = _
    rw [h1]
    exact hash_ints _
theorem tabx_keys {K : PySem.W.Frag} : ∀ {l : List (List Int × Int)} {xs : List (List Key × Addr × Value)}, Paired (TabX K H) l xs → xs.map (·.1) = (l.map (·.1)).map (List.map Sum.inl)
  | _, _, .nil => rfl
  | _, _, .cons h r => by
    rw [List.map_cons, List.map_cons, List.map_cons, tabx_keys r, h.1]
theorem inl_inj {a b : List Int} (h : a.map (Sum.inl : Int → Key) = b.map Sum.inl) : a = b := by
  have e := congrArg (List.map fun k : Key => match k with
    | .inl i => i
    | .inr _ => 0) h
  rw [List.map_map, List.map_map] at e
  have z : ((fun k : Key => match k with
    | .inl i => i
    | .inr _ => 0) ∘ (Sum.inl : Int → Key)) = id := rfl
  rw [z, List.map_id, List.map_id] at e
  exact e
theorem nodup_inl {ks : List (List Int)} (h : ks.Nodup) : (ks.map (List.map (Sum.inl : Int → Key))).Nodup := by
  unfold List.Nodup at h ⊢
  rw [List.pairwise_map]
  exact h.imp fun n e => n (inl_inj e)
theorem dict_of (I : Inv X pins σ H s) (h : H a = some (tabO a es ep)) (r : Paired (TabE X.K H) l es.toList) (nd : (l.map (·.1)).Nodup) :
    ∃ xs, s.heap.DictOfH (tupleKind (mixKind X.prog X.w)) a xs ∧ Paired (TabX X.K H) l xs := by
  obtain ⟨_, o, ho, hx, hd⟩ := tab_at I h
  obtain ⟨xs, e, r2⟩ := tab_xs (P := X.prog) (w := X.w) r
  have all : ∀ {l : List (List Int × Int)} {xs : List (List Key × Addr × Value)}, Paired (TabX X.K H) l xs → ∀ x ∈ xs, (tupleKind (mixKind X.prog X.w)).is s.heap x.1 x.2.1 := by
    intro l m q
    induction q with
    | nil => intro x hx; exact nomatch hx
    | @cons p q ps qs hq t ih =>
      intro x hx
      rcases List.mem_cons.mp hx with e | hx
      · subst e
        rw [hq.1]
        exact key_sqt I hq.2.1
      · exact ih x hx
  refine ⟨xs, ⟨o, es, ep, ho, hx, hd, e, all r2, ?_⟩, r2⟩
  rw [tabx_keys r2]
  exact nodup_inl nd
theorem lookup_at : ∀ {l : List (List Int × Int)} {ks : List Int} {v : Int}, l.lookup ks = some v → ∃ i : Nat, l[i]? = some (ks, v)
  | [], ks, v, h => by cases h
  | p :: l, ks, v, h => by
    obtain ⟨k, u⟩ := p
    rw [List.lookup_cons] at h
    split at h
    · rename_i e
      cases h
      have e := eq_of_beq e
      subst e
      exact ⟨0, rfl⟩
    · obtain ⟨i, e⟩ := lookup_at h
      exact ⟨i + 1, e⟩
theorem tab_get (I : Inv X pins σ H s) (hu : X.A.units + 1 < cLine) (h : H a = some (tabO a es ep)) (r : Paired (TabE X.K H) l es.toList) (nd : (l.map (·.1)).Nodup) {v : Int} (hv : l.lookup ks = some v) (hq : SqT X.K H q (ks.map V.int)) {Q : Value → Shared → Prop} {E : Value → Shared → Prop}
    (k : ∀ w' s', Inv X pins σ H s' → RelV (.int v) w' → Q w' s') : wpAny (model X.prog X.w) X.A (getItem (.ref a) (.ref q)) Q E s := by
  obtain ⟨xs, dd, rx⟩ := dict_of I h r nd
  obtain ⟨i, ei⟩ := lookup_at hv
  obtain ⟨x, ex, e1, e2, t, e3⟩ := paired_get rx ei
  have n2 : (xs.map (·.1)).Nodup := let ⟨_, _, _, _, _, _, _, _, n⟩ := dd; n
  have ex2 : xs[i]? = some (ks.map Sum.inl, x.2) := by
    rw [ex, ← e1]
  refine wpAny_getItem_heap (tupleKind_room_in1 hu) (key_sqt I hq) dd (atKey_of_get n2 ex2) ?_
  rw [e3]
  exact k _ _ (I.tok _) ⟨t, rfl⟩
theorem ne_tab (hD : H a = some (tabO a es ep)) {b : Addr} {xs : List V} {K : PySem.W.Frag} (h : SqT K H b xs) {o : HO} : SqT K (upd H a o) b xs := by
  rcases h with h | h
  · rcases h with h | ⟨x, h⟩
    · exact .inl (.inl (by rw [upd_ne (fun z => by rw [z, hD] at h; cases h)]; exact h))
    · exact .inl (.inr ⟨x, by rw [upd_ne (fun z => by rw [z, hD] at h; cases h)]; exact h⟩)
  · exact .inr h
theorem tabe_upd {K : PySem.W.Frag} {o : HO} (hD : H a = some (tabO a es ep)) {l : List (List Int × Int)} {fs : List DictEntry} (h : Paired (TabE K H) l fs) : Paired (TabE K (upd H a o)) l fs :=
  L2.Paired.mapP h fun p e z => let ⟨h1, q, t, h2, h3, h4⟩ := z; ⟨h1, q, t, h2, ne_tab hD h3, h4⟩
theorem tab_new {P : Program} {w : World} {H : Hp} {h : Heap} {a : Addr} {es : Array DictEntry} {ep : Nat} (n : (a == sysModules) = false) (e : ∃ o, h.get? a = some o ∧ o.ExactDict ∧ o.data = .dict es ep) : ObjOk P w H h a (tabO a es ep) :=
  ⟨⟨n, e⟩, let ⟨o, e, _⟩ := e; ⟨o, e⟩, fun h1 h2 x k => let ⟨n, o, e, r⟩ := x; ⟨n, o, k o e, r⟩⟩
theorem tab_set (I : Inv X pins σ H s) (hu : X.A.units < cLine) (h : H a = some (tabO a es ep)) (r : Paired (TabE X.K H) l es.toList) (nd : (l.map (·.1)).Nodup) (hz : l.length < sizeLine) (hn : ks ∉ l.map (·.1)) {v : Int} {u : Value} (hv : RelV (.int v) u) (hq : SqT X.K H q (ks.map V.int)) {Q : Unit → Shared → Prop} {E : Value → Shared → Prop}
    (k : ∀ es' ep' s', Paired (TabE X.K H) (l ++ [(ks, v)]) es'.toList → Inv X pins σ (upd H a (tabO a es' ep')) s' → Q () s') : wpAny (model X.prog X.w) X.A (dictSet a (.ref q) u) Q E s := by
  obtain ⟨xs, dd, rx⟩ := dict_of I h r nd
  have hl := Paired.length rx
  have hk : ks.map (Sum.inl : Int → Key) ∉ xs.map (·.1) := by
    rw [tabx_keys rx]
    intro z
    obtain ⟨k', m, e⟩ := List.mem_map.mp z
    rw [inl_inj e] at m
    exact hn m
  have hat : atKey xs (ks.map Sum.inl) = none := atKey_none_of_get fun j p hj => hk (List.mem_map.mpr ⟨_, List.mem_of_getElem? hj, rfl⟩)
  obtain ⟨t, rfl⟩ := hv
  refine wpAny_dictSet_heap (hsz := by omega) (knd := tupleKind (mixKind X.prog X.w)) hu (key_sqt I hq) dd fun h' dd' hs => ?_
  rw [storedH_new hat] at dd'
  obtain ⟨o', es', ep', ho, hx, hd, he, _, _⟩ := dd'
  refine k es' ep' _ ?_ (d_write I (by rw [h]; exact True.intro) hs ⟨o', ho⟩ (tab_new (tab_at I h).1 ⟨o', ho, hx, hd⟩))
  rw [he]
  exact tab_back (Paired.snoc rx ⟨rfl, hq, t, rfl⟩)
end
end Dl
set_option Elab.async false
set_option linter.all false
set_option maxRecDepth 100000
set_option maxHeartbeats 4000000
namespace Dl
open PySem PySem.Spec L2
open PyProof.Rows hiding St
def tDcT (K : PySem.W.Frag) (wi : TI) (g : TG) (tt : TT) (tk tv : TE) (vs : List Nat) : TE := fun σ H Q => wi σ H fun J H1 => ∀ D, H1 D = none → ∃ W : Nat → Nat → Hp → Prop, (∃ m, W 0 m (upd H1 D (tabO D #[] 0))) ∧ ∀ i m H, W i m H →
  (J.stop i H ∧ Q (.ref D) H) ∨ (J.go i H ∧ ∃ Nx : Hp → Prop, (∀ H', Nx H' → ∃ m', m' < m ∧ W (i + 1) m' H') ∧ ∀ x H', J.yld i H x H' → g x (L2.wipe σ vs) H' fun σ2 H2 => L2.wipe σ2 vs = L2.wipe σ vs ∧ tt σ2 H2 fun b H3 =>
    if b = true then tk σ2 H3 fun y H4 => tv σ2 H4 fun z H5 => ∃ es ep l ks v q, y = .ref q ∧ z = .int v ∧ SqT K H5 q (ks.map V.int) ∧ H5 D = some (tabO D es ep) ∧ Paired (TabE K H5) l es.toList ∧ (l.map (·.1)).Nodup ∧ ks ∉ l.map (·.1) ∧ l.length < sizeLine ∧
      ∀ es' ep', Paired (TabE K H5) (l ++ [(ks, v)]) es'.toList → Nx (upd H5 D (tabO D es' ep'))
    else Nx H3)
theorem tab_empty {P : Program} {w : World} {H : Hp} {h : Heap} (hb : sysModules < h.objs.size) : ObjOk P w H (h.push { cls := .type "dict", data := .dict #[] }) h.objs.size (tabO h.objs.size #[] 0) :=
  tab_new (by
    rw [beq_eq_false_iff_ne]
    exact Nat.ne_of_gt hb) ⟨_, Heap.get?_push_size _ rfl, ⟨rfl, rfl, rfl⟩, rfl⟩
section
variable {X : Cx}
theorem dcT_core {pins : List (Addr × Obj)} {s : Shared} {σ : St} {H : Hp} {Q : VK} {kx vx tg iter : Expr} {ifs : List Expr} {scope : Scope} {own : List (Str × Nat)} {pos pos' : Pos} {wi : TI} {g : TG} {tt : TT} {tk tv : TE} {use : Option (Value → Sem Unit)} {Qf : Value → Shared → Prop}
    (hc : X.calm = true) (hN : X.N.Nodup) (I : Inv X pins σ H s) (hi : PI X tg iter wi) (ok : BlkOk X.N X.env.scope scope own)
    (hg : ∀ (s : Shared) (H : Hp) (C : Addr) (cl : List (Str × Addr)) (fp : List Addr), PG (X.blk s H scope (compEnvC scope cl C X.env) fp) tg g) (ht : ∀ (s : Shared) (H : Hp) (C : Addr) (cl : List (Str × Addr)) (fp : List Addr), PTs (X.blk s H scope (compEnvC scope cl C X.env) fp) ifs tt)
    (hk : ∀ (s : Shared) (H : Hp) (C : Addr) (cl : List (Str × Addr)) (fp : List Addr), PE (X.blk s H scope (compEnvC scope cl C X.env) fp) kx tk)
    (he : ∀ (s : Shared) (H : Hp) (C : Addr) (cl : List (Str × Addr)) (fp : List Addr), PE (X.blk s H scope (compEnvC scope cl C X.env) fp) vx tv) (hs : ∀ x, foldedSetIterable iter X.env x = pure x)
    (hu : X.A.units < cLine) (h : tDcT X.K wi g tt tk tv (own.map (·.2)) σ H Q)
    (hRR : ∀ D C s' m H', Inv X pins σ H' s' → Q (.ref D) H' → s'.heap.Ns C m → FpOk X pins H' C → compPost (model X.prog X.w) X.A X.xe use Qf (.ref D) C (.ok .next) s') :
    wpAny (model X.prog X.w) X.A (comprehension (.DictComp kx vx [⟨tg, iter, ifs, 0⟩] scope pos) scope X.env pos' newDict false (eval iter X.env) use) Qf X.xe s := by
  have hfree : ∀ y ∈ scope.names, y.2 = .free → ∃ c, X.env.cells.lookup y.1 = some c := fun y hy e => by
    rcases ok.free y hy e with k | k
    · exact I.ok.has _ (.inl k)
    · exact I.ok.has _ (.inr k)
  refine wpAny_comprehension_free (use := use) rfl hs (closure_ok hfree) ok.kind (fun y hy e => by rw [ok.uniq y hy, e])
    (thn (hi.run pins s σ H _ I h) fun xv s1 hx => thn hx fun itv s2 h2 => ?_)
  obtain ⟨it, fp, tn, J, H2, e, I2, T, st2, f2, q⟩ := h2
  subst e
  refine wpAny_newObj_type (newEnv_comp ?_)
  generalize hD : s2.heap.objs.size = D
  have hDn : H2 D = none := I2.hok.fresh (Nat.le_of_eq hD)
  obtain ⟨W, ⟨m0, w0⟩, turn⟩ := q D hDn
  -- the new list
  generalize hs3 : ({ s2 with heap := s2.heap.push { cls := .type "dict", data := .dict #[] } } : Shared) = s3
  have I3 : Inv X pins σ (upd H2 D (tabO D #[] 0)) s3 := by
    rw [← hs3]
    refine I2.laid (t' := s2.toks) (fun b o e => Heap.get?_push_of_some _ e) (Nat.le_of_eq hD) ?_
    rw [← hD]
    exact tab_empty I2.big
  have h3 : s3.heap = s2.heap.push { cls := .type "dict", data := .dict #[] } := by rw [← hs3]
  have sz : ∀ b ∈ fp, b < s2.heap.objs.size := fun b hb => by
    obtain ⟨o, e, _⟩ := T.obj _ _ st2 b hb
    exact Heap.lt_size e
  have f3 : ∀ b ∈ fp, FpOk X pins (upd H2 D (tabO D #[] 0)) b ∧ b < s3.heap.objs.size := fun b hb => by
    have hlt := sz b hb
    refine ⟨⟨?_, (f2 b hb).2⟩, by rw [h3, Heap.size_push]; exact Nat.lt_succ_of_lt hlt⟩
    rw [upd_ne (by rw [← hD]; exact Nat.ne_of_lt hlt)]
    exact (f2 b hb).1
  have st3 : tn 0 s3.heap := T.keep _ _ _ st2 fun b _ o e => by rw [h3]; exact Heap.get?_push_of_some _ e
  have I4 := block_start I3 ok hN f3
  have pg := hg s3 (upd H2 D (tabO D #[] 0)) s3.heap.objs.size (cellsFrom (s3.heap.objs.size + 1) scope.names (cloFrom X.env.cells scope.names [])) fp
  have pt := ht s3 (upd H2 D (tabO D #[] 0)) s3.heap.objs.size (cellsFrom (s3.heap.objs.size + 1) scope.names (cloFrom X.env.cells scope.names [])) fp
  have pk := hk s3 (upd H2 D (tabO D #[] 0)) s3.heap.objs.size (cellsFrom (s3.heap.objs.size + 1) scope.names (cloFrom X.env.cells scope.names [])) fp
  have pe := he s3 (upd H2 D (tabO D #[] 0)) s3.heap.objs.size (cellsFrom (s3.heap.objs.size + 1) scope.names (cloFrom X.env.cells scope.names [])) fp
  show codeAny _ _ (.compStart (.DictComp kx vx [⟨tg, iter, ifs, 0⟩] scope pos) 0 (.ref it) (.ref D) (compEnvC scope (cellsFrom (s3.heap.objs.size + 1) scope.names (cloFrom X.env.cells scope.names [])) s3.heap.objs.size X.env)) (compPost (model X.prog X.w) X.A X.xe use Qf (.ref D) s3.heap.objs.size) { s3 with heap := pushCells (s3.heap.push { cls := .type "dict", data := .dict #[] }) scope.names }
  have nfp : ∀ b ∈ fp, (upd H2 D (tabO D #[] 0)) b = none := fun b hb => (f3 b hb).1.1
  generalize hce : compEnvC scope (cellsFrom (s3.heap.objs.size + 1) scope.names (cloFrom X.env.cells scope.names [])) s3.heap.objs.size X.env = ce at I4 pg pt pk pe ⊢
  have cL : ce.locals = s3.heap.objs.size := by subst hce; rfl
  generalize hH3 : upd H2 D (tabO D #[] 0) = H3 at I3 I4 pg pt pk pe w0 nfp f3
  generalize hs4 : ({ s3 with heap := pushCells (s3.heap.push { cls := .type "dict", data := .dict #[] }) scope.names } : Shared) = s4 at I4 ⊢
  have st4 : tn 0 s4.heap := T.keep _ _ _ st3 fun b _ o e => by rw [← hs4]; exact pushCells_keeps _ _ _ _ (Heap.get?_push_of_some _ e)
  have stat : ∀ {σ' : St} {H' : Hp} {s' : Shared}, Inv (X.blk s3 H3 scope ce fp) [] σ' H' s' → (∀ b ∈ fp, H' b = none) → ∀ b ∈ fp, FpOk (X.blk s3 H3 scope ce fp) [] H' b := fun {σ' H' s'} I' hn b hb =>
    ⟨hn b hb, (I'.ok.exf b hb).1, I'.ok.exfs b hb, .inl hb, fun x c e => (I'.ok.exf b hb).2 x c e, fun p hp => absurd (show p ∈ ([] : List (Addr × Obj)) ++ [] from hp) (by simp)⟩
  have loop : codeAny (model X.prog X.w) X.A (.compLoop (.DictComp kx vx [⟨tg, iter, ifs, 0⟩] scope pos) 0 (.ref it) (.ref D) ce) (compPost (model X.prog X.w) X.A X.xe use Qf (.ref D) s3.heap.objs.size) s4 := by
    refine compLoop_anyD (fun n s' => ∃ i H', Inv (X.blk s3 H3 scope ce fp) [] (wipe σ (own.map (·.2))) H' s' ∧ tn i s'.heap ∧ (∀ b ∈ fp, H' b = none) ∧ W i n H') ?_ m0 ⟨0, H3, I4, st4, nfp, w0⟩
    rintro n s5 ⟨i, H5, I5, st5, n5, w5⟩
    rcases turn i n H5 w5 with ⟨stop, qq⟩ | ⟨go, Nx, hNx, step⟩
    · have td := T.done (X.blk s3 H3 scope ce fp) rfl rfl rfl hc i [] s5 _ H5 (fun _ _ => False) I5 (stat I5 n5) st5 stop
      refine thnF td fun r s6 ⟨hr, I6⟩ => ?_
      subst hr
      -- back in the def's context
      have I7 : Inv X pins σ H5 s6 := I3.call' (ch := fp) I6.os I6.base I6.hok I6.bare fun b hb => ⟨(f3 b hb).1.2.2.2.1, (f3 b hb).1.2.1, (f3 b hb).1.2.2.2.2.1, (f3 b hb).1.2.2.2.2.2⟩
      have nC : H5 s3.heap.objs.size = none := by
        have z : H5 ce.locals = none := I6.free
        rw [cL] at z
        exact z
      obtain ⟨m, hn, _⟩ := I6.loc
      have hn : s6.heap.Ns ce.locals m := hn
      rw [cL] at hn
      exact hRR D s3.heap.objs.size s6 m H5 I7 qq hn (I3.fpOk (Nat.le_refl _) nC)
    · have ti := T.item (X.blk s3 H3 scope ce fp) rfl rfl rfl hc i [] s5 _ H5 (fun _ _ => False) I5 (stat I5 n5) st5 go
      refine thnF ti fun r s6 ⟨u, hr, h6⟩ => ?_
      subst hr
      refine thnF h6 fun _ s7 ⟨x, H7, I7, r7, y7, st7, n7⟩ => ?_
      have I7' := I7.pinned (stat I7 n7) (T.obj _ _ st7)
      refine thnF (pg.run _ s7 _ H7 x u _ I7' r7 (step x H7 y7)) fun _ s8 ⟨σ8, H8, I8, hw8, q8⟩ => ?_
      refine thnF (pt.run _ s8 σ8 H8 _ I8 q8) fun b s9 ⟨H9, I9, q9⟩ => ?_
      -- the turn's end
      have fin : ∀ {s' : Shared} {H' : Hp}, Inv (X.blk s3 H3 scope ce fp) ([] ++ pinsAt fp s7.heap) σ8 H' s' → Nx H' → ∃ m, m < n ∧ ∃ i H', Inv (X.blk s3 H3 scope ce fp) [] (wipe σ (own.map (·.2))) H' s' ∧ tn i s'.heap ∧ (∀ b ∈ fp, H' b = none) ∧ W i m H' := fun {s' H'} I' nx => by
        obtain ⟨m', hm, w'⟩ := hNx H' nx
        have pin' : ∀ b ∈ fp, ∀ o, s7.heap.get? b = some o → s'.heap.get? b = some o ∧ H' b = none := fun b hb o e =>
          let z := I'.pin (b, o) (List.mem_append_right _ (List.mem_append_right _ (mem_pinsAt hb e)))
          ⟨z.1, z.2.1⟩
        have hl : (wipe σ (own.map (·.2))).length = σ8.length := by rw [← hw8, wipe_length]
        refine ⟨m', hm, i + 1, H', (I'.unpinned (pins := [])).weak hl (fun j v e => ?_), T.keep _ _ _ st7 fun b hb o e => (pin' b hb o e).1, fun b hb => ?_, w'⟩
        · rw [← hw8] at e
          exact (wipe_some e).1
        · obtain ⟨o, e, _⟩ := T.obj _ _ st7 b hb
          exact (pin' b hb o e).2
      cases b with
      | false =>
        simp only [Bool.false_eq_true, if_false] at q9 ⊢
        exact fin I9 q9
      | true =>
        simp only [if_true] at q9 ⊢
        refine thnF (pk.run _ s9 σ8 H9 _ I9 q9) fun z s10 ⟨yk, H10, I10, r10, q10⟩ => ?_
        refine thnF (pe.run _ s10 σ8 H10 _ I10 q10) fun z2 s11 ⟨yv, H11, I11, r11, es, ep, l, ks, v, q, ey, ez, hq, hD11, rr, nd, nn, hz11, nx⟩ => ?_
        subst ey ez
        obtain rfl : z = Value.ref q := r10
        exact tab_set (X := X.blk s3 H3 scope ce fp) I11 hu hD11 rr nd hz11 nn r11 hq fun es' ep' s12 r12 I12 => fin I12 (nx es' ep' r12)
  exact codeAny_compStart_dict loop (T.self X.A 0 _ _ _ st4 loop)
theorem pe_dcT {kx vx tg iter : Expr} {ifs : List Expr} {scope : Scope} {own : List (Str × Nat)} {pos : Pos} {wi : TI} {g : TG} {tt : TT} {tk tv : TE} (hc : X.calm = true) (hu : X.A.units < cLine) (hN : X.N.Nodup) (hi : PI X tg iter wi) (ok : BlkOk X.N X.env.scope scope own)
    (hg : ∀ (s : Shared) (H : Hp) (C : Addr) (cl : List (Str × Addr)) (fp : List Addr), PG (X.blk s H scope (compEnvC scope cl C X.env) fp) tg g) (ht : ∀ (s : Shared) (H : Hp) (C : Addr) (cl : List (Str × Addr)) (fp : List Addr), PTs (X.blk s H scope (compEnvC scope cl C X.env) fp) ifs tt)
    (hk : ∀ (s : Shared) (H : Hp) (C : Addr) (cl : List (Str × Addr)) (fp : List Addr), PE (X.blk s H scope (compEnvC scope cl C X.env) fp) kx tk)
    (he : ∀ (s : Shared) (H : Hp) (C : Addr) (cl : List (Str × Addr)) (fp : List Addr), PE (X.blk s H scope (compEnvC scope cl C X.env) fp) vx tv) (hs : ∀ x, foldedSetIterable iter X.env x = pure x := by intro _; rfl) :
    PE X (.DictComp kx vx [⟨tg, iter, ifs, 0⟩] scope pos) (tDcT X.K wi g tt tk tv (own.map (·.2))) := by
  refine ⟨fun pins s σ H Q I h => ?_⟩
  rw [arm_eval_DictComp]
  refine dcT_core hc hN I hi ok hg ht hk he hs hu h fun D C s' m H' I' q hn f => ⟨m, hn, fun h'' sb => ?_⟩
  obtain ⟨f0, f1, f2, f3, f4, f5⟩ := f
  exact ⟨.ref D, H', I'.turned (t' := s'.toks) (fun b o hb e => (sb.2 b hb).trans e) f0 f1 f3 f4 f5, rfl, q⟩
end
def compDR (tg : Tg) (tt : TDT) (tk tv : TD) (s : List Sl) : List D → List (List Int × Int) → (List (List Int × Int) → Prop) → Prop
  | [], l, Q => Q l
  | d :: ds, l, Q => setT tg d s fun s1 => tt s1 (fun b => match b with
    | true => tk s1 (fun x => ∃ ks, x = intT ks ∧ ks ∉ l.map (·.1) ∧ tv s1 (fun y => ∃ v, y = .int v ∧ compDR tg tt tk tv s ds (l ++ [(ks, v)]) Q) fun _ _ => False) fun _ _ => False
    | false => compDR tg tt tk tv s ds l Q) fun _ _ => False
def dDcT (ti : TDI) (tg : Tg) (tt : TDT) (tk tv : TD) (vs : List Nat) : TD := fun s Q E => ti s (fun ds => ds.length ≤ 4096 ∧ compDR tg tt tk tv (wipeD s vs) ds [] fun l => Q (tokTab l)) E
section
variable {K : PySem.W.Frag} {ct : CT} {H : Hp} {O : Addr → Prop} {v : V}
theorem rep_tabl {l : List (List Int × Int)} (hl : ∀ l, ct.tabl (Hd.TokV.tab l).no = l) : Rep K ct H O (tokTab l) v ↔ ∃ a, v = .ref a ∧ ¬ O a ∧ ∃ es ep, H a = some (tabO a es ep) ∧ Paired (TabE K H) l es.toList ∧ (l.map (·.1)).Nodup ∧ l.length ≤ sizeLine := by
  rw [rep_tab (Hd.isTab_tab l), hl]
theorem rep_ints : ∀ {ns : List Int} {vs : List V}, RepL K ct H O (ns.map D.int) vs ↔ vs = ns.map V.int
  | [], vs => by simp only [List.map_nil, RepL]
  | n :: ns, vs => by
    simp only [List.map_cons, RepL, Rep]
    exact ⟨fun ⟨v, r, e, h1, h2⟩ => by rw [e, h1, rep_ints.mp h2], fun e => ⟨_, _, e, rfl, rep_ints.mpr rfl⟩⟩
theorem rep_intT {ks : List Int} : Rep K ct H O (intT ks) v ↔ ∃ a, v = .ref a ∧ SqT K H a (ks.map V.int) := by
  rw [rep_tup]
  exact ⟨fun ⟨a, vs, e, h, r⟩ => ⟨a, e, by rw [← rep_ints.mp r]; exact h⟩, fun ⟨a, e, h⟩ => ⟨a, _, e, h, rep_ints.mpr rfl⟩⟩
end
section
variable {X : Cx} {ct : CT} {W : WX} {e kx vx te : Expr} {ifs : List Expr} {tk tv : TD} {tt : TDT} {ti : TDI} {tg : Tg} {pos : Pos} {scope : Scope} {own : List (Str × Nat)}
theorem same_tabE {K : PySem.W.Frag} {H H' : Hp} (s : Same H H') {l : List (List Int × Int)} {es : List DictEntry} (h : Paired (TabE K H) l es) : Paired (TabE K H') l es :=
  L2.Paired.mapP h fun p e q => TabE.chg (O := fun _ => False) (Chg.of s) q
theorem de_dcT (hl : ∀ l, ct.tabl (Hd.TokV.tab l).no = l) (hc : X.calm = true) (hu : X.A.units < cLine) (hN : X.N.Nodup) (hi : DI X ct W te e ti) (ok : BlkOk X.N X.env.scope scope own)
    (hg : ∀ (s : Shared) (H : Hp) (C : Addr) (cl : List (Str × Addr)) (fp : List Addr), PG (X.blk s H scope (compEnvC scope cl C X.env) fp) te (gT X.K tg)) (ht : ∀ (s : Shared) (H : Hp) (C : Addr) (cl : List (Str × Addr)) (fp : List Addr), DTs (X.blk s H scope (compEnvC scope cl C X.env) fp) ct W0 ifs tt)
    (hk : ∀ (s : Shared) (H : Hp) (C : Addr) (cl : List (Str × Addr)) (fp : List Addr), DE (X.blk s H scope (compEnvC scope cl C X.env) fp) ct W0 kx tk)
    (hv : ∀ (s : Shared) (H : Hp) (C : Addr) (cl : List (Str × Addr)) (fp : List Addr), DE (X.blk s H scope (compEnvC scope cl C X.env) fp) ct W0 vx tv) (hin : tgIn tg (own.map (·.2)) = true) (hs : ∀ x, foldedSetIterable e X.env x = pure x := by intro _; rfl) :
    DE X ct W (.DictComp kx vx [⟨te, e, ifs, 0⟩] scope pos) (dDcT ti tg tt tk tv (own.map (·.2))) := PE.imp (pe_dcT (tt := liftT X.K ct W0 tt) (tk := liftE X.K ct W0 tk) (tv := liftE X.K ct W0 tv) hc hu hN hi ok hg ht hk hv hs) fun σ H Q ⟨O, f, dσ, QD, QE, hs, h, k, kx⟩ => by
  refine ⟨O, f, dσ, _, QE, hs, h, fun J ds H1 e1 it ⟨hlen, q⟩ p hp => ?_, kx⟩
  have I := it H1 Cut.refl
  have h1 := hs.same e1
  have hO : ¬ O p := fun z => by
    obtain ⟨u, g⟩ := h1.dom p z
    rw [hp] at g
    cases g
  refine ⟨fun i m H' => m = ds.length - i ∧ i ≤ ds.length ∧ Same H1 H' ∧ ∃ l es ep, H' p = some (tabO p es ep) ∧ Paired (TabE X.K H') l es.toList ∧ (l.map (·.1)).Nodup ∧ l.length ≤ i ∧ compDR tg tt tk tv (wipeD dσ (own.map (·.2))) (ds.drop i) l (fun l => QD (tokTab l)),
    ⟨ds.length, rfl, Nat.zero_le _, same_new hp, [], #[], 0, upd_same, .nil, List.nodup_nil, Nat.le_refl _, q⟩, ?_⟩
  rintro i m H' ⟨rfl, hi', s1, l, es, ep, ea, ra, nd, la, q'⟩
  by_cases hlt : i < ds.length
  · rw [List.drop_eq_getElem_cons hlt] at q'
    refine .inr ⟨I.go i H' s1 hlt, fun H2 => Same H1 H2 ∧ ∃ l es ep, H2 p = some (tabO p es ep) ∧ Paired (TabE X.K H2) l es.toList ∧ (l.map (·.1)).Nodup ∧ l.length ≤ i + 1 ∧ compDR tg tt tk tv (wipeD dσ (own.map (·.2))) (ds.drop (i + 1)) l (fun l => QD (tokTab l)),
      fun H2 z => ⟨ds.length - (i + 1), by omega, rfl, hlt, z⟩, fun x H2 y => ?_⟩
    obtain ⟨s2, d, ed, rd⟩ := I.yld i H' x H2 s1 hlt y
    rw [List.getElem?_eq_getElem hlt] at ed
    cases ed
    have r2 : Rep X.K ct H2 (fun b => O b ∨ b = p) ds[i] x := rd _ fun b z => z.elim .inl fun z => .inr (by rw [z]; exact hp)
    -- the frame at H2
    have hE : ∀ {H3 : Hp}, Same H1 H3 → (∃ xs, H3 p = some xs) → StE X.K ct H3 (fun b => O b ∨ b = p) f (wipeD dσ (own.map (·.2))) (L2.wipe σ (own.map (·.2))) := fun {H3} s3 ⟨xs, ex⟩ => by
      have z := h1.wipe (own.map (·.2))
      refine ⟨z.len, fun j t e => ?_, fun a ha => ?_⟩
      · obtain ⟨u, g1, g2⟩ := z.at_ j t e
        refine ⟨u, g1, ?_⟩
        cases t with
        | un => trivial
        | v d =>
          obtain ⟨v, e, r⟩ := g2
          exact ⟨v, e, (r.fresh hp fun b z => z).same s3⟩
        | own xs =>
          obtain ⟨e, n, vs, z, r⟩ := g2
          exact ⟨e, .inl n, vs, s3 _ _ z, (r.fresh hp fun b z => z).same s3⟩
        | ini c fs =>
          obtain ⟨e, n, ea, vs, z, r⟩ := g2
          exact ⟨e, .inl n, ea, vs, s3 _ _ z, (r.fresh hp fun b z => z).same s3⟩
        | exc k x => exact ⟨g2.1, (g2.2.fresh hp fun b z => z).same s3⟩
        | dic ks xs =>
          obtain ⟨e, n, vs, z, hl, r⟩ := g2
          exact ⟨e, .inl n, vs, s3 _ _ z, hl, (r.fresh hp fun b z => z).same s3⟩
      · rcases ha with ha | ha
        · obtain ⟨u, g⟩ := z.dom a ha
          exact ⟨u, s3 _ _ g⟩
        · rw [ha]
          exact ⟨_, ex⟩
    refine gT_okE hin (hE (s1.trans s2) ⟨_, s2 _ _ ea⟩) wipe_wipe r2 q' fun dσ3 σ3 h3 w3 q3 => ⟨w3, ?_⟩
    refine ⟨_, f, dσ3, _, _, h3, q3, fun bb H4 s4 q4 => ?_, fun c x cls dd H5 _ _ z => z.elim⟩
    cases bb with
    | true =>
      rw [if_pos rfl]
      refine ⟨_, f, dσ3, _, _, h3.same s4, q4, fun v d H5 s5 r5 ⟨ks, ed, nk, q5⟩ => ?_, fun c x cls dd H5 _ _ z => z.elim⟩
      subst ed
      obtain ⟨kq, rfl, hkq⟩ := rep_intT.mp r5
      refine ⟨_, f, dσ3, _, _, (h3.same s4).same s5, q5, fun v d H6 s6 r6 ⟨n, ed, q6⟩ => ?_, fun c x cls dd H5 _ _ z => z.elim⟩
      subst ed
      obtain rfl := rep_int.mp r6
      have s26 : Same H' H6 := s2.trans (s4.trans (s5.trans s6))
      have ea6 := s26 _ _ ea
      have ra6 := same_tabE s26 ra
      refine ⟨es, ep, l, ks, n, kq, rfl, rfl, Chg.sqt (O := fun _ => False) (Chg.of s6) hkq, ea6, ra6, nd, nk, ?_, fun es' ep' r' => ⟨?_, l ++ [(ks, n)], es', ep', upd_same, tabe_upd ea6 r', ?_, ?_, q6⟩⟩
      · have : sizeLine = 16777216 := sizeLine_eq
        omega
      · intro b o e
        have ne : b ≠ p := fun z => by
          rw [z, hp] at e
          cases e
        rw [upd_ne ne]
        exact s26 _ _ (s1 b o e)
      · rw [List.map_append, List.nodup_append]
        refine ⟨nd, by simp, fun a ha b hb e => nk ?_⟩
        simp only [List.map_cons, List.map_nil, List.mem_singleton] at hb
        rw [← hb, ← e]
        exact ha
      · rw [List.length_append]
        show l.length + 1 ≤ i + 1
        omega
    | false =>
      rw [if_neg Bool.false_ne_true]
      exact ⟨s1.trans (s2.trans s4), l, es, ep, s4 _ _ (s2 _ _ ea), same_tabE (s2.trans s4) ra, nd, Nat.le_succ_of_le la, q4⟩
  · have ei : i = ds.length := by omega
    subst ei
    rw [List.drop_length] at q'
    refine .inl ⟨I.stop H' s1, k _ (tokTab l) H' (e1.trans s1) ((rep_tabl hl).mpr ⟨p, rfl, hO, es, ep, ea, ra, nd, ?_⟩) q'⟩
    have : sizeLine = 16777216 := sizeLine_eq
    omega
end
def tTabIx (K : PySem.W.Frag) (td ty : TE) : TE := fun σ H Q => td σ H fun x H1 => ty σ H1 fun y H2 => ∃ a es ep l q ks v, x = .ref a ∧ H2 a = some (tabO a es ep) ∧ Paired (TabE K H2) l es.toList ∧ (l.map (·.1)).Nodup ∧ y = .ref q ∧ SqT K H2 q (ks.map V.int) ∧ l.lookup ks = some v ∧ Q (.int v) H2
noncomputable def dTabIx (to te : TD) : TD := fun s Q E => to s (fun d => ∃ l, d = tokTab l ∧ te s (fun z => ∃ ks v, z = intT ks ∧ l.lookup ks = some v ∧ Q (.int v)) E) E
def iTab (t : TD) : TDI := fun s Q E => t s (fun d => ∃ l, d = tokTab l ∧ Q (l.map fun p => intT p.1)) E
section
variable {X : Cx} {ct : CT} {W : WX} {o i tg : Expr} {td ty : TE} {to te : TD} {pos : Pos}
theorem pe_tabIx (hu : X.A.units + 1 < cLine) (ho : PE X o td) (hi : PE X i ty) (hs : NoSl i) : PE X (.Subscript o i pos) (tTabIx X.K td ty) := by
  refine ⟨fun pins s σ H Q I h => ?_⟩
  refine subD_of PySem.F.slot_dict_getitem.lookup hs (thn (ho.run pins s σ H _ I h) fun u s1 ⟨x, H1, I1, rx, q1⟩ => thn (hi.run pins s1 σ H1 _ I1 q1) fun iv s2 ⟨y, H2, I2, ry, a, es, ep, l, q, ks, v, ex, ha, r, nd, ey, hq, hv, q2⟩ => ?_)
  subst ex ey
  obtain rfl : u = Value.ref a := rx
  obtain rfl : iv = Value.ref q := ry
  obtain ⟨_, ob, hob, hx, _⟩ := tab_at I2 ha
  exact ⟨⟨ob, hob, hx.1⟩, tab_get I2 hu ha r nd hv hq fun w' s3 I3 rw' => ⟨.int v, H2, I3, rw', q2⟩⟩
theorem de_tabIx (hl : ∀ l, ct.tabl (Hd.TokV.tab l).no = l) (hu : X.A.units + 1 < cLine) (ho : DE X ct W o to) (hi : DE X ct W i te) (hs : NoSl i := by intro _ _; rfl) : DE X ct W (.Subscript o i pos) (dTabIx to te) :=
  PE.imp (pe_tabIx hu ho hi hs) fun σ H Q ⟨O, f, dσ, QD, QE, hs, h, k, kx⟩ => by
    refine ⟨O, f, dσ, _, QE, hs, h, fun x dx H1 s1 rx ⟨l, ed, q⟩ => ?_, kx⟩
    subst ed
    refine ⟨O, f, dσ, _, QE, hs.same s1, q, fun y dy H2 s2 ry ⟨ks, v, ey, ev, hq⟩ => ?_, kx.same s1⟩
    subst ey
    obtain ⟨a, rfl, _, es, ep, ha, r, nd, _⟩ := (rep_tabl hl).mp rx
    obtain ⟨b, rfl, hb⟩ := rep_intT.mp ry
    exact ⟨a, es, ep, l, b, ks, v, rfl, s2 _ _ ha, same_tabE s2 r, nd, rfl, hb, ev, k _ _ _ (s1.trans s2) (rep_int.mpr rfl) hq⟩
def ItTab (K : PySem.W.Frag) (a : Addr) (es : Array DictEntry) (ep : Nat) (l : List (List Int × Int)) : It :=
  ⟨fun i H => (H a = some (tabO a es ep) ∧ Paired (TabE K H) l es.toList) ∧ i < l.length, fun i H x H' => H' = H ∧ ∃ p q, l[i]? = some p ∧ x = .ref q ∧ SqT K H q (p.1.map V.int), fun i H => (H a = some (tabO a es ep) ∧ Paired (TabE K H) l es.toList) ∧ l.length ≤ i⟩
theorem turn_tab {P : Program} {w : World} {K : PySem.W.Frag} {d : Addr} {es : Array DictEntry} {ep : Nat} {l : List (List Int × Int)} (it : Addr) (hl : l.length = es.size) : Turn P w K tg (ItTab K d es ep l) [it] it (fun i h => h.IsKeyIter it d i l.length ep) where
  mem := by simp
  obj := fun i h st b hb => by
    have e : b = it := by simpa using hb
    subst e
    obtain ⟨oi, e, c, dd⟩ := st
    exact ⟨oi, e, fun v z => by rw [dd] at z; cases z⟩
  keep := fun i h h' st k => st.at fun oi e => k it (by simp) oi e
  item := by
    intro X hP hw hK hc i pins s σ H E I hf st hg
    subst hP hw hK
    obtain ⟨⟨hd, hr⟩, hi⟩ := hg
    obtain ⟨f0, f1, f2, f3, f4, f5⟩ := hf it (by simp)
    obtain ⟨hs, od, hgd, hx, hdt⟩ := tab_at I hd
    obtain ⟨p, hp⟩ : ∃ p, l[i]? = some p := ⟨l[i], List.getElem?_eq_getElem hi⟩
    obtain ⟨en, hen, _, q, t, hkey, hq, _⟩ := paired_get hr hp
    rw [Array.getElem?_toList] at hen
    refine next_key_item st hgd hdt hl.symm hen fun h' st' sb => ?_
    have I1 : Inv X pins σ H { s with heap := h' } := I.turned (t' := s.toks) (fun b ob hb e => (sb.2 b hb).trans e) f0 f1 f3 f4 f5
    obtain ⟨oi, e, c, dd⟩ := id st'
    exact ⟨en.key, rfl, go_of (s := { s with heap := h' }) e c dd (by decide) ⟨.ref q, H, I1, hkey, ⟨rfl, p, q, hp, rfl, hq⟩, st', fun b hb => (hf b hb).1⟩⟩
  done := by
    intro X hP hw hK hc i pins s σ H E I hf st hg
    subst hP hw hK
    obtain ⟨⟨hd, hr⟩, hi⟩ := hg
    obtain ⟨f0, f1, f2, f3, f4, f5⟩ := hf it (by simp)
    obtain ⟨hs, od, hgd, hx, hdt⟩ := tab_at I hd
    exact next_key_end (I.ok.hd hc) st hgd hdt hl.symm hi fun h' eb => ⟨rfl, I.turned (t' := s.toks) (fun b ob hb e => eb b ob hb e) f0 f1 f3 f4 f5⟩
  self := fun A i s Q E st h => by
    refine wpAny_pyIter_slot st.typeIs F.slot_dict_keyiterator_iter (wpAny_call_entry F.slot_dict_keyiterator_iter st.typeIs F.entry_dict_keyiterator_iter ?_ (F.args_dict_keyiterator_iter_1 _))
    show wpAny _ _ (ret (.ref it)) _ _ s
    exact wpAny_pure ⟨_, rfl, "dict_keyiterator", _, st.typeIs, F.slot_dict_keyiterator_next.lookup, h⟩
def iTabE (K : PySem.W.Frag) (td : TE) : TI := fun σ H R => td σ H fun x H1 => ∃ a es ep l, x = .ref a ∧ H1 a = some (tabO a es ep) ∧ Paired (TabE K H1) l es.toList ∧ R (ItTab K a es ep l) H1
theorem pi_tab (he : PE X o td) : PI X tg o (iTabE X.K td) := by
  refine ⟨fun pins s σ H R I h => ?_⟩
  refine thn (he.run pins s σ H _ I h) fun u s1 ⟨x, H1, I1, rx, a, es, ep, l, ex, hd, hr, q⟩ => ?_
  subst ex
  obtain rfl : u = Value.ref a := rx
  obtain ⟨hs, od, hgd, hx, hdt⟩ := tab_at I1 hd
  have hl : l.length = es.size := by
    rw [Paired.length hr, Array.length_toList]
  refine iter_keys hs hgd hx hdt (pi_one (tk := s1.toks) I1 _ (turn_tab _ hl) ⟨_, Heap.get?_push_size _ rfl, rfl, ?_⟩ q)
  rw [hl] <;> rfl
theorem di_tab (hl : ∀ l, ct.tabl (Hd.TokV.tab l).no = l) (he : DE X ct W o te) : DI X ct W tg o (iTab te) := PI.imp (pi_tab he) fun σ H R ⟨O, f, dσ, QD, QE, hs, h, k, kx⟩ => by
  refine ⟨O, f, dσ, _, QE, hs, h, fun v d H1 e1 r ⟨l, ed, q⟩ => ?_, kx⟩
  subst ed
  obtain ⟨a, rfl, na, es, ep, ha, hr, nd, _⟩ := (rep_tabl hl).mp r
  refine ⟨a, es, ep, l, rfl, ha, hr, k _ _ _ e1 (fun Hb c => ?_) q⟩
  have lb : Hb a = some (tabO a es ep) := by
    rcases c.2 a _ ha with z | ⟨z, _⟩
    · exact z
    · exact absurd z na
  have rb : Paired (TabE X.K Hb) l es.toList := L2.Paired.mapP hr fun p e q => TabE.chg c.2 q
  have len : (l.map fun p => intT p.1).length = l.length := List.length_map ..
  refine ⟨fun j H1 s hj => ⟨⟨s _ _ lb, same_tabE s rb⟩, by rw [← len]; exact hj⟩, fun j H1 y H2 s hj z => ?_, fun H1 s => ⟨⟨s _ _ lb, same_tabE s rb⟩, by rw [← len]; exact Nat.le_refl _⟩⟩
  obtain ⟨rfl, p, q, ep, ey, hq⟩ := z
  subst ey
  refine ⟨Same.refl _, intT p.1, ?_, fun O' _ => rep_intT.mpr ⟨q, rfl, hq⟩⟩
  rw [List.getElem?_map, ep]
  rfl
end
end Dl
set_option Elab.async false
set_option linter.all false
set_option maxRecDepth 100000
set_option maxHeartbeats 400000
namespace Dl
open PySem PySem.Spec L2
inductive Res (α : Type) where
  | ok (a : α)
  | exc (c : Nat) (x : D)
  | bad
  | ask (n : Int) (k : Int → Res α)
namespace Res
variable {α β γ : Type}
def cat : Res α → (α → Res β) → (Nat → D → Res β) → Res β
  | .ok a, g, _ => g a
  | .exc c x, _, h => h c x
  | .bad, _, _ => .bad
  | .ask n k, g, h => .ask n fun d => (k d).cat g h
def bind (r : Res α) (g : α → Res β) : Res β := r.cat g .exc
/-- no error may come -/
def noex (r : Res α) : Res α := r.cat .ok fun _ _ => .bad
def wp : Res α → (α → Prop) → QX → Prop
  | .ok a, Q, _ => Q a
  | .exc c x, _, E => E c x
  | .bad, _, _ => False
  | .ask n k, Q, E => ∀ d, 0 ≤ d → d < n → (k d).wp Q E
open Classical in
noncomputable def need (p : Prop) (r : Res α) : Res α := if p then r else .bad
theorem need_pos {p : Prop} {r : Res α} (h : p) : need p r = r := if_pos h
theorem need_true {r : Res α} : need True r = r := if_pos trivial
section
variable {Q Q' : α → Prop} {E E' : QX} {r : Res α} {g : α → Res β} {h : Nat → D → Res β} {R : β → Prop}
theorem wp_need {p : Prop} : (need p r).wp Q E ↔ p ∧ r.wp Q E := by
  unfold need
  by_cases z : p
  · rw [if_pos z]
    exact ⟨fun q => ⟨z, q⟩, fun q => q.2⟩
  · rw [if_neg z]
    exact ⟨fun q => q.elim, fun q => absurd q.1 z⟩
theorem wp_cat : ∀ {r : Res α}, (r.cat g h).wp R E ↔ r.wp (fun a => (g a).wp R E) (fun c x => (h c x).wp R E)
  | .ok a => Iff.rfl
  | .exc c x => Iff.rfl
  | .bad => Iff.rfl
  | .ask n k => forall_congr' fun d => imp_congr Iff.rfl (imp_congr Iff.rfl wp_cat)
theorem wp_bind : (r.bind g).wp R E ↔ r.wp (fun a => (g a).wp R E) E := wp_cat
theorem wp_noex : r.noex.wp Q E ↔ r.wp Q fun _ _ => False := wp_cat
theorem wp_mono (hq : ∀ a, Q a → Q' a) (he : ∀ c x, E c x → E' c x) : ∀ {r : Res α}, r.wp Q E → r.wp Q' E'
  | .ok a, z => hq a z
  | .exc c x, z => he c x z
  | .bad, z => z
  | .ask n k, z => fun d h0 h1 => wp_mono hq he (z d h0 h1)
theorem bind_ok {a : α} : (Res.ok a).bind g = g a := rfl
theorem bind_exc {c : Nat} {x : D} : (Res.exc c x : Res α).bind g = .exc c x := rfl
theorem bind_bad : (Res.bad : Res α).bind g = .bad := rfl
theorem bind_ask {n : Int} {k : Int → Res α} : (Res.ask n k).bind g = .ask n fun d => (k d).bind g := rfl
end
end Res
open Res
/-- where a row of statements leads -/
inductive Fl where
  | nx (s : List Sl) | rt (d : D) | rn (ds : List D) | bk (s : List Sl) | cn (s : List Sl) | ex (c : Nat) (x : D) (s : List Sl)
def flQ (DD : DEnds) : Fl → Prop
  | .nx s => DD.nx s
  | .rt d => DD.rt d
  | .rn ds => DD.rn ds
  | .bk s => DD.bk s
  | .cn s => DD.cn s
  | .ex c x s => DD.ex c x s
abbrev NoX : QX := fun _ _ => False
abbrev FE := List Sl → Res D
abbrev FT := List Sl → Res Bool
abbrev FA := List Sl → Res (List D)
abbrev FO := List Sl → Res (Option Int)
abbrev FS := List Sl → Res Fl
abbrev F2 := D → D → Res D
abbrev FC := List D → Res D
abbrev FW := List D → Res D
abbrev FI := List D → Res (List (Str × D))
def SimE (f : FE) (t : TD) : Prop := ∀ s Q E, (f s).wp Q E → t s Q E
def SimT (f : FT) (t : TDT) : Prop := ∀ s Q E, (f s).wp Q E → t s Q E
def SimA (f : FA) (t : TDA) : Prop := ∀ s Q E, (f s).wp Q E → t s Q E
def SimO (f : FO) (t : TDO) : Prop := ∀ s Q E, (f s).wp Q E → t s Q E
def SimI (f : FA) (t : TDI) : Prop := ∀ s Q E, (f s).wp Q E → t s Q E
def Sim2 (p : F2) (o : O2) : Prop := ∀ x y Q E, (p x y).wp Q E → o x y Q
def SimC (p : FC) (o : List D → (D → Prop) → Prop) : Prop := ∀ xs Q E, (p xs).wp Q E → o xs Q
def SimS (f : FS) (t : TDS) : Prop := ∀ s DD, (f s).wp (flQ DD) NoX → t DD s
def SimW (g : FW) (w : Wf) : Prop := ∀ ds Q E, (g ds).wp Q E → w ds Q E
def SimWi (g : FI) (w : Wi) : Prop := ∀ ds Q E, (g ds).wp Q E → w ds Q E
def toInts : List D → Option (List Int)
  | [] => some []
  | .int i :: r => (toInts r).map (i :: ·)
  | _ :: _ => none
def toBls : List D → Option (List Bool)
  | [] => some []
  | .bl i :: r => (toBls r).map (i :: ·)
  | _ :: _ => none
def toStrs : List D → Option (List Str)
  | [] => some []
  | .str i :: r => (toStrs r).map (i :: ·)
  | _ :: _ => none
theorem toInts_eq : ∀ {ds : List D} {ns : List Int}, toInts ds = some ns → ds = ns.map D.int
  | [], ns, h => by cases h; rfl
  | d :: r, ns, h => by
    cases d <;> first | (cases h; done) | skip
    rename_i i
    unfold toInts at h
    cases e : toInts r with
    | none => rw [e] at h; cases h
    | some ms =>
      rw [e] at h
      cases h
      rw [toInts_eq e] <;> rfl
theorem toBls_eq : ∀ {ds : List D} {ns : List Bool}, toBls ds = some ns → ds = ns.map D.bl
  | [], ns, h => by cases h; rfl
  | d :: r, ns, h => by
    cases d <;> first | (cases h; done) | skip
    rename_i i
    unfold toBls at h
    cases e : toBls r with
    | none => rw [e] at h; cases h
    | some ms =>
      rw [e] at h
      cases h
      rw [toBls_eq e] <;> rfl
theorem toInts_map : ∀ {ns : List Int}, toInts (ns.map D.int) = some ns
  | [] => rfl
  | n :: ns => by
    show (toInts (ns.map D.int)).map (n :: ·) = _
    rw [toInts_map] <;> rfl
def optR {α : Type} : Option α → Res α
  | some a => .ok a
  | none => .bad
theorem wp_optR {α : Type} {o : Option α} {Q : α → Prop} {E : QX} : (optR o).wp Q E ↔ ∃ a, o = some a ∧ Q a := by
  cases o with
  | none => exact ⟨fun h => h.elim, fun ⟨_, h, _⟩ => by cases h⟩
  | some a => exact ⟨fun h => ⟨a, rfl, h⟩, fun ⟨b, h, q⟩ => by cases h; exact q⟩
noncomputable def pAdd : F2
  | .int i, .int j => .ok (.int (i + j))
  | .str a, .str b => need (a.length + b.length ≤ sizeLine) (.ok (.str (a ++ b)))
  | .lst a, .lst b => need (a.length + b.length ≤ sizeLine) (.ok (.lst (a ++ b)))
  | .tup a, .tup b => need (a.length + b.length ≤ sizeLine) (.ok (.tup (a ++ b)))
  | _, _ => .bad
def pSub : F2
  | .int i, .int j => .ok (.int (i - j))
  | _, _ => .bad
noncomputable def pMul : F2
  | .int i, .int j => need (CMulX i j) (.ok (.int (i * j)))
  | .str x, .int n => need (-(2 ^ 62) ≤ n ∧ x.length * n.toNat ≤ 10000000 ∧ n.toNat ≤ 10000000) (.ok (.str (strRep x n.toNat)))
  | .lst a, .int n => need (-(2 ^ 63) ≤ n ∧ n < 2 ^ 63 ∧ a.length * n.toNat ≤ sizeLine) (.ok (.lst (List.replicate n.toNat a).flatten))
  | .tup a, .int n => need (-(2 ^ 62) ≤ n ∧ n ≤ 1000 ∧ a.length ≤ 1000) (.ok (.tup (List.replicate n.toNat a).flatten))
  | _, _ => .bad
noncomputable def pMod : F2
  | .int i, .int j => need (0 < j) (.ok (.int (i % j)))
  | _, _ => .bad
noncomputable def pDiv : F2
  | .int i, .int j => need (CDivW i j) (.ok (.int (i / j)))
  | _, _ => .bad
noncomputable def pPow : F2
  | .int i, .int j => need (CPowX i j) (.ok (.int (i ^ j.toNat)))
  | _, _ => .bad
def pCmp (f : Int → Int → Bool) : F2
  | .int i, .int j => .ok (.bl (f i j))
  | _, _ => .bad
abbrev pLt : F2 := pCmp fun i j => decide (i < j)
abbrev pLe : F2 := pCmp fun i j => decide (i ≤ j)
abbrev pGt : F2 := pCmp fun i j => decide (j < i)
abbrev pGe : F2 := pCmp fun i j => decide (j ≤ i)
def pIsN : F2
  | d, .non => .ok (.bl (isNon d))
  | .bl a, .bl b => .ok (.bl (a == b))
  | _, _ => .bad
def pNotN : F2
  | d, .non => .ok (.bl (!isNon d))
  | .bl a, .bl b => .ok (.bl (!(a == b)))
  | _, _ => .bad
noncomputable def pIx : F2
  | .lst xs, .int i => optR (atI xs i)
  | .tup xs, .int i => optR (atI xs i)
  | .str z, .int i => need (z.length ≤ sizeLine) (optR ((atI z.cps.toList i).map fun c => .str ⟨#[c]⟩))
  | .scr ns, .int i => optR ((atI ns i).map D.int)
  | _, _ => .bad
noncomputable def pInW (neg : Bool) : F2
  | .str x, .str z => match x.cps.toList with
    | [c] => .ok (.bl (neg ^^ decide (c ∈ z.cps.toList)))
    | _ => .bad
  | d, .tup xs => need (flatD d = true ∧ xs.all flatD = true) (.ok (.bl (neg ^^ xs.any fun y => eqD y d)))
  | d, .lst xs => need (flatD d = true ∧ xs.all flatD = true) (.ok (.bl (neg ^^ xs.any fun y => eqD y d)))
  | _, _ => .bad
noncomputable abbrev pIn : F2 := pInW false
noncomputable def pEqT (T : EqT) (n : Nat) : F2 := fun x y => need (okE T x y n) (.ok (.bl (eqD x y)))
noncomputable def pNeT (T : EqT) (n : Nat) : F2 := fun x y => need (okE T x y n) (.ok (.bl (!eqD x y)))
section
theorem m_add : Sim2 pAdd oAdd := by
  intro x y Q E h
  unfold pAdd at h
  split at h <;> first | exact h | (rw [wp_need] at h; first | exact h | exact ⟨h.1.1, h.1.2, h.2⟩) | exact h.elim
theorem m_sub : Sim2 pSub oSub := by
  intro x y Q E h
  unfold pSub at h
  split at h <;> first | exact h | exact h.elim
theorem m_mul : Sim2 pMul oMul := by
  intro x y Q E h
  unfold pMul at h
  split at h <;> first | exact h.elim | (rw [wp_need] at h; first | exact h | exact ⟨h.1.1, h.1.2.1, h.1.2.2, h.2⟩)
theorem m_mod : Sim2 pMod oMod := by
  intro x y Q E h
  unfold pMod at h
  split at h <;> first | exact h.elim | (rw [wp_need] at h; exact h)
theorem m_div : Sim2 pDiv oDiv := by
  intro x y Q E h
  unfold pDiv at h
  split at h <;> first | exact h.elim | (rw [wp_need] at h; exact h)
theorem m_pow : Sim2 pPow oPow := by
  intro x y Q E h
  unfold pPow at h
  split at h <;> first | exact h.elim | (rw [wp_need] at h; exact h)
theorem m_cmp {f : Int → Int → Bool} : Sim2 (pCmp f) (oCmp f) := by
  intro x y Q E h
  unfold pCmp at h
  split at h <;> first | exact h | exact h.elim
theorem m_lt : Sim2 pLt oLt := m_cmp
theorem m_le : Sim2 pLe oLe := m_cmp
theorem m_gt : Sim2 pGt oGt := m_cmp
theorem m_ge : Sim2 pGe oGe := m_cmp
theorem m_isN : Sim2 pIsN oIsN := by
  intro x y Q E h
  unfold pIsN at h
  split at h
  · unfold oIsN
    cases x <;> exact h
  · exact h
  · exact h.elim
theorem m_notN : Sim2 pNotN oNotN := by
  intro x y Q E h
  unfold pNotN at h
  split at h
  · unfold oNotN
    cases x <;> exact h
  · exact h
  · exact h.elim
theorem m_ix : Sim2 pIx oIx := by
  intro x y Q E h
  unfold pIx at h
  split at h
  · exact wp_optR.mp h
  · exact wp_optR.mp h
  · rw [wp_need] at h
    obtain ⟨z, h⟩ := h
    obtain ⟨a, e, q⟩ := wp_optR.mp h
    obtain ⟨c, ec, rfl⟩ := Option.map_eq_some_iff.mp e
    exact ⟨z, c, ec, q⟩
  · obtain ⟨a, e, q⟩ := wp_optR.mp h
    obtain ⟨c, ec, rfl⟩ := Option.map_eq_some_iff.mp e
    exact ⟨c, ec, q⟩
  · exact h.elim
theorem str_one {x : Str} {c : Nat} (h : x.cps.toList = [c]) : x = ⟨#[c]⟩ := by
  cases x with
  | mk a =>
    have e : a = #[c] := by
      apply Array.ext'
      exact h
    rw [e]
theorem m_in : Sim2 pIn oIn := by
  intro x y Q E h
  unfold pIn pInW at h
  split at h
  · split at h
    · rename_i e
      refine ⟨_, str_one e, ?_⟩
      simpa [Res.wp] using h
    · exact h.elim
  · rw [wp_need] at h
    obtain ⟨⟨a, b⟩, h⟩ := h
    unfold oIn
    cases x <;> exact ⟨a, b, by simpa [Res.wp] using h⟩
  · rw [wp_need] at h
    obtain ⟨⟨a, b⟩, h⟩ := h
    unfold oIn
    cases x <;> exact ⟨a, b, by simpa [Res.wp] using h⟩
  · exact h.elim
theorem m_eqT (T : EqT) (n : Nat) : Sim2 (pEqT T n) (oEqT T n) := fun x y Q E h => wp_need.mp h
theorem m_neT (T : EqT) (n : Nat) : Sim2 (pNeT T n) (oNeT T n) := fun x y Q E h => wp_need.mp h
end
end Dl
set_option Elab.async false
set_option linter.all false
set_option maxRecDepth 100000
set_option maxHeartbeats 400000
namespace Dl
open PySem PySem.Spec L2 Res
noncomputable def gLen : FC
  | [.str z] => need (z.length ≤ sizeLine) (.ok (.int z.length))
  | [.lst xs] => .ok (.int xs.length)
  | [.tup xs] => .ok (.int xs.length)
  | [.scr xs] => .ok (.int xs.length)
  | _ => .bad
noncomputable def gList : FC
  | [.lst xs] => .ok (.lst xs)
  | [.tup xs] => .ok (.lst xs)
  | [.scr xs] => .ok (.lst (xs.map D.int))
  | [.str z] => need (z.length ≤ sizeLine) (.ok (.lst (chrs z)))
  | _ => .bad
def gTuple : FC
  | [.lst xs] => .ok (.tup xs)
  | [.tup xs] => .ok (.tup xs)
  | _ => .bad
def gInt : FC
  | [.int i] => .ok (.int i)
  | [.bl b] => .ok (.int (if b then 1 else 0))
  | _ => .bad
def gBool : FC
  | [.int i] => .ok (.bl (i != 0))
  | [.bl b] => .ok (.bl b)
  | _ => .bad
def gSum : FC
  | [.lst ds] => (optR (toInts ds)).bind fun ns => .ok (.int ns.sum)
  | _ => .bad
def gAll : FC
  | [.lst ds] => (optR (toBls ds)).bind fun ns => .ok (.bl (ns.all id))
  | _ => .bad
def gAny : FC
  | [.lst ds] => (optR (toBls ds)).bind fun ns => .ok (.bl (ns.any id))
  | _ => .bad
def gMin : FC
  | [.int i, .int j] => .ok (.int (if j < i then j else i))
  | _ => .bad
def gMax : FC
  | [.int i, .int j] => .ok (.int (if j > i then j else i))
  | _ => .bad
def gIsi (sub : Sub2) : FC
  | [d, c] => (optR (isiD sub d c)).bind fun b => .ok (.bl b)
  | _ => .bad
noncomputable def kJoin (z : Str) : D → Res D
  | .lst ds => (optR (toStrs ds)).bind fun ys => need ((ys.map (·.length)).sum + ys.length * z.length ≤ 16777216) (.ok (.str (Txt.join z ys)))
  | .tup ds => (optR (toStrs ds)).bind fun ys => need ((ys.map (·.length)).sum + ys.length * z.length ≤ 16777216) (.ok (.str (Txt.join z ys)))
  | _ => .bad
def kCount (z : Str) : D → Res D
  | .str y => .ok (.int (Txt.count z y))
  | _ => .bad
noncomputable def kStrip (z : Str) : D → Res D
  | .str y => need (z.length ≤ sizeLine) (.ok (.str (Txt.stripChars z y)))
  | _ => .bad
noncomputable def kSplit (z : Str) : D → Res D
  | .str y => need ((y.length == 0) = false ∧ z.length + 2 ≤ sizeLine) (.ok (.lst ((Txt.split z y).map D.str)))
  | _ => .bad
theorem m_len : SimC gLen bLen := by
  intro xs Q E h
  unfold gLen at h
  split at h <;> first | exact h | (rw [wp_need] at h; exact h) | exact h.elim
theorem m_tuple : SimC gTuple bTuple := by
  intro xs Q E h
  unfold gTuple at h
  split at h <;> first | exact h | exact h.elim
theorem m_int : SimC gInt bInt := by
  intro xs Q E h
  unfold gInt at h
  split at h <;> first | exact h | exact h.elim
theorem m_min : SimC gMin bMin := by
  intro xs Q E h
  unfold gMin at h
  split at h <;> first | exact h | exact h.elim
theorem m_sum : SimC gSum bSum := by
  intro xs Q E h
  unfold gSum at h
  split at h
  · obtain ⟨ns, e, q⟩ := wp_optR.mp (wp_bind.mp h)
    exact ⟨ns, by rw [toInts_eq e], q⟩
  · exact h.elim
theorem m_all : SimC gAll bAll := by
  intro xs Q E h
  unfold gAll at h
  split at h
  · obtain ⟨ns, e, q⟩ := wp_optR.mp (wp_bind.mp h)
    exact ⟨ns, by rw [toBls_eq e], q⟩
  · exact h.elim
theorem m_any : SimC gAny bAny := by
  intro xs Q E h
  unfold gAny at h
  split at h
  · obtain ⟨ns, e, q⟩ := wp_optR.mp (wp_bind.mp h)
    exact ⟨ns, by rw [toBls_eq e], q⟩
  · exact h.elim
theorem m_isi (sub : Sub2) : SimC (gIsi sub) (bIsi sub) := by
  intro xs Q E h
  unfold gIsi at h
  split at h
  · obtain ⟨b, e, q⟩ := wp_optR.mp (wp_bind.mp h)
    exact ⟨b, e, q⟩
  · exact h.elim
def fVar (i : Nat) (s : List Sl) : Res D := match s[i]? with
  | some (.v d) => .ok d
  | _ => .bad
def fC (d : D) (_s : List Sl) : Res D := .ok d
def fBin (p : F2) (fa fb : FE) (s : List Sl) : Res D := (fa s).bind fun x => (fb s).bind fun y => p x y
def fNil (_s : List Sl) : Res (List D) := .ok []
def fCons (f : FE) (r : FA) (s : List Sl) : Res (List D) := (f s).bind fun x => (r s).bind fun xs => .ok (x :: xs)
noncomputable def fTup (f : FA) (s : List Sl) : Res D := (f s).bind fun xs => need (xs.length ≤ sizeLine) (.ok (.tup xs))
noncomputable def fLst (f : FA) (s : List Sl) : Res D := (f s).bind fun xs => need (xs.length ≤ sizeLine) (.ok (.lst xs))
def fONone (_s : List Sl) : Res (Option Int) := .ok none
def asI : D → Res (Option Int)
  | .int i => .ok (some i)
  | _ => .bad
def fOSome (f : FE) (s : List Sl) : Res (Option Int) := (f s).bind asI
noncomputable def sliceD (x : D) (lo hi : Option Int) : Res D := match x with
  | .lst xs => .ok (.lst (cutD xs lo hi))
  | .str z => need (z.length ≤ sizeLine) (.ok (.str (cutS z lo hi)))
  | .tup xs => .ok (.tup (cutD xs lo hi))
  | .scr ns => .ok (.lst ((cutV (ns.map V.int) lo hi).map fun v => match v with
    | .int i => .int i
    | _ => .non))
  | _ => .bad
noncomputable def fSl (fe : FE) (fl fh : FO) (s : List Sl) : Res D := (fe s).bind fun x => (fl s).bind fun lo => (fh s).bind fun hi => sliceD x lo hi
def asB : D → Res Bool
  | .bl b => .ok b
  | _ => .bad
noncomputable def truR : D → Res Bool
  | .non => .ok false
  | .bl b => .ok b
  | .int i => .ok (i != 0)
  | .str y => need (y.length ≤ sizeLine) (.ok (!decide (y.length = 0)))
  | .lst xs => .ok (!xs.isEmpty)
  | .tup xs => .ok (!xs.isEmpty)
  | .scr xs => .ok (!xs.isEmpty)
  | _ => .bad
def fVal (f : FE) (s : List Sl) : Res Bool := (f s).bind asB
noncomputable def fTru (f : FE) (s : List Sl) : Res Bool := (f s).bind truR
def fNotT (f : FT) (s : List Sl) : Res Bool := (f s).bind fun b => .ok (!b)
def fAndT (f g : FT) (s : List Sl) : Res Bool := (f s).bind fun b => if b then g s else .ok false
def fOrT (f g : FT) (s : List Sl) : Res Bool := (f s).bind fun b => if b then .ok true else g s
def fNot (f : FE) (s : List Sl) : Res D := (f s).bind fun x => (asB x).bind fun b => .ok (.bl !b)
def fAnd (f g : FE) (s : List Sl) : Res D := (f s).bind fun x => (asB x).bind fun b => if b then g s else .ok (.bl false)
def fOr (f g : FE) (s : List Sl) : Res D := (f s).bind fun x => (asB x).bind fun b => if b then .ok (.bl true) else g s
def fIfE (c : FT) (f g : FE) (s : List Sl) : Res D := (c s).bind fun b => if b then f s else g s
def fB (c : FC) (f : FA) (s : List Sl) : Res D := (f s).bind c
def fM1 (k : Str → D → Res D) (fo fd : FE) (s : List Sl) : Res D := (fo s).bind fun x => match x with
  | .str z => (fd s).bind fun d => k z d
  | _ => .bad
def fCall (g : FW) (dfl : List D) (f : FA) (s : List Sl) : Res D := (f s).bind fun ds => g (ds ++ dfl)
def fMeth (tbl : Nat → Option FW) (dfl : List D) (fo : FE) (fa : FA) (s : List Sl) : Res D := (fo s).bind fun x => match x with
  | .obj c fs => match tbl c with
    | some g => (fa s).bind fun ds => g (.obj c fs :: (ds ++ dfl))
    | none => .bad
  | _ => .bad
open Classical in
noncomputable def fMake (c : Nat) (nm : List Str) (gi : FI) (dfl : List D) (fa : FA) (s : List Sl) : Res D := (fa s).bind fun ds => (gi (ds ++ dfl)).bind fun fs => need (fs.map (·.1) = nm) (.ok (.obj c (fs.map (·.2))))
def fProp (tbl : Nat → Option FW) (fo : FE) (s : List Sl) : Res D := (fo s).bind fun x => match x with
  | .obj c fs => match tbl c with
    | some g => (g [.obj c fs]).noex
    | none => .bad
  | _ => .bad
def fFld (ix : Nat → Option Nat) (fo : FE) (s : List Sl) : Res D := (fo s).bind fun x => match x with
  | .obj c fs => match ix c with
    | some k => optR fs[k]?
    | none => .bad
  | _ => .bad
def fXf (i : Nat) (cs : Nat → Bool) (s : List Sl) : Res D := match s[i]? with
  | some (.exc c x) => if cs c then .ok x else .bad
  | _ => .bad
noncomputable def fFr (f : FE) (s : List Sl) : Res D := (f (frzS s)).noex.bind fun d => need (flatD d = true) (.ok d)
def fFrT (f : FT) (s : List Sl) : Res Bool := (f (frzS s)).noex
section
variable {f g : FE} {t u : TD} {fa : FA} {ta : TDA} {ft fu : FT} {tt tu : TDT} {fo fp : FO} {to tp : TDO}
theorem m_Var (i : Nat) : SimE (fVar i) (dVar i) := by
  intro s Q E h
  unfold fVar at h
  unfold dVar
  split at h
  · rename_i e
    try rw [e]
    exact h
  · exact h.elim
theorem m_C (d : D) : SimE (fC d) (dC d) := fun s Q E h => h
theorem m_Bin {p : F2} {o : O2} (hp : Sim2 p o) (ha : SimE f t) (hb : SimE g u) : SimE (fBin p f g) (dBin o t u) := fun s Q E h =>
  ha s _ E (wp_mono (fun x hx => hb s _ E (wp_mono (fun y hy => hp x y Q E hy) (fun _ _ z => z) (wp_bind.mp hx))) (fun _ _ z => z) (wp_bind.mp h))
theorem m_Nil : SimA fNil aNil := fun s Q E h => h
theorem m_Cons (ha : SimE f t) (hr : SimA fa ta) : SimA (fCons f fa) (aCons t ta) := fun s Q E h =>
  ha s _ E (wp_mono (fun x hx => hr s _ E (wp_mono (fun y hy => hy) (fun _ _ z => z) (wp_bind.mp hx))) (fun _ _ z => z) (wp_bind.mp h))
theorem m_Tup (ha : SimA fa ta) : SimE (fTup fa) (dTup ta) := fun s Q E h => ha s _ E (wp_mono (fun x hx => wp_need.mp hx) (fun _ _ z => z) (wp_bind.mp h))
theorem m_Lst (ha : SimA fa ta) : SimE (fLst fa) (dLst ta) := fun s Q E h => ha s _ E (wp_mono (fun x hx => wp_need.mp hx) (fun _ _ z => z) (wp_bind.mp h))
theorem m_OSome (ha : SimE f t) : SimO (fOSome f) (oSome t) := fun s Q E h => ha s _ E (wp_mono (fun x hx => by
  cases x <;> exact hx) (fun _ _ z => z) (wp_bind.mp h))
theorem m_slice {x : D} {lo hi : Option Int} {Q : D → Prop} {E : QX} (h : (sliceD x lo hi).wp Q E) : slD x lo hi Q := by
  unfold sliceD at h
  split at h <;> first | exact h | (exact wp_need.mp h) | exact h.elim
theorem m_Sl (he : SimE f t) (hl : SimO fo to) (hh : SimO fp tp) : SimE (fSl f fo fp) (dSl t to tp) := fun s Q E h =>
  he s _ E (wp_mono (fun x hx => hl s _ E (wp_mono (fun y hy => hh s _ E (wp_mono (fun z hz => m_slice hz) (fun _ _ z => z) (wp_bind.mp hy))) (fun _ _ z => z) (wp_bind.mp hx))) (fun _ _ z => z) (wp_bind.mp h))
theorem m_Val (ha : SimE f t) : SimT (fVal f) (tVal t) := fun s Q E h => ha s _ E (wp_mono (fun x hx => by
  cases x <;> exact hx) (fun _ _ z => z) (wp_bind.mp h))
theorem m_Tru (ha : SimE f t) : SimT (fTru f) (tTru t) := fun s Q E h => ha s _ E (wp_mono (fun x hx => by
  cases x <;> first | exact hx | exact wp_need.mp hx | exact hx.elim) (fun _ _ z => z) (wp_bind.mp h))
theorem m_NotT (ha : SimT ft tt) : SimT (fNotT ft) (tNotD tt) := fun s Q E h => ha s _ E (wp_mono (fun x hx => hx) (fun _ _ z => z) (wp_bind.mp h))
theorem m_AndT (ha : SimT ft tt) (hb : SimT fu tu) : SimT (fAndT ft fu) (tAndD tt tu) := fun s Q E h => ha s _ E (wp_mono (fun x hx => by
  cases x
  · exact hx
  · exact hb s Q E hx) (fun _ _ z => z) (wp_bind.mp h))
theorem m_OrT (ha : SimT ft tt) (hb : SimT fu tu) : SimT (fOrT ft fu) (tOrD tt tu) := fun s Q E h => ha s _ E (wp_mono (fun x hx => by
  cases x
  · exact hb s Q E hx
  · exact hx) (fun _ _ z => z) (wp_bind.mp h))
theorem m_Not (ha : SimE f t) : SimE (fNot f) (dNot t) := fun s Q E h => ha s _ E (wp_mono (fun x hx => by
  cases x <;> exact hx) (fun _ _ z => z) (wp_bind.mp h))
theorem m_And (ha : SimE f t) (hb : SimE g u) : SimE (fAnd f g) (dAnd t u) := fun s Q E h => ha s _ E (wp_mono (fun x hx => by
  cases x <;> first | exact hx.elim | skip
  rename_i b
  cases b
  · exact hx
  · exact hb s Q E hx) (fun _ _ z => z) (wp_bind.mp h))
theorem m_IfE (hc : SimT ft tt) (ha : SimE f t) (hb : SimE g u) : SimE (fIfE ft f g) (dIf tt t u) := fun s Q E h => hc s _ E (wp_mono (fun x hx => by
  cases x
  · exact hb s Q E hx
  · exact ha s Q E hx) (fun _ _ z => z) (wp_bind.mp h))
theorem m_B {p : FC} {c : List D → (D → Prop) → Prop} (hc : SimC p c) (ha : SimA fa ta) : SimE (fB p fa) (dB c ta) := fun s Q E h => ha s _ E (wp_mono (fun x hx => hc x Q E hx) (fun _ _ z => z) (wp_bind.mp h))
theorem m_Call {g : FW} {w : Wf} (hg : SimW g w) (dfl : List D) (ha : SimA fa ta) : SimE (fCall g dfl fa) (dCall w dfl ta) := fun s Q E h => ha s _ E (wp_mono (fun x hx => hg _ Q E hx) (fun _ _ z => z) (wp_bind.mp h))
def SimTb (a : Nat → Option FW) (b : Nat → Option Wf) : Prop := ∀ n g, a n = some g → ∃ w, b n = some w ∧ SimW g w
theorem m_Make (c : Nat) (nm : List Str) {g : FI} {w : Wi} (hg : SimWi g w) (dfl : List D) (ha : SimA fa ta) : SimE (fMake c nm g dfl fa) (dMake c nm w dfl ta) := fun s Q E h => ha s _ E (wp_mono (fun x hx => hg _ _ E (wp_mono (fun y hy => wp_need.mp hy) (fun _ _ z => z) (wp_bind.mp hx))) (fun _ _ z => z) (wp_bind.mp h))
theorem m_Prop {a : Nat → Option FW} {b : Nat → Option Wf} (hg : SimTb a b) (ho : SimE f t) : SimE (fProp a f) (dProp b t) := fun s Q E h => ho s _ E (wp_mono (fun x hx => by
  cases x <;> first | exact hx.elim | skip
  rename_i c fs
  dsimp only at hx ⊢
  cases e : a c with
  | none => rw [e] at hx; exact hx.elim
  | some g =>
    rw [e] at hx
    obtain ⟨w, e2, sg⟩ := hg c g e
    rw [e2]
    exact sg _ Q _ (wp_noex.mp hx)) (fun _ _ z => z) (wp_bind.mp h))
theorem m_Fld (ix : Nat → Option Nat) (ho : SimE f t) : SimE (fFld ix f) (dFld ix t) := fun s Q E h => ho s _ E (wp_mono (fun x hx => by
  cases x <;> first | exact hx.elim | skip
  rename_i c fs
  dsimp only at hx ⊢
  cases e : ix c with
  | none => rw [e] at hx; exact hx.elim
  | some k => rw [e] at hx; exact wp_optR.mp hx) (fun _ _ z => z) (wp_bind.mp h))
end
end Dl
set_option Elab.async false
set_option linter.all false
set_option maxRecDepth 100000
set_option maxHeartbeats 400000
namespace Dl
open PySem PySem.Spec L2 Res
def itR : D → Res (List D)
  | .lst xs => .ok xs
  | .tup xs => .ok xs
  | .str x => .ok (chrs x)
  | .scr ns => .ok (ns.map D.int)
  | _ => .bad
def jVal (f : FE) (s : List Sl) : Res (List D) := (f s).bind itR
noncomputable def rng1 : List D → Res (List D)
  | [.int n] => need (-(2 ^ 62) ≤ n ∧ n < 2 ^ 62) (.ok (intsD 0 n.toNat))
  | _ => .bad
noncomputable def rng2 : List D → Res (List D)
  | [.int a, .int n] => need (-(2 ^ 62) ≤ a ∧ a < 2 ^ 62 ∧ -(2 ^ 62) ≤ n ∧ n < 2 ^ 62) (.ok (intsD a (n - a).toNat))
  | _ => .bad
noncomputable def rng3 : List D → Res (List D)
  | [.int a, .int b, .int c] => need (c ≠ 0 ∧ c.natAbs.log2 < 9000 ∧ Builtin.Range.rangeSize a b c = (Builtin.Range.rangeSize a b c).toNat) (.ok (intsC a c (Builtin.Range.rangeSize a b c).toNat))
  | _ => .bad
def enumR : List D → Res (List D)
  | [.lst xs] => .ok (numbered 0 xs)
  | _ => .bad
noncomputable def jR1 (f : FA) (s : List Sl) : Res (List D) := (f s).bind rng1
noncomputable def jR2 (f : FA) (s : List Sl) : Res (List D) := (f s).bind rng2
noncomputable def jR3 (f : FA) (s : List Sl) : Res (List D) := (f s).bind rng3
def jEnumL (f : FA) (s : List Sl) : Res (List D) := (f s).bind enumR
section
variable {f g : FE} {t u : TD} {fa : FA} {ta : TDA} {ft : FT} {tt : TDT} {fi : FA} {ti : TDI}
theorem m_iVal (ha : SimE f t) : SimI (jVal f) (iVal t) := fun s Q E h => ha s _ E (wp_mono (fun x hx => by
  cases x <;> exact hx) (fun _ _ z => z) (wp_bind.mp h))
theorem m_iR1 (ha : SimA fa ta) : SimI (jR1 fa) (iR1 ta) := fun s Q E h => ha s _ E (wp_mono (fun x hx => by
  unfold rng1 at hx
  split at hx
  · obtain ⟨a, b⟩ := wp_need.mp hx
    exact ⟨a.1, a.2, b⟩
  · exact hx.elim) (fun _ _ z => z) (wp_bind.mp h))
theorem m_iR2 (ha : SimA fa ta) : SimI (jR2 fa) (iR2 ta) := fun s Q E h => ha s _ E (wp_mono (fun x hx => by
  unfold rng2 at hx
  split at hx
  · exact wp_need.mp hx
  · exact hx.elim) (fun _ _ z => z) (wp_bind.mp h))
theorem m_iR3 (ha : SimA fa ta) : SimI (jR3 fa) (iR3 ta) := fun s Q E h => ha s _ E (wp_mono (fun x hx => by
  unfold rng3 at hx
  split at hx
  · obtain ⟨a, b⟩ := wp_need.mp hx
    exact ⟨_, ⟨a.1, a.2.1, a.2.2⟩, b⟩
  · exact hx.elim) (fun _ _ z => z) (wp_bind.mp h))
end
def setTF : Tg → D → List Sl → Option (List Sl)
  | .nm i, d, s => some (s.set i (.v d))
  | .tp is, .tup ds, s => if ds.length = is.length then some (setM is ds s) else none
  | .tq i is, .tup [d, .tup es], s => if es.length = is.length then some (setM is es (s.set i (.v d))) else none
  | _, _, _ => none
theorem setTF_ok {tg : Tg} {d : D} {s s1 : List Sl} {Q : List Sl → Prop} (h : setTF tg d s = some s1) (q : Q s1) : setT tg d s Q := by
  unfold setTF at h
  split at h
  · cases h
    exact q
  · split at h
    · rename_i e
      cases h
      exact ⟨e, q⟩
    · cases h
  · split at h
    · rename_i e
      cases h
      exact ⟨e, q⟩
    · cases h
  · cases h
def compF (tg : Tg) (ft : FT) (fe : FE) (s : List Sl) : List D → Res (List D)
  | [] => .ok []
  | d :: ds => match setTF tg d s with
    | some s1 => (ft s1).noex.bind fun b => if b then (fe s1).noex.bind fun y => (compF tg ft fe s ds).bind fun ys => .ok (y :: ys) else compF tg ft fe s ds
    | none => .bad
noncomputable def fLc (fi : FA) (tg : Tg) (ft : FT) (fe : FE) (vs : List Nat) (s : List Sl) : Res D := (fi s).bind fun ds => need (ds.length ≤ sizeLine) ((compF tg ft fe (wipeD s vs) ds).bind fun ys => .ok (.lst ys))
def fYes (_s : List Sl) : Res Bool := .ok true
section
variable {f g : FE} {t u : TD} {fa : FA} {ta : TDA} {ft : FT} {tt : TDT} {fi : FA} {ti : TDI}
theorem m_Yes : SimT fYes tYesD := fun s Q E h => h
theorem m_comp {tg : Tg} {s : List Sl} (ht : SimT ft tt) (he : SimE f t) : ∀ {ds : List D} {Q : List D → Prop} {E : QX}, (compF tg ft f s ds).wp Q E → compR tg tt t s ds Q
  | [], Q, E, h => h
  | d :: ds, Q, E, h => by
    unfold compF at h
    unfold compR
    split at h
    · rename_i s1 e
      refine setTF_ok e (ht s1 _ _ (wp_mono (fun b hb => ?_) (fun _ _ z => z) (wp_noex.mp (wp_bind.mp h))))
      cases b with
      | true =>
        rw [if_pos rfl] at hb
        refine he s1 _ _ (wp_mono (fun y hy => ?_) (fun _ _ z => z) (wp_noex.mp (wp_bind.mp hb)))
        exact m_comp ht he (wp_bind.mp hy)
      | false =>
        rw [if_neg Bool.false_ne_true] at hb
        exact m_comp ht he hb
    · exact h.elim
theorem m_Lc (hi : SimI fi ti) (tg : Tg) (ht : SimT ft tt) (he : SimE f t) (vs : List Nat) : SimE (fLc fi tg ft f vs) (dLc ti tg tt t vs) := fun s Q E h => hi s _ E (wp_mono (fun x hx => by
  obtain ⟨a, b⟩ := wp_need.mp hx
  exact ⟨a, m_comp ht he (wp_bind.mp b)⟩) (fun _ _ z => z) (wp_bind.mp h))
end
def sx (s : List Sl) (r : Res α) (g : α → Res Fl) : Res Fl := r.cat g fun c x => .ok (.ex c x s)
theorem wp_sx {α : Type} {s : List Sl} {r : Res α} {g : α → Res Fl} {DD : DEnds} (h : (sx s r g).wp (flQ DD) NoX) : r.wp (fun a => (g a).wp (flQ DD) NoX) (xq DD s) := wp_mono (fun _ z => z) (fun _ _ z => z) (wp_cat.mp h)
def thenS (fl : Fl) (g : FS) : Res Fl := match fl with
  | .nx s => g s
  | o => .ok o
def zNil (s : List Sl) : Res Fl := .ok (.nx s)
def zSeq (f g : FS) (s : List Sl) : Res Fl := (f s).bind fun fl => thenS fl g
def zAsg (i : Nat) (f : FE) (s : List Sl) : Res Fl := sx s (f s) fun d => .ok (.nx (s.set i (.v d)))
noncomputable def zOwn (i : Nat) (f : FA) (s : List Sl) : Res Fl := sx s (f s) fun ds => need (ds.length ≤ sizeLine) (.ok (.nx (s.set i (.own ds))))
noncomputable def zOwnL (i : Nat) (f : FE) (s : List Sl) : Res Fl := sx s (f s) fun d => (optR (listOfD d)).bind fun ds => need (ds.length ≤ sizeLine) (.ok (.nx (s.set i (.own ds))))
def zDrop (f : FE) (s : List Sl) : Res Fl := sx s (f s) fun _ => .ok (.nx s)
noncomputable def zApp (i : Nat) (f : FE) (s : List Sl) : Res Fl := match s[i]? with
  | some (.own xs) => sx s (f s) fun d => need (xs.length < sizeLine) (.ok (.nx (s.set i (.own (xs ++ [d])))))
  | _ => .bad
def zRet (f : FE) (s : List Sl) : Res Fl := sx s (f s) fun d => .ok (.rt d)
def zRetN (_s : List Sl) : Res Fl := .ok (.rt .non)
noncomputable def zRetL (f : FA) (s : List Sl) : Res Fl := sx s (f s) fun ds => need (ds.length ≤ sizeLine) (.ok (.rn ds))
def zRetOwn (i : Nat) (s : List Sl) : Res Fl := match s[i]? with
  | some (.own xs) => .ok (.rn xs)
  | _ => .bad
def zIf (c : FT) (f g : FS) (s : List Sl) : Res Fl := sx s (c s) fun b => if b then f s else g s
def zBreak (s : List Sl) : Res Fl := .ok (.bk s)
def zCont (s : List Sl) : Res Fl := .ok (.cn s)
def zRaise (c : Nat) (f : FE) (s : List Sl) : Res Fl := sx s (f s) fun d => .ok (.ex c d s)
def zTg (tg : Tg) (f : FE) (s : List Sl) : Res Fl := sx s (f s) fun d => (optR (setTF tg d s)).bind fun s1 => .ok (.nx s1)
def zPar2 (i j : Nat) (f : FA) (s : List Sl) : Res Fl := sx s (f s) fun ds => match ds with
  | [d, e] => .ok (.nx ((s.set i (.v d)).set j (.v e)))
  | _ => .bad
def zPar3 (i j l : Nat) (f : FA) (s : List Sl) : Res Fl := sx s (f s) fun ds => match ds with
  | [d, e, g] => .ok (.nx (((s.set i (.v d)).set j (.v e)).set l (.v g)))
  | _ => .bad
noncomputable def zFld (c i : Nat) (x : Str) (f : FE) (s : List Sl) : Res Fl := match s[i]? with
  | some (.ini c' fs) => need (c' = c) (sx s (f s) fun d => need ((fs.any fun q => q.1 == x) = false ∧ fs.length < 900) (.ok (.nx (s.set i (.ini c' (fs ++ [(x, d)]))))))
  | _ => .bad
noncomputable def zSetSl (i : Nat) (fe fl fh : FE) (s : List Sl) : Res Fl := match s[i]? with
  | some (.own xs) => sx s (fe s) fun d => match d with
    | .lst ys => sx s (fl s) fun a => match a with
      | .int a => sx s (fh s) fun c => match c with
        | .int c => need (0 ≤ a ∧ a ≤ c ∧ c ≤ xs.length ∧ xs.length + ys.length ≤ sizeLine) (.ok (.nx (s.set i (.own (xs.take a.toNat ++ ys ++ xs.drop c.toNat)))))
        | _ => .bad
      | _ => .bad
    | _ => .bad
  | _ => .bad
def afterS (fl : Fl) (go : FS) : Res Fl := match fl with
  | .nx s => go s
  | .cn s => go s
  | .bk s => .ok (.nx s)
  | o => .ok o
def forF (tg : Tg) (body : FS) : List D → FS
  | [], s => .ok (.nx s)
  | d :: ds, s => (optR (setTF tg d s)).bind fun s1 => (body s1).bind fun fl => afterS fl (forF tg body ds)
def zFor (fi : FA) (tg : Tg) (body : FS) (s : List Sl) : Res Fl := sx s (fi s) fun ds => forF tg body ds s
noncomputable def suiteF (i : Nat) (fl : Fl) : Res Fl := match fl with
  | .nx s => need (plainB (s.set i .un) = true) (.ok (.nx (s.set i .un)))
  | .bk s => need (plainB (s.set i .un) = true) (.ok (.bk (s.set i .un)))
  | .cn s => need (plainB (s.set i .un) = true) (.ok (.cn (s.set i .un)))
  | .rt d => .ok (.rt d)
  | .rn ds => .ok (.rn ds)
  | .ex _ _ _ => .bad
noncomputable def caughtF (cat : Nat → Option Bool) (i : Nat) (u : FS) (fl : Fl) : Res Fl := match fl with
  | .ex c x s => match cat c with
    | some true => need (plainB (s.set i .un) = true) ((u (s.set i (.exc c x))).bind (suiteF i))
    | some false => .ok (.ex c x s)
    | none => .bad
  | o => .ok o
noncomputable def zTry (cat : Nat → Option Bool) (i : Nat) (b u : FS) (s : List Sl) : Res Fl := (b s).bind (caughtF cat i u)
section
variable {f g : FE} {t u : TD} {fa : FA} {ta : TDA} {ft : FT} {tt : TDT} {fi : FA} {ti : TDI} {fs gs : FS} {ts us : TDS}
theorem m_sNil : SimS zNil sNil := fun s DD h => h
theorem m_sSeq (h1 : SimS fs ts) (h2 : SimS gs us) : SimS (zSeq fs gs) (sSeq ts us) := fun s DD h => h1 s _ (wp_mono (fun fl hf => by
  cases fl with
  | nx s' => exact h2 s' DD hf
  | _ => exact hf) (fun _ _ z => z) (wp_bind.mp h))
theorem m_sAsg (i : Nat) (h1 : SimE f t) : SimS (zAsg i f) (sAsg i t) := fun s DD h => h1 s _ _ (wp_sx h)
theorem m_sOwn (i : Nat) (h1 : SimA fa ta) : SimS (zOwn i fa) (sOwn i ta) := fun s DD h => h1 s _ _ (wp_mono (fun _ z => wp_need.mp z) (fun _ _ z => z) (wp_sx h))
theorem m_sDrop (h1 : SimE f t) : SimS (zDrop f) (sDrop t) := fun s DD h => h1 s _ _ (wp_sx h)
theorem m_sApp (i : Nat) (h1 : SimE f t) : SimS (zApp i f) (sApp i t) := by
  intro s DD h
  unfold zApp at h
  unfold sApp
  split at h
  · rename_i xs e
    try rw [e]
    exact h1 s _ _ (wp_mono (fun _ z => wp_need.mp z) (fun _ _ z => z) (wp_sx h))
  · exact h.elim
theorem m_sRet (h1 : SimE f t) : SimS (zRet f) (sRet t) := fun s DD h => h1 s _ _ (wp_sx h)
theorem m_sRetL (h1 : SimA fa ta) : SimS (zRetL fa) (sRetL ta) := fun s DD h => h1 s _ _ (wp_mono (fun _ z => wp_need.mp z) (fun _ _ z => z) (wp_sx h))
theorem m_sRetOwn (i : Nat) : SimS (zRetOwn i) (sRetOwn i) := by
  intro s DD h
  unfold zRetOwn at h
  unfold sRetOwn
  split at h
  · rename_i xs e
    try rw [e]
    exact h
  · exact h.elim
theorem m_sIf (hc : SimT ft tt) (h1 : SimS fs ts) (h2 : SimS gs us) : SimS (zIf ft fs gs) (sIf tt ts us) := fun s DD h => hc s _ _ (wp_mono (fun b hb => by
  cases b
  · exact h2 s DD hb
  · exact h1 s DD hb) (fun _ _ z => z) (wp_sx h))
theorem m_sRaise (c : Nat) (h1 : SimE f t) : SimS (zRaise c f) (sRaise c t) := fun s DD h => h1 s _ _ (wp_sx h)
theorem m_sPar2 (i j : Nat) (h1 : SimA fa ta) : SimS (zPar2 i j fa) (sPar2 i j ta) := fun s DD h => h1 s _ _ (wp_mono (fun ds z => by
  split at z
  · exact z
  · exact z.elim) (fun _ _ z => z) (wp_sx h))
theorem m_sFld (c i : Nat) (x : Str) (h1 : SimE f t) : SimS (zFld c i x f) (sFld c i x t) := by
  intro s DD h
  unfold zFld at h
  split at h
  · rename_i c' fs e
    obtain ⟨a, b⟩ := wp_need.mp h
    subst a
    refine ⟨⟨fs, e⟩, ?_⟩
    unfold sFldI
    try rw [e]
    exact h1 s _ _ (wp_mono (fun d z => by
      obtain ⟨a, b⟩ := wp_need.mp z
      exact ⟨a.1, a.2, b⟩) (fun _ _ z => z) (wp_sx b))
  · exact h.elim
theorem m_for {tg : Tg} (h1 : SimS fs ts) : ∀ {ds : List D} {s : List Sl} {DD : DEnds}, (forF tg fs ds s).wp (flQ DD) NoX → forR tg ts ds DD s
  | [], s, DD, h => h
  | d :: ds, s, DD, h => by
    unfold forF at h
    unfold forR
    obtain ⟨s1, e, q⟩ := wp_optR.mp (wp_bind.mp h)
    refine setTF_ok e (h1 s1 _ (wp_mono (fun fl hf => ?_) (fun _ _ z => z) (wp_bind.mp q)))
    cases fl with
    | nx s' => exact m_for h1 hf
    | cn s' => exact m_for h1 hf
    | _ => exact hf
theorem m_sFor (hi : SimI fi ti) (tg : Tg) (h1 : SimS fs ts) : SimS (zFor fi tg fs) (sFor ti tg ts) := fun s DD h => hi s _ _ (wp_mono (fun ds z => m_for h1 z) (fun _ _ z => z) (wp_sx h))
end
def endR : Fl → Res D
  | .nx _ => .ok .non
  | .rt d => .ok d
  | .rn ds => .ok (.lst ds)
  | .ex c x _ => .exc c x
  | _ => .bad
noncomputable def fDef (n m : Nat) (f : FS) (ds : List D) : Res D := need (ds.length = n) ((f (startD m ds)).noex.bind endR)
def endI (c : Nat) : Fl → Res (List (Str × D))
  | .nx s => match s[0]? with
    | some (Sl.ini c' fs) => if c' = c then .ok fs else .bad
    | _ => .bad
  | .ex c x _ => .exc c x
  | _ => .bad
noncomputable def fIni (c n m : Nat) (f : FS) (ds : List D) : Res (List (Str × D)) := need (ds.length = n) ((f (.ini c [] :: startD m ds)).noex.bind (endI c))
def endN : Fl → Res (List D)
  | .rn ds => .ok ds
  | .ex c x _ => .exc c x
  | _ => .bad
noncomputable def fPur (n m : Nat) (f : FS) (ds : List D) : Res D := need (ds.length = n) (((f (startD m ds)).noex.bind endN).bind fun ds' => match ds' with
  | [.int _, .int _, .int _] => .ok (.tok 0)
  | _ => .bad)
noncomputable def gDraw : FW
  | [.tok 0, .int m] => need (0 < m ∧ m.natAbs.log2 < 9000) (.ask m fun d => .ok (.int d))
  | _ => .bad
section
variable {fs : FS} {ts : TDS}
theorem m_def (n m : Nat) (h1 : SimS fs ts) : SimW (fDef n m fs) (wfOf n m ts) := fun ds Q E h => by
  obtain ⟨a, b⟩ := wp_need.mp h
  refine ⟨a, h1 _ _ (wp_mono (fun fl hf => ?_) (fun _ _ z => z) (wp_noex.mp (wp_bind.mp b)))⟩
  cases fl <;> exact hf
theorem m_ini (c n m : Nat) (h1 : SimS fs ts) : SimWi (fIni c n m fs) (wiOf c n m ts) := fun ds Q E h => by
  obtain ⟨a, b⟩ := wp_need.mp h
  refine ⟨a, h1 _ _ (wp_mono (fun fl hf => ?_) (fun _ _ z => z) (wp_noex.mp (wp_bind.mp b)))⟩
  cases fl <;> first | exact hf | skip
  rename_i s
  show ∃ fs, s[0]? = some (.ini c fs) ∧ Q fs
  unfold endI at hf
  dsimp only at hf
  split at hf
  · rename_i e
    by_cases z : ‹Nat› = c
    · rw [if_pos z] at hf
      subst z
      exact ⟨_, e, hf⟩
    · rw [if_neg z] at hf
      exact hf.elim
  · exact hf.elim
theorem m_pur (n m : Nat) (h1 : SimS fs ts) : SimW (fPur n m fs) (wPur (wnOf n m ts)) := fun ds Q E h => by
  obtain ⟨a, b⟩ := wp_need.mp h
  refine ⟨a, h1 _ _ (wp_mono (fun fl hf => ?_) (fun _ _ z => z) (wp_noex.mp (wp_bind.mp (wp_bind.mp b))))⟩
  cases fl <;> first | exact hf | exact hf.elim | skip
  show (∃ i j k : Int, _ = [D.int i, .int j, .int k]) ∧ Q (.tok 0)
  dsimp only [endN, Res.wp] at hf
  split at hf
  · exact ⟨⟨_, _, _, rfl⟩, hf⟩
  · exact hf.elim
theorem m_draw : SimW gDraw wDraw := fun ds Q E h => by
  unfold gDraw at h
  split at h
  · obtain ⟨a, b⟩ := wp_need.mp h
    exact ⟨_, rfl, a.1, a.2, b⟩
  · exact h.elim
end
end Dl
set_option Elab.async false
set_option linter.all false
set_option maxRecDepth 100000
set_option maxHeartbeats 400000
namespace Dl
open PySem PySem.Spec L2 Res
theorem tb_nil : SimTb (fun _ => none) (fun _ => none) := fun n g h => by cases h
theorem tb_cons (c : Nat) {g : FW} {w : Wf} {a : Nat → Option FW} {b : Nat → Option Wf} (hg : SimW g w) (r : SimTb a b) : SimTb (fun n => if n = c then some g else a n) (fun n => if n = c then some w else b n) := fun n g' h => by
  dsimp only at h ⊢
  by_cases z : n = c
  · rw [if_pos z] at h ⊢
    cases h
    exact ⟨w, rfl, hg⟩
  · rw [if_neg z] at h ⊢
    exact r n g' h
end Dl
set_option Elab.async false
set_option linter.all false
set_option maxRecDepth 100000
set_option maxHeartbeats 400000
namespace Dl
open PySem PySem.Spec L2 Res
/-- a value that is looked at by isinstance and == alone -/
def isW : D → Bool
  | .int _ => true
  | _ => false
def opD : Option Int → D
  | none => .non
  | some i => .int i
/-- a whole number from lo to hi -/
def inBd (v : D) (lo : Int) (hi : Option Int) : Bool := match v, hi with
  | .int i, none => decide (lo ≤ i)
  | .int i, some j => decide (lo ≤ i) && decide (i ≤ j)
  | _, _ => false
theorem szL {n : Nat} (h : n ≤ 16777216) : n ≤ sizeLine := by rw [sizeLine_eq]; omega
theorem comp_mapG {α : Type} {g : α → D} {i : Nat} {fe : FE} {s : List Sl} {f : α → D} : ∀ {l : List α}, (∀ a ∈ l, fe (s.set i (.v (g a))) = .ok (f a)) → compF (.nm i) fYes fe s (l.map g) = .ok (l.map f)
  | [], _ => rfl
  | d :: ds, h => by
    rw [List.map_cons]
    unfold compF
    rw [comp_mapG (fun e he => h e (List.mem_cons_of_mem _ he))]
    simp [setTF, fYes, h d List.mem_cons_self, Res.bind, Res.noex, Res.cat]
theorem comp_filterG {α : Type} {g : α → D} {i : Nat} {ft : FT} {fe : FE} {s : List Sl} {f : α → D} {p : α → Bool} : ∀ {l : List α}, (∀ d ∈ l, ft (s.set i (.v (g d))) = .ok (p d)) → (∀ d ∈ l, p d = true → fe (s.set i (.v (g d))) = .ok (f d)) → compF (.nm i) ft fe s (l.map g) = .ok ((l.filter p).map f)
  | [], _, _ => rfl
  | d :: ds, h, k => by
    rw [List.map_cons]
    unfold compF
    rw [comp_filterG (fun e he => h e (List.mem_cons_of_mem _ he)) fun e he => k e (List.mem_cons_of_mem _ he)]
    cases e : p d with
    | true => simp [setTF, h d List.mem_cons_self, k d List.mem_cons_self e, Res.bind, Res.noex, Res.cat, e]
    | false => simp [setTF, h d List.mem_cons_self, Res.bind, Res.noex, Res.cat, e]
theorem toBls_mapG {α : Type} {p : α → Bool} : ∀ {l : List α}, toBls (l.map fun a => .bl (p a)) = some (l.map p)
  | [] => rfl
  | a :: l => by
    show (toBls (l.map fun a => .bl (p a))).map (p a :: ·) = _
    rw [toBls_mapG] <;> rfl
theorem all_mapId {α : Type} {p : α → Bool} {l : List α} : (l.map p).all id = l.all p := by rw [List.all_map] <;> rfl
theorem any_mapId {α : Type} {p : α → Bool} {l : List α} : (l.map p).any id = l.any p := by rw [List.any_map] <;> rfl
/-- a loop by an invariant over what is still to come -/
theorem wp_for {body : FS} {i : Nat} {Q : Fl → Prop} (I : List D → List Sl → Prop) : ∀ {ds : List D} {s : List Sl}, I ds s → (∀ s, I [] s → Q (.nx s)) → (∀ d ds s, I (d :: ds) s → (body (s.set i (.v d))).wp (fun fl => match fl with
      | .nx s' => I ds s'
      | .cn s' => I ds s'
      | .bk s' => Q (.nx s')
      | o => Q o) NoX) → (forF (.nm i) body ds s).wp Q NoX
  | [], s, h, hn, _ => hn s h
  | d :: ds, s, h, hn, hb => by
    unfold forF
    simp only [setTF, optR, Res.bind, Res.cat, wp_cat]
    refine wp_mono (fun fl hf => ?_) (fun _ _ z => z) (hb d ds s h)
    cases fl with
    | nx s' => exact wp_for I hf hn hb
    | cn s' => exact wp_for I hf hn hb
    | _ => exact hf
/-- a loop whose turns leave the same frame but for its own names -/
theorem wp_forAll {body : FS} {tg : Tg} {Q : Fl → Prop} (I : List Sl → Prop) : ∀ {ds : List D} {s : List Sl}, I s → (∀ s, I s → Q (.nx s)) → (∀ d ∈ ds, ∀ s, I s → ∃ s1, setTF tg d s = some s1 ∧ (body s1).wp (fun fl => match fl with
      | .nx s' => I s'
      | .cn s' => I s'
      | .bk s' => Q (.nx s')
      | o => Q o) NoX) → (forF tg body ds s).wp Q NoX
  | [], s, h, hn, _ => hn s h
  | d :: ds, s, h, hn, hb => by
    obtain ⟨s1, e, z⟩ := hb d List.mem_cons_self s h
    unfold forF
    rw [e]
    simp only [optR, Res.bind, Res.cat, wp_cat]
    refine wp_mono (fun fl hf => ?_) (fun _ _ z => z) z
    cases fl with
    | nx s' => exact wp_forAll I hf hn fun e he => hb e (List.mem_cons_of_mem _ he)
    | cn s' => exact wp_forAll I hf hn fun e he => hb e (List.mem_cons_of_mem _ he)
    | _ => exact hf
end Dl
set_option Elab.async false
set_option linter.all false
set_option maxRecDepth 100000
set_option maxHeartbeats 400000
namespace Dl
open PySem PySem.Spec L2 Res
section
variable {α β : Type} {f g : FS} {s : List Sl} {Q : Fl → Prop} {E : QX}
theorem w_seq (h : (f s).wp (fun fl => (thenS fl g).wp Q NoX) NoX) : (zSeq f g s).wp Q NoX := wp_bind.mpr h
theorem w_sx {r : Res α} {k : α → Res Fl} : (sx s r k).wp Q E ↔ r.wp (fun a => (k a).wp Q E) (fun c x => Q (.ex c x s)) := wp_cat
theorem w_nil : (zNil s).wp Q E ↔ Q (.nx s) := Iff.rfl
theorem w_ok {a : α} {Q : α → Prop} : (Res.ok a).wp Q E ↔ Q a := Iff.rfl
theorem w_exc {c : Nat} {x : D} {Q : α → Prop} : (Res.exc c x : Res α).wp Q E ↔ E c x := Iff.rfl
theorem w_bad {Q : α → Prop} : (Res.bad : Res α).wp Q E ↔ False := Iff.rfl
theorem w_draw {m : Int} {Q : D → Prop} : (gDraw [.tok 0, .int m]).wp Q E ↔ (0 < m ∧ m.natAbs.log2 < 9000) ∧ ∀ d, 0 ≤ d → d < m → Q (.int d) := wp_need
/-- a def, by what its body leads to -/
theorem w_def {n m : Nat} {fs : FS} {ds : List D} {Q : D → Prop} (hn : ds.length = n) (h : (fs (startD m ds)).wp (fun fl => (endR fl).wp Q E) NoX) : (fDef n m fs ds).wp Q E := by
  unfold fDef
  rw [need_pos hn]
  exact wp_bind.mpr (wp_noex.mpr h)
theorem w_pur {n m : Nat} {fs : FS} {ds : List D} {Q : D → Prop} (hn : ds.length = n) (h : (fs (startD m ds)).wp (fun fl => ((endN fl).bind fun ds' => match ds' with
  | [.int _, .int _, .int _] => .ok (.tok 0)
  | _ => .bad).wp Q E) NoX) : (fPur n m fs ds).wp Q E := by
  unfold fPur
  rw [need_pos hn]
  refine wp_bind.mpr (wp_bind.mpr (wp_noex.mpr (wp_mono (fun fl hf => wp_bind.mp hf) (fun _ _ z => z) h)))
end
theorem szlog {m : Int} (h0 : 0 < m) (h : m < 2 ^ 200) : 0 < m ∧ m.natAbs.log2 < 9000 := by
  refine ⟨h0, ?_⟩
  have : m.natAbs < 2 ^ 200 := by omega
  have := (Nat.log2_lt (by omega)).mpr this
  omega
mutual
/-- a value that is equal to itself, ob: its objects, n: how deep -/
def selfD (ob : D → Bool) : Nat → D → Bool
  | _, .non => true
  | _, .bl _ => true
  | _, .int _ => true
  | _, .str _ => true
  | 0, _ => false
  | n + 1, .lst xs => selfDs ob n xs
  | n + 1, .tup xs => selfDs ob n xs
  | n + 1, .obj c fs => ob (.obj c fs)
  | _, .tok k => k == 7
  | _, _ => false
def selfDs (ob : D → Bool) : Nat → List D → Bool
  | _, [] => true
  | n, x :: xs => selfD ob n x && selfDs ob n xs
end
mutual
theorem okE_self {T : EqT} {ob : D → Bool} {k : Nat} (ho : ∀ x, ob x = true → ∀ n, k ≤ n → okE T x x n) : ∀ {n : Nat} {x : D}, selfD ob n x = true → okE T x x (n + k)
  | n, .non, h => by simp [okE, flatD]
  | n, .bl _, h => by simp [okE, flatD]
  | n, .int _, h => by simp [okE, flatD]
  | n, .str _, h => by simp [okE, flatD]
  | 0, .lst xs, h => by simp [selfD] at h
  | 0, .tup xs, h => by simp [selfD] at h
  | 0, .obj c fs, h => by simp [selfD] at h
  | n + 1, .lst xs, h => by
    unfold okE
    intro _
    exact ⟨n + k, by omega, okEs_self ho (by simpa [selfD] using h)⟩
  | n + 1, .tup xs, h => by
    unfold okE
    exact ⟨n + k, by omega, okEs_self ho (by simpa [selfD] using h)⟩
  | n + 1, .obj c fs, h => ho _ (by simpa [selfD] using h) _ (by omega)
  | n, .tok j, h => by
    have e : j = 7 := by
      cases n <;> simpa [selfD] using h
    subst e
    simp [okE]
  | 0, .ty _, h => by simp [selfD] at h
  | n + 1, .ty _, h => by simp [selfD] at h
  | 0, .cls _, h => by simp [selfD] at h
  | n + 1, .cls _, h => by simp [selfD] at h
  | 0, .scr _, h => by simp [selfD] at h
  | n + 1, .scr _, h => by simp [selfD] at h
  | 0, .ref _, h => by simp [selfD] at h
  | n + 1, .ref _, h => by simp [selfD] at h
  | 0, .dic _ _, h => by simp [selfD] at h
  | n + 1, .dic _ _, h => by simp [selfD] at h
theorem okEs_self {T : EqT} {ob : D → Bool} {k : Nat} (ho : ∀ x, ob x = true → ∀ n, k ≤ n → okE T x x n) : ∀ {n : Nat} {xs : List D}, selfDs ob n xs = true → okEs T xs xs (n + k)
  | n, [], h => by simp [okEs]
  | n, x :: xs, h => by
    simp only [selfDs, Bool.and_eq_true] at h
    simp only [okEs]
    exact ⟨okE_self ho h.1, okEs_self ho h.2⟩
end
mutual
/-- equal to itself -/
def rfD : D → Bool
  | .non => true
  | .bl _ => true
  | .int _ => true
  | .str _ => true
  | .lst xs => rfDs xs
  | .tup xs => rfDs xs
  | .obj _ fs => rfDs fs
  | .tok k => k == 7
  | _ => false
def rfDs : List D → Bool
  | [] => true
  | x :: xs => rfD x && rfDs xs
end
mutual
theorem eqD_rf : ∀ {x : D}, rfD x = true → eqD x x = true
  | .non, h => by simp [eqD]
  | .bl _, h => by simp [eqD]
  | .int _, h => by simp [eqD]
  | .str _, h => by simp [eqD]
  | .lst xs, h => by
    simp only [eqD]
    exact eqDs_rf (by simpa [rfD] using h)
  | .tup xs, h => by
    simp only [eqD]
    exact eqDs_rf (by simpa [rfD] using h)
  | .obj c xs, h => by
    simp only [eqD, beq_self_eq_true, Bool.true_and]
    exact eqDs_rf (by simpa [rfD] using h)
  | .tok k, h => by
    have e : k = 7 := by simpa [rfD] using h
    subst e
    simp [eqD]
  | .ty _, h => by simp [rfD] at h
  | .cls _, h => by simp [rfD] at h
  | .scr _, h => by simp [rfD] at h
  | .ref _, h => by simp [rfD] at h
  | .dic _ _, h => by simp [rfD] at h
theorem eqDs_rf : ∀ {xs : List D}, rfDs xs = true → eqDs xs xs = true
  | [], h => by simp [eqDs]
  | x :: xs, h => by
    simp only [rfDs, Bool.and_eq_true] at h
    simp only [eqDs, Bool.and_eq_true]
    exact ⟨eqD_rf h.1, eqDs_rf h.2⟩
end
section
variable {T : EqT} {n : Nat} {x y : D}
theorem ne_of {b : Bool} (h : okE T x y n) (e : eqD x y = b) : pNeT T n x y = .ok (.bl !b) := by
  unfold pNeT
  rw [need_pos h, e]
theorem eq_of {b : Bool} (h : okE T x y n) (e : eqD x y = b) : pEqT T n x y = .ok (.bl b) := by
  unfold pEqT
  rw [need_pos h, e]
end
theorem okE_int {T : EqT} {n : Nat} {i j : Int} : okE T (.int i) (.int j) n := by simp [okE, flatD]
theorem okE_str {T : EqT} {n : Nat} {i j : Str} : okE T (.str i) (.str j) n := by simp [okE, flatD]
theorem ne_int {T : EqT} {n : Nat} {i j : Int} : pNeT T n (.int i) (.int j) = .ok (.bl (!(i == j))) := ne_of okE_int (by simp [eqD])
theorem eq_str {T : EqT} {n : Nat} {i j : Str} : pEqT T n (.str i) (.str j) = .ok (.bl (i == j)) := eq_of okE_str (by simp [eqD])
theorem ne_str {T : EqT} {n : Nat} {i j : Str} : pNeT T n (.str i) (.str j) = .ok (.bl (!(i == j))) := ne_of okE_str (by simp [eqD])
end Dl
set_option Elab.async false
set_option linter.all false
set_option maxRecDepth 100000
set_option maxHeartbeats 400000
namespace Dl
open PySem PySem.Spec L2 Res
end Dl
set_option Elab.async false
set_option linter.all false
set_option maxRecDepth 100000
set_option maxHeartbeats 400000
namespace Dl
open PySem PySem.Spec L2 Res
theorem e_asI {i : Int} : asI (.int i) = .ok (some i) := rfl
theorem e_asB {b : Bool} : asB (.bl b) = .ok b := rfl
theorem e_tru_non  : truR .non = .ok false := rfl
theorem e_tru_bl {b : Bool} : truR (.bl b) = .ok b := rfl
theorem e_tru_int {i : Int} : truR (.int i) = .ok (i != 0) := rfl
theorem e_tru_str {y : Str} : truR (.str y) = need (y.length ≤ sizeLine) (.ok (!decide (y.length = 0))) := rfl
theorem e_tru_lst {xs : List D} : truR (.lst xs) = .ok (!xs.isEmpty) := rfl
theorem e_tru_tup {xs : List D} : truR (.tup xs) = .ok (!xs.isEmpty) := rfl
theorem e_tru_scr {xs : List Int} : truR (.scr xs) = .ok (!xs.isEmpty) := rfl
theorem e_sl_lst {xs : List D} {lo hi : Option Int} : sliceD (.lst xs) lo hi = .ok (.lst (cutD xs lo hi)) := rfl
theorem e_sl_str {z : Str} {lo hi : Option Int} : sliceD (.str z) lo hi = need (z.length ≤ sizeLine) (.ok (.str (cutS z lo hi))) := rfl
theorem e_sl_tup {xs : List D} {lo hi : Option Int} : sliceD (.tup xs) lo hi = .ok (.tup (cutD xs lo hi)) := rfl
theorem e_some {α : Type} {a : α} : optR (some a) = .ok a := rfl
theorem e_none {α : Type} : optR (none : Option α) = .bad := rfl
theorem e_it_lst {xs : List D} : itR (.lst xs) = .ok xs := rfl
theorem e_it_tup {xs : List D} : itR (.tup xs) = .ok xs := rfl
theorem e_it_str {x : Str} : itR (.str x) = .ok (chrs x) := rfl
theorem e_it_scr {ns : List Int} : itR (.scr ns) = .ok (ns.map D.int) := rfl
theorem e_r1 {n : Int} : rng1 [.int n] = need (-(2 ^ 62) ≤ n ∧ n < 2 ^ 62) (.ok (intsD 0 n.toNat)) := rfl
theorem e_r2 {a n : Int} : rng2 [.int a, .int n] = need (-(2 ^ 62) ≤ a ∧ a < 2 ^ 62 ∧ -(2 ^ 62) ≤ n ∧ n < 2 ^ 62) (.ok (intsD a (n - a).toNat)) := rfl
theorem e_en {xs : List D} : enumR [.lst xs] = .ok (numbered 0 xs) := rfl
theorem e_thenS_nx {g : FS} {s : List Sl} : thenS (.nx s) g = g s := rfl
theorem e_thenS_rt {g : FS} {d : D} : thenS (.rt d) g = .ok (.rt d) := rfl
theorem e_thenS_rn {g : FS} {d : List D} : thenS (.rn d) g = .ok (.rn d) := rfl
theorem e_thenS_bk {g : FS} {s : List Sl} : thenS (.bk s) g = .ok (.bk s) := rfl
theorem e_thenS_cn {g : FS} {s : List Sl} : thenS (.cn s) g = .ok (.cn s) := rfl
theorem e_thenS_ex {g : FS} {c : Nat} {x : D} {s : List Sl} : thenS (.ex c x s) g = .ok (.ex c x s) := rfl
theorem e_afterS_nx {g : FS} {s : List Sl} : afterS (.nx s) g = g s := rfl
theorem e_afterS_rt {g : FS} {d : D} : afterS (.rt d) g = .ok (.rt d) := rfl
theorem e_afterS_rn {g : FS} {d : List D} : afterS (.rn d) g = .ok (.rn d) := rfl
theorem e_afterS_bk {g : FS} {s : List Sl} : afterS (.bk s) g = .ok (.nx s) := rfl
theorem e_afterS_cn {g : FS} {s : List Sl} : afterS (.cn s) g = g s := rfl
theorem e_afterS_ex {g : FS} {c : Nat} {x : D} {s : List Sl} : afterS (.ex c x s) g = .ok (.ex c x s) := rfl
theorem e_su_nx {i : Nat} {s : List Sl} : suiteF i (.nx s) = need (plainB (s.set i .un) = true) (.ok (.nx (s.set i .un))) := rfl
theorem e_su_rt {i : Nat} {d : D} : suiteF i (.rt d) = .ok (.rt d) := rfl
theorem e_su_bk {i : Nat} {s : List Sl} : suiteF i (.bk s) = need (plainB (s.set i .un) = true) (.ok (.bk (s.set i .un))) := rfl
theorem e_su_cn {i : Nat} {s : List Sl} : suiteF i (.cn s) = need (plainB (s.set i .un) = true) (.ok (.cn (s.set i .un))) := rfl
theorem e_ca_nx {cat : Nat → Option Bool} {i : Nat} {u : FS} {s : List Sl} : caughtF cat i u (.nx s) = .ok (.nx s) := rfl
theorem e_ca_bk {cat : Nat → Option Bool} {i : Nat} {u : FS} {s : List Sl} : caughtF cat i u (.bk s) = .ok (.bk s) := rfl
theorem e_ca_cn {cat : Nat → Option Bool} {i : Nat} {u : FS} {s : List Sl} : caughtF cat i u (.cn s) = .ok (.cn s) := rfl
theorem e_ca_rt {cat : Nat → Option Bool} {i : Nat} {u : FS} {d : D} : caughtF cat i u (.rt d) = .ok (.rt d) := rfl
theorem e_ca_ex {cat : Nat → Option Bool} {i : Nat} {u : FS} {c : Nat} {x : D} {s : List Sl} : caughtF cat i u (.ex c x s) = (match cat c with
  | some true => need (plainB (s.set i .un) = true) ((u (s.set i (.exc c x))).bind (suiteF i))
  | some false => .ok (.ex c x s)
  | none => .bad) := rfl
theorem e_end_nx {s : List Sl} : endR (.nx s) = .ok .non := rfl
theorem e_end_rt {d : D} : endR (.rt d) = .ok d := rfl
theorem e_end_rn {d : List D} : endR (.rn d) = .ok (.lst d) := rfl
theorem e_end_ex {c : Nat} {x : D} {s : List Sl} : endR (.ex c x s) = .exc c x := rfl
theorem e_endN_rn {d : List D} : endN (.rn d) = .ok d := rfl
theorem e_endN_ex {c : Nat} {x : D} {s : List Sl} : endN (.ex c x s) = .exc c x := rfl
theorem e_endI_ex {k c : Nat} {x : D} {s : List Sl} : endI k (.ex c x s) = .exc c x := rfl
theorem e_endI_nx {c : Nat} {fs : List (Str × D)} {s : List Sl} : endI c (.nx (.ini c fs :: s)) = .ok fs := if_pos rfl
theorem e_len_str {z : Str} : gLen [.str z] = need (z.length ≤ sizeLine) (.ok (.int z.length)) := rfl
theorem e_len_lst {xs : List D} : gLen [.lst xs] = .ok (.int xs.length) := rfl
theorem e_len_tup {xs : List D} : gLen [.tup xs] = .ok (.int xs.length) := rfl
theorem e_len_scr {xs : List Int} : gLen [.scr xs] = .ok (.int xs.length) := rfl
theorem e_list_lst {xs : List D} : gList [.lst xs] = .ok (.lst xs) := rfl
theorem e_list_tup {xs : List D} : gList [.tup xs] = .ok (.lst xs) := rfl
theorem e_list_scr {xs : List Int} : gList [.scr xs] = .ok (.lst (xs.map D.int)) := rfl
theorem e_list_str {z : Str} : gList [.str z] = need (z.length ≤ sizeLine) (.ok (.lst (chrs z))) := rfl
theorem e_tuple_lst {xs : List D} : gTuple [.lst xs] = .ok (.tup xs) := rfl
theorem e_tuple_tup {xs : List D} : gTuple [.tup xs] = .ok (.tup xs) := rfl
theorem e_int_int {i : Int} : gInt [.int i] = .ok (.int i) := rfl
theorem e_int_bl {b : Bool} : gInt [.bl b] = .ok (.int (if b then 1 else 0)) := rfl
theorem e_bool_int {i : Int} : gBool [.int i] = .ok (.bl (i != 0)) := rfl
theorem e_bool_bl {b : Bool} : gBool [.bl b] = .ok (.bl b) := rfl
theorem e_sum {ds : List D} : gSum [.lst ds] = (optR (toInts ds)).bind fun ns => .ok (.int ns.sum) := rfl
theorem e_all {ds : List D} : gAll [.lst ds] = (optR (toBls ds)).bind fun ns => .ok (.bl (ns.all id)) := rfl
theorem e_any {ds : List D} : gAny [.lst ds] = (optR (toBls ds)).bind fun ns => .ok (.bl (ns.any id)) := rfl
theorem e_min {i j : Int} : gMin [.int i, .int j] = .ok (.int (if j < i then j else i)) := rfl
theorem e_max {i j : Int} : gMax [.int i, .int j] = .ok (.int (if j > i then j else i)) := rfl
theorem e_isi {sub : Sub2} {d c : D} : gIsi sub [d, c] = (optR (isiD sub d c)).bind fun b => .ok (.bl b) := rfl
theorem e_join_l {z : Str} {ds : List D} : kJoin z (.lst ds) = (optR (toStrs ds)).bind fun ys => need ((ys.map (·.length)).sum + ys.length * z.length ≤ 16777216) (.ok (.str (Txt.join z ys))) := rfl
theorem e_join_t {z : Str} {ds : List D} : kJoin z (.tup ds) = (optR (toStrs ds)).bind fun ys => need ((ys.map (·.length)).sum + ys.length * z.length ≤ 16777216) (.ok (.str (Txt.join z ys))) := rfl
theorem e_count {z y : Str} : kCount z (.str y) = .ok (.int (Txt.count z y)) := rfl
theorem e_strip {z y : Str} : kStrip z (.str y) = need (z.length ≤ sizeLine) (.ok (.str (Txt.stripChars z y))) := rfl
theorem e_split {z y : Str} : kSplit z (.str y) = need ((y.length == 0) = false ∧ z.length + 2 ≤ sizeLine) (.ok (.lst ((Txt.split z y).map D.str))) := rfl
theorem e_add_i {i j : Int} : pAdd (.int i) (.int j) = .ok (.int (i + j)) := rfl
theorem e_add_s {a b : Str} : pAdd (.str a) (.str b) = need (a.length + b.length ≤ sizeLine) (.ok (.str (a ++ b))) := rfl
theorem e_add_l {a b : List D} : pAdd (.lst a) (.lst b) = need (a.length + b.length ≤ sizeLine) (.ok (.lst (a ++ b))) := rfl
theorem e_add_t {a b : List D} : pAdd (.tup a) (.tup b) = need (a.length + b.length ≤ sizeLine) (.ok (.tup (a ++ b))) := rfl
theorem e_sub {i j : Int} : pSub (.int i) (.int j) = .ok (.int (i - j)) := rfl
theorem e_mul_i {i j : Int} : pMul (.int i) (.int j) = need (CMulX i j) (.ok (.int (i * j))) := rfl
theorem e_mul_s {x : Str} {n : Int} : pMul (.str x) (.int n) = need (-(2 ^ 62) ≤ n ∧ x.length * n.toNat ≤ 10000000 ∧ n.toNat ≤ 10000000) (.ok (.str (strRep x n.toNat))) := rfl
theorem e_mul_l {a : List D} {n : Int} : pMul (.lst a) (.int n) = need (-(2 ^ 63) ≤ n ∧ n < 2 ^ 63 ∧ a.length * n.toNat ≤ sizeLine) (.ok (.lst (List.replicate n.toNat a).flatten)) := rfl
theorem e_mod {i j : Int} : pMod (.int i) (.int j) = need (0 < j) (.ok (.int (i % j))) := rfl
theorem e_div {i j : Int} : pDiv (.int i) (.int j) = need (CDivW i j) (.ok (.int (i / j))) := rfl
theorem e_pow {i j : Int} : pPow (.int i) (.int j) = need (CPowX i j) (.ok (.int (i ^ j.toNat))) := rfl
theorem e_cmp {f : Int → Int → Bool} {i j : Int} : pCmp f (.int i) (.int j) = .ok (.bl (f i j)) := rfl
theorem e_mul_t {a : List D} {n : Int} : pMul (.tup a) (.int n) = need (-(2 ^ 62) ≤ n ∧ n ≤ 1000 ∧ a.length ≤ 1000) (.ok (.tup (List.replicate n.toNat a).flatten)) := rfl
theorem e_is_bl {a b : Bool} : pIsN (.bl a) (.bl b) = .ok (.bl (a == b)) := rfl
theorem e_not_bl {a b : Bool} : pNotN (.bl a) (.bl b) = .ok (.bl (!(a == b))) := rfl
theorem e_isN_non  : pIsN .non .non = .ok (.bl true) := rfl
theorem e_notN_non  : pNotN .non .non = .ok (.bl false) := rfl
theorem e_isN_bl {b : Bool} : pIsN (.bl b) .non = .ok (.bl false) := rfl
theorem e_notN_bl {b : Bool} : pNotN (.bl b) .non = .ok (.bl true) := rfl
theorem e_isN_int {b : Int} : pIsN (.int b) .non = .ok (.bl false) := rfl
theorem e_notN_int {b : Int} : pNotN (.int b) .non = .ok (.bl true) := rfl
theorem e_isN_str {b : Str} : pIsN (.str b) .non = .ok (.bl false) := rfl
theorem e_notN_str {b : Str} : pNotN (.str b) .non = .ok (.bl true) := rfl
theorem e_isN_lst {b : List D} : pIsN (.lst b) .non = .ok (.bl false) := rfl
theorem e_notN_lst {b : List D} : pNotN (.lst b) .non = .ok (.bl true) := rfl
theorem e_isN_tup {b : List D} : pIsN (.tup b) .non = .ok (.bl false) := rfl
theorem e_notN_tup {b : List D} : pNotN (.tup b) .non = .ok (.bl true) := rfl
theorem e_isN_obj {c : Nat} {b : List D} : pIsN (.obj c b) .non = .ok (.bl false) := rfl
theorem e_notN_obj {c : Nat} {b : List D} : pNotN (.obj c b) .non = .ok (.bl true) := rfl
theorem e_isN_scr {b : List Int} : pIsN (.scr b) .non = .ok (.bl false) := rfl
theorem e_notN_scr {b : List Int} : pNotN (.scr b) .non = .ok (.bl true) := rfl
theorem e_isN_tok {b : Nat} : pIsN (.tok b) .non = .ok (.bl false) := rfl
theorem e_notN_tok {b : Nat} : pNotN (.tok b) .non = .ok (.bl true) := rfl
theorem e_ix_l {xs : List D} {i : Int} : pIx (.lst xs) (.int i) = optR (atI xs i) := rfl
theorem e_ix_t {xs : List D} {i : Int} : pIx (.tup xs) (.int i) = optR (atI xs i) := rfl
theorem e_ix_s {z : Str} {i : Int} : pIx (.str z) (.int i) = need (z.length ≤ sizeLine) (optR ((atI z.cps.toList i).map fun c => .str ⟨#[c]⟩)) := rfl
theorem e_ix_n {ns : List Int} {i : Int} : pIx (.scr ns) (.int i) = optR ((atI ns i).map D.int) := rfl
theorem e_in1 {neg : Bool} {c : Nat} {z : Str} : pInW neg (.str ⟨#[c]⟩) (.str z) = .ok (.bl (neg ^^ decide (c ∈ z.cps.toList))) := rfl
end Dl
set_option Elab.async false
set_option linter.all false
set_option maxRecDepth 100000
set_option maxHeartbeats 400000
namespace Dl
open PySem PySem.Spec L2 Res
theorem cpow_ok {a : Int} {n : Int} {k : Nat} (h0 : 0 ≤ n) (h : a.natAbs < 2 ^ k) (hn : (k : Int) * n ≤ 134217728) : CPowX a n := by
  refine ⟨h0, ?_⟩
  have x := PyProof.Rows.intBits_le h
  have e : (2 : Int) ^ 27 = 134217728 := by decide
  rw [e]
  have y : (Builtin.Int.intBits a : Int) * n ≤ (k : Int) * n := Int.mul_le_mul_of_nonneg_right (by exact_mod_cast x) h0
  omega
theorem cmul_ok {i j : Int} (a b : Nat) (ha : i.natAbs < 2 ^ a) (hb : j.natAbs < 2 ^ b) (h : a + b ≤ 134217728) : CMulX i j := mulx_ok ha hb h
theorem cdiv_ok {i j : Int} (h0 : 0 < j) (h : j < 2 ^ 200) : CDivW i j := szlog h0 h
theorem slice_scr (ns : List Int) (lo hi : Option Int) : ∃ ms : List Int, sliceD (.scr ns) lo hi = .ok (.lst (ms.map D.int)) := by
  obtain ⟨ms, _, e⟩ := cutI ns lo hi
  exact ⟨ms, congrArg (fun x => Res.ok (D.lst x)) e⟩
theorem atI_in {α : Type} {l : List α} {i : Int} (h0 : 0 ≤ i) (h1 : i < l.length) : ∃ a, atI l i = some a ∧ a ∈ l := by
  have hi : i.toNat < l.length := by omega
  refine ⟨l[i.toNat], ?_, List.getElem_mem hi⟩
  unfold atI ixN
  rw [if_pos h0, if_pos h1]
  exact List.getElem?_eq_getElem hi
theorem atI_nat {α : Type} (l : List α) (i : Nat) : atI l (i : Int) = l[i]? := by
  unfold atI ixN
  rw [if_pos (by omega)]
  by_cases h : (i : Int) < l.length
  · rw [if_pos h]
    rfl
  · rw [if_neg h]
    show none = _
    rw [List.getElem?_eq_none (by omega)]
end Dl
set_option Elab.async false
set_option linter.all false
set_option maxRecDepth 100000
set_option maxHeartbeats 400000
namespace Dl
open PySem PySem.Spec L2 Res
theorem ceil_pos {n c : Int} (hc : 1 ≤ c) (hn : 0 ≤ n) : Builtin.Range.rangeSize 0 n c = (n + c - 1) / c := PyProof.Rows.rangeSize_pos hc hn
theorem lg_ok {c : Int} (h : c.natAbs < 2 ^ 250) : c.natAbs.log2 < 9000 := by
  by_cases z : c.natAbs = 0
  · rw [z]
    decide
  · have := (Nat.log2_lt z).mpr h
    omega
theorem rng3_big {n c : Int} (hn : 0 ≤ n) (hc : 1 ≤ c) (hc2 : c.natAbs < 2 ^ 250) : rng3 [.int 0, .int n, .int c] = .ok (intsC 0 c ((n + c - 1) / c).toNat) := by
  have e := ceil_pos hc hn
  have h1 : 0 ≤ (n + c - 1) / c := Int.ediv_nonneg (by omega) (by omega)
  show need (c ≠ 0 ∧ c.natAbs.log2 < 9000 ∧ Builtin.Range.rangeSize 0 n c = (Builtin.Range.rangeSize 0 n c).toNat) (.ok (intsC 0 c (Builtin.Range.rangeSize 0 n c).toNat)) = _
  rw [e, need_pos ⟨by omega, lg_ok hc2, by omega⟩]
end Dl
set_option Elab.async false
set_option linter.all false
set_option maxRecDepth 100000
set_option maxHeartbeats 400000
namespace Dl
open PySem PySem.Spec L2 Res
noncomputable def kRepl (y z : Str) : D → Res D
  | .str a => need (a.length + (a.length + 1) * z.length ≤ 16777216) (.ok (.str (Txt.replace a y z)))
  | _ => .bad
noncomputable def fRepl (y z : Str) (f : FE) (s : List Sl) : Res D := (f s).bind (kRepl y z)
theorem e_repl {y z a : Str} : kRepl y z (.str a) = need (a.length + (a.length + 1) * z.length ≤ 16777216) (.ok (.str (Txt.replace a y z))) := rfl
end Dl
namespace Dl
open PySem PySem.Spec L2 Res
def valS (sub : Sub2) : D → Bool
  | .non => true
  | .bl _ => true
  | .int _ => true
  | .str _ => true
  | .lst _ => true
  | .tup _ => true
  | .obj c _ => (sub c c).isSome
  | .tok k => k == 7
  | _ => false
def isK (d : D) (m : String) : Bool := match kindD d with
  | some k => isiB k m
  | none => false
theorem isi_ty {sub : Sub2} {d : D} {m : String} (h : valS sub d = true) (hm : kinds.contains m = true) : isiD sub d (.ty m) = some (isK d m) := by
  cases d with
  | obj c fs =>
    have e : (sub c c).isSome = true := h
    simp only [isiD, isK, kindD, hm, e, Bool.and_self, if_true]
  | tok k =>
    have e : k = 7 := by simpa [valS] using h
    subst e
    simp only [isiD, isK, kindD, hm, if_true, Option.map_some]
  | ty n => cases h
  | cls n => cases h
  | scr n => cases h
  | ref a => cases h
  | dic ks xs => cases h
  | _ => simp only [isiD, isK, kindD, hm, if_true, Option.map_some]
theorem isi_ty' {sub : Sub2} {d : D} {m : String} (h : valS sub d = true) (hm : kinds.contains m = true) : gIsi sub [d, .ty m] = .ok (.bl (isK d m)) := by
  rw [e_isi, isi_ty h hm] <;> rfl
end Dl
namespace Dl
open PySem PySem.Spec L2 Res
theorem ints_len {lo : Int} {n : Nat} : (intsD lo n).length = n := by
  unfold intsD
  rw [List.length_map, List.length_range]
end Dl
set_option Elab.async false
set_option linter.all false
set_option maxRecDepth 100000
set_option maxHeartbeats 400000
namespace Dl
open PySem PySem.Spec L2 Res PySem.Builtin PySem.Builtin.Str
def filledL (a : List Nat) : List Nat := a.map fun x => if x = 46 then 48 else x
def signB (a : List Nat) : Bool := a.any fun x => !(x == 46 || x == 48)
def emptL (a : List Nat) : List Nat := List.replicate a.length 46
def keptL (a : List Nat) : List Nat := if a.all (· == 46) then a else filledL a
def leanedL (a : List Nat) : List Nat := if signB a then filledL a else emptL a
def dugL (a : List Nat) : List Nat := if signB a then a else emptL a
theorem filled_len (a : List Nat) : (filledL a).length = a.length := List.length_map ..
def okS (c : Nat × Int) : Prop := c.1 ≠ 0 → 1 ≤ c.2 ∧ c.2 < 2 ^ 240
/-- a comprehension over anything, by what its target makes of the frame -/
theorem comp_mapS {α : Type} {g : α → D} {tg : Tg} {fe : FE} {s : List Sl} {f : α → D} : ∀ {l : List α}, (∀ a ∈ l, ∃ s1, setTF tg (g a) s = some s1 ∧ fe s1 = .ok (f a)) → compF tg fYes fe s (l.map g) = .ok (l.map f)
  | [], _ => rfl
  | d :: ds, h => by
    rw [List.map_cons]
    obtain ⟨s1, e1, e2⟩ := h d List.mem_cons_self
    unfold compF
    rw [comp_mapS (fun e he => h e (List.mem_cons_of_mem _ he)), e1]
    simp [fYes, e2, Res.bind, Res.noex, Res.cat]
end Dl
set_option Elab.async false
set_option linter.all false
set_option maxRecDepth 100000
set_option maxHeartbeats 400000
namespace Dl
open PySem PySem.Spec L2 Res
def asLen : D → Res D
  | .int n => if 0 ≤ n ∧ n < 2 ^ 63 then .ok (.int n) else .bad
  | _ => .bad
noncomputable def gLenO (tbl : Nat → Option FW) : FC
  | [.obj c fs] => match tbl c with
    | some g => (g [.obj c fs]).noex.bind asLen
    | none => .bad
  | ds => gLen ds
theorem m_lenO {a : Nat → Option FW} {b : Nat → Option Wf} (h : SimTb a b) : SimC (gLenO a) (bLenO b) := by
  intro ds Q E q
  by_cases z : ∃ c fs, ds = [.obj c fs]
  · obtain ⟨c, fs, rfl⟩ := z
    unfold gLenO at q
    dsimp only at q
    cases e : a c with
    | none => rw [e] at q; exact q.elim
    | some g =>
      rw [e] at q
      obtain ⟨w, e2, sg⟩ := h c g e
      refine ⟨w, e2, sg _ _ _ (wp_mono (fun d hd => ?_) (fun _ _ z => z) (wp_noex.mp (wp_bind.mp q)))⟩
      cases d <;> first | exact hd.elim | skip
      rename_i n
      unfold asLen at hd
      by_cases y : 0 ≤ n ∧ n < 2 ^ 63
      · dsimp only at hd
        rw [if_pos y] at hd
        exact ⟨n, rfl, y.1, y.2, hd⟩
      · dsimp only at hd
        rw [if_neg y] at hd
        exact hd.elim
  · have q' : (gLen ds).wp Q E := by
      unfold gLenO at q
      split at q
      · exact absurd ⟨_, _, rfl⟩ z
      · exact q
    have o := m_len ds Q E q'
    unfold bLenO
    split
    · exact absurd ⟨_, _, rfl⟩ z
    · exact o
section
variable {t : Nat → Option FW}
theorem e_lenO_str {z : Str} : gLenO t [.str z] = need (z.length ≤ sizeLine) (.ok (.int z.length)) := by unfold gLenO; exact e_len_str
theorem e_lenO_lst {xs : List D} : gLenO t [.lst xs] = .ok (.int xs.length) := by unfold gLenO; exact e_len_lst
theorem e_lenO_tup {xs : List D} : gLenO t [.tup xs] = .ok (.int xs.length) := by unfold gLenO; exact e_len_tup
theorem e_lenO_scr {xs : List Int} : gLenO t [.scr xs] = .ok (.int xs.length) := by unfold gLenO; exact e_len_scr
end
end Dl
namespace Dl
open PySem PySem.Spec L2 Res
end Dl
set_option Elab.async false
set_option linter.all false
set_option maxRecDepth 100000
set_option maxHeartbeats 400000
namespace Dl
open PySem PySem.Spec L2 Res
def kNeg : D → Res D
  | .int i => .ok (.int (-i))
  | _ => .bad
def fNeg (f : FE) (s : List Sl) : Res D := (f s).bind kNeg
def gGcd : FC
  | [.int a, .int b] => .ok (.int (a.natAbs.gcd b.natAbs : Nat))
  | _ => .bad
noncomputable def gLcm : FC
  | [.int a, .int b] => need (a.natAbs < 2 ^ 6000 ∧ b.natAbs < 2 ^ 6000) (.ok (.int (a.natAbs.lcm b.natAbs : Nat)))
  | _ => .bad
theorem m_lcm : SimC gLcm bLcm := by
  intro xs Q E h
  unfold gLcm at h
  split at h
  · obtain ⟨a, b⟩ := wp_need.mp h
    exact ⟨a.1, a.2, b⟩
  · exact h.elim
theorem e_neg {i : Int} : kNeg (.int i) = .ok (.int (-i)) := by unfold kNeg; rfl
theorem e_gcd {a b : Int} : gGcd [.int a, .int b] = .ok (.int (a.natAbs.gcd b.natAbs : Nat)) := by unfold gGcd; rfl
theorem e_lcm {a b : Int} : gLcm [.int a, .int b] = need (a.natAbs < 2 ^ 6000 ∧ b.natAbs < 2 ^ 6000) (.ok (.int (a.natAbs.lcm b.natAbs : Nat))) := by unfold gLcm; rfl
end Dl
set_option Elab.async false
set_option linter.all false
set_option maxRecDepth 100000
set_option maxHeartbeats 400000
namespace Dl
open PySem PySem.Spec L2 Res
section
variable {f g : FS} {s s' : List Sl} {d : D} {r : Res Fl}
theorem e_seq (h : f s = .ok (.nx s')) (k : g s' = r) : zSeq f g s = r := by
  show (f s).bind _ = r
  rw [h]
  exact k
theorem e_seq_rt (h : f s = .ok (.rt d)) : zSeq f g s = .ok (.rt d) := by
  show (f s).bind _ = _
  rw [h]
  rfl
theorem e_fdef {n m : Nat} {fs : FS} {ds : List D} (hn : ds.length = n) (h : fs (startD m ds) = .ok (.rt d)) : fDef n m fs ds = .ok d := by
  unfold fDef
  rw [need_pos hn, h]
  rfl
theorem e_zAsg {i : Nat} {f : FE} (h : f s = .ok d) : zAsg i f s = .ok (.nx (s.set i (.v d))) := by
  unfold zAsg sx
  rw [h]
  rfl
theorem e_zRet {f : FE} (h : f s = .ok d) : zRet f s = .ok (.rt d) := by
  unfold zRet sx
  rw [h]
  rfl
theorem e_zDrop {f : FE} (h : f s = .ok d) : zDrop f s = .ok (.nx s) := by
  unfold zDrop sx
  rw [h]
  rfl
theorem e_for_nx {tg : Tg} {body : FS} {d : D} {ds : List D} {s1 s2 : List Sl} (e : setTF tg d s = some s1) (h : body s1 = .ok (.nx s2)) : forF tg body (d :: ds) s = forF tg body ds s2 := by
  show (optR (setTF tg d s)).bind _ = _
  rw [e]
  show (body s1).bind _ = _
  rw [h]
  rfl
theorem e_for_rt {tg : Tg} {body : FS} {d v : D} {ds : List D} {s1 : List Sl} (e : setTF tg d s = some s1) (h : body s1 = .ok (.rt v)) : forF tg body (d :: ds) s = .ok (.rt v) := by
  show (optR (setTF tg d s)).bind _ = _
  rw [e]
  show (body s1).bind _ = _
  rw [h]
  rfl
theorem e_zFor {tg : Tg} {body : FS} {fi : FA} {ds : List D} {r : Res Fl} (e : fi s = .ok ds) (h : forF tg body ds s = r) : zFor fi tg body s = r := by
  unfold zFor sx
  rw [e]
  exact h
end
end Dl
set_option Elab.async false
set_option linter.all false
set_option maxRecDepth 100000
set_option maxHeartbeats 400000
namespace Dl
open PySem PySem.Spec L2 Res
abbrev FH := D → FT
def kBl : D → Res Bool
  | .bl b => .ok b
  | _ => .bad
def hNil : FH := fun _ _ => .ok true
def hCons (p : F2) (f : FE) (r : FH) : FH := fun x s => (f s).bind fun y => ((p x y).noex.bind kBl).bind fun b => if b = true then r y s else .ok false
def fChain (f : FE) (r : FH) : FT := fun s => (f s).bind fun x => r x s
theorem e_kBl {b : Bool} : kBl (.bl b) = .ok b := rfl
end Dl
set_option Elab.async false
set_option linter.all false
set_option maxRecDepth 100000
set_option maxHeartbeats 400000
namespace Dl
open PySem PySem.Spec L2 Res
def enumS : List D → Res (List D)
  | [.str x] => .ok (numbered 0 (chrs x))
  | _ => .bad
def jEnumS (f : FA) (s : List Sl) : Res (List D) := (f s).bind enumS
theorem e_enS {x : Str} : enumS [.str x] = .ok (numbered 0 (chrs x)) := rfl
end Dl
set_option Elab.async false
set_option linter.all false
set_option maxRecDepth 100000
set_option maxHeartbeats 400000
namespace Dl
open PySem PySem.Spec L2 Res
noncomputable def opF (tbl : Nat → Option FW) (p : F2) : F2
  | .obj c fs, y => match tbl c with
    | some g => need (rightO c y = true) (g [.obj c fs, y])
    | none => .bad
  | x, y => p x y
noncomputable def fOpO (tbl : Nat → Option FW) (p : F2) (f g : FE) (s : List Sl) : Res D := (f s).bind fun x => (g s).bind fun y => opF tbl p x y
theorem e_op_int {tbl : Nat → Option FW} {p : F2} {i : Int} {y : D} : opF tbl p (.int i) y = p (.int i) y := rfl
theorem e_op_str {tbl : Nat → Option FW} {p : F2} {i : Str} {y : D} : opF tbl p (.str i) y = p (.str i) y := rfl
theorem e_op_lst {tbl : Nat → Option FW} {p : F2} {i : List D} {y : D} : opF tbl p (.lst i) y = p (.lst i) y := rfl
theorem e_op_tup {tbl : Nat → Option FW} {p : F2} {i : List D} {y : D} : opF tbl p (.tup i) y = p (.tup i) y := rfl
end Dl
set_option Elab.async false
set_option linter.all false
set_option maxRecDepth 100000
set_option maxHeartbeats 400000
namespace Dl
open PySem PySem.Spec L2 Res
section
variable {f g : FS} {s s' : List Sl} {d : D} {r : Res Fl} {ds : List D} {c : Nat} {x : D}
theorem e_seq_rn (h : f s = .ok (.rn ds)) : zSeq f g s = .ok (.rn ds) := by
  show (f s).bind _ = _
  rw [h]
  rfl
theorem e_fdefL {n m : Nat} {fs : FS} {as : List D} (hn : as.length = n) (h : fs (startD m as) = .ok (.rn ds)) : fDef n m fs as = .ok (.lst ds) := by
  unfold fDef
  rw [need_pos hn, h]
  rfl
theorem w_next {Q : Fl → Prop} (h : f s = .ok (.nx s')) (k : (g s').wp Q NoX) : (zSeq f g s).wp Q NoX := w_seq (by rw [h]; exact k)
/-- a loop that runs through, by what holds of the items left and the frame -/
theorem e_for_inv {α : Type} {q : α → D} {tg : Tg} {body : FS} (I : List α → List Sl → Prop) : ∀ {l : List α} {s : List Sl}, I l s → (∀ a l s, I (a :: l) s → ∃ s1 s2, setTF tg (q a) s = some s1 ∧ body s1 = .ok (.nx s2) ∧ I l s2) →
    ∃ s', forF tg body (l.map q) s = .ok (.nx s') ∧ I [] s'
  | [], s, h, _ => ⟨s, rfl, h⟩
  | a :: l, s, h, t => by
    obtain ⟨s1, s2, e1, e2, h2⟩ := t a l s h
    obtain ⟨s', e, h3⟩ := e_for_inv I h2 t
    refine ⟨s', ?_, h3⟩
    rw [List.map_cons, e_for_nx e1 e2]
    exact e
/-- the same, a return may come -/
theorem e_for_invR {α : Type} {q : α → D} {tg : Tg} {body : FS} (I : List α → List Sl → Prop) (R : Fl → Prop) : ∀ {l : List α} {s : List Sl}, I l s → (∀ s, I [] s → R (.nx s)) → (∀ a l s, I (a :: l) s → ∃ s1, setTF tg (q a) s = some s1 ∧ ((∃ s2, body s1 = .ok (.nx s2) ∧ I l s2) ∨ ∃ d, body s1 = .ok (.rt d) ∧ R (.rt d))) →
    ∃ fl, forF tg body (l.map q) s = .ok fl ∧ R fl
  | [], s, h, n, _ => ⟨_, rfl, n s h⟩
  | a :: l, s, h, n, t => by
    obtain ⟨s1, e1, ⟨s2, e2, h2⟩ | ⟨d, e2, h2⟩⟩ := t a l s h
    · obtain ⟨fl, e, h3⟩ := e_for_invR I R h2 n t
      refine ⟨fl, ?_, h3⟩
      rw [List.map_cons, e_for_nx e1 e2]
      exact e
    · exact ⟨_, by rw [List.map_cons]; exact e_for_rt e1 e2, h2⟩
end
end Dl
set_option Elab.async false
set_option linter.all false
set_option maxRecDepth 100000
set_option maxHeartbeats 400000
namespace Dl
open PySem PySem.Spec L2 Res
/-- no objects within, at most so deep -/
abbrev sim (n : Nat) (x : D) : Bool := selfD (fun _ => false) n x
abbrev sims (n : Nat) (xs : List D) : Bool := selfDs (fun _ => false) n xs
mutual
theorem sim_rf : ∀ {n : Nat} {x : D}, sim n x = true → rfD x = true
  | n, .non, h => rfl
  | n, .bl _, h => rfl
  | n, .int _, h => rfl
  | n, .str _, h => rfl
  | 0, .lst xs, h => by simp [sim, selfD] at h
  | 0, .tup xs, h => by simp [sim, selfD] at h
  | n + 1, .lst xs, h => by
    simp only [rfD]
    exact sims_rf (n := n) (by simpa [sim, sims, selfD] using h)
  | n + 1, .tup xs, h => by
    simp only [rfD]
    exact sims_rf (n := n) (by simpa [sim, sims, selfD] using h)
  | n, .tok j, h => by
    have e : j = 7 := by cases n <;> simpa [sim, selfD] using h
    subst e
    rfl
  | 0, .obj _ _, h => by simp [sim, selfD] at h
  | n + 1, .obj _ _, h => by simp [sim, selfD] at h
  | 0, .ty _, h => by simp [sim, selfD] at h
  | n + 1, .ty _, h => by simp [sim, selfD] at h
  | 0, .cls _, h => by simp [sim, selfD] at h
  | n + 1, .cls _, h => by simp [sim, selfD] at h
  | 0, .scr _, h => by simp [sim, selfD] at h
  | n + 1, .scr _, h => by simp [sim, selfD] at h
  | 0, .ref _, h => by simp [sim, selfD] at h
  | n + 1, .ref _, h => by simp [sim, selfD] at h
  | 0, .dic _ _, h => by simp [sim, selfD] at h
  | n + 1, .dic _ _, h => by simp [sim, selfD] at h
theorem sims_rf : ∀ {n : Nat} {xs : List D}, sims n xs = true → rfDs xs = true
  | n, [], h => rfl
  | n, x :: xs, h => by
    simp only [sims, selfDs, Bool.and_eq_true] at h
    simp only [rfDs, Bool.and_eq_true]
    exact ⟨sim_rf (n := n) h.1, sims_rf (n := n) h.2⟩
end
theorem intsD_nat (n : Nat) : intsD 0 n = (List.range n).map fun i : Nat => D.int i := by
  unfold intsD
  apply List.map_congr_left
  intro i _
  simp
section
variable {T : EqT} {n : Nat} {x y : D}
theorem ne_same (h : sim n x = true) : pNeT T n x x = .ok (.bl false) := ne_of (b := true) (okE_self (k := 0) (ob := fun _ => false) (fun _ z => by cases z) h) (eqD_rf (sim_rf h))
theorem sims_map {α : Type} {f : α → D} : ∀ {l : List α}, (∀ a ∈ l, sim n (f a) = true) → sims n (l.map f) = true
  | [], _ => by simp [sims, selfDs]
  | a :: l, h => by
    rw [List.map_cons]
    simp only [sims, selfDs, Bool.and_eq_true]
    exact ⟨h a List.mem_cons_self, sims_map fun b hb => h b (List.mem_cons_of_mem _ hb)⟩
end
end Dl
set_option Elab.async false
set_option linter.all false
set_option maxRecDepth 100000
set_option maxHeartbeats 400000
namespace Dl
open PySem PySem.Spec L2 Res
noncomputable def ixF (tbl : Nat → Option FW) : F2
  | .obj c fs, y => match tbl c with
    | some g => g [.obj c fs, y]
    | none => .bad
  | x, y => pIx x y
noncomputable def fIxO (tbl : Nat → Option FW) (f g : FE) (s : List Sl) : Res D := (f s).bind fun x => (g s).bind fun y => ixF tbl x y
theorem e_ixO_str {tbl : Nat → Option FW} {i : Str} {y : D} : ixF tbl (.str i) y = pIx (.str i) y := rfl
theorem e_ixO_lst {tbl : Nat → Option FW} {i : List D} {y : D} : ixF tbl (.lst i) y = pIx (.lst i) y := rfl
theorem e_ixO_tup {tbl : Nat → Option FW} {i : List D} {y : D} : ixF tbl (.tup i) y = pIx (.tup i) y := rfl
def itF (tbl : Nat → Option Nat) : D → Res (List D)
  | .obj c fs => match tbl c with
    | some k => match fs[k]? with
      | some (.str x) => .ok (chrs x)
      | some (.tup xs) => .ok xs
      | _ => .bad
    | none => .bad
  | d => itR d
def jObj (tbl : Nat → Option Nat) (f : FE) (s : List Sl) : Res (List D) := (f s).bind (itF tbl)
theorem m_iObj (tbl : Nat → Option Nat) {f : FE} {t : TD} (h1 : SimE f t) : SimI (jObj tbl f) (iObj tbl t) := fun s Q E h => h1 s _ E (wp_mono (fun x hx => by
  by_cases z : ∃ c fs, x = .obj c fs
  · obtain ⟨c, fs, rfl⟩ := z
    unfold itF at hx
    unfold itO
    dsimp only at hx ⊢
    cases e : tbl c with
    | none => rw [e] at hx; exact hx.elim
    | some k =>
      rw [e] at hx
      dsimp only at hx ⊢
      cases e2 : fs[k]? with
      | none => rw [e2] at hx; exact hx.elim
      | some d =>
        rw [e2] at hx
        cases d <;> first | exact hx | exact hx.elim
  · cases x <;> first | exact hx | exact absurd ⟨_, _, rfl⟩ z) (fun _ _ z => z) (wp_bind.mp h))
theorem e_it_lst' {tbl : Nat → Option Nat} {xs : List D} : itF tbl (.lst xs) = .ok xs := rfl
theorem e_it_tup' {tbl : Nat → Option Nat} {xs : List D} : itF tbl (.tup xs) = .ok xs := rfl
theorem e_it_str' {tbl : Nat → Option Nat} {x : Str} : itF tbl (.str x) = .ok (chrs x) := rfl
end Dl
set_option Elab.async false
set_option linter.all false
set_option maxRecDepth 100000
set_option maxHeartbeats 400000
namespace Dl
open PySem PySem.Spec L2 Res
noncomputable def fBor (f : FE) (s : List Sl) : Res D := (f (frzS s)).cat (fun d => need (noL d = true) (.ok d)) (fun c x => need (noL x = true) (.exc c x))
noncomputable def fBorT (f : FT) (s : List Sl) : Res Bool := (f (frzS s)).cat (fun b => .ok b) (fun c x => need (noL x = true) (.exc c x))
noncomputable def ownF (i : Nat) (s : List Sl) : D → Res Fl
  | .lst ds => need (noLs ds = true) (.ok (.nx (s.set i (.own ds))))
  | d => .ok (.nx (s.set i (.v d)))
noncomputable def zOwnE (i : Nat) (f : FE) (s : List Sl) : Res Fl := (f (lisS s)).cat (ownF i s) (fun c x => .ok (.ex c x s))
noncomputable def par2F (i j : Nat) (s : List Sl) : List D → Res Fl
  | [.lst xs, e] => need (noLs xs = true ∧ noL e = true) (.ok (.nx ((s.set i (.own xs)).set j (.v e))))
  | [d, .lst ys] => need (noL d = true ∧ noLs ys = true) (.ok (.nx ((s.set i (.v d)).set j (.own ys))))
  | _ => .bad
noncomputable def zPar2E (i j : Nat) (f : FA) (s : List Sl) : Res Fl := (f (lisS s)).cat (par2F i j s) (fun c x => .ok (.ex c x s))
theorem m_sPar2E (i j : Nat) {f : FA} {t : TDA} (h1 : SimA f t) : SimS (zPar2E i j f) (sPar2E i j t) := fun s DD h => h1 (lisS s) _ _ (wp_mono (fun d z => by
  match d, z with
  | [], z => exact z.elim
  | [x], z => cases x <;> exact z.elim
  | _ :: _ :: _ :: _, z => exact (show False by unfold par2F at z; simp at z; exact z).elim
  | [x, y], z =>
    cases x <;> first
      | (obtain ⟨⟨a, b⟩, z⟩ := wp_need.mp z
         exact ⟨a, b, z⟩)
      | (cases y <;> first
          | (obtain ⟨⟨a, b⟩, z⟩ := wp_need.mp z
             exact ⟨a, b, z⟩)
          | exact z.elim)) (fun c x z => z) (wp_cat.mp h))
noncomputable def triF (i j l : Nat) (s : List Sl) : D → Res Fl
  | .tup [d, e, .lst ys] => need (noL d = true ∧ noL e = true ∧ noLs ys = true) (.ok (.nx (((s.set i (.v d)).set j (.v e)).set l (.own ys))))
  | _ => .bad
noncomputable def zTg3E (i j l : Nat) (f : FE) (s : List Sl) : Res Fl := (f (lisS s)).cat (triF i j l s) (fun c x => .ok (.ex c x s))
theorem e_triF {i j l : Nat} {s : List Sl} {d e : D} {ys : List D} : triF i j l s (.tup [d, e, .lst ys]) = need (noL d = true ∧ noL e = true ∧ noLs ys = true) (.ok (.nx (((s.set i (.v d)).set j (.v e)).set l (.own ys)))) := rfl
noncomputable def setIxF (i : Nat) (s : List Sl) (xs : List D) (d : D) : D → Res Fl
  | .int k => (optR (ixN xs.length k)).bind fun j => .ok (.nx (s.set i (.own (xs.set j d))))
  | _ => .bad
noncomputable def zSetIx (i : Nat) (f g : FE) (s : List Sl) : Res Fl := match s[i]? with
  | some (.own xs) => sx s (f s) fun d => sx s (g s) fun k => setIxF i s xs d k
  | _ => .bad
def revR : D → Res D
  | .lst xs => .ok (.lst xs.reverse)
  | _ => .bad
def fRev (f : FE) (s : List Sl) : Res D := (f s).bind revR
noncomputable def lr1 : D → Res D
  | .int n => need (RgOk 0 n) (.ok (.lst (intsD 0 n.toNat)))
  | _ => .bad
noncomputable def fLR1 (f : FE) (s : List Sl) : Res D := (f s).bind lr1
noncomputable def lr2 : D → D → Res D
  | .int i, .int j => need (RgOk i j) (.ok (.lst (intsD i (j - i).toNat)))
  | _, _ => .bad
noncomputable def fLR2 (f g : FE) (s : List Sl) : Res D := (f s).bind fun d => (g s).bind fun e => lr2 d e
noncomputable def gSorted : List D → Res D
  | [.lst xs] => (optR (ints? xs)).bind fun ns => .ok (.lst ((sortI ns).map D.int))
  | _ => .bad
noncomputable def fCallK (g : FW) (n m : Nat) (p : List Nat) (dfl : List D) (fa fk : FA) (s : List Sl) : Res D := (fa s).bind fun xs => (fk s).bind fun zs => need (xs.length = n ∧ zs.length = m) (g (sel p (xs ++ (zs ++ dfl))))
theorem e_rev {xs : List D} : revR (.lst xs) = .ok (.lst xs.reverse) := rfl
theorem e_lr1 {n : Int} : lr1 (.int n) = need (RgOk 0 n) (.ok (.lst (intsD 0 n.toNat))) := rfl
theorem e_lr2 {i j : Int} : lr2 (.int i) (.int j) = need (RgOk i j) (.ok (.lst (intsD i (j - i).toNat))) := rfl
theorem e_sorted {xs : List D} : gSorted [.lst xs] = (optR (ints? xs)).bind fun ns => .ok (.lst ((sortI ns).map D.int)) := rfl
theorem e_ownF_lst {i : Nat} {s : List Sl} {ds : List D} : ownF i s (.lst ds) = need (noLs ds = true) (.ok (.nx (s.set i (.own ds)))) := rfl
theorem e_ownF_non {i : Nat} {s : List Sl} : ownF i s .non = .ok (.nx (s.set i (.v .non))) := rfl
theorem e_par2F {i j : Nat} {s : List Sl} {xs : List D} {e : D} : par2F i j s [.lst xs, e] = need (noLs xs = true ∧ noL e = true) (.ok (.nx ((s.set i (.own xs)).set j (.v e)))) := rfl
theorem e_setIx {i : Nat} {s : List Sl} {xs : List D} {d : D} {k : Int} : setIxF i s xs d (.int k) = (optR (ixN xs.length k)).bind fun j => .ok (.nx (s.set i (.own (xs.set j d)))) := rfl
theorem lis_cons {t : Sl} {s : List Sl} : lisS (t :: s) = lisO t :: lisS s := rfl
theorem lis_nil : lisS [] = [] := rfl
theorem lisO_un : lisO .un = .un := rfl
theorem lisO_int {i : Int} : lisO (.v (.int i)) = .v (.int i) := rfl
theorem lisO_str {i : Str} : lisO (.v (.str i)) = .v (.str i) := rfl
theorem lisO_bl {i : Bool} : lisO (.v (.bl i)) = .v (.bl i) := rfl
theorem lisO_non : lisO (.v .non) = .v .non := rfl
end Dl
set_option Elab.async false
set_option linter.all false
set_option maxRecDepth 100000
set_option maxHeartbeats 400000
namespace Dl
open PySem PySem.Spec L2 Res
noncomputable def zOwnN (i : Nat) (f : FE) (s : List Sl) : Res Fl := sx s (f s) (ownF i s)
noncomputable def zPar2N (i j : Nat) (f g : FE) (s : List Sl) : Res Fl := sx s (f s) fun d => sx s (g s) fun e => par2F i j s [d, e]
noncomputable def zTg3N (i j l : Nat) (f g h : FE) (s : List Sl) : Res Fl := sx s (f s) fun d => sx s (g s) fun e => sx s (h s) fun r => triF i j l s (.tup [d, e, r])
section
variable {tbl : Nat → Option FW} {c : Nat} {fs : List D} {g : FW} {f1 f2 f3 f4 : FE} {s : List Sl} {x y d e d3 : D} {r : Res D}
theorem e_bin {p : F2} (h1 : f1 s = .ok x) (h2 : f2 s = .ok y) (k : p x y = r) : fBin p f1 f2 s = r := by
  unfold fBin
  rw [h1]
  show (f2 s).bind _ = r
  rw [h2]
  exact k
theorem e_prop (t : tbl c = some g) (h1 : f1 s = .ok (.obj c fs)) (k : g [.obj c fs] = .ok d) : fProp tbl f1 s = .ok d := by
  unfold fProp
  rw [h1]
  show (match tbl c with
    | some g => _
    | none => _) = _
  rw [t]
  show (g [.obj c fs]).noex = _
  rw [k]
  rfl
theorem e_ifF {ft : FT} {a b : FS} {r : Res Fl} (h : ft s = .ok false) (k : b s = r) : zIf ft a b s = r := by
  unfold zIf sx
  rw [h]
  exact k
theorem e_ifT {ft : FT} {a b : FS} {r : Res Fl} (h : ft s = .ok true) (k : a s = r) : zIf ft a b s = r := by
  unfold zIf sx
  rw [h]
  exact k
theorem e_val {b : Bool} (h : f1 s = .ok (.bl b)) : fVal f1 s = .ok b := by
  unfold fVal
  rw [h]
  rfl
theorem e_truB {b : Bool} (h : f1 s = .ok (.bl b)) : fTru f1 s = .ok b := by
  unfold fTru
  rw [h]
  rfl
theorem e_notT {ft : FT} {b : Bool} (h : ft s = .ok b) : fNotT ft s = .ok !b := by
  unfold fNotT
  rw [h]
  rfl
theorem e_orF {ft fu : FT} {r : Res Bool} (h : ft s = .ok false) (k : fu s = r) : fOrT ft fu s = r := by
  unfold fOrT
  rw [h]
  exact k
theorem e_call1 {g : FW} {dfl : List D} (h1 : f1 s = .ok x) (k : g (x :: dfl) = r) : fCall g dfl (fCons f1 fNil) s = r := by
  unfold fCall fCons
  rw [h1]
  exact k
theorem e_call2 {g : FW} {dfl : List D} (h1 : f1 s = .ok x) (h2 : f2 s = .ok y) (k : g (x :: y :: dfl) = r) : fCall g dfl (fCons f1 (fCons f2 fNil)) s = r := by
  unfold fCall fCons
  rw [h1]
  show ((fCons f2 fNil s).bind _).bind _ = r
  unfold fCons
  rw [h2]
  exact k
theorem e_call3 {g : FW} {dfl : List D} (h1 : f1 s = .ok x) (h2 : f2 s = .ok y) (h3 : f3 s = .ok d) (k : g (x :: y :: d :: dfl) = r) : fCall g dfl (fCons f1 (fCons f2 (fCons f3 fNil))) s = r := by
  unfold fCall fCons
  rw [h1]
  show ((fCons f2 (fCons f3 fNil) s).bind _).bind _ = r
  unfold fCons
  rw [h2]
  show (((fCons f3 fNil s).bind _).bind _).bind _ = r
  unfold fCons
  rw [h3]
  exact k
theorem e_call4 {g : FW} {dfl : List D} (h1 : f1 s = .ok x) (h2 : f2 s = .ok y) (h3 : f3 s = .ok d) (h4 : f4 s = .ok e) (k : g (x :: y :: d :: e :: dfl) = r) : fCall g dfl (fCons f1 (fCons f2 (fCons f3 (fCons f4 fNil)))) s = r := by
  unfold fCall fCons
  rw [h1]
  show ((fCons f2 (fCons f3 (fCons f4 fNil)) s).bind _).bind _ = r
  unfold fCons
  rw [h2]
  show (((fCons f3 (fCons f4 fNil) s).bind _).bind _).bind _ = r
  unfold fCons
  rw [h3]
  show ((((fCons f4 fNil s).bind _).bind _).bind _).bind _ = r
  unfold fCons
  rw [h4]
  exact k
theorem le_b {i j : Int} : pLe (.int i) (.int j) = .ok (.bl (decide (i ≤ j))) := rfl
theorem lt_b {i j : Int} : pLt (.int i) (.int j) = .ok (.bl (decide (i < j))) := rfl
theorem e_zApp {i : Nat} {xs : List D} (h0 : s[i]? = some (.own xs)) (h : f1 s = .ok d) (hl : xs.length < sizeLine) : zApp i f1 s = .ok (.nx (s.set i (.own (xs ++ [d])))) := by
  unfold zApp
  rw [h0]
  show sx s (f1 s) _ = _
  unfold sx
  rw [h]
  exact need_pos hl
theorem e_ifET {ft : FT} (h : ft s = .ok true) (k : f1 s = r) : fIfE ft f1 f2 s = r := by
  unfold fIfE
  rw [h]
  exact k
theorem e_ifEF {ft : FT} (h : ft s = .ok false) (k : f2 s = r) : fIfE ft f1 f2 s = r := by
  unfold fIfE
  rw [h]
  exact k
end
section
variable {c : FC} {f1 f2 : FE} {s : List Sl} {x y : D} {r : Res D}
theorem e_b1 (h1 : f1 s = .ok x) (k : c [x] = r) : fB c (fCons f1 fNil) s = r := by
  unfold fB fCons
  rw [h1]
  exact k
theorem e_b2 (h1 : f1 s = .ok x) (h2 : f2 s = .ok y) (k : c [x, y] = r) : fB c (fCons f1 (fCons f2 fNil)) s = r := by
  unfold fB fCons
  rw [h1]
  show ((fCons f2 fNil s).bind _).bind _ = r
  unfold fCons
  rw [h2]
  exact k
end
noncomputable def revSR : D → Res D
  | .str z => need (z.length ≤ sizeLine) (.ok (.str (revStr z)))
  | _ => .bad
noncomputable def fRevS (f : FE) (s : List Sl) : Res D := (f s).bind revSR
theorem e_revS {z : Str} : revSR (.str z) = need (z.length ≤ sizeLine) (.ok (.str (revStr z))) := rfl
theorem e_ixO_scr {tbl : Nat → Option FW} {ns : List Int} {y : D} : ixF tbl (.scr ns) y = pIx (.scr ns) y := rfl
section
variable {f1 f2 f3 f4 : FE} {s : List Sl} {x y z u : D} {r : Res D} {g : FW}
theorem e_args1 (h1 : f1 s = .ok x) : fCons f1 fNil s = .ok [x] := by
  unfold fCons
  rw [h1]
  rfl
theorem e_args2 (h1 : f1 s = .ok x) (h2 : f2 s = .ok y) : fCons f1 (fCons f2 fNil) s = .ok [x, y] := by
  have := e_args1 h2
  show (f1 s).bind _ = _
  rw [h1]
  show (fCons f2 fNil s).bind _ = _
  rw [this]
  rfl
end
end Dl
set_option Elab.async false
set_option linter.all false
set_option maxRecDepth 100000
set_option maxHeartbeats 400000
namespace Dl
open PySem PySem.Spec L2 Res
noncomputable def augF (i : Nat) (n : Int) (s : List Sl) : D → Res Fl
  | .int k => .ok (.nx (s.set i (.v (.int (n + k)))))
  | _ => .bad
noncomputable def zAugI (i : Nat) (f : FE) (s : List Sl) : Res Fl := match s[i]? with
  | some (.v (.int n)) => sx s (f s) (augF i n s)
  | _ => .bad
theorem m_sAugI (i : Nat) {f : FE} {t : TD} (h1 : SimE f t) : SimS (zAugI i f) (sAugI i t) := fun s DD h => by
  unfold zAugI at h
  split at h
  · rename_i n e
    refine ⟨n, e, h1 s _ _ (wp_mono (fun d z => ?_) (fun _ _ z => z) (wp_sx h))⟩
    cases d <;> first | exact z.elim | exact ⟨_, rfl, z⟩
  · exact h.elim
end Dl
set_option Elab.async false
set_option linter.all false
set_option maxRecDepth 100000
set_option maxHeartbeats 400000
namespace Dl
open PySem PySem.Spec L2 Res
section
variable {f f1 f2 f3 : FE} {s s1 s2 s3 : List Sl} {d x y z : D} {c k : Nat} {g : FW} {fs : List D} {tbl : Nat → Option FW} {tg : Tg} {body : FS}
theorem e_cons {r : FA} {xs : List D} (h : f s = .ok x) (hr : r s = .ok xs) : fCons f r s = .ok (x :: xs) := by
  unfold fCons
  rw [h]
  show (r s).bind _ = _
  rw [hr]
  rfl
theorem e_nil : fNil s = .ok [] := rfl
theorem e_lst {fa : FA} {xs : List D} (h : fa s = .ok xs) (l : xs.length ≤ 1000) : fLst fa s = .ok (.lst xs) := by
  unfold fLst
  rw [h]
  exact need_pos (szL (by omega))
theorem e_tup {fa : FA} {xs : List D} (h : fa s = .ok xs) (l : xs.length ≤ 1000) : fTup fa s = .ok (.tup xs) := by
  unfold fTup
  rw [h]
  exact need_pos (szL (by omega))
theorem e_jVal {xs : List D} (h : f s = .ok (.lst xs)) : jVal f s = .ok xs := by
  unfold jVal
  rw [h]
  rfl
theorem e_orT {ft fu : FT} (h : ft s = .ok true) : fOrT ft fu s = .ok true := by
  unfold fOrT
  rw [h]
  rfl
end
end Dl
set_option Elab.async false
set_option linter.all false
set_option maxRecDepth 100000
set_option maxHeartbeats 400000
namespace Dl
open PySem PySem.Spec L2 Res
end Dl
set_option Elab.async false
set_option linter.all false
set_option maxRecDepth 100000
set_option maxHeartbeats 400000
namespace Dl
open PySem PySem.Spec L2 Res
inductive VS (K : PySem.W.Frag) (ct : CT) (H : Hp) : List Sl → St → Prop
  | nil : VS K ct H [] []
  | un {o : Option V} {ds : List Sl} {σ : St} (r : VS K ct H ds σ) : VS K ct H (.un :: ds) (o :: σ)
  | v {d : D} {v : V} {ds : List Sl} {σ : St} (h : Rep K ct H (fun _ => False) d v) (r : VS K ct H ds σ) : VS K ct H (.v d :: ds) (some v :: σ)
section
variable {K : PySem.W.Frag} {ct : CT} {H H' : Hp} {ds : List Sl} {σ : St} {W : WX}
theorem VS.len (h : VS K ct H ds σ) : ds.length = σ.length := by
  induction h with
  | nil => rfl
  | un _ ih => exact congrArg Nat.succ ih
  | v _ _ ih => exact congrArg Nat.succ ih
theorem VS.at_ (h : VS K ct H ds σ) : ∀ (i : Nat) (s : Sl), ds[i]? = some s → ∃ o, σ[i]? = some o ∧ SlOk K ct H (fun _ => False) 0 s o := by
  induction h with
  | nil =>
    intro i s e
    simp at e
  | un _ ih =>
    intro i s e
    cases i with
    | zero =>
      have e' := Option.some.inj e
      subst e'
      exact ⟨_, rfl, trivial⟩
    | succ i => exact ih i s (by simpa using e)
  | v h _ ih =>
    intro i s e
    cases i with
    | zero =>
      have e' := Option.some.inj e
      subst e'
      exact ⟨_, rfl, _, rfl, h⟩
    | succ i => exact ih i s (by simpa using e)
theorem VS.e (h : VS K ct H ds σ) : StE K ct H (fun _ => False) (fun _ => 0) ds σ := ⟨h.len, h.at_, fun _ z => z.elim⟩
theorem VS.same (s : Same H H') (h : VS K ct H ds σ) : VS K ct H' ds σ := by
  induction h with
  | nil => exact .nil
  | un _ ih => exact .un ih
  | v h _ ih => exact .v (h.same s) ih
end
/-- a comprehension, by its source and its walk -/
theorem e_lc {it : List Sl → Res (List D)} {tg : Tg} {ft : FT} {fe : FE} {own : List Nat} {s : List Sl} {xs ys : List D} (h : it s = .ok xs) (l : xs.length ≤ 1000000) (k : compF tg ft fe (wipeD s own) xs = .ok ys) : fLc it tg ft fe own s = .ok (.lst ys) := by
  unfold fLc
  rw [h]
  show need _ _ = _
  rw [need_pos (szL (by omega)), k]
  rfl
end Dl
set_option Elab.async false
set_option linter.all false
set_option maxRecDepth 100000
set_option maxHeartbeats 400000
namespace Dl
open PySem PySem.Spec L2 Res
end Dl
set_option Elab.async false
set_option linter.all false
set_option maxRecDepth 100000
set_option maxHeartbeats 400000
namespace Dl
open PySem PySem.Spec L2 Res
end Dl
set_option Elab.async false
set_option linter.all false
set_option maxRecDepth 100000
set_option maxHeartbeats 400000
namespace Dl
open PySem PySem.Spec L2 Res
theorem e_zOwn {i : Nat} {fa : FA} {s : List Sl} {xs : List D} (h : fa s = .ok xs) (l : xs.length ≤ 1000000) : zOwn i fa s = .ok (.nx (s.set i (.own xs))) := by
  unfold zOwn sx
  rw [h]
  exact need_pos (szL (by omega))
end Dl
set_option Elab.async false
set_option linter.all false
set_option maxRecDepth 100000
set_option maxHeartbeats 400000
namespace Dl
open PySem PySem.Spec L2 Res
end Dl
set_option Elab.async false
set_option linter.all false
set_option maxRecDepth 100000
set_option maxHeartbeats 400000
namespace Dl
open PySem PySem.Spec L2 Res
end Dl
set_option Elab.async false
set_option linter.all false
set_option maxRecDepth 100000
set_option maxHeartbeats 400000
namespace Dl
open PySem PySem.Spec L2 Res
def numsOf : List D → Option (List Int)
  | [] => some []
  | .int n :: ds => (numsOf ds).map (n :: ·)
  | _ :: _ => none
theorem numsOf_ok : ∀ {ds : List D} {ns : List Int}, numsOf ds = some ns → ds = ns.map D.int
  | [], ns, h => by cases h; rfl
  | d :: ds, ns, h => by
    cases d with
    | int n =>
      simp only [numsOf, Option.map_eq_some_iff] at h
      obtain ⟨m, e, rfl⟩ := h
      rw [numsOf_ok e]
      rfl
    | _ => cases h
theorem numsOf_map : ∀ {ns : List Int}, numsOf (ns.map D.int) = some ns
  | [] => rfl
  | n :: ns => by
    show (numsOf (ns.map D.int)).map (n :: ·) = _
    rw [numsOf_map]
    rfl
end Dl
set_option Elab.async false
set_option linter.all false
set_option maxRecDepth 100000
set_option maxHeartbeats 400000
namespace Dl
open PySem PySem.Spec L2 Res
end Dl
set_option Elab.async false
set_option linter.all false
set_option maxRecDepth 100000
set_option maxHeartbeats 400000
namespace Dl
open PySem PySem.Spec L2 Res
end Dl
set_option Elab.async false
set_option linter.all false
set_option maxRecDepth 100000
set_option maxHeartbeats 400000
namespace Dl
open PySem PySem.Spec L2 Res
end Dl
set_option Elab.async false
set_option linter.all false
set_option maxRecDepth 100000
set_option maxHeartbeats 400000
namespace Dl
open PySem PySem.Spec L2 Res
end Dl
set_option Elab.async false
set_option linter.all false
set_option maxRecDepth 100000
set_option maxHeartbeats 400000
namespace Dl
open PySem PySem.Spec L2 Res
end Dl
set_option Elab.async false
set_option linter.all false
set_option maxRecDepth 100000
set_option maxHeartbeats 400000
namespace Dl
open PySem PySem.Spec L2 Res
end Dl
set_option Elab.async false
set_option linter.all false
set_option maxRecDepth 100000
set_option maxHeartbeats 400000
namespace Dl
open PySem PySem.Spec L2 Res
noncomputable def pShl : F2
  | .int i, .int j => need (CPow i j) (.ok (.int (i * 2 ^ j.toNat)))
  | _, _ => .bad
noncomputable def pShr : F2
  | .int i, .int j => need (0 ≤ j) (.ok (.int (i / 2 ^ j.toNat)))
  | _, _ => .bad
def pBitI (f : Int → Int → Int) : F2
  | .int i, .int j => .ok (.int (f i j))
  | _, _ => .bad
abbrev pBand : F2 := pBitI Builtin.bitAnd
abbrev pBor : F2 := pBitI Builtin.bitOr
theorem m_shl : Sim2 pShl oShl := by
  intro x y Q E h
  unfold pShl at h
  split at h <;> first | exact h.elim | (rw [wp_need] at h; exact h)
theorem m_shr : Sim2 pShr oShr := by
  intro x y Q E h
  unfold pShr at h
  split at h <;> first | exact h.elim | (rw [wp_need] at h; exact h)
theorem m_bitI {f : Int → Int → Int} : Sim2 (pBitI f) (oBitI f) := by
  intro x y Q E h
  unfold pBitI at h
  split at h <;> first | exact h | exact h.elim
theorem m_band : Sim2 pBand oBand := m_bitI
theorem m_bor : Sim2 pBor oBor := m_bitI
theorem e_shl {i j : Int} : pShl (.int i) (.int j) = need (CPow i j) (.ok (.int (i * 2 ^ j.toNat))) := rfl
theorem e_shr {i j : Int} : pShr (.int i) (.int j) = need (0 ≤ j) (.ok (.int (i / 2 ^ j.toNat))) := rfl
def ch2R (q : F2) (y : D) (h : Res D) : D → Res D
  | .bl true => h.bind fun w => q y w
  | .bl false => .ok (.bl false)
  | _ => .bad
def fCh2 (p q : F2) (f g h : FE) (s : List Sl) : Res D := (f s).bind fun x => (g s).bind fun y => (p x y).bind (ch2R q y (h s))
theorem m_Ch2 {p q : F2} {o1 o2 : O2} {f g h : FE} {t u v : TD} (hp : Sim2 p o1) (hq : Sim2 q o2) (h1 : SimE f t) (h2 : SimE g u) (h3 : SimE h v) : SimE (fCh2 p q f g h) (dCh2 o1 o2 t u v) := fun s Q E z =>
  h1 s _ _ (wp_mono (fun x z => h2 s _ _ (wp_mono (fun y z => hp x y _ E (wp_mono (fun d z => by
    cases d with
    | bl k =>
      refine ⟨k, rfl, ?_⟩
      cases k with
      | false => exact z
      | true => exact h3 s _ _ (wp_mono (fun w z => hq y w Q E z) (fun _ _ z => z) (wp_bind.mp z))
    | _ => exact z.elim) (fun _ _ z => z) (wp_bind.mp z))) (fun _ _ z => z) (wp_bind.mp z))) (fun _ _ z => z) (wp_bind.mp z))
theorem e_ch2 {p q : F2} {f g h : FE} {s : List Sl} {x y w : D} {b : Bool} {r : Res D} (h1 : f s = .ok x) (h2 : g s = .ok y) (e : p x y = .ok (.bl b)) (h3 : b = true → h s = .ok w) (k : (if b = true then q y w else .ok (.bl false)) = r) : fCh2 p q f g h s = r := by
  unfold fCh2
  rw [h1]
  show (g s).bind _ = _
  rw [h2]
  show (p x y).bind _ = _
  rw [e]
  cases b with
  | false => exact k
  | true =>
    show (h s).bind _ = _
    rw [h3 rfl]
    exact k
def starR (fa : Res (List D)) : D → Res (List D)
  | .tup xs => fa.bind fun ys => .ok (xs ++ ys)
  | .lst xs => fa.bind fun ys => .ok (xs ++ ys)
  | _ => .bad
def fStar (f : FE) (fa : FA) (s : List Sl) : Res (List D) := (f s).bind (starR (fa s))
theorem m_Star {f : FE} {fa : FA} {t : TD} {ta : TDA} (h1 : SimE f t) (h2 : SimA fa ta) : SimA (fStar f fa) (aStar t ta) := fun s Q E h => h1 s _ _ (wp_mono (fun d z => by
  cases d with
  | tup xs => exact ⟨xs, rfl, h2 s _ _ (wp_bind.mp z)⟩
  | lst xs => exact ⟨xs, rfl, h2 s _ _ (wp_bind.mp z)⟩
  | _ => exact z.elim) (fun _ _ z => z) (wp_bind.mp h))
theorem e_starT {f : FE} {fa : FA} {s : List Sl} {xs ys : List D} (h : f s = .ok (.tup xs)) (k : fa s = .ok ys) : fStar f fa s = .ok (xs ++ ys) := by
  unfold fStar
  rw [h]
  show (fa s).bind _ = _
  rw [k]
  rfl
theorem e_starL {f : FE} {fa : FA} {s : List Sl} {xs ys : List D} (h : f s = .ok (.lst xs)) (k : fa s = .ok ys) : fStar f fa s = .ok (xs ++ ys) := by
  unfold fStar
  rw [h]
  show (fa s).bind _ = _
  rw [k]
  rfl
noncomputable def zExt (i : Nat) (f : FE) (s : List Sl) : Res Fl := match s[i]? with
  | some (.own xs) => sx s (f s) fun d => match d with
    | .lst ys => need (xs.length + ys.length ≤ sizeLine) (.ok (.nx (s.set i (.own (xs ++ ys)))))
    | _ => .bad
  | _ => .bad
theorem m_sExt (i : Nat) {f : FE} {t : TD} (h1 : SimE f t) : SimS (zExt i f) (sExt i t) := by
  intro s DD h
  unfold zExt at h
  unfold sExt
  split at h
  · rename_i xs e
    try rw [e]
    refine h1 s _ _ (wp_mono (fun d z => ?_) (fun _ _ z => z) (wp_sx h))
    cases d with
    | lst ys => exact ⟨ys, rfl, wp_need.mp z⟩
    | _ => exact z.elim
  · exact h.elim
theorem e_zExt {i : Nat} {f : FE} {s : List Sl} {xs ys : List D} (h0 : s[i]? = some (.own xs)) (h : f s = .ok (.lst ys)) (l : xs.length + ys.length ≤ sizeLine) : zExt i f s = .ok (.nx (s.set i (.own (xs ++ ys)))) := by
  unfold zExt
  rw [h0]
  show sx s (f s) _ = _
  unfold sx
  rw [h]
  exact need_pos l
end Dl
set_option Elab.async false
set_option linter.all false
set_option maxRecDepth 100000
set_option maxHeartbeats 400000
namespace Dl
open PySem PySem.Spec L2 Res
noncomputable def compF2 (tg : Tg) (ft : FT) (fi1 : FA) (tg1 : Tg) (ft1 : FT) (fe : FE) (vs1 : List Nat) (s : List Sl) : List D → Res (List D)
  | [] => .ok []
  | d :: ds => match setTF tg d s with
    | some s1 => (ft s1).noex.bind fun b => if b then (fi1 s1).noex.bind fun es => need (es.length ≤ 4096) ((compF tg1 ft1 fe (wipeD s1 vs1) es).bind fun ys => (compF2 tg ft fi1 tg1 ft1 fe vs1 s ds).bind fun zs => .ok (ys ++ zs)) else compF2 tg ft fi1 tg1 ft1 fe vs1 s ds
    | none => .bad
noncomputable def fLc2 (fi : FA) (tg : Tg) (ft : FT) (fi1 : FA) (tg1 : Tg) (ft1 : FT) (fe : FE) (vs vs1 : List Nat) (s : List Sl) : Res D := (fi s).bind fun ds => need (ds.length ≤ 4096) ((compF2 tg ft fi1 tg1 ft1 fe vs1 (wipeD s vs) ds).bind fun ys => .ok (.lst ys))
section
variable {f : FE} {t : TD} {ft ft1 : FT} {tt tt1 : TDT} {fi fi1 : FA} {ti ti1 : TDI}
theorem m_comp2 {tg tg1 : Tg} {vs1 : List Nat} {s : List Sl} (ht : SimT ft tt) (hi1 : SimI fi1 ti1) (ht1 : SimT ft1 tt1) (he : SimE f t) : ∀ {ds : List D} {Q : List D → Prop} {E : QX}, (compF2 tg ft fi1 tg1 ft1 f vs1 s ds).wp Q E → compR2 tg tt ti1 tg1 tt1 t vs1 s ds Q
  | [], Q, E, h => h
  | d :: ds, Q, E, h => by
    unfold compF2 at h
    unfold compR2
    split at h
    · rename_i s1 e
      refine setTF_ok e (ht s1 _ _ (wp_mono (fun b hb => ?_) (fun _ _ z => z) (wp_noex.mp (wp_bind.mp h))))
      cases b with
      | true =>
        rw [if_pos rfl] at hb
        refine hi1 s1 _ _ (wp_mono (fun es hes => ?_) (fun _ _ z => z) (wp_noex.mp (wp_bind.mp hb)))
        obtain ⟨a, b⟩ := wp_need.mp hes
        refine ⟨a, m_comp ht1 he (wp_mono (fun ys hy => ?_) (fun _ _ z => z) (wp_bind.mp b))⟩
        exact m_comp2 ht hi1 ht1 he (wp_bind.mp hy)
      | false =>
        rw [if_neg Bool.false_ne_true] at hb
        exact m_comp2 ht hi1 ht1 he hb
    · exact h.elim
theorem m_Lc2 (hi : SimI fi ti) (tg : Tg) (ht : SimT ft tt) (hi1 : SimI fi1 ti1) (tg1 : Tg) (ht1 : SimT ft1 tt1) (he : SimE f t) (vs vs1 : List Nat) : SimE (fLc2 fi tg ft fi1 tg1 ft1 f vs vs1) (dLc2 ti tg tt ti1 tg1 tt1 t vs vs1) := fun s Q E h => hi s _ E (wp_mono (fun x hx => by
  obtain ⟨a, b⟩ := wp_need.mp hx
  exact ⟨a, m_comp2 ht hi1 ht1 he (wp_bind.mp b)⟩) (fun _ _ z => z) (wp_bind.mp h))
end
end Dl
set_option Elab.async false
set_option linter.all false
set_option maxRecDepth 100000
set_option maxHeartbeats 400000
namespace Dl
open PySem PySem.Spec L2 Res
def rngVR : D → Res D
  | .int n => .ok (tokRng n)
  | _ => .bad
def fRngV (f : FE) (s : List Sl) : Res D := (f s).bind rngVR
theorem m_RngV {f : FE} {t : TD} (h1 : SimE f t) : SimE (fRngV f) (dRngV t) := fun s Q E h => h1 s _ _ (wp_mono (fun d z => by
  cases d with
  | int n => exact ⟨n, rfl, z⟩
  | _ => exact z.elim) (fun _ _ z => z) (wp_bind.mp h))
theorem e_rngV {f : FE} {s : List Sl} {n : Int} (h : f s = .ok (.int n)) : fRngV f s = .ok (tokRng n) := by
  unfold fRngV
  rw [h]
  rfl
noncomputable def rngIR : D → Res (List D)
  | .tok k => match Hd.tokV (k - 1000) with
    | .rng n => need (k = (Hd.TokV.rng n).no ∧ -(2 ^ 62) ≤ n ∧ n < 2 ^ 62) (.ok (intsD 0 n.toNat))
    | .tab _ => .bad
  | _ => .bad
noncomputable def jRngV (f : FE) (s : List Sl) : Res (List D) := (f s).bind rngIR
theorem m_iRngV {f : FE} {t : TD} (h1 : SimE f t) : SimI (jRngV f) (iRngV t) := fun s Q E h => h1 s _ _ (wp_mono (fun d z => by
  unfold rngIR at z
  split at z
  · split at z
    · rename_i k n e
      obtain ⟨⟨a, b⟩, q⟩ := wp_need.mp z
      exact ⟨n, by rw [a], b, q⟩
    · exact z.elim
  · exact z.elim) (fun _ _ z => z) (wp_bind.mp h))
theorem e_iRngV {f : FE} {s : List Sl} {n : Int} (h : f s = .ok (tokRng n)) (b : -(2 ^ 62) ≤ n ∧ n < 2 ^ 62) : jRngV f s = .ok (intsD 0 n.toNat) := by
  unfold jRngV
  rw [h]
  show rngIR (.tok (Hd.TokV.rng n).no) = _
  have e : Hd.tokV ((Hd.TokV.rng n).no - 1000) = .rng n := by
    unfold Hd.TokV.no
    rw [Nat.add_sub_cancel_left, Hd.tokV_en]
  show (match Hd.tokV ((Hd.TokV.rng n).no - 1000) with
    | .rng m => need ((Hd.TokV.rng n).no = (Hd.TokV.rng m).no ∧ -(2 ^ 62) ≤ m ∧ m < 2 ^ 62) (.ok (intsD 0 m.toNat))
    | .tab _ => .bad) = _
  rw [e]
  exact need_pos ⟨rfl, b⟩
end Dl
set_option Elab.async false
set_option linter.all false
set_option maxRecDepth 100000
set_option maxHeartbeats 400000
namespace Dl
open PySem PySem.Spec L2 Res
noncomputable def gSortD : List D → Res D
  | [.lst xs] => need (SortOk xs) (.ok (.lst (xs.mergeSort leD)))
  | _ => .bad
theorem m_sortD : SimC gSortD bSortD := by
  intro ds Q E h
  unfold gSortD at h
  unfold bSortD
  split at h
  · exact wp_need.mp h
  · exact h.elim
theorem e_sortD {xs : List D} (h : SortOk xs) : gSortD [.lst xs] = .ok (.lst (xs.mergeSort leD)) := need_pos h
end Dl
set_option Elab.async false
set_option linter.all false
set_option maxRecDepth 100000
set_option maxHeartbeats 400000
namespace Dl
open PySem PySem.Spec L2 Res
end Dl
set_option Elab.async false
set_option linter.all false
set_option maxRecDepth 100000
set_option maxHeartbeats 400000
namespace Dl
open PySem PySem.Spec L2 Res
end Dl
set_option Elab.async false
set_option linter.all false
set_option maxRecDepth 100000
set_option maxHeartbeats 400000
namespace Dl
open PySem PySem.Spec L2 Res
def gAnyI : List D → Res D
  | [.lst ds] => (optR (numsOf ds)).bind fun ns => .ok (.bl (ns.any fun n => !(n == 0)))
  | _ => .bad
theorem m_anyI : SimC gAnyI bAnyI := by
  intro ds Q E h
  unfold gAnyI at h
  split at h
  · obtain ⟨ns, e, q⟩ := wp_optR.mp (wp_bind.mp h)
    exact ⟨ns, by rw [numsOf_ok e], q⟩
  · exact h.elim
theorem e_anyI {ns : List Int} : gAnyI [.lst (ns.map D.int)] = .ok (.bl (ns.any fun n => !(n == 0))) := by
  show (optR (numsOf (ns.map D.int))).bind _ = _
  rw [numsOf_map]
  rfl
end Dl
set_option Elab.async false
set_option linter.all false
set_option maxRecDepth 100000
set_option maxHeartbeats 400000
namespace Dl
open PySem PySem.Spec L2 Res
theorem int_map_inj {a b : List Int} (h : a.map D.int = b.map D.int) : a = b := by
  have e := congrArg (List.map fun k : D => match k with
    | .int i => i
    | _ => 0) h
  rw [List.map_map, List.map_map] at e
  have z : ((fun k : D => match k with
    | .int i => i
    | _ => 0) ∘ D.int) = id := rfl
  rw [z, List.map_id, List.map_id] at e
  exact e
theorem intT_inj {a b : List Int} (h : intT a = intT b) : a = b := by
  injection h with h
  exact int_map_inj h
theorem tokTab_inj {a b : List (List Int × Int)} (h : tokTab a = tokTab b) : a = b := by
  injection h with h
  have e : (Hd.TokV.tab a).en = (Hd.TokV.tab b).en := by
    unfold Hd.TokV.no at h
    omega
  have := Hd.TokV.en_inj e
  injection this
open Classical in
noncomputable def intsT (x : D) : Option (List Int) := if h : ∃ ks, x = intT ks then some (Classical.choose h) else none
theorem intsT_eq (ks : List Int) : intsT (intT ks) = some ks := by
  unfold intsT
  rw [dif_pos ⟨ks, rfl⟩]
  congr 1
  exact (intT_inj (Classical.choose_spec (⟨ks, rfl⟩ : ∃ ls, intT ks = intT ls))).symm
theorem intsT_ok {x : D} {ks : List Int} (h : intsT x = some ks) : x = intT ks := by
  unfold intsT at h
  split at h
  · rename_i z
    cases h
    exact Classical.choose_spec z
  · cases h
open Classical in
noncomputable def tabOf (x : D) : Option (List (List Int × Int)) := if h : ∃ l, x = tokTab l then some (Classical.choose h) else none
theorem tabOf_eq (l : List (List Int × Int)) : tabOf (tokTab l) = some l := by
  unfold tabOf
  rw [dif_pos ⟨l, rfl⟩]
  congr 1
  exact (tokTab_inj (Classical.choose_spec (⟨l, rfl⟩ : ∃ m, tokTab l = tokTab m))).symm
theorem tabOf_ok {x : D} {l : List (List Int × Int)} (h : tabOf x = some l) : x = tokTab l := by
  unfold tabOf at h
  split at h
  · rename_i z
    cases h
    exact Classical.choose_spec z
  · cases h
def intO : D → Option Int
  | .int v => some v
  | _ => none
noncomputable def compDF (tg : Tg) (ft : FT) (fk fv : FE) (s : List Sl) : List D → List (List Int × Int) → Res (List (List Int × Int))
  | [], l => .ok l
  | d :: ds, l => match setTF tg d s with
    | some s1 => (ft s1).noex.bind fun b => if b then (fk s1).noex.bind fun x => (optR (intsT x)).bind fun ks => need (ks ∉ l.map (·.1)) ((fv s1).noex.bind fun y => (optR (intO y)).bind fun v => compDF tg ft fk fv s ds (l ++ [(ks, v)])) else compDF tg ft fk fv s ds l
    | none => .bad
noncomputable def fDcT (fi : FA) (tg : Tg) (ft : FT) (fk fv : FE) (vs : List Nat) (s : List Sl) : Res D := (fi s).bind fun ds => need (ds.length ≤ 4096) ((compDF tg ft fk fv (wipeD s vs) ds []).bind fun l => .ok (tokTab l))
section
variable {fk fv f g : FE} {tk tv t t' : TD} {ft : FT} {tt : TDT} {fi : FA} {ti : TDI}
theorem intO_ok {y : D} {v : Int} (h : intO y = some v) : y = .int v := by
  unfold intO at h
  split at h
  · cases h
    rfl
  · cases h
theorem m_compD {tg : Tg} {s : List Sl} (ht : SimT ft tt) (hk : SimE fk tk) (hv : SimE fv tv) : ∀ {ds : List D} {l : List (List Int × Int)} {Q : List (List Int × Int) → Prop} {E : QX}, (compDF tg ft fk fv s ds l).wp Q E → compDR tg tt tk tv s ds l Q
  | [], l, Q, E, h => h
  | d :: ds, l, Q, E, h => by
    unfold compDF at h
    unfold compDR
    split at h
    · rename_i s1 e
      refine setTF_ok e (ht s1 _ _ (wp_mono (fun b hb => ?_) (fun _ _ z => z) (wp_noex.mp (wp_bind.mp h))))
      cases b with
      | true =>
        rw [if_pos rfl] at hb
        refine hk s1 _ _ (wp_mono (fun x hx => ?_) (fun _ _ z => z) (wp_noex.mp (wp_bind.mp hb)))
        obtain ⟨ks, ek, hx⟩ := wp_optR.mp (wp_bind.mp hx)
        obtain ⟨nk, hx⟩ := wp_need.mp hx
        refine ⟨ks, intsT_ok ek, nk, hv s1 _ _ (wp_mono (fun y hy => ?_) (fun _ _ z => z) (wp_noex.mp (wp_bind.mp hx)))⟩
        obtain ⟨v, ev, hy⟩ := wp_optR.mp (wp_bind.mp hy)
        exact ⟨v, intO_ok ev, m_compD ht hk hv hy⟩
      | false =>
        rw [if_neg Bool.false_ne_true] at hb
        exact m_compD ht hk hv hb
    · exact h.elim
theorem m_DcT (hi : SimI fi ti) (tg : Tg) (ht : SimT ft tt) (hk : SimE fk tk) (hv : SimE fv tv) (vs : List Nat) : SimE (fDcT fi tg ft fk fv vs) (dDcT ti tg tt tk tv vs) := fun s Q E h => hi s _ E (wp_mono (fun x hx => by
  obtain ⟨a, b⟩ := wp_need.mp hx
  exact ⟨a, m_compD ht hk hv (wp_bind.mp b)⟩) (fun _ _ z => z) (wp_bind.mp h))
noncomputable def fTabIx (f g : FE) (s : List Sl) : Res D := (f s).bind fun d => (optR (tabOf d)).bind fun l => (g s).bind fun z => (optR (intsT z)).bind fun ks => (optR (l.lookup ks)).bind fun v => .ok (.int v)
theorem m_TabIx (h1 : SimE f t) (h2 : SimE g t') : SimE (fTabIx f g) (dTabIx t t') := fun s Q E h => h1 s _ E (wp_mono (fun d hd => by
  obtain ⟨l, el, hd⟩ := wp_optR.mp (wp_bind.mp hd)
  refine ⟨l, tabOf_ok el, h2 s _ E (wp_mono (fun z hz => ?_) (fun _ _ z => z) (wp_bind.mp hd))⟩
  obtain ⟨ks, ek, hz⟩ := wp_optR.mp (wp_bind.mp hz)
  obtain ⟨v, ev, hz⟩ := wp_optR.mp (wp_bind.mp hz)
  exact ⟨ks, v, intsT_ok ek, ev, hz⟩) (fun _ _ z => z) (wp_bind.mp h))
noncomputable def jTab (f : FE) (s : List Sl) : Res (List D) := (f s).bind fun d => (optR (tabOf d)).bind fun l => .ok (l.map fun p => intT p.1)
theorem m_iTab (h1 : SimE f t) : SimI (jTab f) (iTab t) := fun s Q E h => h1 s _ E (wp_mono (fun d hd => by
  obtain ⟨l, el, hd⟩ := wp_optR.mp (wp_bind.mp hd)
  exact ⟨l, tabOf_ok el, hd⟩) (fun _ _ z => z) (wp_bind.mp h))
end
theorem e_dcT {it : FA} {tg : Tg} {ft : FT} {fk fv : FE} {own : List Nat} {s : List Sl} {xs : List D} {l : List (List Int × Int)} (h : it s = .ok xs) (n : xs.length ≤ 4096) (k : compDF tg ft fk fv (wipeD s own) xs [] = .ok l) : fDcT it tg ft fk fv own s = .ok (tokTab l) := by
  unfold fDcT
  rw [h]
  show need _ _ = _
  rw [need_pos n, k]
  rfl
theorem comp_dict {α : Type} {g : α → D} {i : Nat} {fk fv : FE} {s : List Sl} {k : α → List Int} {v : α → Int} : ∀ {l : List α} {a : List (List Int × Int)}, (∀ x ∈ l, fk (s.set i (.v (g x))) = .ok (intT (k x)) ∧ fv (s.set i (.v (g x))) = .ok (.int (v x))) → (a.map (·.1) ++ l.map k).Nodup →
    compDF (.nm i) fYes fk fv s (l.map g) a = .ok (a ++ l.map fun x => (k x, v x))
  | [], a, _, _ => by
    rw [List.map_nil, List.map_nil, List.append_nil]
    rfl
  | x :: l, a, h, n => by
    obtain ⟨h1, h2⟩ := h x (List.mem_cons_self ..)
    have nx : k x ∉ a.map (·.1) := fun z => by
      rw [List.map_cons, List.nodup_append] at n
      exact n.2.2 _ z _ (List.mem_cons_self ..) rfl
    rw [List.map_cons]
    unfold compDF
    simp only [setTF, fYes, h1, h2, intsT_eq, Res.bind, Res.noex, Res.cat, optR, if_true, need_pos nx, intO]
    rw [comp_dict (fun y hy => h y (List.mem_cons_of_mem _ hy)) (by
      rw [List.map_append, List.append_assoc]
      rw [List.map_cons] at n
      exact n), List.map_cons, List.append_assoc]
    rfl
theorem e_tabIx {f g : FE} {s : List Sl} {l : List (List Int × Int)} {ks : List Int} {v : Int} (h1 : f s = .ok (tokTab l)) (h2 : g s = .ok (intT ks)) (h : l.lookup ks = some v) : fTabIx f g s = .ok (.int v) := by
  unfold fTabIx
  rw [h1]
  show (optR (tabOf (tokTab l))).bind _ = _
  rw [tabOf_eq]
  show (g s).bind _ = _
  rw [h2]
  show (optR (intsT (intT ks))).bind _ = _
  rw [intsT_eq]
  show (optR (l.lookup ks)).bind _ = _
  rw [h]
  rfl
theorem e_iTab {f : FE} {s : List Sl} {l : List (List Int × Int)} (h : f s = .ok (tokTab l)) : jTab f s = .ok (l.map fun p => intT p.1) := by
  unfold jTab
  rw [h]
  show (optR (tabOf (tokTab l))).bind _ = _
  rw [tabOf_eq]
  rfl
end Dl
set_option Elab.async false
set_option linter.all false
set_option maxRecDepth 100000
set_option maxHeartbeats 400000
namespace Dl
def RR (x y : Nat) : Prop := (x = 46 ∨ y ≠ 46) ∧ (sg x → sg y)
inductive Le : List Nat → List Nat → Prop where
  | nil : Le [] []
  | cons {x y : Nat} {xs ys : List Nat} : RR x y → Le xs ys → Le (x :: xs) (y :: ys)
theorem Le.len {a b : List Nat} (h : Le a b) : a.length = b.length := by
  induction h with
  | nil => rfl
  | cons _ _ ih => simp [ih]
theorem Le.drop {a b : List Nat} (h : Le a b) : ∀ n, Le (a.drop n) (b.drop n) := by
  induction h with
  | nil => intro n; simp; exact .nil
  | cons r h ih =>
    intro n
    cases n with
    | zero => exact .cons r h
    | succ n => exact ih n
theorem Le.take {a b : List Nat} (h : Le a b) : ∀ n, Le (a.take n) (b.take n) := by
  induction h with
  | nil => intro n; simp; exact .nil
  | cons r h ih =>
    intro n
    cases n with
    | zero => exact .nil
    | succ n => exact .cons r (ih n)
theorem Le.app {a b c d : List Nat} (h : Le a b) (k : Le c d) : Le (a ++ c) (b ++ d) := by
  induction h with
  | nil => exact k
  | cons r _ ih => exact .cons r ih
theorem Le.at_ {a b : List Nat} (h : Le a b) : ∀ {i x y : Nat}, a[i]? = some x → b[i]? = some y → RR x y := by
  induction h with
  | nil => intro i x y e; simp at e
  | cons r h ih =>
    intro i x y e1 e2
    cases i with
    | zero =>
      simp at e1 e2
      subst e1 e2
      exact r
    | succ i => exact ih (by simpa using e1) (by simpa using e2)
theorem Le.dots {a b : List Nat} (h : Le a b) (s : b.all (· == 46) = true) : a.all (· == 46) = true := by
  induction h with
  | nil => exact s
  | cons r _ ih =>
    rw [List.all_cons, Bool.and_eq_true] at s ⊢
    refine ⟨?_, ih s.2⟩
    have e := s.1
    simp at e ⊢
    rcases r.1 with z | z
    · exact z
    · exact absurd e z
theorem Le.fill {a b : List Nat} (h : Le a b) : Le (filledL a) (filledL b) := by
  unfold filledL
  induction h with
  | nil => exact .nil
  | cons r h ih =>
    rename_i x y xs ys
    refine .cons ?_ ih
    show RR (if x = 46 then 48 else x) (if y = 46 then 48 else y)
    unfold RR sg at *
    split <;> split <;> omega
theorem Le.alldot {a b : List Nat} (s : a.all (· == 46) = true) (h : a.length = b.length) : Le a b := by
  induction a generalizing b with
  | nil =>
    cases b with
    | nil => exact .nil
    | cons y ys => simp at h
  | cons x xs ih =>
    cases b with
    | nil => simp at h
    | cons y ys =>
      rw [List.all_cons, Bool.and_eq_true] at s
      refine .cons ?_ (ih s.2 (by simpa using h))
      have e := s.1
      simp at e
      unfold RR sg
      omega
theorem Le.kept {a b : List Nat} (h : Le a b) : Le (keptL a) (keptL b) := by
  unfold keptL
  by_cases s : a.all (· == 46) = true
  · rw [if_pos s]
    refine Le.alldot s ?_
    split
    · exact h.len
    · rw [filled_len]; exact h.len
  · rw [if_neg s, if_neg fun z => s (h.dots z)]
    exact h.fill
end Dl
set_option Elab.async false
set_option linter.all false
set_option maxRecDepth 100000
set_option maxHeartbeats 400000
namespace Dl
end Dl
set_option Elab.async false
set_option linter.all false
set_option maxRecDepth 100000
set_option maxHeartbeats 400000
namespace Dl
open PySem PySem.Spec L2 Res
end Dl
set_option Elab.async false
set_option linter.all false
set_option maxRecDepth 100000
set_option maxHeartbeats 400000
namespace Dl
open PySem PySem.Spec L2 Res
end Dl
set_option Elab.async false
set_option linter.all false
set_option maxRecDepth 100000
set_option maxHeartbeats 400000
namespace Dl
def fk (k : Nat) : List Nat → List Nat := match k with
  | 1 => keptL
  | 2 => leanedL
  | _ => dugL
def divs (cs : List (Nat × Int)) (m : Nat) : Prop := ∀ c ∈ cs, c.1 ≠ 0 → c.2.toNat ∣ m
end Dl
set_option Elab.async false
set_option linter.all false
set_option maxRecDepth 100000
set_option maxHeartbeats 400000
namespace Dl
open PySem PySem.Spec L2 Res
theorem bor_nat (a b : Nat) : Builtin.bitOr (a : Int) (b : Int) = ((a ||| b : Nat) : Int) := by
  have h1 : decide ((0 : Int) ≤ -(a : Int) - 1) = false := decide_eq_false (by omega)
  have h2 : decide ((0 : Int) ≤ -(b : Int) - 1) = false := decide_eq_false (by omega)
  unfold Builtin.bitOr Builtin.bitAnd Builtin.bitNot
  simp only [h1, h2]
  have e1 : (-(-(a : Int) - 1) - 1).toNat = a := by omega
  have e2 : (-(-(b : Int) - 1) - 1).toNat = b := by omega
  rw [e1, e2]
  omega
theorem shr_nat {a k : Nat} : pShr (.int (a : Int)) (.int (k : Int)) = .ok (.int ((a / 2 ^ k : Nat) : Int)) := by
  rw [e_shr, need_pos (by omega), Int.toNat_natCast, Int.natCast_ediv, Int.natCast_pow]
  rfl
theorem band1_nat {a : Nat} : pBand (.int (a : Int)) (.int 1) = .ok (.int ((a % 2 : Nat) : Int)) := by
  show Res.ok (D.int (Builtin.bitAnd (a : Int) 1)) = _
  rw [PyProof.Rows.bitAnd_m1]
  rfl
theorem shl_nat {a k : Nat} (ha : a < 2 ^ 10) (hk : k ≤ 1000) : pShl (.int (a : Int)) (.int (k : Int)) = .ok (.int ((a * 2 ^ k : Nat) : Int)) := by
  have c : CPow (a : Int) (k : Int) := ⟨by omega, by omega, by
    have : (2 : Nat) ^ 10 ≤ 2 ^ 64 := Nat.pow_le_pow_right (by decide) (by decide)
    omega⟩
  rw [e_shl, need_pos c, Int.toNat_natCast, Int.natCast_mul, Int.natCast_pow]
  rfl
abbrev natI (n : Nat) : D := .int (n : Int)
abbrev natsD (l : List Nat) : D := .lst (l.map natI)
abbrev natT (l : List Nat) : D := .tup (l.map natI)
theorem natT_int (l : List Nat) : natT l = intT (l.map fun k : Nat => (k : Int)) := by
  show D.tup _ = D.tup _
  rw [List.map_map]
  rfl
def alN (L : Nat) : Nat := 2 * 2 ^ L - 1
def f0N (sg : List Nat) (L : Nat) : List Nat := (List.range L).map fun k => if k ∈ sg then alN L else 2 ^ k
def orN (l : List Nat) : Nat := l.foldl (· ||| ·) 0
def blkB (len n : Nat) : List (Nat × Nat) := (List.range ((len + n - 1) / n)).map fun i => (i * n, min (i * n + n) len)
def sliN (fd : List Nat) (p : Nat × Nat) : List Nat := (fd.drop p.1).take (p.2 - p.1)
def partN (k : Nat) (sg : List Nat) (al : Nat) (fd : List Nat) (p : Nat × Nat) : List Nat :=
  if k = 1 then List.replicate (p.2 - p.1) (orN (sliN fd p)) else if inB sg p = false then List.replicate (p.2 - p.1) 0 else if 3 ≤ k then sliN fd p else List.replicate (p.2 - p.1) al
def stepN (sg : List Nat) (al : Nat) (fd : List Nat) (c : Nat × Int) : List Nat := if c.1 = 0 then List.replicate fd.length al else ((blkB fd.length c.2.toNat).map (partN c.1 sg al fd)).flatten
def startsN (sg : List Nat) (L : Nat) (cs : List (Nat × Int)) : List Nat := cs.foldl (stepN sg (alN L)) (f0N sg L)
theorem blk_mem {len n : Nat} {p : Nat × Nat} (hn : 1 ≤ n) (h : p ∈ blkB len n) : p.1 < p.2 ∧ p.2 ≤ len ∧ p.2 ≤ p.1 + n := by
  obtain ⟨i, hi, rfl⟩ := List.mem_map.mp h
  have hi := List.mem_range.mp hi
  have : i * n < len := by
    have h1 : (i + 1) * n ≤ len + n - 1 := (Nat.le_div_iff_mul_le (by omega)).mp hi
    rw [Nat.succ_mul] at h1
    omega
  show i * n < min (i * n + n) len ∧ min (i * n + n) len ≤ len ∧ min (i * n + n) len ≤ i * n + n
  omega
theorem part_len {k : Nat} {sg : List Nat} {al : Nat} {fd : List Nat} {p : Nat × Nat} (h : p.2 ≤ fd.length) : (partN k sg al fd p).length = p.2 - p.1 := by
  have s : (sliN fd p).length = p.2 - p.1 := by
    unfold sliN
    rw [List.length_take, List.length_drop]
    omega
  unfold partN
  split
  · rw [List.length_replicate]
  · split
    · rw [List.length_replicate]
    · split
      · exact s
      · rw [List.length_replicate]
theorem blk_sum {len n : Nat} : ∀ m : Nat, (((List.range m).map fun i => (i * n, min (i * n + n) len)).map fun p : Nat × Nat => p.2 - p.1).sum = min (m * n) len
  | 0 => by simp
  | m + 1 => by
    rw [List.range_succ, List.map_append, List.map_append, List.sum_append, blk_sum m, Nat.succ_mul]
    show min (m * n) len + (min (m * n + n) len - m * n + 0) = _
    omega
theorem flat_lenG {α β : Type} {f : α → List β} {g : α → Nat} : ∀ {l : List α}, (∀ a ∈ l, (f a).length = g a) → ((l.map f).flatten).length = (l.map g).sum
  | [], _ => rfl
  | a :: l, h => by
    rw [List.map_cons, List.flatten_cons, List.length_append, h a (List.mem_cons_self ..), flat_lenG fun b hb => h b (List.mem_cons_of_mem _ hb), List.map_cons, List.sum_cons]
theorem blk_all {len n : Nat} (hn : 1 ≤ n) : min ((len + n - 1) / n * n) len = len := by
  have h := Nat.div_add_mod (len + n - 1) n
  have h2 := Nat.mod_lt (len + n - 1) (show 0 < n by omega)
  have e : (len + n - 1) / n * n = n * ((len + n - 1) / n) := Nat.mul_comm ..
  omega
theorem stepN_len {sg : List Nat} {al : Nat} {fd : List Nat} {c : Nat × Int} (h : c.1 ≠ 0 → 1 ≤ c.2) : (stepN sg al fd c).length = fd.length := by
  unfold stepN
  split
  · rw [List.length_replicate]
  · rename_i z
    have hn : 1 ≤ c.2.toNat := by have := h z; omega
    rw [flat_lenG (g := fun p : Nat × Nat => p.2 - p.1) fun p hp => part_len (blk_mem hn hp).2.1]
    unfold blkB
    rw [blk_sum, blk_all hn]
theorem startsN_len {sg : List Nat} {L : Nat} {cs : List (Nat × Int)} (h : ∀ c ∈ cs, c.1 ≠ 0 → 1 ≤ c.2) : (startsN sg L cs).length = L := by
  have : ∀ (cs : List (Nat × Int)) (fd : List Nat), (∀ c ∈ cs, c.1 ≠ 0 → 1 ≤ c.2) → (cs.foldl (stepN sg (alN L)) fd).length = fd.length := by
    intro cs
    induction cs with
    | nil => intro fd _; rfl
    | cons c cs ih =>
      intro fd h
      show (cs.foldl _ (stepN sg (alN L) fd c)).length = _
      rw [ih _ fun d hd => h d (List.mem_cons_of_mem _ hd), stepN_len (h c (List.mem_cons_self ..))]
  unfold startsN
  rw [this _ _ h]
  unfold f0N
  rw [List.length_map, List.length_range]
theorem bor_n {a b : Nat} : pBor (natI a) (natI b) = .ok (natI (a ||| b)) := congrArg (fun x => Res.ok (D.int x)) (bor_nat a b)
theorem orN_snoc (l : List Nat) (a : Nat) : orN (l ++ [a]) = orN l ||| a := by
  unfold orN
  rw [List.foldl_append]
  rfl
theorem mul_rep {x : D} {n : Nat} (h : n ≤ 1000) : pMul (.lst [x]) (natI n) = .ok (.lst (List.replicate n x)) := by
  have e : (List.replicate n [x]).flatten = List.replicate n x := by
    induction n with
    | zero => rfl
    | succ n ih => rw [List.replicate_succ, List.flatten_cons, ih (by omega), List.replicate_succ]; rfl
  show need _ (Res.ok (D.lst (List.replicate ((n : Nat) : Int).toNat [x]).flatten)) = _
  have z : (2 : Nat) ^ 63 ≥ 1000 := by decide
  rw [Int.toNat_natCast, e, need_pos]
  refine ⟨by omega, by omega, ?_⟩
  rw [sizeLine_eq]
  show 1 * n ≤ _
  omega
theorem sub_nat {a b : Nat} (h : b ≤ a) : pSub (natI a) (natI b) = .ok (natI (a - b)) := by
  show Res.ok (D.int ((a : Int) - (b : Int))) = _
  rw [show (a : Int) - b = ((a - b : Nat) : Int) by omega]
theorem cut_n {xs : List Nat} {i k : Nat} (h1 : i ≤ k) (h2 : k ≤ xs.length) : cutD (xs.map natI) (some (i : Int)) (some (k : Int)) = ((xs.drop i).take (k - i)).map natI := by
  unfold cutD
  have l : (xs.map natI).length = xs.length := List.length_map ..
  rw [HT.sIx_nat, HT.sIx_nat, l, Nat.min_eq_left h2, Nat.min_eq_left (show i ≤ xs.length by omega), List.map_take, List.map_drop]
theorem e_slM {f1 f2 f3 : FE} {s : List Sl} {xs : List Nat} {i k : Nat} (h1 : f1 s = .ok (natsD xs)) (h2 : f2 s = .ok (natI i)) (h3 : f3 s = .ok (natI k)) (a : i ≤ k) (b : k ≤ xs.length) : fSl f1 (fOSome f2) (fOSome f3) s = .ok (natsD ((xs.drop i).take (k - i))) := by
  have e : sliceD (natsD xs) (some (i : Int)) (some (k : Int)) = .ok (natsD ((xs.drop i).take (k - i))) := by
    rw [e_sl_lst, cut_n a b]
  unfold fSl fOSome
  rw [h1, h2, h3]
  exact e
theorem intsR (a n : Nat) : intsD (a : Int) n = (List.range' a n).map natI := by
  unfold intsD
  rw [List.range'_eq_map_range, List.map_map]
  apply List.map_congr_left
  intro i _
  show D.int ((a : Int) + (i : Nat)) = D.int ((a + i : Nat) : Int)
  rw [Int.natCast_add]
theorem intsR0 (n : Nat) : intsD 0 n = (List.range n).map natI := by
  have e := intsR 0 n
  rw [← List.range_eq_range'] at e
  exact e
theorem jR1_n {f : FE} {s : List Sl} {n : Nat} (h : f s = .ok (natI n)) (b : n ≤ 100000) : jR1 (fCons f fNil) s = .ok ((List.range n).map natI) := by
  unfold jR1
  rw [e_args1 h]
  show rng1 [natI n] = _
  have z : (2 : Nat) ^ 62 ≥ 100001 := by decide
  rw [e_r1, need_pos ⟨by omega, by omega⟩, Int.toNat_natCast, intsR0]
theorem jR2_n {f g : FE} {s : List Sl} {a n : Nat} (h : f s = .ok (natI a)) (k : g s = .ok (natI n)) (b : a ≤ 100000) (c : n ≤ 100000) : jR2 (fCons f (fCons g fNil)) s = .ok ((List.range' a (n - a)).map natI) := by
  unfold jR2
  rw [e_args2 h k]
  show rng2 [natI a, natI n] = _
  have z : (2 : Nat) ^ 62 ≥ 100001 := by decide
  rw [e_r2, need_pos ⟨by omega, by omega, by omega, by omega⟩, intsR]
  congr 3
  omega
theorem in_nat {k : Nat} {l : List Nat} : pIn (natI k) (natT l) = .ok (.bl (decide (k ∈ l))) := by
  have fl : (l.map natI).all flatD = true := by
    rw [List.all_map]
    exact List.all_eq_true.mpr fun _ _ => rfl
  have e : ((l.map natI).any fun y => eqD y (natI k)) = decide (k ∈ l) := by
    rw [List.any_map, Bool.eq_iff_iff, List.any_eq_true, decide_eq_true_eq]
    constructor
    · rintro ⟨x, hx, z⟩
      have z : eqD (.int (x : Int)) (.int (k : Int)) = true := z
      simp only [eqD, beq_iff_eq] at z
      have : x = k := by omega
      rw [← this]
      exact hx
    · intro h
      exact ⟨k, h, by simp [eqD]⟩
  show need _ _ = _
  rw [need_pos ⟨rfl, fl⟩, e, Bool.false_xor]
theorem div_n {a L : Nat} (_ : a < 10 ^ 60) (h : 0 < L) (h2 : L ≤ 1000 := by omega) : pDiv (natI a) (natI L) = .ok (natI (a / L)) := by
  have z : (2 : Nat) ^ 200 ≥ 1001 := Nat.le_trans (show 1001 ≤ 2 ^ 10 by decide) (Nat.pow_le_pow_right (by decide) (by decide))
  have z2 : (L : Int) < 2 ^ 200 := by exact_mod_cast (show L < 2 ^ 200 by omega)
  rw [e_div, need_pos (cdiv_ok (by omega) z2), ← Int.natCast_ediv]
theorem mul_n {a b : Nat} (h : a < 10 ^ 60) (h2 : b ≤ 1000) : pMul (natI a) (natI b) = .ok (natI (a * b)) := by
  have z : (10 : Nat) ^ 60 ≤ 2 ^ 240 := Nat.le_trans (Nat.pow_le_pow_left (show 10 ≤ 2 ^ 4 by decide) 60) (by rw [← Nat.pow_mul]; exact Nat.pow_le_pow_right (by decide) (by decide))
  have z2 : (2 : Nat) ^ 10 = 1024 := by decide
  rw [e_mul_i, need_pos (cmul_ok 240 10 (show ((a : Nat) : Int).natAbs < _ by rw [Int.natAbs_natCast]; omega) (show ((b : Nat) : Int).natAbs < _ by rw [Int.natAbs_natCast]; omega) (by decide)), ← Int.natCast_mul]
def sigs1 (L : Nat) : List (List Nat) := (List.range L).map fun k => [k]
def sigs2 (L : Nat) : List (List Nat) := ((List.range L).map fun j => (List.range' (j + 1) (L - (j + 1))).map fun k => [j, k]).flatten
def sigs (L : Nat) : List (List Nat) := [] :: (sigs1 L ++ sigs2 L)
def blanksN (f L : Nat) : List (List Nat) := if f / 2 ^ L ≠ 0 then [[]] else ((List.range L).filter fun k => decide (f / 2 ^ k % 2 ≠ 0)).map fun k => [k]
def leastN (v : List Nat → Nat) (sg bl : List Nat) : Bool := sg.all fun s => !((s :: bl).any fun k => decide (v (sg.filter fun x => decide (x ≠ s)) / 2 ^ k % 2 ≠ 0))
def reasN (v : List Nat → Nat) (L : Nat) : List (List Nat × List Nat) := ((sigs L).map fun sg => ((blanksN (v sg) L).filter fun bl => leastN v sg bl).map fun bl => (sg, bl)).flatten
def reaD (b : Nat) (p : List Nat × List Nat) : D := .tup [natsD (p.1.map fun k => b + k), natsD (p.2.map fun k => b + k)]
theorem sigs_lt {L : Nat} {s : List Nat} (h : s ∈ sigs L) : (∀ k ∈ s, k < L) ∧ s.length ≤ 2 := by
  rcases List.mem_cons.mp h with rfl | h
  · exact ⟨fun k hk => (by cases hk), by decide⟩
  rcases List.mem_append.mp h with h | h
  · obtain ⟨k, hk, rfl⟩ := List.mem_map.mp h
    exact ⟨fun j hj => by rw [List.mem_singleton.mp hj]; exact List.mem_range.mp hk, Nat.le_succ 1⟩
  · obtain ⟨l, hl, hs⟩ := List.mem_flatten.mp h
    obtain ⟨j, hj, rfl⟩ := List.mem_map.mp hl
    obtain ⟨k, hk, rfl⟩ := List.mem_map.mp hs
    have h1 := List.mem_range.mp hj
    have h2 := List.mem_range'_1.mp hk
    refine ⟨fun i hi => ?_, Nat.le_refl 2⟩
    simp only [List.mem_cons, List.not_mem_nil, or_false] at hi
    omega
/-- what is left of a row of signs is a row of signs -/
theorem sigs_sub {L : Nat} {s : List Nat} (h : s ∈ sigs L) (x : Nat) : (s.filter fun y => decide (y ≠ x)) ∈ sigs L := by
  have one : ∀ k, k < L → [k] ∈ sigs L := fun k hk => List.mem_cons_of_mem _ (List.mem_append_left _ (List.mem_map.mpr ⟨k, List.mem_range.mpr hk, rfl⟩))
  have nil : ([] : List Nat) ∈ sigs L := List.mem_cons_self ..
  have h0 := h
  rcases List.mem_cons.mp h with rfl | h
  · exact nil
  rcases List.mem_append.mp h with h | h
  · obtain ⟨k, hk, rfl⟩ := List.mem_map.mp h
    by_cases z : k = x
    · simpa [z] using nil
    · simpa [z] using one k (List.mem_range.mp hk)
  · obtain ⟨l, hl, hs⟩ := List.mem_flatten.mp h
    obtain ⟨j, hj, rfl⟩ := List.mem_map.mp hl
    obtain ⟨k, hk, rfl⟩ := List.mem_map.mp hs
    have h1 := List.mem_range.mp hj
    have h2 := List.mem_range'_1.mp hk
    have kL : k < L := by omega
    by_cases z : j = x
    · by_cases y : k = x
      · simpa [z, y] using nil
      · simpa [z, y] using one k kL
    · by_cases y : k = x
      · simpa [z, y] using one j h1
      · simpa [z, y] using h0
theorem dat_nats : ∀ l : List Nat, datDs (l.map natI) = l.map fun n : Nat => PyData.int (n : Int)
  | [] => by simp only [List.map_nil, datDs]
  | n :: l => by simp only [List.map_cons, datDs, datD, dat_nats l]
theorem ok_nats : ∀ l : List Nat, dataOks (l.map natI) = true
  | [] => by simp only [List.map_nil, dataOks]
  | n :: l => by simp only [List.map_cons, dataOks, dataOk, ok_nats l, Bool.and_self]
theorem alike_nats : ∀ a b : List Nat, PySem.W.alikeAll (a.map fun n : Nat => PyData.int (n : Int)) (b.map fun n : Nat => PyData.int (n : Int)) = true
  | [], _ => by simp only [List.map_nil, PySem.W.alikeAll]
  | _ :: _, [] => by simp only [List.map_nil, List.map_cons, PySem.W.alikeAll]
  | x :: a, y :: b => by simp only [List.map_cons, PySem.W.alikeAll, PySem.W.alike, alike_nats a b, Bool.and_self]
theorem depth_nats : ∀ l : List Nat, PyData.depthAll (l.map fun n : Nat => PyData.int (n : Int)) ≤ 1
  | [] => by simp [PyData.depthAll]
  | n :: l => by
    have := depth_nats l
    simp only [List.map_cons, PyData.depthAll, PyData.depth]
    omega
theorem dat_rea (b : Nat) (p : List Nat × List Nat) : datD (reaD b p) = .tuple [.list ((p.1.map fun k => b + k).map fun n : Nat => PyData.int (n : Int)), .list ((p.2.map fun k => b + k).map fun n : Nat => PyData.int (n : Int))] := by
  unfold reaD
  simp only [datD, datDs, dat_nats]
theorem sortOk_rea {b : Nat} {l : List (List Nat × List Nat)} : SortOk (l.map (reaD b)) := by
  refine ⟨fun d hd => ?_, fun d hd e he => ?_, .inl fun d hd => ?_, fun d hd => ?_⟩
  · obtain ⟨p, _, rfl⟩ := List.mem_map.mp hd
    unfold reaD
    simp only [dataOk, dataOks, ok_nats, Bool.and_self]
  · obtain ⟨p, _, rfl⟩ := List.mem_map.mp hd
    obtain ⟨q, _, rfl⟩ := List.mem_map.mp he
    rw [dat_rea, dat_rea]
    simp only [PySem.W.alike, PySem.W.alikeAll, alike_nats, Bool.and_self]
  · obtain ⟨p, _, rfl⟩ := List.mem_map.mp hd
    exact ⟨_, _, dat_rea b p⟩
  · obtain ⟨p, _, rfl⟩ := List.mem_map.mp hd
    rw [dat_rea]
    have h1 := depth_nats (p.1.map fun k => b + k)
    have h2 := depth_nats (p.2.map fun k => b + k)
    simp only [PyData.depth, PyData.depthAll]
    omega
theorem sigs2_len (L : Nat) : (sigs2 L).length ≤ L * L := by
  unfold sigs2
  rw [flat_lenG (g := fun j => L - (j + 1)) fun j hj => by rw [List.length_map, List.length_range']]
  have : ∀ l : List Nat, (l.map fun j => L - (j + 1)).sum ≤ l.length * L := by
    intro l
    induction l with
    | nil => simp
    | cons a l ih =>
      rw [List.map_cons, List.sum_cons, List.length_cons, Nat.succ_mul]
      omega
  have h := this (List.range L)
  rw [List.length_range] at h
  exact h
theorem sigs_len {L : Nat} (h : L ≤ 24) : (sigs L).length ≤ 1000 := by
  have h2 := sigs2_len L
  have h3 : L * L ≤ 24 * 24 := Nat.mul_le_mul h h
  unfold sigs sigs1
  rw [List.length_cons, List.length_append, List.length_map, List.length_range]
  omega
theorem blanks_len {f L : Nat} (h : L ≤ 24) : (blanksN f L).length ≤ 24 := by
  unfold blanksN
  split
  · show 1 ≤ 24
    omega
  · rw [List.length_map]
    refine Nat.le_trans (List.length_filter_le _ _) ?_
    rw [List.length_range]
    exact h
theorem e_truI {f : FE} {s : List Sl} {n : Nat} (h : f s = .ok (natI n)) : fTru f s = .ok (decide (n ≠ 0)) := by
  unfold fTru
  rw [h]
  show Res.ok ((n : Int) != 0) = _
  congr 1
  rw [Bool.eq_iff_iff, bne_iff_ne, decide_eq_true_eq]
  omega
theorem bit_n {f : FE} {g : FE} {s : List Sl} {a k : Nat} (h1 : f s = .ok (natI a)) (h2 : g s = .ok (natI k)) : fBin pBand (fBin pShr f g) (fC (.int 1)) s = .ok (natI (a / 2 ^ k % 2)) := e_bin (e_bin h1 h2 shr_nat) rfl band1_nat
theorem sigs_nodup (L : Nat) : (sigs L).Nodup := by
  have n1 : (sigs1 L).Nodup := by
    unfold sigs1 List.Nodup
    rw [List.pairwise_map]
    exact List.nodup_range.imp fun n e => n (by simpa using e)
  have n2 : (sigs2 L).Nodup := by
    unfold sigs2 List.Nodup
    rw [List.pairwise_flatten]
    constructor
    · intro l hl
      obtain ⟨j, _, rfl⟩ := List.mem_map.mp hl
      rw [List.pairwise_map]
      exact (List.nodup_range' (step := 1)).imp fun n e => n (by simpa using e)
    · rw [List.pairwise_map]
      refine List.nodup_range.imp fun n x hx y hy e => ?_
      obtain ⟨k, _, rfl⟩ := List.mem_map.mp hx
      obtain ⟨m, _, rfl⟩ := List.mem_map.mp hy
      exact n (by simpa using congrArg List.head? e)
  have l1 : ∀ x ∈ sigs1 L, x.length = 1 := fun x hx => by
    obtain ⟨k, _, rfl⟩ := List.mem_map.mp hx
    rfl
  have l2 : ∀ x ∈ sigs2 L, x.length = 2 := fun x hx => by
    obtain ⟨l, hl, hs⟩ := List.mem_flatten.mp hx
    obtain ⟨j, hj, rfl⟩ := List.mem_map.mp hl
    obtain ⟨k, hk, rfl⟩ := List.mem_map.mp hs
    rfl
  unfold sigs
  rw [List.nodup_cons, List.nodup_append]
  refine ⟨fun h => ?_, n1, n2, fun a ha b hb e => ?_⟩
  · rcases List.mem_append.mp h with h | h
    · exact absurd (l1 _ h) (by decide)
    · exact absurd (l2 _ h) (by decide)
  · have h1 := l1 a ha
    have h2 := l2 b hb
    rw [e] at h1
    omega
/-- a table of what stands for each row of signs -/
def tabN (v : List Nat → Nat) (l : List (List Nat)) : List (List Int × Int) := l.map fun sg => (sg.map fun k : Nat => (k : Int), (v sg : Int))
theorem castL_inj {a b : List Nat} (h : (a.map fun k : Nat => (k : Int)) = b.map fun k : Nat => (k : Int)) : a = b := by
  have e := congrArg (List.map Int.toNat) h
  rw [List.map_map, List.map_map] at e
  have z : (Int.toNat ∘ fun k : Nat => (k : Int)) = id := by
    funext k
    exact Int.toNat_natCast k
  rw [z, List.map_id, List.map_id] at e
  exact e
theorem tab_look {v : List Nat → Nat} : ∀ {l : List (List Nat)} {sg : List Nat}, sg ∈ l → (tabN v l).lookup (sg.map fun k : Nat => (k : Int)) = some (v sg : Int)
  | [], _, h => by cases h
  | x :: l, sg, h => by
    show List.lookup _ ((x.map fun k : Nat => (k : Int), (v x : Int)) :: tabN v l) = _
    rw [List.lookup_cons]
    by_cases e : sg = x
    · subst e
      simp
    · have ne : ((sg.map fun k : Nat => (k : Int)) == x.map fun k : Nat => (k : Int)) = false := beq_eq_false_iff_ne.mpr fun z => e (castL_inj z)
      rw [ne]
      exact tab_look ((List.mem_cons.mp h).resolve_left e)
theorem tab_nodup {L : Nat} : ((sigs L).map fun sg => sg.map fun k : Nat => (k : Int)).Nodup := by
  unfold List.Nodup
  rw [List.pairwise_map]
  exact (sigs_nodup L).imp fun n e => n (castL_inj e)
theorem comp2_map {α β : Type} {g : α → D} {g1 : α → β → D} {l1 : α → List β} {i i1 : Nat} {ft1 : FT} {fi1 : FA} {fe : FE} {vs1 : List Nat} {s : List Sl} {f : α → β → D} {p : α → β → Bool} : ∀ {l : List α}, (∀ a ∈ l, fi1 (s.set i (.v (g a))) = .ok ((l1 a).map (g1 a)) ∧ (l1 a).length ≤ 4096 ∧
    (∀ b ∈ l1 a, ft1 ((wipeD (s.set i (.v (g a))) vs1).set i1 (.v (g1 a b))) = .ok (p a b)) ∧ ∀ b ∈ l1 a, p a b = true → fe ((wipeD (s.set i (.v (g a))) vs1).set i1 (.v (g1 a b))) = .ok (f a b)) →
    compF2 (.nm i) fYes fi1 (.nm i1) ft1 fe vs1 s (l.map g) = .ok ((l.map fun a => ((l1 a).filter (p a)).map (f a)).flatten)
  | [], _ => rfl
  | a :: l, h => by
    obtain ⟨h1, h2, h3, h4⟩ := h a (List.mem_cons_self ..)
    rw [List.map_cons]
    unfold compF2
    have e := comp_filterG (i := i1) (g := g1 a) (f := f a) (p := p a) (l := l1 a) h3 h4
    have l2 : ((l1 a).map (g1 a)).length ≤ 4096 := by rw [List.length_map]; exact h2
    simp only [setTF, fYes, h1, Res.bind, Res.noex, Res.cat, if_true, need_pos l2, e, comp2_map fun b hb => h b (List.mem_cons_of_mem _ hb), List.map_cons, List.flatten_cons]
theorem e_lc2 {it : FA} {tg tg1 : Tg} {ft ft1 : FT} {fi1 : FA} {fe : FE} {vs vs1 : List Nat} {s : List Sl} {xs ys : List D} (h : it s = .ok xs) (l : xs.length ≤ 4096) (k : compF2 tg ft fi1 tg1 ft1 fe vs1 (wipeD s vs) xs = .ok ys) : fLc2 it tg ft fi1 tg1 ft1 fe vs vs1 s = .ok (.lst ys) := by
  unfold fLc2
  rw [h]
  show need _ _ = _
  rw [need_pos l, k]
  rfl
end Dl
namespace Dl
open PySem PySem.Spec L2 Res
theorem w_eq {α : Type} {x : Res α} {r : α} {Q : α → Prop} {E : QX} (h : x = .ok r) (q : Q r) : x.wp Q E := by
  rw [h]
  exact q
end Dl
namespace Dl
open PySem PySem.Spec L2 Res
/-- the signs that a row of numbers is compared by -/
def toksN (b : Nat) : List Nat → List (Int ⊕ List Nat) → List (Int ⊕ List Nat)
  | [], r => .inl 0 :: r
  | k :: l, r => .inl 1 :: .inl ((b + k : Nat) : Int) :: toksN b l r
theorem toks_all (b : Nat) : ∀ (l : List Nat) (r : List (Int ⊕ List Nat)), PySem.W.keyToksAll ((l.map fun k => b + k).map fun n : Nat => PyData.int (n : Int)) ++ r = toksN b l r
  | [], r => by simp [PySem.W.keyToksAll, toksN]
  | k :: l, r => by
    have ih := toks_all b l r
    simp only [List.map_cons, PySem.W.keyToksAll, PySem.W.keyToks, toksN, List.cons_append, List.nil_append, ih]
theorem toks_rea (b : Nat) (p : List Nat × List Nat) : PySem.W.keyToks (datD (reaD b p)) = .inl 1 :: toksN b p.1 (.inl 1 :: toksN b p.2 [.inl 0]) := by
  rw [dat_rea]
  simp only [PySem.W.keyToks, PySem.W.keyToksAll]
  rw [← toks_all b p.2, ← toks_all b p.1]
theorem lex_two {x y : Int} {r t : List (Int ⊕ List Nat)} : PyProof.Rows.lexLt PyProof.Rows.itemOrd (.inl x :: r) (.inl y :: t) = (decide (x < y) || (!decide (y < x) && PyProof.Rows.lexLt PyProof.Rows.itemOrd r t)) := PyProof.Rows.lex_cons (O := PyProof.Rows.itemOrd) _ _ _ _
theorem lex_shift (b : Nat) {r t r' t' : List (Int ⊕ List Nat)} (h : PyProof.Rows.lexLt PyProof.Rows.itemOrd r t = PyProof.Rows.lexLt PyProof.Rows.itemOrd r' t') : ∀ (l m : List Nat), PyProof.Rows.lexLt PyProof.Rows.itemOrd (toksN b l r) (toksN b m t) = PyProof.Rows.lexLt PyProof.Rows.itemOrd (toksN 0 l r') (toksN 0 m t')
  | [], [] => by
    unfold toksN
    rw [lex_two, lex_two, h]
  | [], _ :: _ => by
    unfold toksN
    rw [lex_two, lex_two]
    rfl
  | _ :: _, [] => by
    unfold toksN
    rw [lex_two, lex_two]
    rfl
  | k :: l, j :: m => by
    unfold toksN
    rw [lex_two, lex_two, lex_two, lex_two, lex_shift b h l m]
    have e1 : decide (((b + k : Nat) : Int) < ((b + j : Nat) : Int)) = decide (((0 + k : Nat) : Int) < ((0 + j : Nat) : Int)) := decide_eq_decide.mpr (by omega)
    have e2 : decide (((b + j : Nat) : Int) < ((b + k : Nat) : Int)) = decide (((0 + j : Nat) : Int) < ((0 + k : Nat) : Int)) := decide_eq_decide.mpr (by omega)
    rw [e1, e2]
theorem le_shift (b : Nat) (p q : List Nat × List Nat) : leD (reaD b p) (reaD b q) = leD (reaD 0 p) (reaD 0 q) := by
  show (!PyProof.Rows.lexLt PyProof.Rows.itemOrd (PySem.W.keyToks (datD (reaD b q))) (PySem.W.keyToks (datD (reaD b p)))) = !PyProof.Rows.lexLt PyProof.Rows.itemOrd (PySem.W.keyToks (datD (reaD 0 q))) (PySem.W.keyToks (datD (reaD 0 p)))
  rw [toks_rea, toks_rea, toks_rea, toks_rea, lex_two, lex_two]
  congr 3
  refine lex_shift b ?_ q.1 p.1
  rw [lex_two, lex_two]
  congr 2
  exact lex_shift b rfl q.2 p.2
/-- reasons in their order -/
def sortR (l : List (List Nat × List Nat)) : List (List Nat × List Nat) := l.mergeSort fun p q => leD (reaD 0 p) (reaD 0 q)
theorem sort_rea (b : Nat) (l : List (List Nat × List Nat)) : (l.map (reaD b)).mergeSort leD = (sortR l).map (reaD b) := by
  unfold sortR
  exact (List.map_mergeSort fun p _ q _ => (le_shift b p q).symm).symm
end Dl
set_option Elab.async false
set_option linter.all false
set_option maxRecDepth 100000
set_option maxHeartbeats 4000000
namespace K13
open PySem PySem.Spec L2 Dl Dl.Hd
theorem subT_ok : ∀ c c' b, subT c c' = some b → c < cn.length ∧ c' < cn.length ∧ (subT c c).isSome = true := by
  intro c c' b h
  unfold subT at h
  split at h
  · rename_i hc
    obtain ⟨h1, h2⟩ := hc
    have e1 : ∀ x ∈ ([3, 4, 5, 6, 7, 8] : List Nat), x < cn.length := by decide
    refine ⟨e1 _ h1, e1 _ h2, ?_⟩
    unfold subT
    rw [if_pos ⟨h1, h1⟩] <;> rfl
  · cases h
noncomputable abbrev ct (K : PySem.W.Frag) : CT := ctK cn nm K
abbrev T0 : EqT := fun _ => none
theorem isiK {K : PySem.W.Frag} (c : Says fa fn K) : IsiOk K (ct K) subT := isB_ok (cn := cn) (nm := nm) (sub := subT) (K := K) (c.fact 97 rfl) subT_ok
theorem sc0 : FnScope ["self", "value"] ["self", "value"] (defScope s0) := ⟨rfl, rfl, rfl, by decide +kernel, rfl, by decide +kernel, by decide +kernel⟩
theorem ok0 {P : Program} {w : World} {K : PySem.W.Frag} {h : Heap} {mg : Str → Option Value} {base : Heap} (X : K.In h) (G : h.Ns mainGlobals mg) (c : Says fa fn K) : ∃ fd, FnOk P w K mg base (L2.CX P w) 1 (He.ma K (He.ga K "InvalidNumber") "__init__") fd ["self", "value"] (spX "value" (He.ga K "InvalidNumber")) ∧ PySem.W.keepIn K (.ref (He.ma K (He.ga K "InvalidNumber") "__init__")) = true ∧ Binds K fd ["self", "value"] [] := by
  obtain ⟨fd, Fd⟩ := c.fun_ 0 (d := d0) rfl
  obtain ⟨T, _, _, hno, _⟩ := exB_ok (c.fact 82 rfl)
  obtain ⟨ds, rd, b⟩ := FunD.binds1 (ps := ["self", "value"]) Fd 2 1 (by intro z; cases z) rfl (fun _ _ _ _ _ _ _ us its hl hi => match us, hl, its, hi with | [_, _], _, [_], _ => ⟨_, rfl, (by first | rfl | kernel_rfl | with_unfolding_all rfl)⟩)
  cases rd
  exact ⟨fd, fn_x Fd sc0 rfl T hno (Or.inl rfl) (Or.inl rfl) rfl rfl rfl rfl (fun _ => rfl), Fd.kp, b⟩
theorem sc1 : FnScope ["self", "value"] ["self", "value"] (defScope s1) := ⟨rfl, rfl, rfl, by decide +kernel, rfl, by decide +kernel, by decide +kernel⟩
theorem ok1 {P : Program} {w : World} {K : PySem.W.Frag} {h : Heap} {mg : Str → Option Value} {base : Heap} (X : K.In h) (G : h.Ns mainGlobals mg) (c : Says fa fn K) : ∃ fd, FnOk P w K mg base (L2.CX P w) 1 (He.ma K (He.ga K "InvalidScript") "__init__") fd ["self", "value"] (spX "value" (He.ga K "InvalidScript")) ∧ PySem.W.keepIn K (.ref (He.ma K (He.ga K "InvalidScript") "__init__")) = true ∧ Binds K fd ["self", "value"] [] := by
  obtain ⟨fd, Fd⟩ := c.fun_ 1 (d := d1) rfl
  obtain ⟨T, _, _, hno, _⟩ := exB_ok (c.fact 83 rfl)
  obtain ⟨ds, rd, b⟩ := FunD.binds1 (ps := ["self", "value"]) Fd 2 1 (by intro z; cases z) rfl (fun _ _ _ _ _ _ _ us its hl hi => match us, hl, its, hi with | [_, _], _, [_], _ => ⟨_, rfl, (by first | rfl | kernel_rfl | with_unfolding_all rfl)⟩)
  cases rd
  exact ⟨fd, fn_x Fd sc1 rfl T hno (Or.inl rfl) (Or.inl rfl) rfl rfl rfl rfl (fun _ => rfl), Fd.kp, b⟩
theorem sc3 : FnScope ["self"] ["self"] (defScope s3) := ⟨rfl, rfl, rfl, by decide +kernel, rfl, by decide +kernel, by decide +kernel⟩
def t3 : TDS := (sSeq sNil
    sNil)
def w3 : Wi := wiOf 4 0 0 t3
theorem ok3 {P : Program} {w : World} {K : PySem.W.Frag} {h : Heap} {mg : Str → Option Value} {base : Heap} (X : K.In h) (G : h.Ns mainGlobals mg) (c : Says fa fn K) : ∃ fd, FnOk P w K mg base (L2.CX P w) 1 (d3.adr K) fd ["self"] (spI K (ct K) 4 w3) ∧ PySem.W.keepIn K (.ref (d3.adr K)) = true ∧ (∃ ds, Vals ((d3.dvs K).drop 0) ds ∧ Binds K fd ["self"] ds) := by
  obtain ⟨fd, Fd⟩ := c.fun_ 3 (d := d3) rfl

  have S := sc3
  refine ⟨fd, fn_i Fd S rfl rfl (fun gh cdv A outer s H E hr => ?_), Fd.kp, ⟨[], .nil, FunD.bindsN Fd fun _ _ _ _ _ _ us hl => match us, hl with | [_], _ => rfl⟩⟩
  exact (ds_cons ds_pass
    ds_nil)
theorem sc4 : FnScope ["self", "other"] ["self", "other"] (defScope s4) := ⟨rfl, rfl, rfl, by decide +kernel, rfl, by decide +kernel, by decide +kernel⟩
def t4 : TDS := (sSeq (sIf (tNotD (tTru (dB (bIsi subT) (aCons (dVar 1) (aCons (dC (.cls 4)) aNil))))) (sSeq (sRet (dC (.bl false)))
    sNil) sNil)
    (sSeq (sRet (dC (.bl true)))
    sNil))
def w4 : Wf := wfOf 2 2 t4
theorem ok4 {P : Program} {w : World} {K : PySem.W.Frag} {h : Heap} {mg : Str → Option Value} {base : Heap} (X : K.In h) (G : h.Ns mainGlobals mg) (c : Says fa fn K) : ∃ fd, FnOk P w K mg base (L2.CX P w) 1 (d4.adr K) fd ["self", "other"] (spD K (ct K) w4) ∧ PySem.W.keepIn K (.ref (d4.adr K)) = true ∧ (∃ ds, Vals ((d4.dvs K).drop 0) ds ∧ Binds K fd ["self", "other"] ds) := by
  obtain ⟨fd, Fd⟩ := c.fun_ 4 (d := d4) rfl

  have S := sc4
  refine ⟨fd, fn_d Fd S rfl rfl (fun cdv A outer s H E hr => ?_), Fd.kp, ⟨[], .nil, FunD.bindsN Fd fun _ _ _ _ _ _ us hl => match us, hl with | [_, _], _ => rfl⟩⟩
  exact (ds_cons (ds_if (dt_not (dt_tru (de_B (cd_isi (fun _ => rfl) (isiK c)) (He.free_ok X G (c.fact 37 rfl)) (da_cons (de_v 1) (da_cons (de_gcl (c := 4) (He.glo_ok X G (c.fact 4 rfl))) da_nil))))) (ds_cons (ds_ret de_bl)
    ds_nil) ds_nil)
    (ds_cons (ds_ret de_bl)
    ds_nil))
theorem sc6 : FnScope ["self"] ["self"] (defScope s6) := ⟨rfl, rfl, rfl, by decide +kernel, rfl, by decide +kernel, by decide +kernel⟩
def t6 : TDS := (sSeq (sRet (dFld (fun n => if n = 5 then some 0 else if n = 6 then some 0 else if n = 7 then some 0 else none) (dVar 0)))
    sNil)
def w6 : Wf := wfOf 1 1 t6
theorem ok6 {P : Program} {w : World} {K : PySem.W.Frag} {h : Heap} {mg : Str → Option Value} {base : Heap} (X : K.In h) (G : h.Ns mainGlobals mg) (c : Says fa fn K) : ∃ fd, FnOk P w K mg base (L2.CX P w) 1 (d6.adr K) fd ["self"] (spD K (ct K) w6) ∧ PySem.W.keepIn K (.ref (d6.adr K)) = true ∧ (∃ ds, Vals ((d6.dvs K).drop 0) ds ∧ Binds K fd ["self"] ds) := by
  obtain ⟨fd, Fd⟩ := c.fun_ 6 (d := d6) rfl

  have S := sc6
  refine ⟨fd, fn_d Fd S rfl rfl (fun cdv A outer s H E hr => ?_), Fd.kp, ⟨[], .nil, FunD.bindsN Fd fun _ _ _ _ _ _ us hl => match us, hl with | [_], _ => rfl⟩⟩
  exact (ds_cons (ds_ret (de_fld (de_v 0) (fun n k h => by
      try dsimp only at h
      split at h
      · rename_i en; subst en; cases h; exact ⟨He.cls_ok (c.fact 52 rfl), He.noat_ok (c.fact 54 rfl), rfl⟩
      split at h
      · rename_i en; subst en; cases h; exact ⟨He.cls_ok (c.fact 58 rfl), He.noat_ok (c.fact 60 rfl), rfl⟩
      split at h
      · rename_i en; subst en; cases h; exact ⟨He.cls_ok (c.fact 64 rfl), He.noat_ok (c.fact 66 rfl), rfl⟩
      cases h)))
    ds_nil)
theorem sc7 : FnScope ["self", "other"] ["self", "other"] (defScope s7) := ⟨rfl, rfl, rfl, by decide +kernel, rfl, by decide +kernel, by decide +kernel⟩
def t7 : TDS := (sSeq (sRet (dAnd (dB (bIsi subT) (aCons (dVar 1) (aCons (dC (.cls 5)) aNil))) (dBin (oEqT T0 1) (dFld (fun n => if n = 5 then some 0 else if n = 6 then some 0 else if n = 7 then some 0 else none) (dVar 0)) (dFld (fun n => if n = 5 then some 0 else if n = 6 then some 0 else if n = 7 then some 0 else none) (dVar 1)))))
    sNil)
def w7 : Wf := wfOf 2 2 t7
theorem ok7 {P : Program} {w : World} {K : PySem.W.Frag} {h : Heap} {mg : Str → Option Value} {base : Heap} (X : K.In h) (G : h.Ns mainGlobals mg) (c : Says fa fn K) : ∃ fd, FnOk P w K mg base (L2.CX P w) 2 (d7.adr K) fd ["self", "other"] (spD K (ct K) w7) ∧ PySem.W.keepIn K (.ref (d7.adr K)) = true ∧ (∃ ds, Vals ((d7.dvs K).drop 0) ds ∧ Binds K fd ["self", "other"] ds) := by
  obtain ⟨fd, Fd⟩ := c.fun_ 7 (d := d7) rfl

  have S := sc7
  refine ⟨fd, fn_d Fd S rfl rfl (fun cdv A outer s H E hr => ?_), Fd.kp, ⟨[], .nil, FunD.bindsN Fd fun _ _ _ _ _ _ us hl => match us, hl with | [_, _], _ => rfl⟩⟩
  exact (ds_cons (ds_ret (de_and (de_B (cd_isi (fun _ => rfl) (isiK c)) (He.free_ok X G (c.fact 37 rfl)) (da_cons (de_v 1) (da_cons (de_gcl (c := 5) (He.glo_ok X G (c.fact 5 rfl))) da_nil))) (de_one (de_cmp (od_eqT (T := T0) (n := 1) (takes_of rfl rfl rfl rfl) (fun _ => rfl) (fun _ _ _ h => by cases h) (fun _ _ h => by cases h) (hr.mono (by decide))) (de_fld (de_v 0) (fun n k h => by
      try dsimp only at h
      split at h
      · rename_i en; subst en; cases h; exact ⟨He.cls_ok (c.fact 52 rfl), He.noat_ok (c.fact 54 rfl), rfl⟩
      split at h
      · rename_i en; subst en; cases h; exact ⟨He.cls_ok (c.fact 58 rfl), He.noat_ok (c.fact 60 rfl), rfl⟩
      split at h
      · rename_i en; subst en; cases h; exact ⟨He.cls_ok (c.fact 64 rfl), He.noat_ok (c.fact 66 rfl), rfl⟩
      cases h)) (de_fld (de_v 1) (fun n k h => by
      try dsimp only at h
      split at h
      · rename_i en; subst en; cases h; exact ⟨He.cls_ok (c.fact 52 rfl), He.noat_ok (c.fact 54 rfl), rfl⟩
      split at h
      · rename_i en; subst en; cases h; exact ⟨He.cls_ok (c.fact 58 rfl), He.noat_ok (c.fact 60 rfl), rfl⟩
      split at h
      · rename_i en; subst en; cases h; exact ⟨He.cls_ok (c.fact 64 rfl), He.noat_ok (c.fact 66 rfl), rfl⟩
      cases h))))))
    ds_nil)
theorem sc9 : FnScope ["self"] ["self"] (defScope s9) := ⟨rfl, rfl, rfl, by decide +kernel, rfl, by decide +kernel, by decide +kernel⟩
def t9 : TDS := (sSeq (sRet (dFld (fun n => if n = 5 then some 0 else if n = 6 then some 0 else if n = 7 then some 0 else none) (dVar 0)))
    sNil)
def w9 : Wf := wfOf 1 1 t9
theorem ok9 {P : Program} {w : World} {K : PySem.W.Frag} {h : Heap} {mg : Str → Option Value} {base : Heap} (X : K.In h) (G : h.Ns mainGlobals mg) (c : Says fa fn K) : ∃ fd, FnOk P w K mg base (L2.CX P w) 1 (d9.adr K) fd ["self"] (spD K (ct K) w9) ∧ PySem.W.keepIn K (.ref (d9.adr K)) = true ∧ (∃ ds, Vals ((d9.dvs K).drop 0) ds ∧ Binds K fd ["self"] ds) := by
  obtain ⟨fd, Fd⟩ := c.fun_ 9 (d := d9) rfl

  have S := sc9
  refine ⟨fd, fn_d Fd S rfl rfl (fun cdv A outer s H E hr => ?_), Fd.kp, ⟨[], .nil, FunD.bindsN Fd fun _ _ _ _ _ _ us hl => match us, hl with | [_], _ => rfl⟩⟩
  exact (ds_cons (ds_ret (de_fld (de_v 0) (fun n k h => by
      try dsimp only at h
      split at h
      · rename_i en; subst en; cases h; exact ⟨He.cls_ok (c.fact 52 rfl), He.noat_ok (c.fact 54 rfl), rfl⟩
      split at h
      · rename_i en; subst en; cases h; exact ⟨He.cls_ok (c.fact 58 rfl), He.noat_ok (c.fact 60 rfl), rfl⟩
      split at h
      · rename_i en; subst en; cases h; exact ⟨He.cls_ok (c.fact 64 rfl), He.noat_ok (c.fact 66 rfl), rfl⟩
      cases h)))
    ds_nil)
theorem sc10 : FnScope ["self", "other"] ["self", "other"] (defScope s10) := ⟨rfl, rfl, rfl, by decide +kernel, rfl, by decide +kernel, by decide +kernel⟩
def t10 : TDS := (sSeq (sRet (dAnd (dB (bIsi subT) (aCons (dVar 1) (aCons (dC (.cls 6)) aNil))) (dBin (oEqT T0 1) (dFld (fun n => if n = 5 then some 0 else if n = 6 then some 0 else if n = 7 then some 0 else none) (dVar 0)) (dFld (fun n => if n = 5 then some 0 else if n = 6 then some 0 else if n = 7 then some 0 else none) (dVar 1)))))
    sNil)
def w10 : Wf := wfOf 2 2 t10
theorem ok10 {P : Program} {w : World} {K : PySem.W.Frag} {h : Heap} {mg : Str → Option Value} {base : Heap} (X : K.In h) (G : h.Ns mainGlobals mg) (c : Says fa fn K) : ∃ fd, FnOk P w K mg base (L2.CX P w) 2 (d10.adr K) fd ["self", "other"] (spD K (ct K) w10) ∧ PySem.W.keepIn K (.ref (d10.adr K)) = true ∧ (∃ ds, Vals ((d10.dvs K).drop 0) ds ∧ Binds K fd ["self", "other"] ds) := by
  obtain ⟨fd, Fd⟩ := c.fun_ 10 (d := d10) rfl

  have S := sc10
  refine ⟨fd, fn_d Fd S rfl rfl (fun cdv A outer s H E hr => ?_), Fd.kp, ⟨[], .nil, FunD.bindsN Fd fun _ _ _ _ _ _ us hl => match us, hl with | [_, _], _ => rfl⟩⟩
  exact (ds_cons (ds_ret (de_and (de_B (cd_isi (fun _ => rfl) (isiK c)) (He.free_ok X G (c.fact 37 rfl)) (da_cons (de_v 1) (da_cons (de_gcl (c := 6) (He.glo_ok X G (c.fact 6 rfl))) da_nil))) (de_one (de_cmp (od_eqT (T := T0) (n := 1) (takes_of rfl rfl rfl rfl) (fun _ => rfl) (fun _ _ _ h => by cases h) (fun _ _ h => by cases h) (hr.mono (by decide))) (de_fld (de_v 0) (fun n k h => by
      try dsimp only at h
      split at h
      · rename_i en; subst en; cases h; exact ⟨He.cls_ok (c.fact 52 rfl), He.noat_ok (c.fact 54 rfl), rfl⟩
      split at h
      · rename_i en; subst en; cases h; exact ⟨He.cls_ok (c.fact 58 rfl), He.noat_ok (c.fact 60 rfl), rfl⟩
      split at h
      · rename_i en; subst en; cases h; exact ⟨He.cls_ok (c.fact 64 rfl), He.noat_ok (c.fact 66 rfl), rfl⟩
      cases h)) (de_fld (de_v 1) (fun n k h => by
      try dsimp only at h
      split at h
      · rename_i en; subst en; cases h; exact ⟨He.cls_ok (c.fact 52 rfl), He.noat_ok (c.fact 54 rfl), rfl⟩
      split at h
      · rename_i en; subst en; cases h; exact ⟨He.cls_ok (c.fact 58 rfl), He.noat_ok (c.fact 60 rfl), rfl⟩
      split at h
      · rename_i en; subst en; cases h; exact ⟨He.cls_ok (c.fact 64 rfl), He.noat_ok (c.fact 66 rfl), rfl⟩
      cases h))))))
    ds_nil)
theorem sc12 : FnScope ["self"] ["self"] (defScope s12) := ⟨rfl, rfl, rfl, by decide +kernel, rfl, by decide +kernel, by decide +kernel⟩
def t12 : TDS := (sSeq (sRet (dFld (fun n => if n = 5 then some 0 else if n = 6 then some 0 else if n = 7 then some 0 else none) (dVar 0)))
    sNil)
def w12 : Wf := wfOf 1 1 t12
theorem ok12 {P : Program} {w : World} {K : PySem.W.Frag} {h : Heap} {mg : Str → Option Value} {base : Heap} (X : K.In h) (G : h.Ns mainGlobals mg) (c : Says fa fn K) : ∃ fd, FnOk P w K mg base (L2.CX P w) 1 (d12.adr K) fd ["self"] (spD K (ct K) w12) ∧ PySem.W.keepIn K (.ref (d12.adr K)) = true ∧ (∃ ds, Vals ((d12.dvs K).drop 0) ds ∧ Binds K fd ["self"] ds) := by
  obtain ⟨fd, Fd⟩ := c.fun_ 12 (d := d12) rfl

  have S := sc12
  refine ⟨fd, fn_d Fd S rfl rfl (fun cdv A outer s H E hr => ?_), Fd.kp, ⟨[], .nil, FunD.bindsN Fd fun _ _ _ _ _ _ us hl => match us, hl with | [_], _ => rfl⟩⟩
  exact (ds_cons (ds_ret (de_fld (de_v 0) (fun n k h => by
      try dsimp only at h
      split at h
      · rename_i en; subst en; cases h; exact ⟨He.cls_ok (c.fact 52 rfl), He.noat_ok (c.fact 54 rfl), rfl⟩
      split at h
      · rename_i en; subst en; cases h; exact ⟨He.cls_ok (c.fact 58 rfl), He.noat_ok (c.fact 60 rfl), rfl⟩
      split at h
      · rename_i en; subst en; cases h; exact ⟨He.cls_ok (c.fact 64 rfl), He.noat_ok (c.fact 66 rfl), rfl⟩
      cases h)))
    ds_nil)
theorem sc13 : FnScope ["self", "other"] ["self", "other"] (defScope s13) := ⟨rfl, rfl, rfl, by decide +kernel, rfl, by decide +kernel, by decide +kernel⟩
def t13 : TDS := (sSeq (sRet (dAnd (dB (bIsi subT) (aCons (dVar 1) (aCons (dC (.cls 7)) aNil))) (dBin (oEqT T0 1) (dFld (fun n => if n = 5 then some 0 else if n = 6 then some 0 else if n = 7 then some 0 else none) (dVar 0)) (dFld (fun n => if n = 5 then some 0 else if n = 6 then some 0 else if n = 7 then some 0 else none) (dVar 1)))))
    sNil)
def w13 : Wf := wfOf 2 2 t13
theorem ok13 {P : Program} {w : World} {K : PySem.W.Frag} {h : Heap} {mg : Str → Option Value} {base : Heap} (X : K.In h) (G : h.Ns mainGlobals mg) (c : Says fa fn K) : ∃ fd, FnOk P w K mg base (L2.CX P w) 2 (d13.adr K) fd ["self", "other"] (spD K (ct K) w13) ∧ PySem.W.keepIn K (.ref (d13.adr K)) = true ∧ (∃ ds, Vals ((d13.dvs K).drop 0) ds ∧ Binds K fd ["self", "other"] ds) := by
  obtain ⟨fd, Fd⟩ := c.fun_ 13 (d := d13) rfl

  have S := sc13
  refine ⟨fd, fn_d Fd S rfl rfl (fun cdv A outer s H E hr => ?_), Fd.kp, ⟨[], .nil, FunD.bindsN Fd fun _ _ _ _ _ _ us hl => match us, hl with | [_, _], _ => rfl⟩⟩
  exact (ds_cons (ds_ret (de_and (de_B (cd_isi (fun _ => rfl) (isiK c)) (He.free_ok X G (c.fact 37 rfl)) (da_cons (de_v 1) (da_cons (de_gcl (c := 7) (He.glo_ok X G (c.fact 7 rfl))) da_nil))) (de_one (de_cmp (od_eqT (T := T0) (n := 1) (takes_of rfl rfl rfl rfl) (fun _ => rfl) (fun _ _ _ h => by cases h) (fun _ _ h => by cases h) (hr.mono (by decide))) (de_fld (de_v 0) (fun n k h => by
      try dsimp only at h
      split at h
      · rename_i en; subst en; cases h; exact ⟨He.cls_ok (c.fact 52 rfl), He.noat_ok (c.fact 54 rfl), rfl⟩
      split at h
      · rename_i en; subst en; cases h; exact ⟨He.cls_ok (c.fact 58 rfl), He.noat_ok (c.fact 60 rfl), rfl⟩
      split at h
      · rename_i en; subst en; cases h; exact ⟨He.cls_ok (c.fact 64 rfl), He.noat_ok (c.fact 66 rfl), rfl⟩
      cases h)) (de_fld (de_v 1) (fun n k h => by
      try dsimp only at h
      split at h
      · rename_i en; subst en; cases h; exact ⟨He.cls_ok (c.fact 52 rfl), He.noat_ok (c.fact 54 rfl), rfl⟩
      split at h
      · rename_i en; subst en; cases h; exact ⟨He.cls_ok (c.fact 58 rfl), He.noat_ok (c.fact 60 rfl), rfl⟩
      split at h
      · rename_i en; subst en; cases h; exact ⟨He.cls_ok (c.fact 64 rfl), He.noat_ok (c.fact 66 rfl), rfl⟩
      cases h))))))
    ds_nil)
theorem sc15 : FnScope ["self", "found", "step"] ["self"] (defScope s15) := ⟨rfl, rfl, rfl, by decide +kernel, rfl, by decide +kernel, by decide +kernel⟩
def t15 : TDS := (sSeq (sAsg 1 (dC (.int 1)))
    (sSeq (sFor (iVal (dFld (fun n => if n = 8 then some 0 else none) (dVar 0))) (.nm 2) (sSeq (sIf (tNotD (tTru (dB (bIsi subT) (aCons (dVar 2) (aCons (dC (.cls 4)) aNil))))) (sSeq (sAsg 1 (dB bLcm (aCons (dVar 1) (aCons (dProp (fun n => if n = 5 then some w6 else if n = 6 then some w9 else if n = 7 then some w12 else none) (dVar 2)) aNil))))
    sNil) sNil)
    sNil))
    (sSeq (sRet (dVar 1))
    sNil)))
def w15 : Wf := wfOf 1 3 t15
theorem ok15 {P : Program} {w : World} {K : PySem.W.Frag} {h : Heap} {mg : Str → Option Value} {base : Heap} (X : K.In h) (G : h.Ns mainGlobals mg) (c : Says fa fn K) : ∃ fd, FnOk P w K mg base (L2.CX P w) 3 (d15.adr K) fd ["self"] (spD K (ct K) w15) ∧ PySem.W.keepIn K (.ref (d15.adr K)) = true ∧ (∃ ds, Vals ((d15.dvs K).drop 0) ds ∧ Binds K fd ["self"] ds) := by
  obtain ⟨fd, Fd⟩ := c.fun_ 15 (d := d15) rfl
  obtain ⟨fd6, F6, kp6, db6, rb6, bb6⟩ := ok6 (P := P) (w := w) (base := base) X G c
  cases rb6
  have f6 := And.intro F6 (And.intro kp6 bb6)
  obtain ⟨fd9, F9, kp9, db9, rb9, bb9⟩ := ok9 (P := P) (w := w) (base := base) X G c
  cases rb9
  have f9 := And.intro F9 (And.intro kp9 bb9)
  obtain ⟨fd12, F12, kp12, db12, rb12, bb12⟩ := ok12 (P := P) (w := w) (base := base) X G c
  cases rb12
  have f12 := And.intro F12 (And.intro kp12 bb12)
  have S := sc15
  refine ⟨fd, fn_d Fd S rfl rfl (fun cdv A outer s H E hr => ?_), Fd.kp, ⟨[], .nil, FunD.bindsN Fd fun _ _ _ _ _ _ us hl => match us, hl with | [_], _ => rfl⟩⟩
  exact (ds_cons (ds_asg S.nd (i := 1) rfl (by first | exact Or.inl rfl | exact Or.inr rfl) de_int)
    (ds_cons (ds_for (passes_of rfl) rfl (di_val (de_fld (de_v 0) (fun n k h => by
      try dsimp only at h
      split at h
      · rename_i en; subst en; cases h; exact ⟨He.cls_ok (c.fact 70 rfl), He.noat_ok (c.fact 72 rfl), rfl⟩
      cases h))) (pg_nm S.nd (i := 2) rfl (by first | exact Or.inl rfl | exact Or.inr rfl)) (ds_cons (ds_if (dt_not (dt_tru (de_B (cd_isi (fun _ => rfl) (isiK c)) (He.free_ok X G (c.fact 37 rfl)) (da_cons (de_v 2) (da_cons (de_gcl (c := 4) (He.glo_ok X G (c.fact 4 rfl))) da_nil))))) (ds_cons (ds_asg S.nd (i := 1) rfl (by first | exact Or.inl rfl | exact Or.inr rfl) (de_Bf cd_lcm (blB_ok X G (c.fact 93 rfl)) (da_cons (de_v 1) (da_cons (de_prop (de_v 2) (fun n wf h => by
      try dsimp only at h
      split at h
      · rename_i en; subst en; cases h; exact ⟨He.cls_ok (c.fact 52 rfl), _, _, _, _, _, prB_ok (c.fact 56 rfl), f6.1, (hr.mono (by decide)), f6.2.2⟩
      split at h
      · rename_i en; subst en; cases h; exact ⟨He.cls_ok (c.fact 58 rfl), _, _, _, _, _, prB_ok (c.fact 62 rfl), f9.1, (hr.mono (by decide)), f9.2.2⟩
      split at h
      · rename_i en; subst en; cases h; exact ⟨He.cls_ok (c.fact 64 rfl), _, _, _, _, _, prB_ok (c.fact 68 rfl), f12.1, (hr.mono (by decide)), f12.2.2⟩
      cases h)) da_nil))))
    ds_nil) ds_nil)
    ds_nil))
    (ds_cons (ds_ret (de_v 1))
    ds_nil)))
theorem sc16 : FnScope ["self"] ["self"] (defScope s16) := ⟨rfl, rfl, rfl, by decide +kernel, rfl, by decide +kernel, by decide +kernel⟩
def t16 : TDS := (sSeq (sRet (dB bLen (aCons (dFld (fun n => if n = 8 then some 0 else none) (dVar 0)) aNil)))
    sNil)
def w16 : Wf := wfOf 1 1 t16
theorem ok16 {P : Program} {w : World} {K : PySem.W.Frag} {h : Heap} {mg : Str → Option Value} {base : Heap} (X : K.In h) (G : h.Ns mainGlobals mg) (c : Says fa fn K) : ∃ fd, FnOk P w K mg base (L2.CX P w) 1 (d16.adr K) fd ["self"] (spD K (ct K) w16) ∧ PySem.W.keepIn K (.ref (d16.adr K)) = true ∧ (∃ ds, Vals ((d16.dvs K).drop 0) ds ∧ Binds K fd ["self"] ds) := by
  obtain ⟨fd, Fd⟩ := c.fun_ 16 (d := d16) rfl

  have S := sc16
  refine ⟨fd, fn_d Fd S rfl rfl (fun cdv A outer s H E hr => ?_), Fd.kp, ⟨[], .nil, FunD.bindsN Fd fun _ _ _ _ _ _ us hl => match us, hl with | [_], _ => rfl⟩⟩
  exact (ds_cons (ds_ret (de_B cd_len (He.free_ok X G (c.fact 39 rfl)) (da_cons (de_fld (de_v 0) (fun n k h => by
      try dsimp only at h
      split at h
      · rename_i en; subst en; cases h; exact ⟨He.cls_ok (c.fact 70 rfl), He.noat_ok (c.fact 72 rfl), rfl⟩
      cases h)) da_nil)))
    ds_nil)
def T1 : EqT := (fun n => if n = 4 then some (1, w4) else if n = 5 then some (2, w7) else if n = 6 then some (2, w10) else if n = 7 then some (2, w13) else none)
theorem hT1 : ∀ c, (T1 c).isSome = true → hasE c = true ∧ c < cn.length := by
  intro n h
  unfold T1 at h
  try dsimp only at h
  split at h
  · rename_i en; subst en; exact ⟨rfl, by decide⟩
  split at h
  · rename_i en; subst en; exact ⟨rfl, by decide⟩
  split at h
  · rename_i en; subst en; exact ⟨rfl, by decide⟩
  split at h
  · rename_i en; subst en; exact ⟨rfl, by decide⟩
  cases h
theorem etK1 {P : Program} {w : World} {K : PySem.W.Frag} {h : Heap} {mg : Str → Option Value} {base : Heap} (X : K.In h) (G : h.Ns mainGlobals mg) (c : Says fa fn K) (Y : Cx) (e1 : Y.prog = P) (e2 : Y.w = w) (e3 : Y.K = K) (e4 : Y.mg = mg) (e5 : Y.base = base) : ∀ n k wf, T1 n = some (k, wf) → EqAtO Y (ct K) T1 n k wf := by
  intro n k wf h
  subst e1 e2 e3 e4 e5
  unfold T1 at h
  try dsimp only at h
  split at h
  · rename_i en; subst en; cases h
    obtain ⟨fd, F, kp, ⟨ds, rd, b⟩⟩ := ok4 (P := Y.prog) (w := Y.w) (base := Y.base) X G c
    cases rd
    exact (eqB_ok (nm := nm) (c.fact 98 rfl) T1 hT1).2 Y _ _ 4 rfl rfl ⟨fd, _, F, b⟩
  split at h
  · rename_i en; subst en; cases h
    obtain ⟨fd, F, kp, ⟨ds, rd, b⟩⟩ := ok7 (P := Y.prog) (w := Y.w) (base := Y.base) X G c
    cases rd
    exact (eqB_ok (nm := nm) (c.fact 98 rfl) T1 hT1).2 Y _ _ 5 rfl rfl ⟨fd, _, F, b⟩
  split at h
  · rename_i en; subst en; cases h
    obtain ⟨fd, F, kp, ⟨ds, rd, b⟩⟩ := ok10 (P := Y.prog) (w := Y.w) (base := Y.base) X G c
    cases rd
    exact (eqB_ok (nm := nm) (c.fact 98 rfl) T1 hT1).2 Y _ _ 6 rfl rfl ⟨fd, _, F, b⟩
  split at h
  · rename_i en; subst en; cases h
    obtain ⟨fd, F, kp, ⟨ds, rd, b⟩⟩ := ok13 (P := Y.prog) (w := Y.w) (base := Y.base) X G c
    cases rd
    exact (eqB_ok (nm := nm) (c.fact 98 rfl) T1 hT1).2 Y _ _ 7 rfl rfl ⟨fd, _, F, b⟩
  cases h
theorem apK1 {K : PySem.W.Frag} (c : Says fa fn K) : ApartT T1 (ct K) := (eqB_ok (nm := nm) (c.fact 98 rfl) T1 hT1).1
theorem sc18 : FnScope ["self", "other"] ["self", "other"] (defScope s18) := ⟨rfl, rfl, rfl, by decide +kernel, rfl, by decide +kernel, by decide +kernel⟩
def t18 : TDS := (sSeq (sRet (dAnd (dB (bIsi subT) (aCons (dVar 1) (aCons (dC (.cls 8)) aNil))) (dBin (oEqT T1 5) (dFld (fun n => if n = 8 then some 0 else none) (dVar 0)) (dFld (fun n => if n = 8 then some 0 else none) (dVar 1)))))
    sNil)
def w18 : Wf := wfOf 2 2 t18
theorem ok18 {P : Program} {w : World} {K : PySem.W.Frag} {h : Heap} {mg : Str → Option Value} {base : Heap} (X : K.In h) (G : h.Ns mainGlobals mg) (c : Says fa fn K) : ∃ fd, FnOk P w K mg base (L2.CX P w) 7 (d18.adr K) fd ["self", "other"] (spD K (ct K) w18) ∧ PySem.W.keepIn K (.ref (d18.adr K)) = true ∧ (∃ ds, Vals ((d18.dvs K).drop 0) ds ∧ Binds K fd ["self", "other"] ds) := by
  obtain ⟨fd, Fd⟩ := c.fun_ 18 (d := d18) rfl

  have S := sc18
  refine ⟨fd, fn_d Fd S rfl rfl (fun cdv A outer s H E hr => ?_), Fd.kp, ⟨[], .nil, FunD.bindsN Fd fun _ _ _ _ _ _ us hl => match us, hl with | [_, _], _ => rfl⟩⟩
  exact (ds_cons (ds_ret (de_and (de_B (cd_isi (fun _ => rfl) (isiK c)) (He.free_ok X G (c.fact 37 rfl)) (da_cons (de_v 1) (da_cons (de_gcl (c := 8) (He.glo_ok X G (c.fact 8 rfl))) da_nil))) (de_one (de_cmp (od_eqT (T := T1) (n := 5) (takes_of rfl rfl rfl rfl) (fun _ => rfl) (etK1 X G c _ rfl rfl rfl rfl rfl) (apK1 c) (hr.mono (by decide))) (de_fld (de_v 0) (fun n k h => by
      try dsimp only at h
      split at h
      · rename_i en; subst en; cases h; exact ⟨He.cls_ok (c.fact 70 rfl), He.noat_ok (c.fact 72 rfl), rfl⟩
      cases h)) (de_fld (de_v 1) (fun n k h => by
      try dsimp only at h
      split at h
      · rename_i en; subst en; cases h; exact ⟨He.cls_ok (c.fact 70 rfl), He.noat_ok (c.fact 72 rfl), rfl⟩
      cases h))))))
    ds_nil)
theorem sc19 : FnScope ["self"] ["self"] (defScope s19) := ⟨rfl, rfl, rfl, by decide +kernel, rfl, by decide +kernel, by decide +kernel⟩
theorem ok19 {P : Program} {w : World} {K : PySem.W.Frag} {h : Heap} {mg : Str → Option Value} (X : K.In h) (G : h.Ns mainGlobals mg) (c : Says fa fn K) : ∃ fd, (∀ base, FnOk P w K mg base (L2.CX P w) 1 (d19.adr K) fd ["self"] (spIt (He.ga K "Script") (nm.getD 8 []) "_steps" base.objs.size K)) ∧ Binds K fd ["self"] [] := by
  obtain ⟨fd, Fd⟩ := c.fun_ 19 (d := d19) rfl
  have S := sc19
  have bb : ∃ ds, Vals ((d19.dvs K).drop 0) ds ∧ Binds K fd ["self"] ds := ⟨[], .nil, FunD.bindsN Fd fun _ _ _ _ _ _ us hl => match us, hl with | [_], _ => rfl⟩
  obtain ⟨ds, rd, b⟩ := bb
  cases rd
  exact ⟨fd, fun base => fn_it Fd S (He.cls_ok (c.fact 70 rfl)) (He.noat_ok (c.fact 72 rfl)) (fun cdv A outer s H E => pss_one (ps_ret (pe_callB call_iterA (by rfl) (He.free_ok X G (c.fact 38 rfl)) (by decide +kernel) (pa_cons (pe_fld (pe_var (i := 0) rfl (Or.inl rfl)) rfl) pa_nil)))), b⟩
theorem sc23 : FnScope ["value"] ["value"] (defScope s23) := ⟨rfl, rfl, rfl, by decide +kernel, rfl, by decide +kernel, by decide +kernel⟩
def t23 : TDS := (sSeq (sRet (dAnd (dB (bIsi subT) (aCons (dVar 0) (aCons (dC (.ty "int")) aNil))) (dNot (dB (bIsi subT) (aCons (dVar 0) (aCons (dC (.ty "bool")) aNil))))))
    sNil)
def w23 : Wf := wfOf 1 1 t23
theorem ok23 {P : Program} {w : World} {K : PySem.W.Frag} {h : Heap} {mg : Str → Option Value} {base : Heap} (X : K.In h) (G : h.Ns mainGlobals mg) (c : Says fa fn K) : ∃ fd, FnOk P w K mg base (L2.CX P w) 1 (d23.adr K) fd ["value"] (spD K (ct K) w23) ∧ PySem.W.keepIn K (.ref (d23.adr K)) = true ∧ (∃ ds, Vals ((d23.dvs K).drop 0) ds ∧ Binds K fd ["value"] ds) := by
  obtain ⟨fd, Fd⟩ := c.fun_ 23 (d := d23) rfl

  have S := sc23
  refine ⟨fd, fn_d Fd S rfl rfl (fun cdv A outer s H E hr => ?_), Fd.kp, ⟨[], .nil, FunD.bindsN Fd fun _ _ _ _ _ _ us hl => match us, hl with | [_], _ => rfl⟩⟩
  exact (ds_cons (ds_ret (de_and (de_B (cd_isi (fun _ => rfl) (isiK c)) (He.free_ok X G (c.fact 37 rfl)) (da_cons (de_v 0) (da_cons (de_gty (He.free_ok X G (c.fact 36 rfl))) da_nil))) (de_one (de_not (de_B (cd_isi (fun _ => rfl) (isiK c)) (He.free_ok X G (c.fact 37 rfl)) (da_cons (de_v 0) (da_cons (de_gty (He.free_ok X G (c.fact 35 rfl))) da_nil)))))))
    ds_nil)
theorem sc24 : FnScope ["value", "low", "high"] ["value", "low", "high"] (defScope s24) := ⟨rfl, rfl, rfl, by decide +kernel, rfl, by decide +kernel, by decide +kernel⟩
def t24 : TDS := (sSeq (sIf (tOrD (tNotD (tTru (dCall w23 [] (aCons (dVar 0) aNil)))) (tOrD (tVal (dBin oLt (dVar 0) (dVar 1))) (tAndD (tVal (dBin oNotN (dVar 2) (dC .non))) (tVal (dBin oGt (dVar 0) (dVar 2)))))) (sSeq (sRaise 1 (dVar 0))
    sNil) sNil)
    sNil)
def w24 : Wf := wfOf 3 3 t24
theorem ok24 {P : Program} {w : World} {K : PySem.W.Frag} {h : Heap} {mg : Str → Option Value} {base : Heap} (X : K.In h) (G : h.Ns mainGlobals mg) (c : Says fa fn K) : ∃ fd, FnOk P w K mg base (L2.CX P w) 3 (d24.adr K) fd ["value", "low", "high"] (spD K (ct K) w24) ∧ PySem.W.keepIn K (.ref (d24.adr K)) = true ∧ (∃ ds, Vals ((d24.dvs K).drop 0) ds ∧ Binds K fd ["value", "low", "high"] ds) ∧ (∃ ds, Vals ((d24.dvs K).drop 1) ds ∧ Binds K fd ["value", "low", "high"] ds) := by
  obtain ⟨fd, Fd⟩ := c.fun_ 24 (d := d24) rfl
  obtain ⟨fd23, F23, kp23, ⟨db23_0, b23_0⟩⟩ := ok23 (P := P) (w := w) (base := base) X G c
  have f23 := And.intro F23 (And.intro kp23 trivial)
  have f23b0 := b23_0
  obtain ⟨fd0, f0⟩ := ok0 (P := P) (w := w) (base := base) X G c
  have S := sc24
  refine ⟨fd, fn_d Fd S rfl rfl (fun cdv A outer s H E hr => ?_), Fd.kp, FunD.binds1 (ps := ["value", "low", "high"]) Fd 2 0 (by intro z; cases z) rfl (fun _ _ _ _ _ _ _ us its hl hi => match us, hl, its, hi with | [_, _], _, [_], _ => ⟨_, rfl, (by first | rfl | kernel_rfl | with_unfolding_all rfl)⟩), FunD.binds1 (ps := ["value", "low", "high"]) Fd 3 1 (by intro z; cases z) rfl (fun _ _ _ _ _ _ _ us its hl hi => match us, hl, its, hi with | [_, _, _], _, [_], _ => ⟨_, rfl, (by first | rfl | kernel_rfl | with_unfolding_all rfl)⟩)⟩
  exact (ds_cons (ds_if (dt_w (dw_or (dt_not (dt_tru (de_call f23.1 (hr.mono (by decide)) (He.glo_ok X G (c.fact 9 rfl)) f23.2.1 f23b0.2 f23b0.1 (konst_of rfl rfl) (takes_of rfl rfl rfl rfl) (da_cons (de_v 0) da_nil)))) (dw_or (dt_cmp od_lt (de_v 0) (de_v 1)) (dw_or1 (dt_w (dw_and (dt_cmp od_notN (de_v 2) de_non) (dw_and1 (dt_cmp od_gt (de_v 0) (de_v 2))))))))) (ds_cons (ds_raise rfl (takes_of rfl rfl rfl rfl) (exB_ok (c.fact 82 rfl)).1 (exB_ok (c.fact 82 rfl)).2.1 (exB_ok (c.fact 82 rfl)).2.2.1 rfl f0.1 (hr.mono (by decide)) f0.2.2 (He.glo_ok X G (c.fact 1 rfl)) (de_v 0))
    ds_nil) ds_nil)
    ds_nil)
theorem sc25 : FnScope ["length", "size", "begin"] ["length", "size"] (defScope s25) := ⟨rfl, rfl, rfl, by decide +kernel, rfl, by decide +kernel, by decide +kernel⟩
def t25 : TDS := (sSeq (sRet (dLc (iR3 (aCons (dC (.int 0)) (aCons (dVar 0) (aCons (dVar 1) aNil)))) (.nm 2) tYesD (dTup (aCons (dVar 2) (aCons (dB bMin (aCons (dBin oAdd (dVar 2) (dVar 1)) (aCons (dVar 0) aNil))) aNil))) [2]))
    sNil)
def w25 : Wf := wfOf 2 3 t25
theorem ok25 {P : Program} {w : World} {K : PySem.W.Frag} {h : Heap} {mg : Str → Option Value} {base : Heap} (X : K.In h) (G : h.Ns mainGlobals mg) (c : Says fa fn K) : ∃ fd, FnOk P w K mg base (L2.CX P w) 1 (d25.adr K) fd ["length", "size"] (spD K (ct K) w25) ∧ PySem.W.keepIn K (.ref (d25.adr K)) = true ∧ (∃ ds, Vals ((d25.dvs K).drop 0) ds ∧ Binds K fd ["length", "size"] ds) := by
  obtain ⟨fd, Fd⟩ := c.fun_ 25 (d := d25) rfl

  have S := sc25
  refine ⟨fd, fn_d Fd S rfl rfl (fun cdv A outer s H E hr => ?_), Fd.kp, ⟨[], .nil, FunD.bindsN Fd fun _ _ _ _ _ _ us hl => match us, hl with | [_, _], _ => rfl⟩⟩
  exact (ds_cons (ds_ret (de_lc (own := [("begin", 2)]) (by rfl) S.nd (di_r3 (by rfl) (He.free_ok X G (c.fact 42 rfl)) (da_cons de_int (da_cons (de_v 0) (da_cons (de_v 1) da_nil)))) (blkOk_by (by
      first
      | (show blkC ["length", "size", "begin"] (defScope s25) _ _ = true; decide +kernel)
      | rfl
      | kernel_rfl)) (fun _ _ _ _ _ => (pg_nm S.nd (i := 2) rfl (by first | exact Or.inl rfl | exact Or.inr rfl))) (fun _ _ _ _ _ => dts_nil) (fun _ _ _ _ _ => (de_tup (da_cons (de_v 2) (da_cons (de_B (cd_min rfl) (He.free_ok X G (c.fact 41 rfl)) (da_cons (de_op od_add (de_v 2) (de_v 1)) (da_cons (de_v 0) da_nil))) da_nil)))) rfl))
    ds_nil)
theorem sc26 : FnScope ["value"] ["value"] (defScope s26) := ⟨rfl, rfl, rfl, by decide +kernel, rfl, by decide +kernel, by decide +kernel⟩
def t26 : TDS := (sSeq (sIf (tNotD (tTru (dB (bIsi subT) (aCons (dVar 0) (aCons (dC (.cls 8)) aNil))))) (sSeq (sRaise 2 (dVar 0))
    sNil) sNil)
    sNil)
def w26 : Wf := wfOf 1 1 t26
theorem ok26 {P : Program} {w : World} {K : PySem.W.Frag} {h : Heap} {mg : Str → Option Value} {base : Heap} (X : K.In h) (G : h.Ns mainGlobals mg) (c : Says fa fn K) : ∃ fd, FnOk P w K mg base (L2.CX P w) 3 (d26.adr K) fd ["value"] (spD K (ct K) w26) ∧ PySem.W.keepIn K (.ref (d26.adr K)) = true ∧ (∃ ds, Vals ((d26.dvs K).drop 0) ds ∧ Binds K fd ["value"] ds) := by
  obtain ⟨fd, Fd⟩ := c.fun_ 26 (d := d26) rfl
  obtain ⟨fd1, f1⟩ := ok1 (P := P) (w := w) (base := base) X G c
  have S := sc26
  refine ⟨fd, fn_d Fd S rfl rfl (fun cdv A outer s H E hr => ?_), Fd.kp, ⟨[], .nil, FunD.bindsN Fd fun _ _ _ _ _ _ us hl => match us, hl with | [_], _ => rfl⟩⟩
  exact (ds_cons (ds_if (dt_not (dt_tru (de_B (cd_isi (fun _ => rfl) (isiK c)) (He.free_ok X G (c.fact 37 rfl)) (da_cons (de_v 0) (da_cons (de_gcl (c := 8) (He.glo_ok X G (c.fact 8 rfl))) da_nil))))) (ds_cons (ds_raise rfl (takes_of rfl rfl rfl rfl) (exB_ok (c.fact 83 rfl)).1 (exB_ok (c.fact 83 rfl)).2.1 (exB_ok (c.fact 83 rfl)).2.2.1 rfl f1.1 (hr.mono (by decide)) f1.2.2 (He.glo_ok X G (c.fact 2 rfl)) (de_v 0))
    ds_nil) ds_nil)
    ds_nil)
theorem sc27 : FnScope ["value", "step"] ["value"] (defScope s27) := ⟨rfl, rfl, rfl, by decide +kernel, rfl, by decide +kernel, by decide +kernel⟩
def t27 : TDS := (sSeq (sRet (dAnd (dB (bIsi subT) (aCons (dVar 0) (aCons (dC (.ty "list")) aNil))) (dB bAll (aCons (dLc (iVal (dVar 0)) (.nm 1) tYesD (dB (bIsi subT) (aCons (dVar 1) (aCons (dC (.cls 3)) aNil))) [1]) aNil))))
    sNil)
def w27 : Wf := wfOf 1 2 t27
theorem ok27 {P : Program} {w : World} {K : PySem.W.Frag} {h : Heap} {mg : Str → Option Value} {base : Heap} (X : K.In h) (G : h.Ns mainGlobals mg) (c : Says fa fn K) : ∃ fd, FnOk P w K mg base (L2.CX P w) 1 (d27.adr K) fd ["value"] (spD K (ct K) w27) ∧ PySem.W.keepIn K (.ref (d27.adr K)) = true ∧ (∃ ds, Vals ((d27.dvs K).drop 0) ds ∧ Binds K fd ["value"] ds) := by
  obtain ⟨fd, Fd⟩ := c.fun_ 27 (d := d27) rfl

  have S := sc27
  refine ⟨fd, fn_d Fd S rfl rfl (fun cdv A outer s H E hr => ?_), Fd.kp, ⟨[], .nil, FunD.bindsN Fd fun _ _ _ _ _ _ us hl => match us, hl with | [_], _ => rfl⟩⟩
  exact (ds_cons (ds_ret (de_and (de_B (cd_isi (fun _ => rfl) (isiK c)) (He.free_ok X G (c.fact 37 rfl)) (da_cons (de_v 0) (da_cons (de_gty (He.free_ok X G (c.fact 40 rfl))) da_nil))) (de_one (de_B (cd_all rfl) (He.free_ok X G (c.fact 33 rfl)) (da_cons (de_lc (own := [("step", 1)]) (by rfl) S.nd (di_val (de_v 0)) (blkOk_by (by
      first
      | (show blkC ["value", "step"] (defScope s27) _ _ = true; decide +kernel)
      | rfl
      | kernel_rfl)) (fun _ _ _ _ _ => (pg_nm S.nd (i := 1) rfl (by first | exact Or.inl rfl | exact Or.inr rfl))) (fun _ _ _ _ _ => dts_nil) (fun _ _ _ _ _ => (de_B (cd_isi (fun _ => rfl) (isiK c)) (He.free_ok X G (c.fact 37 rfl)) (da_cons (de_v 1) (da_cons (de_gcl (c := 3) (He.glo_ok X G (c.fact 3 rfl))) da_nil)))) rfl) da_nil)))))
    ds_nil)
theorem sc29 : FnScope ["length", "cells", "k", "j"] ["length"] (defScope s29) := ⟨rfl, rfl, rfl, by decide +kernel, rfl, by decide +kernel, by decide +kernel⟩
def t29 : TDS := (sSeq (sAsg 1 (dRngV (dVar 0)))
    (sSeq (sRet (dLst (aCons (dTup aNil) (aStar (dLc (iRngV (dVar 1)) (.nm 2) tYesD (dTup (aCons (dVar 2) aNil)) [2]) (aStar (dLc2 (iRngV (dVar 1)) (.nm 3) tYesD (iR2 (aCons (dBin oAdd (dVar 3) (dC (.int 1))) (aCons (dVar 0) aNil))) (.nm 2) tYesD (dTup (aCons (dVar 3) (aCons (dVar 2) aNil))) [3, 2] [2]) aNil)))))
    sNil))
def w29 : Wf := wfOf 1 4 t29
theorem ok29 {P : Program} {w : World} {K : PySem.W.Frag} {h : Heap} {mg : Str → Option Value} {base : Heap} (X : K.In h) (G : h.Ns mainGlobals mg) (c : Says fa fn K) : ∃ fd, FnOk P w K mg base (L2.CX P w) 1 (d29.adr K) fd ["length"] (spD K (ct K) w29) ∧ PySem.W.keepIn K (.ref (d29.adr K)) = true ∧ (∃ ds, Vals ((d29.dvs K).drop 0) ds ∧ Binds K fd ["length"] ds) := by
  obtain ⟨fd, Fd⟩ := c.fun_ 29 (d := d29) rfl

  have S := sc29
  refine ⟨fd, fn_d Fd S rfl rfl (fun cdv A outer s H E hr => ?_), Fd.kp, ⟨[], .nil, FunD.bindsN Fd fun _ _ _ _ _ _ us hl => match us, hl with | [_], _ => rfl⟩⟩
  exact (ds_cons (ds_asg S.nd (i := 1) rfl (by first | exact Or.inl rfl | exact Or.inr rfl) (de_rngV (fun x a => Dl.Hd.tokK_no x a) (by rfl) (He.free_ok X G (c.fact 42 rfl)) (de_v 0)))
    (ds_cons (ds_ret (de_lst (da_cons (de_tup da_nil) (da_star (de_lc (own := [("k", 2)]) (by rfl) S.nd (di_rngV (fun x a => Dl.Hd.tokK_no x a) (de_v 1)) (blkOk_by (by
      first
      | (show blkC ["length", "cells", "k", "j"] (defScope s29) _ _ = true; decide +kernel)
      | rfl
      | kernel_rfl)) (fun _ _ _ _ _ => (pg_nm S.nd (i := 2) rfl (by first | exact Or.inl rfl | exact Or.inr rfl))) (fun _ _ _ _ _ => dts_nil) (fun _ _ _ _ _ => (de_tup (da_cons (de_v 2) da_nil))) rfl) (da_star (de_lc2 (own := [("j", 3), ("k", 2)]) (vs1 := [2]) (by rfl) S.nd (di_rngV (fun x a => Dl.Hd.tokK_no x a) (de_v 1)) (blkOk_by (by
      first
      | (show blkC ["length", "cells", "k", "j"] (defScope s29) _ _ = true; decide +kernel)
      | rfl
      | kernel_rfl)) (by decide) (fun _ _ _ _ _ => (pg_nm S.nd (i := 3) rfl (by first | exact Or.inl rfl | exact Or.inr rfl))) (fun _ _ _ _ _ => dts_nil) (fun _ _ _ _ _ => (di_r2 (by rfl) (He.free_ok X G (c.fact 42 rfl)) (da_cons (de_op od_add (de_v 3) de_int) (da_cons (de_v 0) da_nil)))) (fun _ _ _ _ _ => (pg_nm S.nd (i := 2) rfl (by first | exact Or.inl rfl | exact Or.inr rfl))) (fun _ _ _ _ _ => dts_nil) (fun _ _ _ _ _ => (de_tup (da_cons (de_v 3) (da_cons (de_v 2) da_nil)))) rfl rfl) da_nil)))))
    ds_nil))
theorem sc32 : FnScope ["numbers", "joined", "number"] ["numbers"] (defScope s32) := ⟨rfl, rfl, rfl, by decide +kernel, rfl, by decide +kernel, by decide +kernel⟩
def t32 : TDS := (sSeq (sAsg 1 (dC (.int 0)))
    (sSeq (sFor (iVal (dVar 0)) (.nm 2) (sSeq (sAsg 1 (dBin oBor (dVar 1) (dVar 2)))
    sNil))
    (sSeq (sRet (dVar 1))
    sNil)))
def w32 : Wf := wfOf 1 3 t32
theorem ok32 {P : Program} {w : World} {K : PySem.W.Frag} {h : Heap} {mg : Str → Option Value} {base : Heap} (X : K.In h) (G : h.Ns mainGlobals mg) (c : Says fa fn K) : ∃ fd, FnOk P w K mg base (L2.CX P w) 1 (d32.adr K) fd ["numbers"] (spD K (ct K) w32) ∧ PySem.W.keepIn K (.ref (d32.adr K)) = true ∧ (∃ ds, Vals ((d32.dvs K).drop 0) ds ∧ Binds K fd ["numbers"] ds) := by
  obtain ⟨fd, Fd⟩ := c.fun_ 32 (d := d32) rfl

  have S := sc32
  refine ⟨fd, fn_d Fd S rfl rfl (fun cdv A outer s H E hr => ?_), Fd.kp, ⟨[], .nil, FunD.bindsN Fd fun _ _ _ _ _ _ us hl => match us, hl with | [_], _ => rfl⟩⟩
  exact (ds_cons (ds_asg S.nd (i := 1) rfl (by first | exact Or.inl rfl | exact Or.inr rfl) de_int)
    (ds_cons (ds_for (passes_of rfl) rfl (di_val (de_v 0)) (pg_nm S.nd (i := 2) rfl (by first | exact Or.inl rfl | exact Or.inr rfl)) (ds_cons (ds_asg S.nd (i := 1) rfl (by first | exact Or.inl rfl | exact Or.inr rfl) (de_op od_bor (de_v 1) (de_v 2)))
    ds_nil))
    (ds_cons (ds_ret (de_v 1))
    ds_nil)))
theorem sc33 : FnScope ["found", "length", "k"] ["found", "length"] (defScope s33) := ⟨rfl, rfl, rfl, by decide +kernel, rfl, by decide +kernel, by decide +kernel⟩
def t33 : TDS := (sSeq (sIf (tTru (dBin oShr (dVar 0) (dVar 1))) (sSeq (sRet (dLst (aCons (dTup aNil) aNil)))
    sNil) sNil)
    (sSeq (sRet (dLc (iR1 (aCons (dVar 1) aNil)) (.nm 2) (tTru (dBin oBand (dBin oShr (dVar 0) (dVar 2)) (dC (.int 1)))) (dTup (aCons (dVar 2) aNil)) [2]))
    sNil))
def w33 : Wf := wfOf 2 3 t33
theorem ok33 {P : Program} {w : World} {K : PySem.W.Frag} {h : Heap} {mg : Str → Option Value} {base : Heap} (X : K.In h) (G : h.Ns mainGlobals mg) (c : Says fa fn K) : ∃ fd, FnOk P w K mg base (L2.CX P w) 1 (d33.adr K) fd ["found", "length"] (spD K (ct K) w33) ∧ PySem.W.keepIn K (.ref (d33.adr K)) = true ∧ (∃ ds, Vals ((d33.dvs K).drop 0) ds ∧ Binds K fd ["found", "length"] ds) := by
  obtain ⟨fd, Fd⟩ := c.fun_ 33 (d := d33) rfl

  have S := sc33
  refine ⟨fd, fn_d Fd S rfl rfl (fun cdv A outer s H E hr => ?_), Fd.kp, ⟨[], .nil, FunD.bindsN Fd fun _ _ _ _ _ _ us hl => match us, hl with | [_, _], _ => rfl⟩⟩
  exact (ds_cons (ds_if (dt_tru (de_op od_shr (de_v 0) (de_v 1))) (ds_cons (ds_ret (de_lst (da_cons (de_tup da_nil) da_nil)))
    ds_nil) ds_nil)
    (ds_cons (ds_ret (de_lc (own := [("k", 2)]) (by rfl) S.nd (di_r1 (by rfl) (He.free_ok X G (c.fact 42 rfl)) (da_cons (de_v 1) da_nil)) (blkOk_by (by
      first
      | (show blkC ["found", "length", "k"] (defScope s33) _ _ = true; decide +kernel)
      | rfl
      | kernel_rfl)) (fun _ _ _ _ _ => (pg_nm S.nd (i := 2) rfl (by first | exact Or.inl rfl | exact Or.inr rfl))) (fun _ _ _ _ _ => (dts_one (dt_tru (de_op od_band (de_op od_shr (de_v 0) (de_v 2)) de_int)))) (fun _ _ _ _ _ => (de_tup (da_cons (de_v 2) da_nil))) rfl))
    ds_nil))
theorem sc34 : FnScope ["table", "signs", "blanks", "sign", "found", "k"] ["table", "signs", "blanks"] (defScope s34) := ⟨rfl, rfl, rfl, by decide +kernel, rfl, by decide +kernel, by decide +kernel⟩
def t34 : TDS := (sSeq (sFor (iVal (dVar 1)) (.nm 3) (sSeq (sAsg 4 (dTabIx (dVar 0) (dB bTuple (aCons (dLc (iVal (dVar 1)) (.nm 5) (tVal (dBin (oNeT T0 1) (dVar 5) (dVar 3))) (dVar 5) [5]) aNil))))
    (sSeq (sIf (tTru (dB bAnyI (aCons (dLc (iVal (dTup (aCons (dVar 3) (aStar (dVar 2) aNil)))) (.nm 5) tYesD (dBin oBand (dBin oShr (dVar 4) (dVar 5)) (dC (.int 1))) [5]) aNil))) (sSeq (sRet (dC (.bl false)))
    sNil) sNil)
    sNil)))
    (sSeq (sRet (dC (.bl true)))
    sNil))
def w34 : Wf := wfOf 3 6 t34
theorem ok34 {P : Program} {w : World} {K : PySem.W.Frag} {h : Heap} {mg : Str → Option Value} {base : Heap} (X : K.In h) (G : h.Ns mainGlobals mg) (c : Says fa fn K) : ∃ fd, FnOk P w K mg base (L2.CX P w) 3 (d34.adr K) fd ["table", "signs", "blanks"] (spD K (ct K) w34) ∧ PySem.W.keepIn K (.ref (d34.adr K)) = true ∧ (∃ ds, Vals ((d34.dvs K).drop 0) ds ∧ Binds K fd ["table", "signs", "blanks"] ds) := by
  obtain ⟨fd, Fd⟩ := c.fun_ 34 (d := d34) rfl

  have S := sc34
  refine ⟨fd, fn_d Fd S rfl rfl (fun cdv A outer s H E hr => ?_), Fd.kp, ⟨[], .nil, FunD.bindsN Fd fun _ _ _ _ _ _ us hl => match us, hl with | [_, _, _], _ => rfl⟩⟩
  exact (ds_cons (ds_for (passes_of rfl) rfl (di_val (de_v 1)) (pg_nm S.nd (i := 3) rfl (by first | exact Or.inl rfl | exact Or.inr rfl)) (ds_cons (ds_asg S.nd (i := 4) rfl (by first | exact Or.inl rfl | exact Or.inr rfl) (de_tabIx (fun l => Dl.Hd.tokL_no l) (hu_rm hr) (de_v 0) (de_T cd_tuple (He.free_ok X G (c.fact 45 rfl)) (da_cons (de_lc (own := [("k", 5)]) (by rfl) S.nd (di_val (de_v 1)) (blkOk_by (by
      first
      | (show blkC ["table", "signs", "blanks", "sign", "found", "k"] (defScope s34) _ _ = true; decide +kernel)
      | rfl
      | kernel_rfl)) (fun _ _ _ _ _ => (pg_nm S.nd (i := 5) rfl (by first | exact Or.inl rfl | exact Or.inr rfl))) (fun _ _ _ _ _ => (dts_one (dt_cmp (od_neT (T := T0) (n := 1) Dl.takes0 (fun _ => rfl) (fun _ _ _ h => by cases h) (fun _ _ h => by cases h) (hr.mono (by decide))) (de_v 5) (de_v 3)))) (fun _ _ _ _ _ => (de_v 5)) rfl) da_nil))))
    (ds_cons (ds_if (dt_tru (de_B (cd_anyI (by rfl)) (He.free_ok X G (c.fact 34 rfl)) (da_cons (de_lc (own := [("k", 5)]) (by rfl) S.nd (di_val (de_tup (da_cons (de_v 3) (da_star (de_v 2) da_nil)))) (blkOk_by (by
      first
      | (show blkC ["table", "signs", "blanks", "sign", "found", "k"] (defScope s34) _ _ = true; decide +kernel)
      | rfl
      | kernel_rfl)) (fun _ _ _ _ _ => (pg_nm S.nd (i := 5) rfl (by first | exact Or.inl rfl | exact Or.inr rfl))) (fun _ _ _ _ _ => dts_nil) (fun _ _ _ _ _ => (de_op od_band (de_op od_shr (de_v 4) (de_v 5)) de_int)) rfl) da_nil))) (ds_cons (ds_ret de_bl)
    ds_nil) ds_nil)
    ds_nil)))
    (ds_cons (ds_ret de_bl)
    ds_nil))
theorem sc35 : FnScope ["script", "at", "cell"] ["script", "at"] (defScope s35) := ⟨rfl, rfl, rfl, by decide +kernel, rfl, by decide +kernel, by decide +kernel⟩
def t35 : TDS := (sSeq (sAsg 2 (dB bInt (aCons (dB bSum (aCons (dSl (dVar 0) (oSome (dVar 1)) (oSome (dBin oAdd (dVar 1) (dC (.int 1))))) aNil)) aNil)))
    (sSeq (sRetL (aCons (dBin oMul (dB bInt (aCons (dBin oGe (dVar 2) (dBin oPow (dC (.int 10)) (dC (.int 18)))) aNil)) (dBin oMod (dVar 2) (dBin oPow (dBin oPow (dC (.int 10)) (dC (.int 60))) (dC (.int 10))))) (aCons (dBin oMod (dVar 2) (dC (.int 2147483629))) (aCons (dBin oMul (dC (.int 1000)) (dVar 1)) aNil))))
    sNil))
def w35 : Wf := wPur (wnOf 2 3 t35)
theorem ok35 {P : Program} {w : World} {K : PySem.W.Frag} {h : Heap} {mg : Str → Option Value} {base : Heap} (X : K.In h) (G : h.Ns mainGlobals mg) (c : Says fa fn K) : ∃ fd, FnOk P w K mg base (L2.CX P w) 1 (d35.adr K) fd ["script", "at"] (spD K (ct K) w35) ∧ PySem.W.keepIn K (.ref (d35.adr K)) = true ∧ (∃ ds, Vals ((d35.dvs K).drop 0) ds ∧ Binds K fd ["script", "at"] ds) := by
  obtain ⟨fd, Fd⟩ := c.fun_ 35 (d := d35) rfl

  have S := sc35
  refine ⟨fd, purse_tok (fun _ => rfl) (fn_n Fd S rfl rfl (fun cdv A outer s H E hr => ?_)), Fd.kp, ⟨[], .nil, FunD.bindsN Fd fun _ _ _ _ _ _ us hl => match us, hl with | [_, _], _ => rfl⟩⟩
  exact (ds_cons (ds_asg S.nd (i := 2) rfl (by first | exact Or.inl rfl | exact Or.inr rfl) (de_T cd_int (He.free_ok X G (c.fact 36 rfl)) (da_cons (de_B (cd_sum rfl) (He.free_ok X G (c.fact 44 rfl)) (da_cons (de_sl (de_v 0) (do_some (de_v 1)) (do_some (de_op od_add (de_v 1) de_int))) da_nil)) da_nil)))
    (ds_cons (ds_retL (da_cons (de_op od_mul (de_T cd_int (He.free_ok X G (c.fact 36 rfl)) (da_cons (de_cmp od_ge (de_v 2) (de_op od_pow de_int de_int)) da_nil)) (de_op od_mod (de_v 2) (de_op od_pow (de_op od_pow de_int de_int) de_int))) (da_cons (de_op od_mod (de_v 2) de_int) (da_cons (de_op od_mul de_int (de_v 1)) da_nil))))
    ds_nil))
theorem sc36 : FnScope ["purse", "many", "digit", "number"] ["purse", "many"] (defScope s36) := ⟨rfl, rfl, rfl, by decide +kernel, rfl, by decide +kernel, by decide +kernel⟩
theorem rd {K : PySem.W.Frag} {σ : St} {H : Hp} {Q : VK} {a : Addr} {xs : List V} {c : Int} {v : V} (h0 : σ[0]? = some (some (.ref a))) (ha : H a = some (.lst xs)) (hv : atI xs c = some v) (q : Q v H) : tOp (rIx K) (tVar 0) (tC (.int c)) σ H Q :=
  ⟨_, h0, .inl ⟨a, xs, c, v, rfl, rfl, SqL.of ha, hv, q⟩⟩
theorem cmul_r {i j : Int} (h : -(2 ^ 64) < j ∧ j < 2 ^ 64) : CMul i j := .inr h
theorem cmul_m {i n : Int} (hn : 0 < n) (h : n < 2 ^ 64) : CMul (i % n) (i % n) := .inl ⟨by have := Int.emod_nonneg i (Int.ne_of_gt hn); omega, by have := Int.emod_lt_of_pos i hn; omega⟩
theorem ok36 {P : Program} {w : World} {K : PySem.W.Frag} {h : Heap} {mg : Str → Option Value} {base : Heap} (X : K.In h) (G : h.Ns mainGlobals mg) (c : Says fa fn K) : ∃ fd, FnOk P w K mg base (L2.CX P w) 1 (d36.adr K) fd ["purse", "many"] (spD K (ct K) wDraw) ∧ PySem.W.keepIn K (.ref (d36.adr K)) = true ∧ (∃ ds, Vals ((d36.dvs K).drop 0) ds ∧ Binds K fd ["purse", "many"] ds) := by
  obtain ⟨fd, Fd⟩ := c.fun_ 36 (d := d36) rfl
  have S := sc36
  refine ⟨fd, draw_tok (fun _ => rfl) (Fd.ok S (fun vs H Q E h => ?_) (fun cdv A outer s H vs Q E hr h => ⟨_, pss_cons (ps_if (pt_cmpR op_gt (pe_ix ix_seq (pv 0) pe_int fun _ _ => rfl) pe_int (nomark _)) (pss_cons (ps_set (i := 2) S.nd rfl (Or.inl rfl) (pe_op op_mod (pe_ix ix_seq (pv 0) pe_int fun _ _ => rfl) (pv 1)))
      (pss_cons (ps_asg (pe_op op_fdivW (pe_ix ix_seq (pv 0) pe_int fun _ _ => rfl) (pv 1)) (pg_sub (pv 0) pe_int set_list)) (pss_one (ps_ret (pv 2))))) pss_nil)
    (pss_cons (ps_asg (pe_op op_add (pe_ix ix_seq (pv 0) pe_int fun _ _ => rfl) pe_int) (pg_sub (pv 0) pe_int set_list))
    (pss_cons (ps_set (i := 3) S.nd rfl (Or.inl rfl) (pe_op op_mod (pe_op op_add (pe_op op_add (pe_op op_mul (pe_ix ix_seq (pv 0) pe_int fun _ _ => rfl) pe_int) (pe_op op_mul (pe_ix ix_seq (pv 0) pe_int fun _ _ => rfl) pe_int)) pe_int) pe_int))
    (pss_cons (ps_set (i := 3) S.nd rfl (Or.inl rfl) (pe_op op_mod (pe_op op_add (pe_op op_mul (pv 3) (pv 3)) (pe_ix ix_seq (pv 0) pe_int fun _ _ => rfl)) pe_int))
    (pss_cons (ps_set (i := 3) S.nd rfl (Or.inl rfl) (pe_op op_mod (pe_op op_add (pe_op op_mul (pv 3) (pv 3)) pe_int) pe_int))
    (pss_one (ps_ret (pe_op op_mod (pe_op op_fdivW (pv 3) pe_int) (pv 1)))))))), ?_⟩)) rfl, Fd.kp, ⟨[], .nil, FunD.bindsN Fd fun _ _ _ _ _ _ us hl => match us, hl with | [_, _], _ => rfl⟩⟩
  · obtain ⟨a, i, j, k, m, rfl, _⟩ := h
    rfl
  · obtain ⟨a, i, j, k, m, rfl, ha, hm, hl, q⟩ := h
    have e0 : L2.start ["purse", "many", "digit", "number"] [V.ref a, V.int m] = [some (.ref a), some (.int m), none, none] := rfl
    rw [e0]
    refine rd rfl ha rfl ⟨_, _, rfl, rfl, decide (0 < i), rfl, ?_⟩
    show if decide (0 < i) = true then _ else _
    by_cases hi : 0 < i
    · rw [if_pos (decide_eq_true hi)]
      refine rd rfl ha rfl ⟨_, rfl, i, m, rfl, rfl, hm, ?_⟩
      refine rd rfl ha rfl ⟨_, rfl, i, m, rfl, rfl, ⟨hm, hl⟩, ?_⟩
      refine ⟨_, rfl, a, _, 0, 0, rfl, rfl, ha, rfl, ?_⟩
      exact ⟨_, rfl, q _ _ _ _ (Int.emod_nonneg _ (Int.ne_of_gt hm)) (Int.emod_lt_of_pos _ hm)⟩
    · rw [if_neg (by simpa using hi)]
      refine rd rfl ha rfl ⟨_, _, rfl, rfl, ?_⟩
      refine ⟨_, rfl, a, _, 2, 2, rfl, rfl, ha, rfl, ?_⟩
      have ha2 : (upd H a (.lst [.int i, .int j, .int (k + 1)])) a = some (.lst [.int i, .int j, .int (k + 1)]) := upd_same
      refine rd rfl ha2 rfl ⟨_, _, rfl, rfl, cmul_r (by decide), ?_⟩
      refine rd rfl ha2 rfl ⟨_, _, rfl, rfl, cmul_r (by decide), ?_⟩
      refine ⟨_, _, rfl, rfl, _, _, rfl, rfl, _, _, rfl, rfl, (by show (0 : Int) < _; decide), ?_⟩
      refine ⟨_, rfl, _, rfl, _, _, rfl, rfl, cmul_m (by decide) (by decide), ?_⟩
      refine rd rfl ha2 rfl ⟨_, _, rfl, rfl, _, _, rfl, rfl, (by show (0 : Int) < _; decide), ?_⟩
      refine ⟨_, rfl, _, rfl, _, _, rfl, rfl, cmul_m (by decide) (by decide), _, _, rfl, rfl, _, _, rfl, rfl, (by show (0 : Int) < _; decide), ?_⟩
      refine ⟨_, rfl, _, _, rfl, rfl, ⟨by decide, by decide⟩, _, rfl, _, _, rfl, rfl, hm, ?_⟩
      exact q _ _ _ _ (Int.emod_nonneg _ (Int.ne_of_gt hm)) (Int.emod_lt_of_pos _ hm)
theorem sc37 : FnScope ["purse", "sizes", "most", "found", "turn", "kind"] ["purse", "sizes", "most"] (defScope s37) := ⟨rfl, rfl, rfl, by decide +kernel, rfl, by decide +kernel, by decide +kernel⟩
def t37 : TDS := (sSeq (sOwn 3 aNil)
    (sSeq (sFor (iR1 (aCons (dCall wDraw [] (aCons (dVar 0) (aCons (dBin oAdd (dVar 2) (dC (.int 1))) aNil))) aNil)) (.nm 4) (sSeq (sAsg 5 (dBin oIx (dLst (aCons (dC (.str "keep")) (aCons (dC (.str "keep")) (aCons (dC (.str "dig")) (aCons (dC (.str "dig")) (aCons (dC (.str "lean")) (aCons (dC (.str "full")) aNil))))))) (dCall wDraw [] (aCons (dVar 0) (aCons (dC (.int 6)) aNil)))))
    (sSeq (sApp 3 (dTup (aCons (dVar 5) (aCons (dBin oIx (dVar 1) (dCall wDraw [] (aCons (dVar 0) (aCons (dB (bLenO (fun n => if n = 8 then some w16 else none)) (aCons (dVar 1) aNil)) aNil)))) aNil))))
    sNil)))
    (sSeq (sRetOwn 3)
    sNil)))
def w37 : Wf := wfOf 3 6 t37
theorem ok37 {P : Program} {w : World} {K : PySem.W.Frag} {h : Heap} {mg : Str → Option Value} {base : Heap} (X : K.In h) (G : h.Ns mainGlobals mg) (c : Says fa fn K) : ∃ fd, FnOk P w K mg base (L2.CX P w) 3 (d37.adr K) fd ["purse", "sizes", "most"] (spD K (ct K) w37) ∧ PySem.W.keepIn K (.ref (d37.adr K)) = true ∧ (∃ ds, Vals ((d37.dvs K).drop 0) ds ∧ Binds K fd ["purse", "sizes", "most"] ds) := by
  obtain ⟨fd, Fd⟩ := c.fun_ 37 (d := d37) rfl
  obtain ⟨fd36, F36, kp36, ⟨db36_0, b36_0⟩⟩ := ok36 (P := P) (w := w) (base := base) X G c
  have f36 := And.intro F36 (And.intro kp36 trivial)
  have f36b0 := b36_0
  obtain ⟨fd16, F16, kp16, ⟨db16_0, b16_0⟩⟩ := ok16 (P := P) (w := w) (base := base) X G c
  have f16 := And.intro F16 (And.intro kp16 trivial)
  have f16b0 := b16_0
  have S := sc37
  refine ⟨fd, fn_d Fd S rfl rfl (fun cdv A outer s H E hr => ?_), Fd.kp, ⟨[], .nil, FunD.bindsN Fd fun _ _ _ _ _ _ us hl => match us, hl with | [_, _, _], _ => rfl⟩⟩
  exact (ds_cons (ds_own S.nd (i := 3) rfl (by first | exact Or.inl rfl | exact Or.inr rfl) da_nil)
    (ds_cons (ds_for (passes_of rfl) rfl (di_r1 (by rfl) (He.free_ok X G (c.fact 42 rfl)) (da_cons (de_call f36.1 (hr.mono (by decide)) (He.glo_ok X G (c.fact 22 rfl)) f36.2.1 f36b0.2 f36b0.1 (konst_of rfl rfl) (takes_of rfl rfl rfl rfl) (da_cons (de_v 0) (da_cons (de_op od_add (de_v 2) de_int) da_nil))) da_nil)) (pg_nm S.nd (i := 4) rfl (by first | exact Or.inl rfl | exact Or.inr rfl)) (ds_cons (ds_asg S.nd (i := 5) rfl (by first | exact Or.inl rfl | exact Or.inr rfl) (de_ix (de_lst (da_cons de_str (da_cons de_str (da_cons de_str (da_cons de_str (da_cons de_str (da_cons de_str da_nil))))))) (de_call f36.1 (hr.mono (by decide)) (He.glo_ok X G (c.fact 22 rfl)) f36.2.1 f36b0.2 f36b0.1 (konst_of rfl rfl) (takes_of rfl rfl rfl rfl) (da_cons (de_v 0) (da_cons de_int da_nil)))))
    (ds_cons (ds_app (i := 3) (pe_bm PySem.F.plainAttrs_list PySem.F.slot_list_append PySem.F.type_list_append mt_append (pe_var (i := 3) rfl (by first | exact Or.inl rfl | exact Or.inr (Or.inl rfl) | exact Or.inr (Or.inr rfl))) (pa_cons (de_tup (da_cons (de_v 5) (da_cons (de_ix (de_v 1) (de_call f36.1 (hr.mono (by decide)) (He.glo_ok X G (c.fact 22 rfl)) f36.2.1 f36b0.2 f36b0.1 (konst_of rfl rfl) (takes_of rfl rfl rfl rfl) (da_cons (de_v 0) (da_cons (de_B (cd_lenO rfl (fun n wf h => by
      try dsimp only at h
      split at h
      · rename_i en; subst en; cases h; exact ⟨⟨_, _, _, _, _, He.meth_ok (c.fact 75 rfl), f16.1, f16b0.1, f16b0.2, (hr.mono (by decide))⟩⟩
      cases h)) (He.free_ok X G (c.fact 39 rfl)) (da_cons (de_v 1) da_nil)) da_nil)))) da_nil))) pa_nil)))
    ds_nil)))
    (ds_cons (ds_retOwn (pe_var (i := 3) rfl (by first | exact Or.inl rfl | exact Or.inr (Or.inl rfl) | exact Or.inr (Or.inr rfl))))
    ds_nil)))
def TQ : EqT := (fun n => if n = 4 then some (1, w4) else if n = 5 then some (2, w7) else if n = 6 then some (2, w10) else if n = 7 then some (2, w13) else if n = 8 then some (7, w18) else none)
theorem hTQ : ∀ c, (TQ c).isSome = true → hasE c = true ∧ c < cn.length := by
  intro n h
  unfold TQ at h
  try dsimp only at h
  split at h
  · rename_i en; subst en; exact ⟨rfl, by decide⟩
  split at h
  · rename_i en; subst en; exact ⟨rfl, by decide⟩
  split at h
  · rename_i en; subst en; exact ⟨rfl, by decide⟩
  split at h
  · rename_i en; subst en; exact ⟨rfl, by decide⟩
  split at h
  · rename_i en; subst en; exact ⟨rfl, by decide⟩
  cases h
theorem etK {P : Program} {w : World} {K : PySem.W.Frag} {h : Heap} {mg : Str → Option Value} {base : Heap} (X : K.In h) (G : h.Ns mainGlobals mg) (c : Says fa fn K) (Y : Cx) (e1 : Y.prog = P) (e2 : Y.w = w) (e3 : Y.K = K) (e4 : Y.mg = mg) (e5 : Y.base = base) : ∀ n k wf, TQ n = some (k, wf) → EqAtO Y (ct K) TQ n k wf := by
  intro n k wf h
  subst e1 e2 e3 e4 e5
  unfold TQ at h
  try dsimp only at h
  split at h
  · rename_i en; subst en; cases h
    obtain ⟨fd, F, kp, ⟨ds, rd, b⟩⟩ := ok4 (P := Y.prog) (w := Y.w) (base := Y.base) X G c
    cases rd
    exact (eqB_ok (nm := nm) (c.fact 98 rfl) TQ hTQ).2 Y _ _ 4 rfl rfl ⟨fd, _, F, b⟩
  split at h
  · rename_i en; subst en; cases h
    obtain ⟨fd, F, kp, ⟨ds, rd, b⟩⟩ := ok7 (P := Y.prog) (w := Y.w) (base := Y.base) X G c
    cases rd
    exact (eqB_ok (nm := nm) (c.fact 98 rfl) TQ hTQ).2 Y _ _ 5 rfl rfl ⟨fd, _, F, b⟩
  split at h
  · rename_i en; subst en; cases h
    obtain ⟨fd, F, kp, ⟨ds, rd, b⟩⟩ := ok10 (P := Y.prog) (w := Y.w) (base := Y.base) X G c
    cases rd
    exact (eqB_ok (nm := nm) (c.fact 98 rfl) TQ hTQ).2 Y _ _ 6 rfl rfl ⟨fd, _, F, b⟩
  split at h
  · rename_i en; subst en; cases h
    obtain ⟨fd, F, kp, ⟨ds, rd, b⟩⟩ := ok13 (P := Y.prog) (w := Y.w) (base := Y.base) X G c
    cases rd
    exact (eqB_ok (nm := nm) (c.fact 98 rfl) TQ hTQ).2 Y _ _ 7 rfl rfl ⟨fd, _, F, b⟩
  split at h
  · rename_i en; subst en; cases h
    obtain ⟨fd, F, kp, ⟨ds, rd, b⟩⟩ := ok18 (P := Y.prog) (w := Y.w) (base := Y.base) X G c
    cases rd
    exact (eqB_ok (nm := nm) (c.fact 98 rfl) TQ hTQ).2 Y _ _ 8 rfl rfl ⟨fd, _, F, b⟩
  cases h
theorem apK {K : PySem.W.Frag} (c : Says fa fn K) : ApartT TQ (ct K) := (eqB_ok (nm := nm) (c.fact 98 rfl) TQ hTQ).1
theorem sc40 : FnScope ["sizes", "found", "size", "more", "turn"] ["sizes"] (defScope s40) := ⟨rfl, rfl, rfl, by decide +kernel, rfl, by decide +kernel, by decide +kernel⟩
def t40 : TDS := (sSeq (sAsg 1 (dC (.int 1)))
    (sSeq (sFor (iVal (dVar 0)) (.nm 2) (sSeq (sAsg 3 (dVar 1))
    (sSeq (sFor (iR1 (aCons (dVar 2) aNil)) (.nm 4) (sSeq (sIf (tVal (dBin (oNeT TQ 10) (dBin oMod (dVar 3) (dVar 2)) (dC (.int 0)))) (sSeq (sAsg 3 (dBin oAdd (dVar 3) (dVar 1)))
    sNil) sNil)
    sNil))
    (sSeq (sAsg 1 (dVar 3))
    sNil))))
    (sSeq (sRet (dVar 1))
    sNil)))
def w40 : Wf := wfOf 1 5 t40
theorem ok40 {P : Program} {w : World} {K : PySem.W.Frag} {h : Heap} {mg : Str → Option Value} {base : Heap} (X : K.In h) (G : h.Ns mainGlobals mg) (c : Says fa fn K) : ∃ fd, FnOk P w K mg base (L2.CX P w) 12 (d40.adr K) fd ["sizes"] (spD K (ct K) w40) ∧ PySem.W.keepIn K (.ref (d40.adr K)) = true ∧ (∃ ds, Vals ((d40.dvs K).drop 0) ds ∧ Binds K fd ["sizes"] ds) := by
  obtain ⟨fd, Fd⟩ := c.fun_ 40 (d := d40) rfl

  have S := sc40
  refine ⟨fd, fn_d Fd S rfl rfl (fun cdv A outer s H E hr => ?_), Fd.kp, ⟨[], .nil, FunD.bindsN Fd fun _ _ _ _ _ _ us hl => match us, hl with | [_], _ => rfl⟩⟩
  exact (ds_cons (ds_asg S.nd (i := 1) rfl (by first | exact Or.inl rfl | exact Or.inr rfl) de_int)
    (ds_cons (ds_for (passes_of rfl) rfl (di_val (de_v 0)) (pg_nm S.nd (i := 2) rfl (by first | exact Or.inl rfl | exact Or.inr rfl)) (ds_cons (ds_asg S.nd (i := 3) rfl (by first | exact Or.inl rfl | exact Or.inr rfl) (de_v 1))
    (ds_cons (ds_for (passes_of rfl) rfl (di_r1 (by rfl) (He.free_ok X G (c.fact 42 rfl)) (da_cons (de_v 2) da_nil)) (pg_nm S.nd (i := 4) rfl (by first | exact Or.inl rfl | exact Or.inr rfl)) (ds_cons (ds_if (dt_cmp (od_neT (T := TQ) (n := 10) (takes_of rfl rfl rfl rfl) (fun _ => rfl) (etK X G c _ rfl rfl rfl rfl rfl) (apK c) (hr.mono (by decide))) (de_op od_mod (de_v 3) (de_v 2)) de_int) (ds_cons (ds_asg S.nd (i := 3) rfl (by first | exact Or.inl rfl | exact Or.inr rfl) (de_op od_add (de_v 3) (de_v 1)))
    ds_nil) ds_nil)
    ds_nil))
    (ds_cons (ds_asg S.nd (i := 1) rfl (by first | exact Or.inl rfl | exact Or.inr rfl) (de_v 3))
    ds_nil))))
    (ds_cons (ds_ret (de_v 1))
    ds_nil)))
theorem sc41 : FnScope ["steps", "step"] ["steps"] (defScope s41) := ⟨rfl, rfl, rfl, by decide +kernel, rfl, by decide +kernel, by decide +kernel⟩
def t41 : TDS := (sSeq (sRet (dLc (iVal (dVar 0)) (.nm 1) (tVal (dBin (oNeT TQ 10) (dBin oIx (dVar 1) (dC (.int 0))) (dC (.str "full")))) (dBin oIx (dVar 1) (dC (.int 1))) [1]))
    sNil)
def w41 : Wf := wfOf 1 2 t41
theorem ok41 {P : Program} {w : World} {K : PySem.W.Frag} {h : Heap} {mg : Str → Option Value} {base : Heap} (X : K.In h) (G : h.Ns mainGlobals mg) (c : Says fa fn K) : ∃ fd, FnOk P w K mg base (L2.CX P w) 12 (d41.adr K) fd ["steps"] (spD K (ct K) w41) ∧ PySem.W.keepIn K (.ref (d41.adr K)) = true ∧ (∃ ds, Vals ((d41.dvs K).drop 0) ds ∧ Binds K fd ["steps"] ds) := by
  obtain ⟨fd, Fd⟩ := c.fun_ 41 (d := d41) rfl

  have S := sc41
  refine ⟨fd, fn_d Fd S rfl rfl (fun cdv A outer s H E hr => ?_), Fd.kp, ⟨[], .nil, FunD.bindsN Fd fun _ _ _ _ _ _ us hl => match us, hl with | [_], _ => rfl⟩⟩
  exact (ds_cons (ds_ret (de_lc (own := [("step", 1)]) (by rfl) S.nd (di_val (de_v 0)) (blkOk_by (by
      first
      | (show blkC ["steps", "step"] (defScope s41) _ _ = true; decide +kernel)
      | rfl
      | kernel_rfl)) (fun _ _ _ _ _ => (pg_nm S.nd (i := 1) rfl (by first | exact Or.inl rfl | exact Or.inr rfl))) (fun _ _ _ _ _ => (dts_one (dt_cmp (od_neT (T := TQ) (n := 10) Dl.takes0 (fun _ => rfl) (etK X G c _ rfl rfl rfl rfl rfl) (apK c) (hr.mono (by decide))) (de_ix (de_v 1) de_int) de_str))) (fun _ _ _ _ _ => (de_ix (de_v 1) de_int)) rfl))
    ds_nil)
theorem sc42 : FnScope ["purse", "sizes", "most", "found", "many", "step"] ["purse", "sizes", "most"] (defScope s42) := ⟨rfl, rfl, rfl, by decide +kernel, rfl, by decide +kernel, by decide +kernel⟩
def t42 : TDS := (sSeq (sPar2E 3 4 (aCons (dLst aNil) (aCons (dC (.int 0)) aNil)))
    (sSeq (sFor (iVal (dCall w37 [] (aCons (dVar 0) (aCons (dVar 1) (aCons (dVar 2) aNil))))) (.nm 5) (sSeq (sAugI 4 (dB bInt (aCons (dBin oIn (dBin oIx (dVar 5) (dC (.int 0))) (dTup (aCons (dC (.str "dig")) (aCons (dC (.str "lean")) aNil)))) aNil)))
    (sSeq (sIf (tOrD (tVal (dBin oLe (dVar 4) (dC (.int 3)))) (tVal (dBin oIn (dBin oIx (dVar 5) (dC (.int 0))) (dTup (aCons (dC (.str "keep")) (aCons (dC (.str "full")) aNil)))))) (sSeq (sApp 3 (dVar 5))
    sNil) sNil)
    sNil)))
    (sSeq (sRetOwn 3)
    sNil)))
def w42 : Wf := wfOf 3 6 t42
theorem ok42 {P : Program} {w : World} {K : PySem.W.Frag} {h : Heap} {mg : Str → Option Value} {base : Heap} (X : K.In h) (G : h.Ns mainGlobals mg) (c : Says fa fn K) : ∃ fd, FnOk P w K mg base (L2.CX P w) 4 (d42.adr K) fd ["purse", "sizes", "most"] (spD K (ct K) w42) ∧ PySem.W.keepIn K (.ref (d42.adr K)) = true ∧ (∃ ds, Vals ((d42.dvs K).drop 0) ds ∧ Binds K fd ["purse", "sizes", "most"] ds) := by
  obtain ⟨fd, Fd⟩ := c.fun_ 42 (d := d42) rfl
  obtain ⟨fd37, F37, kp37, ⟨db37_0, b37_0⟩⟩ := ok37 (P := P) (w := w) (base := base) X G c
  have f37 := And.intro F37 (And.intro kp37 trivial)
  have f37b0 := b37_0
  have S := sc42
  refine ⟨fd, fn_d Fd S rfl rfl (fun cdv A outer s H E hr => ?_), Fd.kp, ⟨[], .nil, FunD.bindsN Fd fun _ _ _ _ _ _ us hl => match us, hl with | [_, _, _], _ => rfl⟩⟩
  exact (ds_cons (ds_par2E (i := 3) (j := 4) rfl S.nd rfl rfl rfl rfl (da_cons (de_lst da_nil) (da_cons de_int da_nil)))
    (ds_cons (ds_for (passes_of rfl) rfl (di_val (de_call f37.1 (hr.mono (by decide)) (He.glo_ok X G (c.fact 23 rfl)) f37.2.1 f37b0.2 f37b0.1 (konst_of rfl rfl) (takes_of rfl rfl rfl rfl) (da_cons (de_v 0) (da_cons (de_v 1) (da_cons (de_v 2) da_nil))))) (pg_nm S.nd (i := 5) rfl (by first | exact Or.inl rfl | exact Or.inr rfl)) (ds_cons (ds_augI S.nd (i := 4) rfl (by first | exact Or.inl rfl | exact Or.inr rfl) (de_T cd_int (He.free_ok X G (c.fact 36 rfl)) (da_cons (de_cmp od_in (de_ix (de_v 5) de_int) (de_tup (da_cons de_str (da_cons de_str da_nil)))) da_nil)))
    (ds_cons (ds_if (dt_w (dw_or (dt_cmp od_le (de_v 4) de_int) (dw_or1 (dt_cmp od_in (de_ix (de_v 5) de_int) (de_tup (da_cons de_str (da_cons de_str da_nil))))))) (ds_cons (ds_app (i := 3) (pe_bm PySem.F.plainAttrs_list PySem.F.slot_list_append PySem.F.type_list_append mt_append (pe_var (i := 3) rfl (by first | exact Or.inl rfl | exact Or.inr (Or.inl rfl) | exact Or.inr (Or.inr rfl))) (pa_cons (de_v 5) pa_nil)))
    ds_nil) ds_nil)
    ds_nil)))
    (ds_cons (ds_retOwn (pe_var (i := 3) rfl (by first | exact Or.inl rfl | exact Or.inr (Or.inl rfl) | exact Or.inr (Or.inr rfl))))
    ds_nil)))
theorem sc43 : FnScope ["purse", "rows"] ["purse"] (defScope s43) := ⟨rfl, rfl, rfl, by decide +kernel, rfl, by decide +kernel, by decide +kernel⟩
def t43 : TDS := (sSeq (sAsg 1 (dLst (aCons (dLst (aCons (dC (.int 1)) (aCons (dC (.int 2)) (aCons (dC (.int 4)) (aCons (dC (.int 8)) aNil))))) (aCons (dLst (aCons (dC (.int 1)) (aCons (dC (.int 2)) (aCons (dC (.int 3)) (aCons (dC (.int 6)) aNil))))) (aCons (dLst (aCons (dC (.int 2)) (aCons (dC (.int 3)) (aCons (dC (.int 4)) (aCons (dC (.int 12)) aNil))))) (aCons (dLst (aCons (dC (.int 2)) (aCons (dC (.int 6)) (aCons (dC (.int 8)) aNil)))) (aCons (dLst (aCons (dC (.int 3)) (aCons (dC (.int 9)) aNil))) (aCons (dLst (aCons (dC (.int 4)) (aCons (dC (.int 6)) (aCons (dC (.int 8)) (aCons (dC (.int 24)) aNil))))) (aCons (dLst (aCons (dC (.int 1)) (aCons (dC (.int 5)) (aCons (dC (.int 10)) aNil)))) aNil)))))))))
    (sSeq (sRet (dBin oIx (dVar 1) (dCall wDraw [] (aCons (dVar 0) (aCons (dB (bLenO (fun n => if n = 8 then some w16 else none)) (aCons (dVar 1) aNil)) aNil)))))
    sNil))
def w43 : Wf := wfOf 1 2 t43
theorem ok43 {P : Program} {w : World} {K : PySem.W.Frag} {h : Heap} {mg : Str → Option Value} {base : Heap} (X : K.In h) (G : h.Ns mainGlobals mg) (c : Says fa fn K) : ∃ fd, FnOk P w K mg base (L2.CX P w) 3 (d43.adr K) fd ["purse"] (spD K (ct K) w43) ∧ PySem.W.keepIn K (.ref (d43.adr K)) = true ∧ (∃ ds, Vals ((d43.dvs K).drop 0) ds ∧ Binds K fd ["purse"] ds) := by
  obtain ⟨fd, Fd⟩ := c.fun_ 43 (d := d43) rfl
  obtain ⟨fd36, F36, kp36, ⟨db36_0, b36_0⟩⟩ := ok36 (P := P) (w := w) (base := base) X G c
  have f36 := And.intro F36 (And.intro kp36 trivial)
  have f36b0 := b36_0
  obtain ⟨fd16, F16, kp16, ⟨db16_0, b16_0⟩⟩ := ok16 (P := P) (w := w) (base := base) X G c
  have f16 := And.intro F16 (And.intro kp16 trivial)
  have f16b0 := b16_0
  have S := sc43
  refine ⟨fd, fn_d Fd S rfl rfl (fun cdv A outer s H E hr => ?_), Fd.kp, ⟨[], .nil, FunD.bindsN Fd fun _ _ _ _ _ _ us hl => match us, hl with | [_], _ => rfl⟩⟩
  exact (ds_cons (ds_asg S.nd (i := 1) rfl (by first | exact Or.inl rfl | exact Or.inr rfl) (de_lst (da_cons (de_lst (da_cons de_int (da_cons de_int (da_cons de_int (da_cons de_int da_nil))))) (da_cons (de_lst (da_cons de_int (da_cons de_int (da_cons de_int (da_cons de_int da_nil))))) (da_cons (de_lst (da_cons de_int (da_cons de_int (da_cons de_int (da_cons de_int da_nil))))) (da_cons (de_lst (da_cons de_int (da_cons de_int (da_cons de_int da_nil)))) (da_cons (de_lst (da_cons de_int (da_cons de_int da_nil))) (da_cons (de_lst (da_cons de_int (da_cons de_int (da_cons de_int (da_cons de_int da_nil))))) (da_cons (de_lst (da_cons de_int (da_cons de_int (da_cons de_int da_nil)))) da_nil)))))))))
    (ds_cons (ds_ret (de_ix (de_v 1) (de_call f36.1 (hr.mono (by decide)) (He.glo_ok X G (c.fact 22 rfl)) f36.2.1 f36b0.2 f36b0.1 (konst_of rfl rfl) (takes_of rfl rfl rfl rfl) (da_cons (de_v 0) (da_cons (de_B (cd_lenO rfl (fun n wf h => by
      try dsimp only at h
      split at h
      · rename_i en; subst en; cases h; exact ⟨⟨_, _, _, _, _, He.meth_ok (c.fact 75 rfl), f16.1, f16b0.1, f16b0.2, (hr.mono (by decide))⟩⟩
      cases h)) (He.free_ok X G (c.fact 39 rfl)) (da_cons (de_v 1) da_nil)) da_nil)))))
    ds_nil))
theorem sc44 : FnScope ["rows", "far", "cell", "signs", "blanks"] ["rows", "far"] (defScope s44) := ⟨rfl, rfl, rfl, by decide +kernel, rfl, by decide +kernel, by decide +kernel⟩
def t44 : TDS := (sSeq (sRet (dLc (iVal (dVar 0)) (.tp [3, 4]) tYesD (dTup (aCons (dLc (iVal (dVar 3)) (.nm 2) tYesD (dBin oAdd (dVar 2) (dVar 1)) [2]) (aCons (dLc (iVal (dVar 4)) (.nm 2) tYesD (dBin oAdd (dVar 2) (dVar 1)) [2]) aNil))) [3, 4]))
    sNil)
def w44 : Wf := wfOf 2 5 t44
theorem ok44 {P : Program} {w : World} {K : PySem.W.Frag} {h : Heap} {mg : Str → Option Value} {base : Heap} (X : K.In h) (G : h.Ns mainGlobals mg) (c : Says fa fn K) : ∃ fd, FnOk P w K mg base (L2.CX P w) 1 (d44.adr K) fd ["rows", "far"] (spD K (ct K) w44) ∧ PySem.W.keepIn K (.ref (d44.adr K)) = true ∧ (∃ ds, Vals ((d44.dvs K).drop 0) ds ∧ Binds K fd ["rows", "far"] ds) := by
  obtain ⟨fd, Fd⟩ := c.fun_ 44 (d := d44) rfl

  have S := sc44
  refine ⟨fd, fn_d Fd S rfl rfl (fun cdv A outer s H E hr => ?_), Fd.kp, ⟨[], .nil, FunD.bindsN Fd fun _ _ _ _ _ _ us hl => match us, hl with | [_, _], _ => rfl⟩⟩
  exact (ds_cons (ds_ret (de_lc (own := [("signs", 3), ("blanks", 4)]) (by rfl) S.nd (di_val (de_v 0)) (blkOk_by (by
      first
      | (show blkC ["rows", "far", "cell", "signs", "blanks"] (defScope s44) _ _ = true; decide +kernel)
      | rfl
      | kernel_rfl)) (fun _ _ _ _ _ => (pg_tp2 rfl (pg_name S.nd (i := 3) rfl (by first | exact Or.inl rfl | exact Or.inr rfl)) (pg_name S.nd (i := 4) rfl (by first | exact Or.inl rfl | exact Or.inr rfl)))) (fun _ _ _ _ _ => dts_nil) (fun _ _ _ _ _ => (de_tup (da_cons (de_lc (own := [("cell", 2)]) (by rfl) S.nd (di_val (de_v 3)) (blkOk_by (by
      first
      | (show blkC ["rows", "far", "cell", "signs", "blanks"] (defScope s44) _ _ = true; decide +kernel)
      | rfl
      | kernel_rfl)) (fun _ _ _ _ _ => (pg_nm S.nd (i := 2) rfl (by first | exact Or.inl rfl | exact Or.inr rfl))) (fun _ _ _ _ _ => dts_nil) (fun _ _ _ _ _ => (de_op od_add (de_v 2) (de_v 1))) rfl) (da_cons (de_lc (own := [("cell", 2)]) (by rfl) S.nd (di_val (de_v 4)) (blkOk_by (by
      first
      | (show blkC ["rows", "far", "cell", "signs", "blanks"] (defScope s44) _ _ = true; decide +kernel)
      | rfl
      | kernel_rfl)) (fun _ _ _ _ _ => (pg_nm S.nd (i := 2) rfl (by first | exact Or.inl rfl | exact Or.inr rfl))) (fun _ _ _ _ _ => dts_nil) (fun _ _ _ _ _ => (de_op od_add (de_v 2) (de_v 1))) rfl) da_nil)))) rfl))
    ds_nil)
theorem sc5 : FnScope ["self", "size"] ["self", "size"] (defScope s5) := ⟨rfl, rfl, rfl, by decide +kernel, rfl, by decide +kernel, by decide +kernel⟩
def t5 : TDS := (sSeq (sDrop (dCall w24 [.non] (aCons (dVar 1) (aCons (dC (.int 1)) aNil))))
    (sSeq (sFld 5 0 "_size" (dVar 1))
    sNil))
def w5 : Wi := wiOf 5 1 1 t5
theorem ok5 {P : Program} {w : World} {K : PySem.W.Frag} {h : Heap} {mg : Str → Option Value} {base : Heap} (X : K.In h) (G : h.Ns mainGlobals mg) (c : Says fa fn K) : ∃ fd, FnOk P w K mg base (L2.CX P w) 4 (d5.adr K) fd ["self", "size"] (spI K (ct K) 5 w5) ∧ PySem.W.keepIn K (.ref (d5.adr K)) = true ∧ (∃ ds, Vals ((d5.dvs K).drop 0) ds ∧ Binds K fd ["self", "size"] ds) := by
  obtain ⟨fd, Fd⟩ := c.fun_ 5 (d := d5) rfl
  obtain ⟨fd24, F24, kp24, ⟨db24_0, b24_0⟩, ⟨db24_1, b24_1⟩⟩ := ok24 (P := P) (w := w) (base := base) X G c
  have f24 := And.intro F24 (And.intro kp24 trivial)
  have f24b0 := b24_0
  have f24b1 := b24_1
  have S := sc5
  refine ⟨fd, fn_i Fd S rfl rfl (fun gh cdv A outer s H E hr => ?_), Fd.kp, ⟨[], .nil, FunD.bindsN Fd fun _ _ _ _ _ _ us hl => match us, hl with | [_, _], _ => rfl⟩⟩
  exact (ds_cons (ds_drop (de_call (fn_w gh f24.1) (hr.mono (by decide)) (He.glo_ok X G (c.fact 10 rfl)) f24.2.1 f24b0.2 f24b0.1 (konst_of rfl rfl) (takes_of rfl rfl rfl rfl) (da_cons (de_v 1) (da_cons de_int da_nil))))
    (ds_cons (ds_fldc (c := 5) (pe_var (i := 0) rfl (Or.inl rfl)) (de_v 1) (He.cls_ok (c.fact 52 rfl)) (He.noat_ok (c.fact 54 rfl)))
    ds_nil))
theorem sc8 : FnScope ["self", "size"] ["self", "size"] (defScope s8) := ⟨rfl, rfl, rfl, by decide +kernel, rfl, by decide +kernel, by decide +kernel⟩
def t8 : TDS := (sSeq (sDrop (dCall w24 [.non] (aCons (dVar 1) (aCons (dC (.int 1)) aNil))))
    (sSeq (sFld 6 0 "_size" (dVar 1))
    sNil))
def w8 : Wi := wiOf 6 1 1 t8
theorem ok8 {P : Program} {w : World} {K : PySem.W.Frag} {h : Heap} {mg : Str → Option Value} {base : Heap} (X : K.In h) (G : h.Ns mainGlobals mg) (c : Says fa fn K) : ∃ fd, FnOk P w K mg base (L2.CX P w) 4 (d8.adr K) fd ["self", "size"] (spI K (ct K) 6 w8) ∧ PySem.W.keepIn K (.ref (d8.adr K)) = true ∧ (∃ ds, Vals ((d8.dvs K).drop 0) ds ∧ Binds K fd ["self", "size"] ds) := by
  obtain ⟨fd, Fd⟩ := c.fun_ 8 (d := d8) rfl
  obtain ⟨fd24, F24, kp24, ⟨db24_0, b24_0⟩, ⟨db24_1, b24_1⟩⟩ := ok24 (P := P) (w := w) (base := base) X G c
  have f24 := And.intro F24 (And.intro kp24 trivial)
  have f24b0 := b24_0
  have f24b1 := b24_1
  have S := sc8
  refine ⟨fd, fn_i Fd S rfl rfl (fun gh cdv A outer s H E hr => ?_), Fd.kp, ⟨[], .nil, FunD.bindsN Fd fun _ _ _ _ _ _ us hl => match us, hl with | [_, _], _ => rfl⟩⟩
  exact (ds_cons (ds_drop (de_call (fn_w gh f24.1) (hr.mono (by decide)) (He.glo_ok X G (c.fact 10 rfl)) f24.2.1 f24b0.2 f24b0.1 (konst_of rfl rfl) (takes_of rfl rfl rfl rfl) (da_cons (de_v 1) (da_cons de_int da_nil))))
    (ds_cons (ds_fldc (c := 6) (pe_var (i := 0) rfl (Or.inl rfl)) (de_v 1) (He.cls_ok (c.fact 58 rfl)) (He.noat_ok (c.fact 60 rfl)))
    ds_nil))
theorem sc11 : FnScope ["self", "size"] ["self", "size"] (defScope s11) := ⟨rfl, rfl, rfl, by decide +kernel, rfl, by decide +kernel, by decide +kernel⟩
def t11 : TDS := (sSeq (sDrop (dCall w24 [.non] (aCons (dVar 1) (aCons (dC (.int 1)) aNil))))
    (sSeq (sFld 7 0 "_size" (dVar 1))
    sNil))
def w11 : Wi := wiOf 7 1 1 t11
theorem ok11 {P : Program} {w : World} {K : PySem.W.Frag} {h : Heap} {mg : Str → Option Value} {base : Heap} (X : K.In h) (G : h.Ns mainGlobals mg) (c : Says fa fn K) : ∃ fd, FnOk P w K mg base (L2.CX P w) 4 (d11.adr K) fd ["self", "size"] (spI K (ct K) 7 w11) ∧ PySem.W.keepIn K (.ref (d11.adr K)) = true ∧ (∃ ds, Vals ((d11.dvs K).drop 0) ds ∧ Binds K fd ["self", "size"] ds) := by
  obtain ⟨fd, Fd⟩ := c.fun_ 11 (d := d11) rfl
  obtain ⟨fd24, F24, kp24, ⟨db24_0, b24_0⟩, ⟨db24_1, b24_1⟩⟩ := ok24 (P := P) (w := w) (base := base) X G c
  have f24 := And.intro F24 (And.intro kp24 trivial)
  have f24b0 := b24_0
  have f24b1 := b24_1
  have S := sc11
  refine ⟨fd, fn_i Fd S rfl rfl (fun gh cdv A outer s H E hr => ?_), Fd.kp, ⟨[], .nil, FunD.bindsN Fd fun _ _ _ _ _ _ us hl => match us, hl with | [_, _], _ => rfl⟩⟩
  exact (ds_cons (ds_drop (de_call (fn_w gh f24.1) (hr.mono (by decide)) (He.glo_ok X G (c.fact 10 rfl)) f24.2.1 f24b0.2 f24b0.1 (konst_of rfl rfl) (takes_of rfl rfl rfl rfl) (da_cons (de_v 1) (da_cons de_int da_nil))))
    (ds_cons (ds_fldc (c := 7) (pe_var (i := 0) rfl (Or.inl rfl)) (de_v 1) (He.cls_ok (c.fact 64 rfl)) (He.noat_ok (c.fact 66 rfl)))
    ds_nil))
theorem sc14 : FnScope ["self", "steps"] ["self", "steps"] (defScope s14) := ⟨rfl, rfl, rfl, by decide +kernel, rfl, by decide +kernel, by decide +kernel⟩
def t14 : TDS := (sSeq (sIf (tAndD (tVal (dBin oNotN (dVar 1) (dC .non))) (tNotD (tTru (dCall w27 [] (aCons (dVar 1) aNil))))) (sSeq (sRaise 2 (dVar 1))
    sNil) sNil)
    (sSeq (sFld 8 0 "_steps" (dIf (tVal (dBin oIsN (dVar 1) (dC .non))) (dTup aNil) (dB bTuple (aCons (dVar 1) aNil))))
    sNil))
def w14 : Wi := wiOf 8 1 1 t14
theorem ok14 {P : Program} {w : World} {K : PySem.W.Frag} {h : Heap} {mg : Str → Option Value} {base : Heap} (X : K.In h) (G : h.Ns mainGlobals mg) (c : Says fa fn K) : ∃ fd, FnOk P w K mg base (L2.CX P w) 3 (d14.adr K) fd ["self", "steps"] (spI K (ct K) 8 w14) ∧ PySem.W.keepIn K (.ref (d14.adr K)) = true ∧ (∃ ds, Vals ((d14.dvs K).drop 0) ds ∧ Binds K fd ["self", "steps"] ds) ∧ (∃ ds, Vals ((d14.dvs K).drop 1) ds ∧ Binds K fd ["self", "steps"] ds) := by
  obtain ⟨fd, Fd⟩ := c.fun_ 14 (d := d14) rfl
  obtain ⟨fd27, F27, kp27, ⟨db27_0, b27_0⟩⟩ := ok27 (P := P) (w := w) (base := base) X G c
  have f27 := And.intro F27 (And.intro kp27 trivial)
  have f27b0 := b27_0
  obtain ⟨fd1, f1⟩ := ok1 (P := P) (w := w) (base := base) X G c
  have S := sc14
  refine ⟨fd, fn_i Fd S rfl rfl (fun gh cdv A outer s H E hr => ?_), Fd.kp, FunD.binds1 (ps := ["self", "steps"]) Fd 1 0 (by intro z; cases z) rfl (fun _ _ _ _ _ _ _ us its hl hi => match us, hl, its, hi with | [_], _, [_], _ => ⟨_, rfl, (by first | rfl | kernel_rfl | with_unfolding_all rfl)⟩), FunD.binds1 (ps := ["self", "steps"]) Fd 2 1 (by intro z; cases z) rfl (fun _ _ _ _ _ _ _ us its hl hi => match us, hl, its, hi with | [_, _], _, [_], _ => ⟨_, rfl, (by first | rfl | kernel_rfl | with_unfolding_all rfl)⟩)⟩
  exact (ds_cons (ds_if (dt_w (dw_and (dt_cmp od_notN (de_v 1) de_non) (dw_and1 (dt_not (dt_tru (de_call (fn_w gh f27.1) (hr.mono (by decide)) (He.glo_ok X G (c.fact 13 rfl)) f27.2.1 f27b0.2 f27b0.1 (konst_of rfl rfl) (takes_of rfl rfl rfl rfl) (da_cons (de_v 1) da_nil))))))) (ds_cons (ds_raise rfl (takes_of rfl rfl rfl rfl) (exB_ok (c.fact 83 rfl)).1 (exB_ok (c.fact 83 rfl)).2.1 (exB_ok (c.fact 83 rfl)).2.2.1 rfl f1.1 (hr.mono (by decide)) f1.2.2 (He.glo_ok X G (c.fact 2 rfl)) (de_v 1))
    ds_nil) ds_nil)
    (ds_cons (ds_fldc (c := 8) (pe_var (i := 0) rfl (Or.inl rfl)) (de_if (dt_cmp od_isN (de_v 1) de_non) (de_tup da_nil) (de_T cd_tuple (He.free_ok X G (c.fact 45 rfl)) (da_cons (de_v 1) da_nil))) (He.cls_ok (c.fact 70 rfl)) (He.noat_ok (c.fact 72 rfl)))
    ds_nil))
theorem sc31 : FnScope ["step", "signs", "found", "always", "made", "begin", "end", "k"] ["step", "signs", "found", "always"] (defScope s31) := ⟨rfl, rfl, rfl, by decide +kernel, rfl, by decide +kernel, by decide +kernel⟩
def t31 : TDS := (sSeq (sIf (tTru (dB (bIsi subT) (aCons (dVar 0) (aCons (dC (.cls 4)) aNil)))) (sSeq (sRet (dBin oMul (dLst (aCons (dVar 3) aNil)) (dB (bLenO (fun n => if n = 8 then some w16 else none)) (aCons (dVar 2) aNil))))
    sNil) sNil)
    (sSeq (sOwn 4 aNil)
    (sSeq (sFor (iVal (dCall w25 [] (aCons (dB (bLenO (fun n => if n = 8 then some w16 else none)) (aCons (dVar 2) aNil)) (aCons (dProp (fun n => if n = 5 then some w6 else if n = 6 then some w9 else if n = 7 then some w12 else none) (dVar 0)) aNil)))) (.tp [5, 6]) (sSeq (sIf (tTru (dB (bIsi subT) (aCons (dVar 0) (aCons (dC (.cls 5)) aNil)))) (sSeq (sExt 4 (dBin oMul (dLst (aCons (dCall w32 [] (aCons (dSl (dVar 2) (oSome (dVar 5)) (oSome (dVar 6))) aNil)) aNil)) (dBin oSub (dVar 6) (dVar 5))))
    sNil) (sSeq (sIf (tNotD (tTru (dB bAny (aCons (dLc (iVal (dVar 1)) (.nm 7) tYesD (dCh2 oLe oLt (dVar 5) (dVar 7) (dVar 6)) [7]) aNil)))) (sSeq (sExt 4 (dBin oMul (dLst (aCons (dC (.int 0)) aNil)) (dBin oSub (dVar 6) (dVar 5))))
    sNil) (sSeq (sIf (tTru (dB (bIsi subT) (aCons (dVar 0) (aCons (dC (.cls 7)) aNil)))) (sSeq (sExt 4 (dSl (dVar 2) (oSome (dVar 5)) (oSome (dVar 6))))
    sNil) (sSeq (sExt 4 (dBin oMul (dLst (aCons (dVar 3) aNil)) (dBin oSub (dVar 6) (dVar 5))))
    sNil))
    sNil))
    sNil))
    sNil))
    (sSeq (sRetOwn 4)
    sNil))))
def w31 : Wf := wfOf 4 8 t31
theorem ok31 {P : Program} {w : World} {K : PySem.W.Frag} {h : Heap} {mg : Str → Option Value} {base : Heap} (X : K.In h) (G : h.Ns mainGlobals mg) (c : Says fa fn K) : ∃ fd, FnOk P w K mg base (L2.CX P w) 3 (d31.adr K) fd ["step", "signs", "found", "always"] (spD K (ct K) w31) ∧ PySem.W.keepIn K (.ref (d31.adr K)) = true ∧ (∃ ds, Vals ((d31.dvs K).drop 0) ds ∧ Binds K fd ["step", "signs", "found", "always"] ds) := by
  obtain ⟨fd, Fd⟩ := c.fun_ 31 (d := d31) rfl
  obtain ⟨fd16, F16, kp16, ⟨db16_0, b16_0⟩⟩ := ok16 (P := P) (w := w) (base := base) X G c
  have f16 := And.intro F16 (And.intro kp16 trivial)
  have f16b0 := b16_0
  obtain ⟨fd25, F25, kp25, ⟨db25_0, b25_0⟩⟩ := ok25 (P := P) (w := w) (base := base) X G c
  have f25 := And.intro F25 (And.intro kp25 trivial)
  have f25b0 := b25_0
  obtain ⟨fd6, F6, kp6, db6, rb6, bb6⟩ := ok6 (P := P) (w := w) (base := base) X G c
  cases rb6
  have f6 := And.intro F6 (And.intro kp6 bb6)
  obtain ⟨fd9, F9, kp9, db9, rb9, bb9⟩ := ok9 (P := P) (w := w) (base := base) X G c
  cases rb9
  have f9 := And.intro F9 (And.intro kp9 bb9)
  obtain ⟨fd12, F12, kp12, db12, rb12, bb12⟩ := ok12 (P := P) (w := w) (base := base) X G c
  cases rb12
  have f12 := And.intro F12 (And.intro kp12 bb12)
  obtain ⟨fd32, F32, kp32, ⟨db32_0, b32_0⟩⟩ := ok32 (P := P) (w := w) (base := base) X G c
  have f32 := And.intro F32 (And.intro kp32 trivial)
  have f32b0 := b32_0
  have S := sc31
  refine ⟨fd, fn_d Fd S rfl rfl (fun cdv A outer s H E hr => ?_), Fd.kp, ⟨[], .nil, FunD.bindsN Fd fun _ _ _ _ _ _ us hl => match us, hl with | [_, _, _, _], _ => rfl⟩⟩
  exact (ds_cons (ds_if (dt_tru (de_B (cd_isi (fun _ => rfl) (isiK c)) (He.free_ok X G (c.fact 37 rfl)) (da_cons (de_v 0) (da_cons (de_gcl (c := 4) (He.glo_ok X G (c.fact 4 rfl))) da_nil)))) (ds_cons (ds_ret (de_op od_mul (de_lst (da_cons (de_v 3) da_nil)) (de_B (cd_lenO rfl (fun n wf h => by
      try dsimp only at h
      split at h
      · rename_i en; subst en; cases h; exact ⟨⟨_, _, _, _, _, He.meth_ok (c.fact 75 rfl), f16.1, f16b0.1, f16b0.2, (hr.mono (by decide))⟩⟩
      cases h)) (He.free_ok X G (c.fact 39 rfl)) (da_cons (de_v 2) da_nil))))
    ds_nil) ds_nil)
    (ds_cons (ds_own S.nd (i := 4) rfl (by first | exact Or.inl rfl | exact Or.inr rfl) da_nil)
    (ds_cons (ds_for (passes_of rfl) rfl (di_val (de_call f25.1 (hr.mono (by decide)) (He.glo_ok X G (c.fact 11 rfl)) f25.2.1 f25b0.2 f25b0.1 (konst_of rfl rfl) (takes_of rfl rfl rfl rfl) (da_cons (de_B (cd_lenO rfl (fun n wf h => by
      try dsimp only at h
      split at h
      · rename_i en; subst en; cases h; exact ⟨⟨_, _, _, _, _, He.meth_ok (c.fact 75 rfl), f16.1, f16b0.1, f16b0.2, (hr.mono (by decide))⟩⟩
      cases h)) (He.free_ok X G (c.fact 39 rfl)) (da_cons (de_v 2) da_nil)) (da_cons (de_prop (de_v 0) (fun n wf h => by
      try dsimp only at h
      split at h
      · rename_i en; subst en; cases h; exact ⟨He.cls_ok (c.fact 52 rfl), _, _, _, _, _, prB_ok (c.fact 56 rfl), f6.1, (hr.mono (by decide)), f6.2.2⟩
      split at h
      · rename_i en; subst en; cases h; exact ⟨He.cls_ok (c.fact 58 rfl), _, _, _, _, _, prB_ok (c.fact 62 rfl), f9.1, (hr.mono (by decide)), f9.2.2⟩
      split at h
      · rename_i en; subst en; cases h; exact ⟨He.cls_ok (c.fact 64 rfl), _, _, _, _, _, prB_ok (c.fact 68 rfl), f12.1, (hr.mono (by decide)), f12.2.2⟩
      cases h)) da_nil)))) (pg_tp2 rfl (pg_name S.nd (i := 5) rfl (by first | exact Or.inl rfl | exact Or.inr rfl)) (pg_name S.nd (i := 6) rfl (by first | exact Or.inl rfl | exact Or.inr rfl))) (ds_cons (ds_if (dt_tru (de_B (cd_isi (fun _ => rfl) (isiK c)) (He.free_ok X G (c.fact 37 rfl)) (da_cons (de_v 0) (da_cons (de_gcl (c := 5) (He.glo_ok X G (c.fact 5 rfl))) da_nil)))) (ds_cons (ds_ext (i := 4) (pe_bm PySem.F.plainAttrs_list PySem.F.slot_list_extend PySem.F.type_list_extend mt_extend (pe_var (i := 4) rfl (by first | exact Or.inl rfl | exact Or.inr (Or.inl rfl) | exact Or.inr (Or.inr rfl))) (pa_cons (de_op od_mul (de_lst (da_cons (de_call f32.1 (hr.mono (by decide)) (He.glo_ok X G (c.fact 18 rfl)) f32.2.1 f32b0.2 f32b0.1 (konst_of rfl rfl) (takes_of rfl rfl rfl rfl) (da_cons (de_sl (de_v 2) (do_some (de_v 5)) (do_some (de_v 6))) da_nil)) da_nil)) (de_op od_sub (de_v 6) (de_v 5))) pa_nil)))
    ds_nil) (ds_cons (ds_if (dt_not (dt_tru (de_B (cd_any rfl) (He.free_ok X G (c.fact 34 rfl)) (da_cons (de_lc (own := [("k", 7)]) (by rfl) S.nd (di_val (de_v 1)) (blkOk_by (by
      first
      | (show blkC ["step", "signs", "found", "always", "made", "begin", "end", "k"] (defScope s31) _ _ = true; decide +kernel)
      | rfl
      | kernel_rfl)) (fun _ _ _ _ _ => (pg_nm S.nd (i := 7) rfl (by first | exact Or.inl rfl | exact Or.inr rfl))) (fun _ _ _ _ _ => dts_nil) (fun _ _ _ _ _ => (de_ch2 od_le od_lt (de_v 5) (de_v 7) (de_v 6))) rfl) da_nil)))) (ds_cons (ds_ext (i := 4) (pe_bm PySem.F.plainAttrs_list PySem.F.slot_list_extend PySem.F.type_list_extend mt_extend (pe_var (i := 4) rfl (by first | exact Or.inl rfl | exact Or.inr (Or.inl rfl) | exact Or.inr (Or.inr rfl))) (pa_cons (de_op od_mul (de_lst (da_cons de_int da_nil)) (de_op od_sub (de_v 6) (de_v 5))) pa_nil)))
    ds_nil) (ds_cons (ds_if (dt_tru (de_B (cd_isi (fun _ => rfl) (isiK c)) (He.free_ok X G (c.fact 37 rfl)) (da_cons (de_v 0) (da_cons (de_gcl (c := 7) (He.glo_ok X G (c.fact 7 rfl))) da_nil)))) (ds_cons (ds_ext (i := 4) (pe_bm PySem.F.plainAttrs_list PySem.F.slot_list_extend PySem.F.type_list_extend mt_extend (pe_var (i := 4) rfl (by first | exact Or.inl rfl | exact Or.inr (Or.inl rfl) | exact Or.inr (Or.inr rfl))) (pa_cons (de_sl (de_v 2) (do_some (de_v 5)) (do_some (de_v 6))) pa_nil)))
    ds_nil) (ds_cons (ds_ext (i := 4) (pe_bm PySem.F.plainAttrs_list PySem.F.slot_list_extend PySem.F.type_list_extend mt_extend (pe_var (i := 4) rfl (by first | exact Or.inl rfl | exact Or.inr (Or.inl rfl) | exact Or.inr (Or.inr rfl))) (pa_cons (de_op od_mul (de_lst (da_cons (de_v 3) da_nil)) (de_op od_sub (de_v 6) (de_v 5))) pa_nil)))
    ds_nil))
    ds_nil))
    ds_nil))
    ds_nil))
    (ds_cons (ds_retOwn (pe_var (i := 4) rfl (by first | exact Or.inl rfl | exact Or.inr (Or.inl rfl) | exact Or.inr (Or.inr rfl))))
    ds_nil))))
theorem sc38 : FnScope ["step"] ["step"] (defScope s38) := ⟨rfl, rfl, rfl, by decide +kernel, rfl, by decide +kernel, by decide +kernel⟩
def t38 : TDS := (sSeq (sIf (tVal (dBin (oEqT TQ 10) (dBin oIx (dVar 0) (dC (.int 0))) (dC (.str "full")))) (sSeq (sRet (dMake 4 (nm.getD 4 []) w3 [] aNil))
    sNil) sNil)
    (sSeq (sIf (tVal (dBin (oEqT TQ 10) (dBin oIx (dVar 0) (dC (.int 0))) (dC (.str "keep")))) (sSeq (sRet (dMake 5 (nm.getD 5 []) w5 [] (aCons (dBin oIx (dVar 0) (dC (.int 1))) aNil)))
    sNil) sNil)
    (sSeq (sIf (tVal (dBin (oEqT TQ 10) (dBin oIx (dVar 0) (dC (.int 0))) (dC (.str "lean")))) (sSeq (sRet (dMake 6 (nm.getD 6 []) w8 [] (aCons (dBin oIx (dVar 0) (dC (.int 1))) aNil)))
    sNil) sNil)
    (sSeq (sRet (dMake 7 (nm.getD 7 []) w11 [] (aCons (dBin oIx (dVar 0) (dC (.int 1))) aNil)))
    sNil))))
def w38 : Wf := wfOf 1 1 t38
theorem ok38 {P : Program} {w : World} {K : PySem.W.Frag} {h : Heap} {mg : Str → Option Value} {base : Heap} (X : K.In h) (G : h.Ns mainGlobals mg) (c : Says fa fn K) : ∃ fd, FnOk P w K mg base (L2.CX P w) 12 (d38.adr K) fd ["step"] (spD K (ct K) w38) ∧ PySem.W.keepIn K (.ref (d38.adr K)) = true ∧ (∃ ds, Vals ((d38.dvs K).drop 0) ds ∧ Binds K fd ["step"] ds) := by
  obtain ⟨fd, Fd⟩ := c.fun_ 38 (d := d38) rfl
  obtain ⟨fd3, F3, kp3, ⟨db3_0, b3_0⟩⟩ := ok3 (P := P) (w := w) (base := base) X G c
  have f3 := And.intro F3 (And.intro kp3 trivial)
  have f3b0 := b3_0
  obtain ⟨fd5, F5, kp5, ⟨db5_0, b5_0⟩⟩ := ok5 (P := P) (w := w) (base := base) X G c
  have f5 := And.intro F5 (And.intro kp5 trivial)
  have f5b0 := b5_0
  obtain ⟨fd8, F8, kp8, ⟨db8_0, b8_0⟩⟩ := ok8 (P := P) (w := w) (base := base) X G c
  have f8 := And.intro F8 (And.intro kp8 trivial)
  have f8b0 := b8_0
  obtain ⟨fd11, F11, kp11, ⟨db11_0, b11_0⟩⟩ := ok11 (P := P) (w := w) (base := base) X G c
  have f11 := And.intro F11 (And.intro kp11 trivial)
  have f11b0 := b11_0
  have S := sc38
  refine ⟨fd, fn_d Fd S rfl rfl (fun cdv A outer s H E hr => ?_), Fd.kp, ⟨[], .nil, FunD.bindsN Fd fun _ _ _ _ _ _ us hl => match us, hl with | [_], _ => rfl⟩⟩
  exact (ds_cons (ds_if (dt_cmp (od_eqT (T := TQ) (n := 10) (takes_of rfl rfl rfl rfl) (fun _ => rfl) (etK X G c _ rfl rfl rfl rfl rfl) (apK c) (hr.mono (by decide))) (de_ix (de_v 0) de_int) de_str) (ds_cons (ds_ret (de_make0 (c := 4) rfl (He.mkr_ok (c.fact 49 rfl)) f3.1 (hr.mono (by decide)) (He.glo_ok X G (c.fact 4 rfl)) f3b0.2 f3b0.1 (konst_of rfl rfl) (takes_of rfl rfl rfl rfl)))
    ds_nil) ds_nil)
    (ds_cons (ds_if (dt_cmp (od_eqT (T := TQ) (n := 10) (takes_of rfl rfl rfl rfl) (fun _ => rfl) (etK X G c _ rfl rfl rfl rfl rfl) (apK c) (hr.mono (by decide))) (de_ix (de_v 0) de_int) de_str) (ds_cons (ds_ret (de_make (c := 5) rfl (He.mkr_ok (c.fact 53 rfl)) f5.1 (hr.mono (by decide)) (He.glo_ok X G (c.fact 5 rfl)) f5b0.2 f5b0.1 (konst_of rfl rfl) (takes_of rfl rfl rfl rfl) (da_cons (de_ix (de_v 0) de_int) da_nil)))
    ds_nil) ds_nil)
    (ds_cons (ds_if (dt_cmp (od_eqT (T := TQ) (n := 10) (takes_of rfl rfl rfl rfl) (fun _ => rfl) (etK X G c _ rfl rfl rfl rfl rfl) (apK c) (hr.mono (by decide))) (de_ix (de_v 0) de_int) de_str) (ds_cons (ds_ret (de_make (c := 6) rfl (He.mkr_ok (c.fact 59 rfl)) f8.1 (hr.mono (by decide)) (He.glo_ok X G (c.fact 6 rfl)) f8b0.2 f8b0.1 (konst_of rfl rfl) (takes_of rfl rfl rfl rfl) (da_cons (de_ix (de_v 0) de_int) da_nil)))
    ds_nil) ds_nil)
    (ds_cons (ds_ret (de_make (c := 7) rfl (He.mkr_ok (c.fact 65 rfl)) f11.1 (hr.mono (by decide)) (He.glo_ok X G (c.fact 7 rfl)) f11b0.2 f11b0.1 (konst_of rfl rfl) (takes_of rfl rfl rfl rfl) (da_cons (de_ix (de_v 0) de_int) da_nil)))
    ds_nil))))
theorem sc39 : FnScope ["steps", "step"] ["steps"] (defScope s39) := ⟨rfl, rfl, rfl, by decide +kernel, rfl, by decide +kernel, by decide +kernel⟩
def t39 : TDS := (sSeq (sRet (dMake 8 (nm.getD 8 []) w14 [] (aCons (dLc (iVal (dVar 0)) (.nm 1) tYesD (dCall w38 [] (aCons (dVar 1) aNil)) [1]) aNil)))
    sNil)
def w39 : Wf := wfOf 1 2 t39
theorem ok39 {P : Program} {w : World} {K : PySem.W.Frag} {h : Heap} {mg : Str → Option Value} {base : Heap} (X : K.In h) (G : h.Ns mainGlobals mg) (c : Says fa fn K) : ∃ fd, FnOk P w K mg base (L2.CX P w) 13 (d39.adr K) fd ["steps"] (spD K (ct K) w39) ∧ PySem.W.keepIn K (.ref (d39.adr K)) = true ∧ (∃ ds, Vals ((d39.dvs K).drop 0) ds ∧ Binds K fd ["steps"] ds) := by
  obtain ⟨fd, Fd⟩ := c.fun_ 39 (d := d39) rfl
  obtain ⟨fd14, F14, kp14, ⟨db14_0, b14_0⟩, ⟨db14_1, b14_1⟩⟩ := ok14 (P := P) (w := w) (base := base) X G c
  have f14 := And.intro F14 (And.intro kp14 trivial)
  have f14b0 := b14_0
  have f14b1 := b14_1
  obtain ⟨fd38, F38, kp38, ⟨db38_0, b38_0⟩⟩ := ok38 (P := P) (w := w) (base := base) X G c
  have f38 := And.intro F38 (And.intro kp38 trivial)
  have f38b0 := b38_0
  have S := sc39
  refine ⟨fd, fn_d Fd S rfl rfl (fun cdv A outer s H E hr => ?_), Fd.kp, ⟨[], .nil, FunD.bindsN Fd fun _ _ _ _ _ _ us hl => match us, hl with | [_], _ => rfl⟩⟩
  exact (ds_cons (ds_ret (de_make (c := 8) rfl (He.mkr_ok (c.fact 71 rfl)) f14.1 (hr.mono (by decide)) (He.glo_ok X G (c.fact 8 rfl)) f14b1.2 f14b1.1 (konst_of rfl rfl) (takes_of rfl rfl rfl rfl) (da_cons (de_lc (own := [("step", 1)]) (by rfl) S.nd (di_val (de_v 0)) (blkOk_by (by
      first
      | (show blkC ["steps", "step"] (defScope s39) _ _ = true; decide +kernel)
      | rfl
      | kernel_rfl)) (fun _ _ _ _ _ => (pg_nm S.nd (i := 1) rfl (by first | exact Or.inl rfl | exact Or.inr rfl))) (fun _ _ _ _ _ => dts_nil) (fun _ _ _ _ _ => (de_call f38.1 (hr.mono (by decide)) (He.glo_ok X G (c.fact 24 rfl)) f38.2.1 f38b0.2 f38b0.1 (konst_of rfl rfl) Dl.takes0 (da_cons (de_v 1) da_nil))) rfl) da_nil)))
    ds_nil)
theorem sc30 : FnScope ["script", "signs", "length", "always", "found", "step", "k"] ["script", "signs", "length"] (defScope s30) := ⟨rfl, rfl, rfl, by decide +kernel, rfl, by decide +kernel, by decide +kernel⟩
def t30 : TDS := (sSeq (sAsg 3 (dBin oSub (dBin oShl (dC (.int 2)) (dVar 2)) (dC (.int 1))))
    (sSeq (sAsg 4 (dLc (iR1 (aCons (dVar 2) aNil)) (.nm 6) tYesD (dIf (tVal (dBin oIn (dVar 6) (dVar 1))) (dVar 3) (dBin oShl (dC (.int 1)) (dVar 6))) [6]))
    (sSeq (sFor (iObj (fun n => if n = 8 then some 0 else none) (dVar 0)) (.nm 5) (sSeq (sAsg 4 (dCall w31 [] (aCons (dVar 5) (aCons (dVar 1) (aCons (dVar 4) (aCons (dVar 3) aNil))))))
    sNil))
    (sSeq (sRet (dVar 4))
    sNil))))
def w30 : Wf := wfOf 3 7 t30
theorem ok30 {P : Program} {w : World} {K : PySem.W.Frag} {h : Heap} {mg : Str → Option Value} {base : Heap} (X : K.In h) (G : h.Ns mainGlobals mg) (c : Says fa fn K) : ∃ fd, FnOk P w K mg base (L2.CX P w) 4 (d30.adr K) fd ["script", "signs", "length"] (spD K (ct K) w30) ∧ PySem.W.keepIn K (.ref (d30.adr K)) = true ∧ (∃ ds, Vals ((d30.dvs K).drop 0) ds ∧ Binds K fd ["script", "signs", "length"] ds) := by
  obtain ⟨fd, Fd⟩ := c.fun_ 30 (d := d30) rfl
  obtain ⟨fd19, f19⟩ := ok19 (P := P) (w := w) X G c
  obtain ⟨fd31, F31, kp31, ⟨db31_0, b31_0⟩⟩ := ok31 (P := P) (w := w) (base := base) X G c
  have f31 := And.intro F31 (And.intro kp31 trivial)
  have f31b0 := b31_0
  have S := sc30
  refine ⟨fd, fn_d Fd S rfl rfl (fun cdv A outer s H E hr => ?_), Fd.kp, ⟨[], .nil, FunD.bindsN Fd fun _ _ _ _ _ _ us hl => match us, hl with | [_, _, _], _ => rfl⟩⟩
  exact (ds_cons (ds_asg S.nd (i := 3) rfl (by first | exact Or.inl rfl | exact Or.inr rfl) (de_op od_sub (de_op od_shl de_int (de_v 2)) de_int))
    (ds_cons (ds_asgL (own := [("k", 6)]) (by rfl) S.nd (i := 4) rfl rfl (sw_true rfl rfl rfl rfl) (di_r1 (by rfl) (He.free_ok X G (c.fact 42 rfl)) (da_cons (de_v 2) da_nil)) (blkOk_by (by
      first
      | (show blkC ["script", "signs", "length", "always", "found", "step", "k"] (defScope s30) _ _ = true; decide +kernel)
      | rfl
      | kernel_rfl)) (fun _ _ _ _ _ => (pg_nm S.nd (i := 6) rfl (by first | exact Or.inl rfl | exact Or.inr rfl))) (fun _ _ _ _ _ => dts_nil) (fun _ _ _ _ _ => (de_if (dt_cmp od_in (de_v 6) (de_v 1)) (de_v 3) (de_op od_shl de_int (de_v 6)))) rfl)
    (ds_cons (ds_for (passes_of rfl) rfl (di_obj (fun n k h => by
      try dsimp only at h
      split at h
      · rename_i en; subst en; cases h; exact ⟨⟨_, _, _, rfl, He.meth_ok (c.fact 78 rfl), fun base => f19.1 base, (hr.mono (by decide)), f19.2⟩⟩
      cases h) (de_v 0)) (pg_nm S.nd (i := 5) rfl (by first | exact Or.inl rfl | exact Or.inr rfl)) (ds_cons (ds_asg S.nd (i := 4) rfl (by first | exact Or.inl rfl | exact Or.inr rfl) (de_call f31.1 (hr.mono (by decide)) (He.glo_ok X G (c.fact 17 rfl)) f31.2.1 f31b0.2 f31b0.1 (konst_of rfl rfl) (takes_of rfl rfl rfl rfl) (da_cons (de_v 5) (da_cons (de_v 1) (da_cons (de_v 4) (da_cons (de_v 3) da_nil))))))
    ds_nil))
    (ds_cons (ds_ret (de_v 4))
    ds_nil))))
theorem sc28 : FnScope ["script", "cell", "length", "begin", "table", "signs", "k", "blanks"] ["script", "cell"] (defScope s28) := ⟨rfl, rfl, rfl, by decide +kernel, rfl, by decide +kernel, by decide +kernel⟩
def t28 : TDS := (sSeq (sDrop (dCall w26 [] (aCons (dVar 0) aNil)))
    (sSeq (sDrop (dCall w24 [.non] (aCons (dVar 1) (aCons (dC (.int 0)) aNil))))
    (sSeq (sAsg 2 (dProp (fun n => if n = 8 then some w15 else none) (dVar 0)))
    (sSeq (sAsg 3 (dBin oMul (dBin oDiv (dVar 1) (dVar 2)) (dVar 2)))
    (sSeq (sAsg 4 (dDcT (iVal (dCall w29 [] (aCons (dVar 2) aNil))) (.nm 5) tYesD (dVar 5) (dBin oIx (dCall w30 [] (aCons (dVar 0) (aCons (dVar 5) (aCons (dVar 2) aNil)))) (dBin oSub (dVar 1) (dVar 3))) [5]))
    (sSeq (sRet (dB bSortD (aCons (dLc2 (iTab (dVar 4)) (.nm 5) tYesD (iVal (dCall w33 [] (aCons (dTabIx (dVar 4) (dVar 5)) (aCons (dVar 2) aNil)))) (.nm 7) (tTru (dCall w34 [] (aCons (dVar 4) (aCons (dVar 5) (aCons (dVar 7) aNil))))) (dTup (aCons (dLc (iVal (dVar 5)) (.nm 6) tYesD (dBin oAdd (dVar 3) (dVar 6)) [6]) (aCons (dLc (iVal (dVar 7)) (.nm 6) tYesD (dBin oAdd (dVar 3) (dVar 6)) [6]) aNil))) [5, 7] [7]) aNil)))
    sNil))))))
def w28 : Wf := wfOf 2 8 t28
theorem ok28 {P : Program} {w : World} {K : PySem.W.Frag} {h : Heap} {mg : Str → Option Value} {base : Heap} (X : K.In h) (G : h.Ns mainGlobals mg) (c : Says fa fn K) : ∃ fd, FnOk P w K mg base (L2.CX P w) 5 (d28.adr K) fd ["script", "cell"] (spD K (ct K) w28) ∧ PySem.W.keepIn K (.ref (d28.adr K)) = true ∧ (∃ ds, Vals ((d28.dvs K).drop 0) ds ∧ Binds K fd ["script", "cell"] ds) := by
  obtain ⟨fd, Fd⟩ := c.fun_ 28 (d := d28) rfl
  obtain ⟨fd26, F26, kp26, ⟨db26_0, b26_0⟩⟩ := ok26 (P := P) (w := w) (base := base) X G c
  have f26 := And.intro F26 (And.intro kp26 trivial)
  have f26b0 := b26_0
  obtain ⟨fd24, F24, kp24, ⟨db24_0, b24_0⟩, ⟨db24_1, b24_1⟩⟩ := ok24 (P := P) (w := w) (base := base) X G c
  have f24 := And.intro F24 (And.intro kp24 trivial)
  have f24b0 := b24_0
  have f24b1 := b24_1
  obtain ⟨fd15, F15, kp15, db15, rb15, bb15⟩ := ok15 (P := P) (w := w) (base := base) X G c
  cases rb15
  have f15 := And.intro F15 (And.intro kp15 bb15)
  obtain ⟨fd29, F29, kp29, ⟨db29_0, b29_0⟩⟩ := ok29 (P := P) (w := w) (base := base) X G c
  have f29 := And.intro F29 (And.intro kp29 trivial)
  have f29b0 := b29_0
  obtain ⟨fd30, F30, kp30, ⟨db30_0, b30_0⟩⟩ := ok30 (P := P) (w := w) (base := base) X G c
  have f30 := And.intro F30 (And.intro kp30 trivial)
  have f30b0 := b30_0
  obtain ⟨fd33, F33, kp33, ⟨db33_0, b33_0⟩⟩ := ok33 (P := P) (w := w) (base := base) X G c
  have f33 := And.intro F33 (And.intro kp33 trivial)
  have f33b0 := b33_0
  obtain ⟨fd34, F34, kp34, ⟨db34_0, b34_0⟩⟩ := ok34 (P := P) (w := w) (base := base) X G c
  have f34 := And.intro F34 (And.intro kp34 trivial)
  have f34b0 := b34_0
  have S := sc28
  refine ⟨fd, fn_d Fd S rfl rfl (fun cdv A outer s H E hr => ?_), Fd.kp, ⟨[], .nil, FunD.bindsN Fd fun _ _ _ _ _ _ us hl => match us, hl with | [_, _], _ => rfl⟩⟩
  exact (ds_cons (ds_drop (de_call f26.1 (hr.mono (by decide)) (He.glo_ok X G (c.fact 12 rfl)) f26.2.1 f26b0.2 f26b0.1 (konst_of rfl rfl) (takes_of rfl rfl rfl rfl) (da_cons (de_v 0) da_nil)))
    (ds_cons (ds_drop (de_call f24.1 (hr.mono (by decide)) (He.glo_ok X G (c.fact 10 rfl)) f24.2.1 f24b0.2 f24b0.1 (konst_of rfl rfl) (takes_of rfl rfl rfl rfl) (da_cons (de_v 1) (da_cons de_int da_nil))))
    (ds_cons (ds_asg S.nd (i := 2) rfl (by first | exact Or.inl rfl | exact Or.inr rfl) (de_prop (de_v 0) (fun n wf h => by
      try dsimp only at h
      split at h
      · rename_i en; subst en; cases h; exact ⟨He.cls_ok (c.fact 70 rfl), _, _, _, _, _, prB_ok (c.fact 74 rfl), f15.1, (hr.mono (by decide)), f15.2.2⟩
      cases h)))
    (ds_cons (ds_asg S.nd (i := 3) rfl (by first | exact Or.inl rfl | exact Or.inr rfl) (de_op od_mul (de_op od_div (de_v 1) (de_v 2)) (de_v 2)))
    (ds_cons (ds_asg S.nd (i := 4) rfl (by first | exact Or.inl rfl | exact Or.inr rfl) (de_dcT (own := [("signs", 5)]) (fun l => Dl.Hd.tokL_no l) (by rfl) (Nat.lt_of_le_of_lt (Nat.le_add_right _ _) (hu_rm hr)) S.nd (di_val (de_call f29.1 (hr.mono (by decide)) (He.glo_ok X G (c.fact 15 rfl)) f29.2.1 f29b0.2 f29b0.1 (konst_of rfl rfl) (takes_of rfl rfl rfl rfl) (da_cons (de_v 2) da_nil))) (blkOk_by (by
      first
      | (show blkC ["script", "cell", "length", "begin", "table", "signs", "k", "blanks"] (defScope s28) _ _ = true; decide +kernel)
      | rfl
      | kernel_rfl)) (fun _ _ _ _ _ => (pg_nm S.nd (i := 5) rfl (by first | exact Or.inl rfl | exact Or.inr rfl))) (fun _ _ _ _ _ => dts_nil) (fun _ _ _ _ _ => (de_v 5)) (fun _ _ _ _ _ => (de_ix (de_call f30.1 (hr.mono (by decide)) (He.glo_ok X G (c.fact 16 rfl)) f30.2.1 f30b0.2 f30b0.1 (konst_of rfl rfl) Dl.takes0 (da_cons (de_v 0) (da_cons (de_v 5) (da_cons (de_v 2) da_nil)))) (de_op od_sub (de_v 1) (de_v 3)))) rfl))
    (ds_cons (ds_ret (de_B (cd_sortD hr.units) (He.free_ok X G (c.fact 43 rfl)) (da_cons (de_lc2 (own := [("signs", 5), ("blanks", 7)]) (vs1 := [7]) (by rfl) S.nd (di_tab (fun l => Dl.Hd.tokL_no l) (de_v 4)) (blkOk_by (by
      first
      | (show blkC ["script", "cell", "length", "begin", "table", "signs", "k", "blanks"] (defScope s28) _ _ = true; decide +kernel)
      | rfl
      | kernel_rfl)) (by decide) (fun _ _ _ _ _ => (pg_nm S.nd (i := 5) rfl (by first | exact Or.inl rfl | exact Or.inr rfl))) (fun _ _ _ _ _ => dts_nil) (fun _ _ _ _ _ => (di_val (de_call f33.1 (hr.mono (by decide)) (He.glo_ok X G (c.fact 19 rfl)) f33.2.1 f33b0.2 f33b0.1 (konst_of rfl rfl) Dl.takes0 (da_cons (de_tabIx (fun l => Dl.Hd.tokL_no l) (hu_rm hr) (de_v 4) (de_v 5)) (da_cons (de_v 2) da_nil))))) (fun _ _ _ _ _ => (pg_nm S.nd (i := 7) rfl (by first | exact Or.inl rfl | exact Or.inr rfl))) (fun _ _ _ _ _ => (dts_one (dt_tru (de_call f34.1 (hr.mono (by decide)) (He.glo_ok X G (c.fact 20 rfl)) f34.2.1 f34b0.2 f34b0.1 (konst_of rfl rfl) Dl.takes0 (da_cons (de_v 4) (da_cons (de_v 5) (da_cons (de_v 7) da_nil))))))) (fun _ _ _ _ _ => (de_tup (da_cons (de_lc (own := [("k", 6)]) (by rfl) S.nd (di_val (de_v 5)) (blkOk_by (by
      first
      | (show blkC ["script", "cell", "length", "begin", "table", "signs", "k", "blanks"] (defScope s28) _ _ = true; decide +kernel)
      | rfl
      | kernel_rfl)) (fun _ _ _ _ _ => (pg_nm S.nd (i := 6) rfl (by first | exact Or.inl rfl | exact Or.inr rfl))) (fun _ _ _ _ _ => dts_nil) (fun _ _ _ _ _ => (de_op od_add (de_v 3) (de_v 6))) rfl) (da_cons (de_lc (own := [("k", 6)]) (by rfl) S.nd (di_val (de_v 7)) (blkOk_by (by
      first
      | (show blkC ["script", "cell", "length", "begin", "table", "signs", "k", "blanks"] (defScope s28) _ _ = true; decide +kernel)
      | rfl
      | kernel_rfl)) (fun _ _ _ _ _ => (pg_nm S.nd (i := 6) rfl (by first | exact Or.inl rfl | exact Or.inr rfl))) (fun _ _ _ _ _ => dts_nil) (fun _ _ _ _ _ => (de_op od_add (de_v 3) (de_v 6))) rfl) da_nil)))) rfl rfl) da_nil)))
    ds_nil))))))
theorem sc45 : FnScope ["script", "at", "purse", "steps", "made", "period", "turn", "cell", "far"] ["script"] (defScope s45) := ⟨rfl, rfl, rfl, by decide +kernel, rfl, by decide +kernel, by decide +kernel⟩
def t45 : TDS := (sSeq (sFor (iR1 (aCons (dC (.int 2)) aNil)) (.nm 1) (sSeq (sAsg 2 (dCall w35 [] (aCons (dVar 0) (aCons (dVar 1) aNil))))
    (sSeq (sAsg 3 (dCall w42 [] (aCons (dVar 2) (aCons (dCall w43 [] (aCons (dVar 2) aNil)) (aCons (dC (.int 7)) aNil)))))
    (sSeq (sAsg 4 (dCall w39 [] (aCons (dVar 3) aNil)))
    (sSeq (sAsg 5 (dCall w40 [] (aCons (dCall w41 [] (aCons (dVar 3) aNil)) aNil)))
    (sSeq (sFor (iR1 (aCons (dC (.int 2)) aNil)) (.nm 6) (sSeq (sPar2 7 8 (aCons (dCall wDraw [] (aCons (dVar 2) (aCons (dVar 5) aNil))) (aCons (dBin oMul (dVar 5) (dBin oIx (dLst (aCons (dC (.int 1)) (aCons (dC (.int 2)) (aCons (dC (.int 7)) (aCons (dBin oPow (dC (.int 10)) (dC (.int 36))) aNil))))) (dCall wDraw [] (aCons (dVar 2) (aCons (dC (.int 4)) aNil))))) aNil)))
    (sSeq (sIf (tVal (dBin (oNeT TQ 10) (dCall w28 [] (aCons (dVar 4) (aCons (dBin oAdd (dVar 7) (dVar 8)) aNil))) (dCall w44 [] (aCons (dCall w28 [] (aCons (dVar 4) (aCons (dVar 7) aNil))) (aCons (dVar 8) aNil))))) (sSeq (sRet (dC (.bl false)))
    sNil) sNil)
    sNil)))
    sNil))))))
    (sSeq (sRet (dC (.bl true)))
    sNil))
def w45 : Wf := wfOf 1 9 t45
theorem okL {P : Program} {w : World} {K : PySem.W.Frag} {h : Heap} {mg : Str → Option Value} {base : Heap} (X : K.In h) (G : h.Ns mainGlobals mg) (c : Says fa fn K) {fd : FuncData} (Fd : FunD K d45.nam d45.qua d45.par d45.bod d45.sco (d45.dvs K) [] (d45.adr K) fd) : FnOk P w K mg base (L2.CX P w) 14 (d45.adr K) fd ["script"] (spD K (ct K) w45) := by
  obtain ⟨fd35, F35, kp35, ⟨db35_0, b35_0⟩⟩ := ok35 (P := P) (w := w) (base := base) X G c
  have f35 := And.intro F35 (And.intro kp35 trivial)
  have f35b0 := b35_0
  obtain ⟨fd42, F42, kp42, ⟨db42_0, b42_0⟩⟩ := ok42 (P := P) (w := w) (base := base) X G c
  have f42 := And.intro F42 (And.intro kp42 trivial)
  have f42b0 := b42_0
  obtain ⟨fd43, F43, kp43, ⟨db43_0, b43_0⟩⟩ := ok43 (P := P) (w := w) (base := base) X G c
  have f43 := And.intro F43 (And.intro kp43 trivial)
  have f43b0 := b43_0
  obtain ⟨fd39, F39, kp39, ⟨db39_0, b39_0⟩⟩ := ok39 (P := P) (w := w) (base := base) X G c
  have f39 := And.intro F39 (And.intro kp39 trivial)
  have f39b0 := b39_0
  obtain ⟨fd40, F40, kp40, ⟨db40_0, b40_0⟩⟩ := ok40 (P := P) (w := w) (base := base) X G c
  have f40 := And.intro F40 (And.intro kp40 trivial)
  have f40b0 := b40_0
  obtain ⟨fd41, F41, kp41, ⟨db41_0, b41_0⟩⟩ := ok41 (P := P) (w := w) (base := base) X G c
  have f41 := And.intro F41 (And.intro kp41 trivial)
  have f41b0 := b41_0
  obtain ⟨fd36, F36, kp36, ⟨db36_0, b36_0⟩⟩ := ok36 (P := P) (w := w) (base := base) X G c
  have f36 := And.intro F36 (And.intro kp36 trivial)
  have f36b0 := b36_0
  obtain ⟨fd28, F28, kp28, ⟨db28_0, b28_0⟩⟩ := ok28 (P := P) (w := w) (base := base) X G c
  have f28 := And.intro F28 (And.intro kp28 trivial)
  have f28b0 := b28_0
  obtain ⟨fd44, F44, kp44, ⟨db44_0, b44_0⟩⟩ := ok44 (P := P) (w := w) (base := base) X G c
  have f44 := And.intro F44 (And.intro kp44 trivial)
  have f44b0 := b44_0
  have S := sc45
  refine fn_d Fd S rfl rfl (fun cdv A outer s H E hr => ?_)
  exact (ds_cons (ds_for (passes_of rfl) rfl (di_r1 (by rfl) (He.free_ok X G (c.fact 42 rfl)) (da_cons de_int da_nil)) (pg_nm S.nd (i := 1) rfl (by first | exact Or.inl rfl | exact Or.inr rfl)) (ds_cons (ds_asg S.nd (i := 2) rfl (by first | exact Or.inl rfl | exact Or.inr rfl) (de_call f35.1 (hr.mono (by decide)) (He.glo_ok X G (c.fact 21 rfl)) f35.2.1 f35b0.2 f35b0.1 (konst_of rfl rfl) (takes_of rfl rfl rfl rfl) (da_cons (de_v 0) (da_cons (de_v 1) da_nil))))
    (ds_cons (ds_asg S.nd (i := 3) rfl (by first | exact Or.inl rfl | exact Or.inr rfl) (de_call f42.1 (hr.mono (by decide)) (He.glo_ok X G (c.fact 28 rfl)) f42.2.1 f42b0.2 f42b0.1 (konst_of rfl rfl) (takes_of rfl rfl rfl rfl) (da_cons (de_v 2) (da_cons (de_call f43.1 (hr.mono (by decide)) (He.glo_ok X G (c.fact 29 rfl)) f43.2.1 f43b0.2 f43b0.1 (konst_of rfl rfl) (takes_of rfl rfl rfl rfl) (da_cons (de_v 2) da_nil)) (da_cons de_int da_nil)))))
    (ds_cons (ds_asg S.nd (i := 4) rfl (by first | exact Or.inl rfl | exact Or.inr rfl) (de_call f39.1 (hr.mono (by decide)) (He.glo_ok X G (c.fact 25 rfl)) f39.2.1 f39b0.2 f39b0.1 (konst_of rfl rfl) (takes_of rfl rfl rfl rfl) (da_cons (de_v 3) da_nil)))
    (ds_cons (ds_asg S.nd (i := 5) rfl (by first | exact Or.inl rfl | exact Or.inr rfl) (de_call f40.1 (hr.mono (by decide)) (He.glo_ok X G (c.fact 26 rfl)) f40.2.1 f40b0.2 f40b0.1 (konst_of rfl rfl) (takes_of rfl rfl rfl rfl) (da_cons (de_call f41.1 (hr.mono (by decide)) (He.glo_ok X G (c.fact 27 rfl)) f41.2.1 f41b0.2 f41b0.1 (konst_of rfl rfl) (takes_of rfl rfl rfl rfl) (da_cons (de_v 3) da_nil)) da_nil)))
    (ds_cons (ds_for (passes_of rfl) rfl (di_r1 (by rfl) (He.free_ok X G (c.fact 42 rfl)) (da_cons de_int da_nil)) (pg_nm S.nd (i := 6) rfl (by first | exact Or.inl rfl | exact Or.inr rfl)) (ds_cons (ds_par2 (i := 7) (j := 8) rfl S.nd rfl rfl rfl rfl (da_cons (de_call f36.1 (hr.mono (by decide)) (He.glo_ok X G (c.fact 22 rfl)) f36.2.1 f36b0.2 f36b0.1 (konst_of rfl rfl) (takes_of rfl rfl rfl rfl) (da_cons (de_v 2) (da_cons (de_v 5) da_nil))) (da_cons (de_op od_mul (de_v 5) (de_ix (de_lst (da_cons de_int (da_cons de_int (da_cons de_int (da_cons (de_op od_pow de_int de_int) da_nil))))) (de_call f36.1 (hr.mono (by decide)) (He.glo_ok X G (c.fact 22 rfl)) f36.2.1 f36b0.2 f36b0.1 (konst_of rfl rfl) (takes_of rfl rfl rfl rfl) (da_cons (de_v 2) (da_cons de_int da_nil))))) da_nil)))
    (ds_cons (ds_if (dt_cmp (od_neT (T := TQ) (n := 10) (takes_of rfl rfl rfl rfl) (fun _ => rfl) (etK X G c _ rfl rfl rfl rfl rfl) (apK c) (hr.mono (by decide))) (de_call f28.1 (hr.mono (by decide)) (He.glo_ok X G (c.fact 14 rfl)) f28.2.1 f28b0.2 f28b0.1 (konst_of rfl rfl) (takes_of rfl rfl rfl rfl) (da_cons (de_v 4) (da_cons (de_op od_add (de_v 7) (de_v 8)) da_nil))) (de_call f44.1 (hr.mono (by decide)) (He.glo_ok X G (c.fact 30 rfl)) f44.2.1 f44b0.2 f44b0.1 (konst_of rfl rfl) (takes_of rfl rfl rfl rfl) (da_cons (de_call f28.1 (hr.mono (by decide)) (He.glo_ok X G (c.fact 14 rfl)) f28.2.1 f28b0.2 f28b0.1 (konst_of rfl rfl) (takes_of rfl rfl rfl rfl) (da_cons (de_v 4) (da_cons (de_v 7) da_nil))) (da_cons (de_v 8) da_nil)))) (ds_cons (ds_ret de_bl)
    ds_nil) ds_nil)
    ds_nil)))
    ds_nil))))))
    (ds_cons (ds_ret de_bl)
    ds_nil))
def t2 : TDS := (sSeq sBad sNil)
end K13
set_option Elab.async false
set_option linter.all false
set_option maxRecDepth 100000
set_option maxHeartbeats 4000000
namespace K13
open PySem PySem.Spec L2 Dl Dl.Hd
noncomputable def f_Full_init : FS := 
  (zSeq zNil zNil)
noncomputable def g_Full_init : FI := fIni 4 0 0 f_Full_init
theorem m_Full_init_ : SimWi g_Full_init w3 := m_ini 4 0 0 (m_sSeq m_sNil m_sNil)
noncomputable def f_Keep_size : FS := 
  (zSeq (zRet (fFld (fun n => if n = 5 then some 0 else if n = 6 then some 0 else if n = 7 then some 0 else none) (fVar 0))) zNil)
noncomputable def g_Keep_size : FW := fDef 1 1 f_Keep_size
theorem m_Keep_size_ : SimW g_Keep_size w6 := m_def 1 1 (m_sSeq (m_sRet (m_Fld (fun n => if n = 5 then some 0 else if n = 6 then some 0 else if n = 7 then some 0 else none) (m_Var 0))) m_sNil)
noncomputable def f_Lean_size : FS := 
  (zSeq (zRet (fFld (fun n => if n = 5 then some 0 else if n = 6 then some 0 else if n = 7 then some 0 else none) (fVar 0))) zNil)
noncomputable def g_Lean_size : FW := fDef 1 1 f_Lean_size
theorem m_Lean_size_ : SimW g_Lean_size w9 := m_def 1 1 (m_sSeq (m_sRet (m_Fld (fun n => if n = 5 then some 0 else if n = 6 then some 0 else if n = 7 then some 0 else none) (m_Var 0))) m_sNil)
noncomputable def f_Dig_size : FS := 
  (zSeq (zRet (fFld (fun n => if n = 5 then some 0 else if n = 6 then some 0 else if n = 7 then some 0 else none) (fVar 0))) zNil)
noncomputable def g_Dig_size : FW := fDef 1 1 f_Dig_size
theorem m_Dig_size_ : SimW g_Dig_size w12 := m_def 1 1 (m_sSeq (m_sRet (m_Fld (fun n => if n = 5 then some 0 else if n = 6 then some 0 else if n = 7 then some 0 else none) (m_Var 0))) m_sNil)
noncomputable def f_Script_period : FS := 
  (zSeq (zAsg 1 (fC (.int 1))) 
  (zSeq (zFor (jVal (fFld (fun n => if n = 8 then some 0 else none) (fVar 0))) (.nm 2) 
  (zSeq (zIf (fNotT (fTru (fB (gIsi subT) (fCons (fVar 2) (fCons (fC (.cls 4)) fNil))))) 
  (zSeq (zAsg 1 (fB gLcm (fCons (fVar 1) (fCons (fProp (fun n => if n = 5 then some g_Keep_size else if n = 6 then some g_Lean_size else if n = 7 then some g_Dig_size else none) (fVar 2)) fNil)))) zNil) zNil) zNil)) 
  (zSeq (zRet (fVar 1)) zNil)))
noncomputable def g_Script_period : FW := fDef 1 3 f_Script_period
theorem m_Script_period_ : SimW g_Script_period w15 := m_def 1 3 (m_sSeq (m_sAsg 1 (m_C (.int 1))) (m_sSeq (m_sFor (m_iVal (m_Fld (fun n => if n = 8 then some 0 else none) (m_Var 0))) (.nm 2) (m_sSeq (m_sIf (m_NotT (m_Tru (m_B (m_isi subT) (m_Cons (m_Var 2) (m_Cons (m_C (.cls 4)) m_Nil))))) (m_sSeq (m_sAsg 1 (m_B m_lcm (m_Cons (m_Var 1) (m_Cons (m_Prop (tb_cons 5 m_Keep_size_ (tb_cons 6 m_Lean_size_ (tb_cons 7 m_Dig_size_ tb_nil))) (m_Var 2)) m_Nil)))) m_sNil) m_sNil) m_sNil)) (m_sSeq (m_sRet (m_Var 1)) m_sNil)))
noncomputable def f_Script_len : FS := 
  (zSeq (zRet (fB gLen (fCons (fFld (fun n => if n = 8 then some 0 else none) (fVar 0)) fNil))) zNil)
noncomputable def g_Script_len : FW := fDef 1 1 f_Script_len
theorem m_Script_len_ : SimW g_Script_len w16 := m_def 1 1 (m_sSeq (m_sRet (m_B m_len (m_Cons (m_Fld (fun n => if n = 8 then some 0 else none) (m_Var 0)) m_Nil))) m_sNil)
noncomputable def f_is_whole : FS := 
  (zSeq (zRet (fAnd (fB (gIsi subT) (fCons (fVar 0) (fCons (fC (.ty "int")) fNil))) (fNot (fB (gIsi subT) (fCons (fVar 0) (fCons (fC (.ty "bool")) fNil)))))) zNil)
noncomputable def g_is_whole : FW := fDef 1 1 f_is_whole
theorem m_is_whole_ : SimW g_is_whole w23 := m_def 1 1 (m_sSeq (m_sRet (m_And (m_B (m_isi subT) (m_Cons (m_Var 0) (m_Cons (m_C (.ty "int")) m_Nil))) (m_Not (m_B (m_isi subT) (m_Cons (m_Var 0) (m_Cons (m_C (.ty "bool")) m_Nil)))))) m_sNil)
noncomputable def f_check_number : FS := 
  (zSeq (zIf (fOrT (fNotT (fTru (fCall g_is_whole [] (fCons (fVar 0) fNil)))) (fOrT (fVal (fBin pLt (fVar 0) (fVar 1))) (fAndT (fVal (fBin pNotN (fVar 2) (fC .non))) (fVal (fBin pGt (fVar 0) (fVar 2)))))) 
  (zSeq (zRaise 1 (fVar 0)) zNil) zNil) zNil)
noncomputable def g_check_number : FW := fDef 3 3 f_check_number
theorem m_check_number_ : SimW g_check_number w24 := m_def 3 3 (m_sSeq (m_sIf (m_OrT (m_NotT (m_Tru (m_Call m_is_whole_ [] (m_Cons (m_Var 0) m_Nil)))) (m_OrT (m_Val (m_Bin m_lt (m_Var 0) (m_Var 1))) (m_AndT (m_Val (m_Bin m_notN (m_Var 2) (m_C .non))) (m_Val (m_Bin m_gt (m_Var 0) (m_Var 2)))))) (m_sSeq (m_sRaise 1 (m_Var 0)) m_sNil) m_sNil) m_sNil)
noncomputable def f_blocks : FS := 
  (zSeq (zRet (fLc (jR3 (fCons (fC (.int 0)) (fCons (fVar 0) (fCons (fVar 1) fNil)))) (.nm 2) fYes (fTup (fCons (fVar 2) (fCons (fB gMin (fCons (fBin pAdd (fVar 2) (fVar 1)) (fCons (fVar 0) fNil))) fNil))) [2])) zNil)
noncomputable def g_blocks : FW := fDef 2 3 f_blocks
theorem m_blocks_ : SimW g_blocks w25 := m_def 2 3 (m_sSeq (m_sRet (m_Lc (m_iR3 (m_Cons (m_C (.int 0)) (m_Cons (m_Var 0) (m_Cons (m_Var 1) m_Nil)))) (.nm 2) m_Yes (m_Tup (m_Cons (m_Var 2) (m_Cons (m_B m_min (m_Cons (m_Bin m_add (m_Var 2) (m_Var 1)) (m_Cons (m_Var 0) m_Nil))) m_Nil))) [2])) m_sNil)
noncomputable def f_check_script : FS := 
  (zSeq (zIf (fNotT (fTru (fB (gIsi subT) (fCons (fVar 0) (fCons (fC (.cls 8)) fNil))))) 
  (zSeq (zRaise 2 (fVar 0)) zNil) zNil) zNil)
noncomputable def g_check_script : FW := fDef 1 1 f_check_script
theorem m_check_script_ : SimW g_check_script w26 := m_def 1 1 (m_sSeq (m_sIf (m_NotT (m_Tru (m_B (m_isi subT) (m_Cons (m_Var 0) (m_Cons (m_C (.cls 8)) m_Nil))))) (m_sSeq (m_sRaise 2 (m_Var 0)) m_sNil) m_sNil) m_sNil)
noncomputable def f__is_list_of_steps : FS := 
  (zSeq (zRet (fAnd (fB (gIsi subT) (fCons (fVar 0) (fCons (fC (.ty "list")) fNil))) (fB gAll (fCons (fLc (jVal (fVar 0)) (.nm 1) fYes (fB (gIsi subT) (fCons (fVar 1) (fCons (fC (.cls 3)) fNil))) [1]) fNil)))) zNil)
noncomputable def g__is_list_of_steps : FW := fDef 1 2 f__is_list_of_steps
theorem m__is_list_of_steps_ : SimW g__is_list_of_steps w27 := m_def 1 2 (m_sSeq (m_sRet (m_And (m_B (m_isi subT) (m_Cons (m_Var 0) (m_Cons (m_C (.ty "list")) m_Nil))) (m_B m_all (m_Cons (m_Lc (m_iVal (m_Var 0)) (.nm 1) m_Yes (m_B (m_isi subT) (m_Cons (m_Var 1) (m_Cons (m_C (.cls 3)) m_Nil))) [1]) m_Nil)))) m_sNil)
noncomputable def f_sign_rows : FS := 
  (zSeq (zAsg 1 (fRngV (fVar 0))) 
  (zSeq (zRet (fLst (fCons (fTup fNil) (fStar (fLc (jRngV (fVar 1)) (.nm 2) fYes (fTup (fCons (fVar 2) fNil)) [2]) (fStar (fLc2 (jRngV (fVar 1)) (.nm 3) fYes (jR2 (fCons (fBin pAdd (fVar 3) (fC (.int 1))) (fCons (fVar 0) fNil))) (.nm 2) fYes (fTup (fCons (fVar 3) (fCons (fVar 2) fNil))) [3, 2] [2]) fNil))))) zNil))
noncomputable def g_sign_rows : FW := fDef 1 4 f_sign_rows
theorem m_sign_rows_ : SimW g_sign_rows w29 := m_def 1 4 (m_sSeq (m_sAsg 1 (m_RngV (m_Var 0))) (m_sSeq (m_sRet (m_Lst (m_Cons (m_Tup m_Nil) (m_Star (m_Lc (m_iRngV (m_Var 1)) (.nm 2) m_Yes (m_Tup (m_Cons (m_Var 2) m_Nil)) [2]) (m_Star (m_Lc2 (m_iRngV (m_Var 1)) (.nm 3) m_Yes (m_iR2 (m_Cons (m_Bin m_add (m_Var 3) (m_C (.int 1))) (m_Cons (m_Var 0) m_Nil))) (.nm 2) m_Yes (m_Tup (m_Cons (m_Var 3) (m_Cons (m_Var 2) m_Nil))) [3, 2] [2]) m_Nil))))) m_sNil))
noncomputable def f__joined : FS := 
  (zSeq (zAsg 1 (fC (.int 0))) 
  (zSeq (zFor (jVal (fVar 0)) (.nm 2) 
  (zSeq (zAsg 1 (fBin pBor (fVar 1) (fVar 2))) zNil)) 
  (zSeq (zRet (fVar 1)) zNil)))
noncomputable def g__joined : FW := fDef 1 3 f__joined
theorem m__joined_ : SimW g__joined w32 := m_def 1 3 (m_sSeq (m_sAsg 1 (m_C (.int 0))) (m_sSeq (m_sFor (m_iVal (m_Var 0)) (.nm 2) (m_sSeq (m_sAsg 1 (m_Bin m_bor (m_Var 1) (m_Var 2))) m_sNil)) (m_sSeq (m_sRet (m_Var 1)) m_sNil)))
noncomputable def f__blank_rows : FS := 
  (zSeq (zIf (fTru (fBin pShr (fVar 0) (fVar 1))) 
  (zSeq (zRet (fLst (fCons (fTup fNil) fNil))) zNil) zNil) 
  (zSeq (zRet (fLc (jR1 (fCons (fVar 1) fNil)) (.nm 2) (fTru (fBin pBand (fBin pShr (fVar 0) (fVar 2)) (fC (.int 1)))) (fTup (fCons (fVar 2) fNil)) [2])) zNil))
noncomputable def g__blank_rows : FW := fDef 2 3 f__blank_rows
theorem m__blank_rows_ : SimW g__blank_rows w33 := m_def 2 3 (m_sSeq (m_sIf (m_Tru (m_Bin m_shr (m_Var 0) (m_Var 1))) (m_sSeq (m_sRet (m_Lst (m_Cons (m_Tup m_Nil) m_Nil))) m_sNil) m_sNil) (m_sSeq (m_sRet (m_Lc (m_iR1 (m_Cons (m_Var 1) m_Nil)) (.nm 2) (m_Tru (m_Bin m_band (m_Bin m_shr (m_Var 0) (m_Var 2)) (m_C (.int 1)))) (m_Tup (m_Cons (m_Var 2) m_Nil)) [2])) m_sNil))
noncomputable def f__is_least : FS := 
  (zSeq (zFor (jVal (fVar 1)) (.nm 3) 
  (zSeq (zAsg 4 (fTabIx (fVar 0) (fB gTuple (fCons (fLc (jVal (fVar 1)) (.nm 5) (fVal (fBin (pNeT T0 1) (fVar 5) (fVar 3))) (fVar 5) [5]) fNil)))) 
  (zSeq (zIf (fTru (fB gAnyI (fCons (fLc (jVal (fTup (fCons (fVar 3) (fStar (fVar 2) fNil)))) (.nm 5) fYes (fBin pBand (fBin pShr (fVar 4) (fVar 5)) (fC (.int 1))) [5]) fNil))) 
  (zSeq (zRet (fC (.bl false))) zNil) zNil) zNil))) 
  (zSeq (zRet (fC (.bl true))) zNil))
noncomputable def g__is_least : FW := fDef 3 6 f__is_least
theorem m__is_least_ : SimW g__is_least w34 := m_def 3 6 (m_sSeq (m_sFor (m_iVal (m_Var 1)) (.nm 3) (m_sSeq (m_sAsg 4 (m_TabIx (m_Var 0) (m_B m_tuple (m_Cons (m_Lc (m_iVal (m_Var 1)) (.nm 5) (m_Val (m_Bin (m_neT T0 1) (m_Var 5) (m_Var 3))) (m_Var 5) [5]) m_Nil)))) (m_sSeq (m_sIf (m_Tru (m_B m_anyI (m_Cons (m_Lc (m_iVal (m_Tup (m_Cons (m_Var 3) (m_Star (m_Var 2) m_Nil)))) (.nm 5) m_Yes (m_Bin m_band (m_Bin m_shr (m_Var 4) (m_Var 5)) (m_C (.int 1))) [5]) m_Nil))) (m_sSeq (m_sRet (m_C (.bl false))) m_sNil) m_sNil) m_sNil))) (m_sSeq (m_sRet (m_C (.bl true))) m_sNil))
noncomputable def f__law_purse : FS := 
  (zSeq (zAsg 2 (fB gInt (fCons (fB gSum (fCons (fSl (fVar 0) (fOSome (fVar 1)) (fOSome (fBin pAdd (fVar 1) (fC (.int 1))))) fNil)) fNil))) 
  (zSeq (zRetL (fCons (fBin pMul (fB gInt (fCons (fBin pGe (fVar 2) (fBin pPow (fC (.int 10)) (fC (.int 18)))) fNil)) (fBin pMod (fVar 2) (fBin pPow (fBin pPow (fC (.int 10)) (fC (.int 60))) (fC (.int 10))))) (fCons (fBin pMod (fVar 2) (fC (.int 2147483629))) (fCons (fBin pMul (fC (.int 1000)) (fVar 1)) fNil)))) zNil))
noncomputable def g__law_purse : FW := fPur 2 3 f__law_purse
theorem m__law_purse_ : SimW g__law_purse w35 := m_pur 2 3 (m_sSeq (m_sAsg 2 (m_B m_int (m_Cons (m_B m_sum (m_Cons (m_Sl (m_Var 0) (m_OSome (m_Var 1)) (m_OSome (m_Bin m_add (m_Var 1) (m_C (.int 1))))) m_Nil)) m_Nil))) (m_sSeq (m_sRetL (m_Cons (m_Bin m_mul (m_B m_int (m_Cons (m_Bin m_ge (m_Var 2) (m_Bin m_pow (m_C (.int 10)) (m_C (.int 18)))) m_Nil)) (m_Bin m_mod (m_Var 2) (m_Bin m_pow (m_Bin m_pow (m_C (.int 10)) (m_C (.int 60))) (m_C (.int 10))))) (m_Cons (m_Bin m_mod (m_Var 2) (m_C (.int 2147483629))) (m_Cons (m_Bin m_mul (m_C (.int 1000)) (m_Var 1)) m_Nil)))) m_sNil))
noncomputable def f__law_steps : FS := 
  (zSeq (zOwn 3 fNil) 
  (zSeq (zFor (jR1 (fCons (fCall gDraw [] (fCons (fVar 0) (fCons (fBin pAdd (fVar 2) (fC (.int 1))) fNil))) fNil)) (.nm 4) 
  (zSeq (zAsg 5 (fBin pIx (fLst (fCons (fC (.str "keep")) (fCons (fC (.str "keep")) (fCons (fC (.str "dig")) (fCons (fC (.str "dig")) (fCons (fC (.str "lean")) (fCons (fC (.str "full")) fNil))))))) (fCall gDraw [] (fCons (fVar 0) (fCons (fC (.int 6)) fNil))))) 
  (zSeq (zApp 3 (fTup (fCons (fVar 5) (fCons (fBin pIx (fVar 1) (fCall gDraw [] (fCons (fVar 0) (fCons (fB (gLenO (fun n => if n = 8 then some g_Script_len else none)) (fCons (fVar 1) fNil)) fNil)))) fNil)))) zNil))) 
  (zSeq (zRetOwn 3) zNil)))
noncomputable def g__law_steps : FW := fDef 3 6 f__law_steps
theorem m__law_steps_ : SimW g__law_steps w37 := m_def 3 6 (m_sSeq (m_sOwn 3 m_Nil) (m_sSeq (m_sFor (m_iR1 (m_Cons (m_Call m_draw [] (m_Cons (m_Var 0) (m_Cons (m_Bin m_add (m_Var 2) (m_C (.int 1))) m_Nil))) m_Nil)) (.nm 4) (m_sSeq (m_sAsg 5 (m_Bin m_ix (m_Lst (m_Cons (m_C (.str "keep")) (m_Cons (m_C (.str "keep")) (m_Cons (m_C (.str "dig")) (m_Cons (m_C (.str "dig")) (m_Cons (m_C (.str "lean")) (m_Cons (m_C (.str "full")) m_Nil))))))) (m_Call m_draw [] (m_Cons (m_Var 0) (m_Cons (m_C (.int 6)) m_Nil))))) (m_sSeq (m_sApp 3 (m_Tup (m_Cons (m_Var 5) (m_Cons (m_Bin m_ix (m_Var 1) (m_Call m_draw [] (m_Cons (m_Var 0) (m_Cons (m_B (m_lenO (tb_cons 8 m_Script_len_ tb_nil)) (m_Cons (m_Var 1) m_Nil)) m_Nil)))) m_Nil)))) m_sNil))) (m_sSeq (m_sRetOwn 3) m_sNil)))
noncomputable def f__law_multiple : FS := 
  (zSeq (zAsg 1 (fC (.int 1))) 
  (zSeq (zFor (jVal (fVar 0)) (.nm 2) 
  (zSeq (zAsg 3 (fVar 1)) 
  (zSeq (zFor (jR1 (fCons (fVar 2) fNil)) (.nm 4) 
  (zSeq (zIf (fVal (fBin (pNeT TQ 10) (fBin pMod (fVar 3) (fVar 2)) (fC (.int 0)))) 
  (zSeq (zAsg 3 (fBin pAdd (fVar 3) (fVar 1))) zNil) zNil) zNil)) 
  (zSeq (zAsg 1 (fVar 3)) zNil)))) 
  (zSeq (zRet (fVar 1)) zNil)))
noncomputable def g__law_multiple : FW := fDef 1 5 f__law_multiple
theorem m__law_multiple_ : SimW g__law_multiple w40 := m_def 1 5 (m_sSeq (m_sAsg 1 (m_C (.int 1))) (m_sSeq (m_sFor (m_iVal (m_Var 0)) (.nm 2) (m_sSeq (m_sAsg 3 (m_Var 1)) (m_sSeq (m_sFor (m_iR1 (m_Cons (m_Var 2) m_Nil)) (.nm 4) (m_sSeq (m_sIf (m_Val (m_Bin (m_neT TQ 10) (m_Bin m_mod (m_Var 3) (m_Var 2)) (m_C (.int 0)))) (m_sSeq (m_sAsg 3 (m_Bin m_add (m_Var 3) (m_Var 1))) m_sNil) m_sNil) m_sNil)) (m_sSeq (m_sAsg 1 (m_Var 3)) m_sNil)))) (m_sSeq (m_sRet (m_Var 1)) m_sNil)))
noncomputable def f__law_sizes : FS := 
  (zSeq (zRet (fLc (jVal (fVar 0)) (.nm 1) (fVal (fBin (pNeT TQ 10) (fBin pIx (fVar 1) (fC (.int 0))) (fC (.str "full")))) (fBin pIx (fVar 1) (fC (.int 1))) [1])) zNil)
noncomputable def g__law_sizes : FW := fDef 1 2 f__law_sizes
theorem m__law_sizes_ : SimW g__law_sizes w41 := m_def 1 2 (m_sSeq (m_sRet (m_Lc (m_iVal (m_Var 0)) (.nm 1) (m_Val (m_Bin (m_neT TQ 10) (m_Bin m_ix (m_Var 1) (m_C (.int 0))) (m_C (.str "full")))) (m_Bin m_ix (m_Var 1) (m_C (.int 1))) [1])) m_sNil)
noncomputable def f__law_few : FS := 
  (zSeq (zPar2E 3 4 (fCons (fLst fNil) (fCons (fC (.int 0)) fNil))) 
  (zSeq (zFor (jVal (fCall g__law_steps [] (fCons (fVar 0) (fCons (fVar 1) (fCons (fVar 2) fNil))))) (.nm 5) 
  (zSeq (zAugI 4 (fB gInt (fCons (fBin pIn (fBin pIx (fVar 5) (fC (.int 0))) (fTup (fCons (fC (.str "dig")) (fCons (fC (.str "lean")) fNil)))) fNil))) 
  (zSeq (zIf (fOrT (fVal (fBin pLe (fVar 4) (fC (.int 3)))) (fVal (fBin pIn (fBin pIx (fVar 5) (fC (.int 0))) (fTup (fCons (fC (.str "keep")) (fCons (fC (.str "full")) fNil)))))) 
  (zSeq (zApp 3 (fVar 5)) zNil) zNil) zNil))) 
  (zSeq (zRetOwn 3) zNil)))
noncomputable def g__law_few : FW := fDef 3 6 f__law_few
theorem m__law_few_ : SimW g__law_few w42 := m_def 3 6 (m_sSeq (m_sPar2E 3 4 (m_Cons (m_Lst m_Nil) (m_Cons (m_C (.int 0)) m_Nil))) (m_sSeq (m_sFor (m_iVal (m_Call m__law_steps_ [] (m_Cons (m_Var 0) (m_Cons (m_Var 1) (m_Cons (m_Var 2) m_Nil))))) (.nm 5) (m_sSeq (m_sAugI 4 (m_B m_int (m_Cons (m_Bin m_in (m_Bin m_ix (m_Var 5) (m_C (.int 0))) (m_Tup (m_Cons (m_C (.str "dig")) (m_Cons (m_C (.str "lean")) m_Nil)))) m_Nil))) (m_sSeq (m_sIf (m_OrT (m_Val (m_Bin m_le (m_Var 4) (m_C (.int 3)))) (m_Val (m_Bin m_in (m_Bin m_ix (m_Var 5) (m_C (.int 0))) (m_Tup (m_Cons (m_C (.str "keep")) (m_Cons (m_C (.str "full")) m_Nil)))))) (m_sSeq (m_sApp 3 (m_Var 5)) m_sNil) m_sNil) m_sNil))) (m_sSeq (m_sRetOwn 3) m_sNil)))
noncomputable def f__law_great : FS := 
  (zSeq (zAsg 1 (fLst (fCons (fLst (fCons (fC (.int 1)) (fCons (fC (.int 2)) (fCons (fC (.int 4)) (fCons (fC (.int 8)) fNil))))) (fCons (fLst (fCons (fC (.int 1)) (fCons (fC (.int 2)) (fCons (fC (.int 3)) (fCons (fC (.int 6)) fNil))))) (fCons (fLst (fCons (fC (.int 2)) (fCons (fC (.int 3)) (fCons (fC (.int 4)) (fCons (fC (.int 12)) fNil))))) (fCons (fLst (fCons (fC (.int 2)) (fCons (fC (.int 6)) (fCons (fC (.int 8)) fNil)))) (fCons (fLst (fCons (fC (.int 3)) (fCons (fC (.int 9)) fNil))) (fCons (fLst (fCons (fC (.int 4)) (fCons (fC (.int 6)) (fCons (fC (.int 8)) (fCons (fC (.int 24)) fNil))))) (fCons (fLst (fCons (fC (.int 1)) (fCons (fC (.int 5)) (fCons (fC (.int 10)) fNil)))) fNil))))))))) 
  (zSeq (zRet (fBin pIx (fVar 1) (fCall gDraw [] (fCons (fVar 0) (fCons (fB (gLenO (fun n => if n = 8 then some g_Script_len else none)) (fCons (fVar 1) fNil)) fNil))))) zNil))
noncomputable def g__law_great : FW := fDef 1 2 f__law_great
theorem m__law_great_ : SimW g__law_great w43 := m_def 1 2 (m_sSeq (m_sAsg 1 (m_Lst (m_Cons (m_Lst (m_Cons (m_C (.int 1)) (m_Cons (m_C (.int 2)) (m_Cons (m_C (.int 4)) (m_Cons (m_C (.int 8)) m_Nil))))) (m_Cons (m_Lst (m_Cons (m_C (.int 1)) (m_Cons (m_C (.int 2)) (m_Cons (m_C (.int 3)) (m_Cons (m_C (.int 6)) m_Nil))))) (m_Cons (m_Lst (m_Cons (m_C (.int 2)) (m_Cons (m_C (.int 3)) (m_Cons (m_C (.int 4)) (m_Cons (m_C (.int 12)) m_Nil))))) (m_Cons (m_Lst (m_Cons (m_C (.int 2)) (m_Cons (m_C (.int 6)) (m_Cons (m_C (.int 8)) m_Nil)))) (m_Cons (m_Lst (m_Cons (m_C (.int 3)) (m_Cons (m_C (.int 9)) m_Nil))) (m_Cons (m_Lst (m_Cons (m_C (.int 4)) (m_Cons (m_C (.int 6)) (m_Cons (m_C (.int 8)) (m_Cons (m_C (.int 24)) m_Nil))))) (m_Cons (m_Lst (m_Cons (m_C (.int 1)) (m_Cons (m_C (.int 5)) (m_Cons (m_C (.int 10)) m_Nil)))) m_Nil))))))))) (m_sSeq (m_sRet (m_Bin m_ix (m_Var 1) (m_Call m_draw [] (m_Cons (m_Var 0) (m_Cons (m_B (m_lenO (tb_cons 8 m_Script_len_ tb_nil)) (m_Cons (m_Var 1) m_Nil)) m_Nil))))) m_sNil))
noncomputable def f__law_moved : FS := 
  (zSeq (zRet (fLc (jVal (fVar 0)) (.tp [3, 4]) fYes (fTup (fCons (fLc (jVal (fVar 3)) (.nm 2) fYes (fBin pAdd (fVar 2) (fVar 1)) [2]) (fCons (fLc (jVal (fVar 4)) (.nm 2) fYes (fBin pAdd (fVar 2) (fVar 1)) [2]) fNil))) [3, 4])) zNil)
noncomputable def g__law_moved : FW := fDef 2 5 f__law_moved
theorem m__law_moved_ : SimW g__law_moved w44 := m_def 2 5 (m_sSeq (m_sRet (m_Lc (m_iVal (m_Var 0)) (.tp [3, 4]) m_Yes (m_Tup (m_Cons (m_Lc (m_iVal (m_Var 3)) (.nm 2) m_Yes (m_Bin m_add (m_Var 2) (m_Var 1)) [2]) (m_Cons (m_Lc (m_iVal (m_Var 4)) (.nm 2) m_Yes (m_Bin m_add (m_Var 2) (m_Var 1)) [2]) m_Nil))) [3, 4])) m_sNil)
noncomputable def f_Keep_init : FS := 
  (zSeq (zDrop (fCall g_check_number [.non] (fCons (fVar 1) (fCons (fC (.int 1)) fNil)))) 
  (zSeq (zFld 5 0 "_size" (fVar 1)) zNil))
noncomputable def g_Keep_init : FI := fIni 5 1 1 f_Keep_init
theorem m_Keep_init_ : SimWi g_Keep_init w5 := m_ini 5 1 1 (m_sSeq (m_sDrop (m_Call m_check_number_ [.non] (m_Cons (m_Var 1) (m_Cons (m_C (.int 1)) m_Nil)))) (m_sSeq (m_sFld 5 0 "_size" (m_Var 1)) m_sNil))
noncomputable def f_Lean_init : FS := 
  (zSeq (zDrop (fCall g_check_number [.non] (fCons (fVar 1) (fCons (fC (.int 1)) fNil)))) 
  (zSeq (zFld 6 0 "_size" (fVar 1)) zNil))
noncomputable def g_Lean_init : FI := fIni 6 1 1 f_Lean_init
theorem m_Lean_init_ : SimWi g_Lean_init w8 := m_ini 6 1 1 (m_sSeq (m_sDrop (m_Call m_check_number_ [.non] (m_Cons (m_Var 1) (m_Cons (m_C (.int 1)) m_Nil)))) (m_sSeq (m_sFld 6 0 "_size" (m_Var 1)) m_sNil))
noncomputable def f_Dig_init : FS := 
  (zSeq (zDrop (fCall g_check_number [.non] (fCons (fVar 1) (fCons (fC (.int 1)) fNil)))) 
  (zSeq (zFld 7 0 "_size" (fVar 1)) zNil))
noncomputable def g_Dig_init : FI := fIni 7 1 1 f_Dig_init
theorem m_Dig_init_ : SimWi g_Dig_init w11 := m_ini 7 1 1 (m_sSeq (m_sDrop (m_Call m_check_number_ [.non] (m_Cons (m_Var 1) (m_Cons (m_C (.int 1)) m_Nil)))) (m_sSeq (m_sFld 7 0 "_size" (m_Var 1)) m_sNil))
noncomputable def f_Script_init : FS := 
  (zSeq (zIf (fAndT (fVal (fBin pNotN (fVar 1) (fC .non))) (fNotT (fTru (fCall g__is_list_of_steps [] (fCons (fVar 1) fNil))))) 
  (zSeq (zRaise 2 (fVar 1)) zNil) zNil) 
  (zSeq (zFld 8 0 "_steps" (fIfE (fVal (fBin pIsN (fVar 1) (fC .non))) (fTup fNil) (fB gTuple (fCons (fVar 1) fNil)))) zNil))
noncomputable def g_Script_init : FI := fIni 8 1 1 f_Script_init
theorem m_Script_init_ : SimWi g_Script_init w14 := m_ini 8 1 1 (m_sSeq (m_sIf (m_AndT (m_Val (m_Bin m_notN (m_Var 1) (m_C .non))) (m_NotT (m_Tru (m_Call m__is_list_of_steps_ [] (m_Cons (m_Var 1) m_Nil))))) (m_sSeq (m_sRaise 2 (m_Var 1)) m_sNil) m_sNil) (m_sSeq (m_sFld 8 0 "_steps" (m_IfE (m_Val (m_Bin m_isN (m_Var 1) (m_C .non))) (m_Tup m_Nil) (m_B m_tuple (m_Cons (m_Var 1) m_Nil)))) m_sNil))
noncomputable def f__stepped : FS := 
  (zSeq (zIf (fTru (fB (gIsi subT) (fCons (fVar 0) (fCons (fC (.cls 4)) fNil)))) 
  (zSeq (zRet (fBin pMul (fLst (fCons (fVar 3) fNil)) (fB (gLenO (fun n => if n = 8 then some g_Script_len else none)) (fCons (fVar 2) fNil)))) zNil) zNil) 
  (zSeq (zOwn 4 fNil) 
  (zSeq (zFor (jVal (fCall g_blocks [] (fCons (fB (gLenO (fun n => if n = 8 then some g_Script_len else none)) (fCons (fVar 2) fNil)) (fCons (fProp (fun n => if n = 5 then some g_Keep_size else if n = 6 then some g_Lean_size else if n = 7 then some g_Dig_size else none) (fVar 0)) fNil)))) (.tp [5, 6]) 
  (zSeq (zIf (fTru (fB (gIsi subT) (fCons (fVar 0) (fCons (fC (.cls 5)) fNil)))) 
  (zSeq (zExt 4 (fBin pMul (fLst (fCons (fCall g__joined [] (fCons (fSl (fVar 2) (fOSome (fVar 5)) (fOSome (fVar 6))) fNil)) fNil)) (fBin pSub (fVar 6) (fVar 5)))) zNil) 
  (zSeq (zIf (fNotT (fTru (fB gAny (fCons (fLc (jVal (fVar 1)) (.nm 7) fYes (fCh2 pLe pLt (fVar 5) (fVar 7) (fVar 6)) [7]) fNil)))) 
  (zSeq (zExt 4 (fBin pMul (fLst (fCons (fC (.int 0)) fNil)) (fBin pSub (fVar 6) (fVar 5)))) zNil) 
  (zSeq (zIf (fTru (fB (gIsi subT) (fCons (fVar 0) (fCons (fC (.cls 7)) fNil)))) 
  (zSeq (zExt 4 (fSl (fVar 2) (fOSome (fVar 5)) (fOSome (fVar 6)))) zNil) 
  (zSeq (zExt 4 (fBin pMul (fLst (fCons (fVar 3) fNil)) (fBin pSub (fVar 6) (fVar 5)))) zNil)) zNil)) zNil)) zNil)) 
  (zSeq (zRetOwn 4) zNil))))
noncomputable def g__stepped : FW := fDef 4 8 f__stepped
theorem m__stepped_ : SimW g__stepped w31 := m_def 4 8 (m_sSeq (m_sIf (m_Tru (m_B (m_isi subT) (m_Cons (m_Var 0) (m_Cons (m_C (.cls 4)) m_Nil)))) (m_sSeq (m_sRet (m_Bin m_mul (m_Lst (m_Cons (m_Var 3) m_Nil)) (m_B (m_lenO (tb_cons 8 m_Script_len_ tb_nil)) (m_Cons (m_Var 2) m_Nil)))) m_sNil) m_sNil) (m_sSeq (m_sOwn 4 m_Nil) (m_sSeq (m_sFor (m_iVal (m_Call m_blocks_ [] (m_Cons (m_B (m_lenO (tb_cons 8 m_Script_len_ tb_nil)) (m_Cons (m_Var 2) m_Nil)) (m_Cons (m_Prop (tb_cons 5 m_Keep_size_ (tb_cons 6 m_Lean_size_ (tb_cons 7 m_Dig_size_ tb_nil))) (m_Var 0)) m_Nil)))) (.tp [5, 6]) (m_sSeq (m_sIf (m_Tru (m_B (m_isi subT) (m_Cons (m_Var 0) (m_Cons (m_C (.cls 5)) m_Nil)))) (m_sSeq (m_sExt 4 (m_Bin m_mul (m_Lst (m_Cons (m_Call m__joined_ [] (m_Cons (m_Sl (m_Var 2) (m_OSome (m_Var 5)) (m_OSome (m_Var 6))) m_Nil)) m_Nil)) (m_Bin m_sub (m_Var 6) (m_Var 5)))) m_sNil) (m_sSeq (m_sIf (m_NotT (m_Tru (m_B m_any (m_Cons (m_Lc (m_iVal (m_Var 1)) (.nm 7) m_Yes (m_Ch2 m_le m_lt (m_Var 5) (m_Var 7) (m_Var 6)) [7]) m_Nil)))) (m_sSeq (m_sExt 4 (m_Bin m_mul (m_Lst (m_Cons (m_C (.int 0)) m_Nil)) (m_Bin m_sub (m_Var 6) (m_Var 5)))) m_sNil) (m_sSeq (m_sIf (m_Tru (m_B (m_isi subT) (m_Cons (m_Var 0) (m_Cons (m_C (.cls 7)) m_Nil)))) (m_sSeq (m_sExt 4 (m_Sl (m_Var 2) (m_OSome (m_Var 5)) (m_OSome (m_Var 6)))) m_sNil) (m_sSeq (m_sExt 4 (m_Bin m_mul (m_Lst (m_Cons (m_Var 3) m_Nil)) (m_Bin m_sub (m_Var 6) (m_Var 5)))) m_sNil)) m_sNil)) m_sNil)) m_sNil)) (m_sSeq (m_sRetOwn 4) m_sNil))))
noncomputable def f__law_step : FS := 
  (zSeq (zIf (fVal (fBin (pEqT TQ 10) (fBin pIx (fVar 0) (fC (.int 0))) (fC (.str "full")))) 
  (zSeq (zRet (fMake 4 (nm.getD 4 []) g_Full_init [] fNil)) zNil) zNil) 
  (zSeq (zIf (fVal (fBin (pEqT TQ 10) (fBin pIx (fVar 0) (fC (.int 0))) (fC (.str "keep")))) 
  (zSeq (zRet (fMake 5 (nm.getD 5 []) g_Keep_init [] (fCons (fBin pIx (fVar 0) (fC (.int 1))) fNil))) zNil) zNil) 
  (zSeq (zIf (fVal (fBin (pEqT TQ 10) (fBin pIx (fVar 0) (fC (.int 0))) (fC (.str "lean")))) 
  (zSeq (zRet (fMake 6 (nm.getD 6 []) g_Lean_init [] (fCons (fBin pIx (fVar 0) (fC (.int 1))) fNil))) zNil) zNil) 
  (zSeq (zRet (fMake 7 (nm.getD 7 []) g_Dig_init [] (fCons (fBin pIx (fVar 0) (fC (.int 1))) fNil))) zNil))))
noncomputable def g__law_step : FW := fDef 1 1 f__law_step
theorem m__law_step_ : SimW g__law_step w38 := m_def 1 1 (m_sSeq (m_sIf (m_Val (m_Bin (m_eqT TQ 10) (m_Bin m_ix (m_Var 0) (m_C (.int 0))) (m_C (.str "full")))) (m_sSeq (m_sRet (m_Make 4 (nm.getD 4 []) m_Full_init_ [] m_Nil)) m_sNil) m_sNil) (m_sSeq (m_sIf (m_Val (m_Bin (m_eqT TQ 10) (m_Bin m_ix (m_Var 0) (m_C (.int 0))) (m_C (.str "keep")))) (m_sSeq (m_sRet (m_Make 5 (nm.getD 5 []) m_Keep_init_ [] (m_Cons (m_Bin m_ix (m_Var 0) (m_C (.int 1))) m_Nil))) m_sNil) m_sNil) (m_sSeq (m_sIf (m_Val (m_Bin (m_eqT TQ 10) (m_Bin m_ix (m_Var 0) (m_C (.int 0))) (m_C (.str "lean")))) (m_sSeq (m_sRet (m_Make 6 (nm.getD 6 []) m_Lean_init_ [] (m_Cons (m_Bin m_ix (m_Var 0) (m_C (.int 1))) m_Nil))) m_sNil) m_sNil) (m_sSeq (m_sRet (m_Make 7 (nm.getD 7 []) m_Dig_init_ [] (m_Cons (m_Bin m_ix (m_Var 0) (m_C (.int 1))) m_Nil))) m_sNil))))
noncomputable def f__law_script : FS := 
  (zSeq (zRet (fMake 8 (nm.getD 8 []) g_Script_init [] (fCons (fLc (jVal (fVar 0)) (.nm 1) fYes (fCall g__law_step [] (fCons (fVar 1) fNil)) [1]) fNil))) zNil)
noncomputable def g__law_script : FW := fDef 1 2 f__law_script
theorem m__law_script_ : SimW g__law_script w39 := m_def 1 2 (m_sSeq (m_sRet (m_Make 8 (nm.getD 8 []) m_Script_init_ [] (m_Cons (m_Lc (m_iVal (m_Var 0)) (.nm 1) m_Yes (m_Call m__law_step_ [] (m_Cons (m_Var 1) m_Nil)) [1]) m_Nil))) m_sNil)
noncomputable def f_starts : FS := 
  (zSeq (zAsg 3 (fBin pSub (fBin pShl (fC (.int 2)) (fVar 2)) (fC (.int 1)))) 
  (zSeq (zAsg 4 (fLc (jR1 (fCons (fVar 2) fNil)) (.nm 6) fYes (fIfE (fVal (fBin pIn (fVar 6) (fVar 1))) (fVar 3) (fBin pShl (fC (.int 1)) (fVar 6))) [6])) 
  (zSeq (zFor (jObj (fun n => if n = 8 then some 0 else none) (fVar 0)) (.nm 5) 
  (zSeq (zAsg 4 (fCall g__stepped [] (fCons (fVar 5) (fCons (fVar 1) (fCons (fVar 4) (fCons (fVar 3) fNil)))))) zNil)) 
  (zSeq (zRet (fVar 4)) zNil))))
noncomputable def g_starts : FW := fDef 3 7 f_starts
theorem m_starts_ : SimW g_starts w30 := m_def 3 7 (m_sSeq (m_sAsg 3 (m_Bin m_sub (m_Bin m_shl (m_C (.int 2)) (m_Var 2)) (m_C (.int 1)))) (m_sSeq (m_sAsg 4 (m_Lc (m_iR1 (m_Cons (m_Var 2) m_Nil)) (.nm 6) m_Yes (m_IfE (m_Val (m_Bin m_in (m_Var 6) (m_Var 1))) (m_Var 3) (m_Bin m_shl (m_C (.int 1)) (m_Var 6))) [6])) (m_sSeq (m_sFor (m_iObj (fun n => if n = 8 then some 0 else none) (m_Var 0)) (.nm 5) (m_sSeq (m_sAsg 4 (m_Call m__stepped_ [] (m_Cons (m_Var 5) (m_Cons (m_Var 1) (m_Cons (m_Var 4) (m_Cons (m_Var 3) m_Nil)))))) m_sNil)) (m_sSeq (m_sRet (m_Var 4)) m_sNil))))
noncomputable def f_reasons : FS := 
  (zSeq (zDrop (fCall g_check_script [] (fCons (fVar 0) fNil))) 
  (zSeq (zDrop (fCall g_check_number [.non] (fCons (fVar 1) (fCons (fC (.int 0)) fNil)))) 
  (zSeq (zAsg 2 (fProp (fun n => if n = 8 then some g_Script_period else none) (fVar 0))) 
  (zSeq (zAsg 3 (fBin pMul (fBin pDiv (fVar 1) (fVar 2)) (fVar 2))) 
  (zSeq (zAsg 4 (fDcT (jVal (fCall g_sign_rows [] (fCons (fVar 2) fNil))) (.nm 5) fYes (fVar 5) (fBin pIx (fCall g_starts [] (fCons (fVar 0) (fCons (fVar 5) (fCons (fVar 2) fNil)))) (fBin pSub (fVar 1) (fVar 3))) [5])) 
  (zSeq (zRet (fB gSortD (fCons (fLc2 (jTab (fVar 4)) (.nm 5) fYes (jVal (fCall g__blank_rows [] (fCons (fTabIx (fVar 4) (fVar 5)) (fCons (fVar 2) fNil)))) (.nm 7) (fTru (fCall g__is_least [] (fCons (fVar 4) (fCons (fVar 5) (fCons (fVar 7) fNil))))) (fTup (fCons (fLc (jVal (fVar 5)) (.nm 6) fYes (fBin pAdd (fVar 3) (fVar 6)) [6]) (fCons (fLc (jVal (fVar 7)) (.nm 6) fYes (fBin pAdd (fVar 3) (fVar 6)) [6]) fNil))) [5, 7] [7]) fNil))) zNil))))))
noncomputable def g_reasons : FW := fDef 2 8 f_reasons
theorem m_reasons_ : SimW g_reasons w28 := m_def 2 8 (m_sSeq (m_sDrop (m_Call m_check_script_ [] (m_Cons (m_Var 0) m_Nil))) (m_sSeq (m_sDrop (m_Call m_check_number_ [.non] (m_Cons (m_Var 1) (m_Cons (m_C (.int 0)) m_Nil)))) (m_sSeq (m_sAsg 2 (m_Prop (tb_cons 8 m_Script_period_ tb_nil) (m_Var 0))) (m_sSeq (m_sAsg 3 (m_Bin m_mul (m_Bin m_div (m_Var 1) (m_Var 2)) (m_Var 2))) (m_sSeq (m_sAsg 4 (m_DcT (m_iVal (m_Call m_sign_rows_ [] (m_Cons (m_Var 2) m_Nil))) (.nm 5) m_Yes (m_Var 5) (m_Bin m_ix (m_Call m_starts_ [] (m_Cons (m_Var 0) (m_Cons (m_Var 5) (m_Cons (m_Var 2) m_Nil)))) (m_Bin m_sub (m_Var 1) (m_Var 3))) [5])) (m_sSeq (m_sRet (m_B m_sortD (m_Cons (m_Lc2 (m_iTab (m_Var 4)) (.nm 5) m_Yes (m_iVal (m_Call m__blank_rows_ [] (m_Cons (m_TabIx (m_Var 4) (m_Var 5)) (m_Cons (m_Var 2) m_Nil)))) (.nm 7) (m_Tru (m_Call m__is_least_ [] (m_Cons (m_Var 4) (m_Cons (m_Var 5) (m_Cons (m_Var 7) m_Nil))))) (m_Tup (m_Cons (m_Lc (m_iVal (m_Var 5)) (.nm 6) m_Yes (m_Bin m_add (m_Var 3) (m_Var 6)) [6]) (m_Cons (m_Lc (m_iVal (m_Var 7)) (.nm 6) m_Yes (m_Bin m_add (m_Var 3) (m_Var 6)) [6]) m_Nil))) [5, 7] [7]) m_Nil))) m_sNil))))))
noncomputable def f_law : FS := 
  (zSeq (zFor (jR1 (fCons (fC (.int 2)) fNil)) (.nm 1) 
  (zSeq (zAsg 2 (fCall g__law_purse [] (fCons (fVar 0) (fCons (fVar 1) fNil)))) 
  (zSeq (zAsg 3 (fCall g__law_few [] (fCons (fVar 2) (fCons (fCall g__law_great [] (fCons (fVar 2) fNil)) (fCons (fC (.int 7)) fNil))))) 
  (zSeq (zAsg 4 (fCall g__law_script [] (fCons (fVar 3) fNil))) 
  (zSeq (zAsg 5 (fCall g__law_multiple [] (fCons (fCall g__law_sizes [] (fCons (fVar 3) fNil)) fNil))) 
  (zSeq (zFor (jR1 (fCons (fC (.int 2)) fNil)) (.nm 6) 
  (zSeq (zPar2 7 8 (fCons (fCall gDraw [] (fCons (fVar 2) (fCons (fVar 5) fNil))) (fCons (fBin pMul (fVar 5) (fBin pIx (fLst (fCons (fC (.int 1)) (fCons (fC (.int 2)) (fCons (fC (.int 7)) (fCons (fBin pPow (fC (.int 10)) (fC (.int 36))) fNil))))) (fCall gDraw [] (fCons (fVar 2) (fCons (fC (.int 4)) fNil))))) fNil))) 
  (zSeq (zIf (fVal (fBin (pNeT TQ 10) (fCall g_reasons [] (fCons (fVar 4) (fCons (fBin pAdd (fVar 7) (fVar 8)) fNil))) (fCall g__law_moved [] (fCons (fCall g_reasons [] (fCons (fVar 4) (fCons (fVar 7) fNil))) (fCons (fVar 8) fNil))))) 
  (zSeq (zRet (fC (.bl false))) zNil) zNil) zNil))) zNil)))))) 
  (zSeq (zRet (fC (.bl true))) zNil))
noncomputable def g_law : FW := fDef 1 9 f_law
theorem m_law_ : SimW g_law w45 := m_def 1 9 (m_sSeq (m_sFor (m_iR1 (m_Cons (m_C (.int 2)) m_Nil)) (.nm 1) (m_sSeq (m_sAsg 2 (m_Call m__law_purse_ [] (m_Cons (m_Var 0) (m_Cons (m_Var 1) m_Nil)))) (m_sSeq (m_sAsg 3 (m_Call m__law_few_ [] (m_Cons (m_Var 2) (m_Cons (m_Call m__law_great_ [] (m_Cons (m_Var 2) m_Nil)) (m_Cons (m_C (.int 7)) m_Nil))))) (m_sSeq (m_sAsg 4 (m_Call m__law_script_ [] (m_Cons (m_Var 3) m_Nil))) (m_sSeq (m_sAsg 5 (m_Call m__law_multiple_ [] (m_Cons (m_Call m__law_sizes_ [] (m_Cons (m_Var 3) m_Nil)) m_Nil))) (m_sSeq (m_sFor (m_iR1 (m_Cons (m_C (.int 2)) m_Nil)) (.nm 6) (m_sSeq (m_sPar2 7 8 (m_Cons (m_Call m_draw [] (m_Cons (m_Var 2) (m_Cons (m_Var 5) m_Nil))) (m_Cons (m_Bin m_mul (m_Var 5) (m_Bin m_ix (m_Lst (m_Cons (m_C (.int 1)) (m_Cons (m_C (.int 2)) (m_Cons (m_C (.int 7)) (m_Cons (m_Bin m_pow (m_C (.int 10)) (m_C (.int 36))) m_Nil))))) (m_Call m_draw [] (m_Cons (m_Var 2) (m_Cons (m_C (.int 4)) m_Nil))))) m_Nil))) (m_sSeq (m_sIf (m_Val (m_Bin (m_neT TQ 10) (m_Call m_reasons_ [] (m_Cons (m_Var 4) (m_Cons (m_Bin m_add (m_Var 7) (m_Var 8)) m_Nil))) (m_Call m__law_moved_ [] (m_Cons (m_Call m_reasons_ [] (m_Cons (m_Var 4) (m_Cons (m_Var 7) m_Nil))) (m_Cons (m_Var 8) m_Nil))))) (m_sSeq (m_sRet (m_C (.bl false))) m_sNil) m_sNil) m_sNil))) m_sNil)))))) (m_sSeq (m_sRet (m_C (.bl true))) m_sNil))
end K13
set_option Elab.async false
set_option linter.all false
set_option exponentiation.threshold 4000
set_option maxRecDepth 100000
set_option maxHeartbeats 1000000
namespace K13
open PySem PySem.Spec L2 Dl Dl.Hd Res
abbrev valD (v : D) : Bool := valS subT v
theorem g_whole {v : D} (hv : valD v = true) : g_is_whole [v] = .ok (.bl (isW v)) := by
  have e1 := isi_ty' (m := "int") hv (by decide)
  have e2 := isi_ty' (m := "bool") hv (by decide)
  simp only [g_is_whole, f_is_whole, fVar,fC,fBin,fNil,fCons,fTup,fLst,fONone,fOSome,fSl,fVal,fTru,fNotT,fAndT,fOrT,fNot,fAnd,fOr,fIfE,fB,fM1,fCall,fMeth,fMake,fProp,fFld,fXf,fNeg,fRepl,fFr,frzS,frz1,flatD,fFrT,jVal,jR1,jR2,jR3,jEnumL,fYes,fLc,zNil,zSeq,zAsg,zOwn,zOwnL,zDrop,zApp,zRet,zRetN,zRetL,zRetOwn,zIf,zBreak,zCont,zRaise,zTg,zPar2,zPar3,zFld,zSetSl,zFor,zTry,sx,setTF,setM,fDef,fIni,fPur,startD,Dl.isNon,plainB,wipeD,fChain,hNil,hCons,jEnumS,fOpO,fIxO,jObj,zOwnE,zPar2E,zTg3E,zOwnN,zPar2N,zTg3N,zSetIx,fRev,fRevS,fLR1,fLR2,fCallK,fBor,fBorT,e_asI,e_asB,e_tru_non,e_tru_bl,e_tru_int,e_tru_str,e_tru_lst,e_tru_tup,e_tru_scr,e_sl_lst,e_sl_str,e_sl_tup,e_some,e_none,e_it_lst,e_it_tup,e_it_str,e_it_scr,e_r1,e_r2,e_en,e_thenS_nx,e_thenS_rt,e_thenS_rn,e_thenS_bk,e_thenS_cn,e_thenS_ex,e_afterS_nx,e_afterS_rt,e_afterS_rn,e_afterS_bk,e_afterS_cn,e_afterS_ex,e_su_nx,e_su_rt,e_su_bk,e_su_cn,e_ca_nx,e_ca_bk,e_ca_cn,e_ca_rt,e_ca_ex,e_end_nx,e_end_rt,e_end_rn,e_end_ex,e_endN_rn,e_endN_ex,e_endI_ex,e_endI_nx,e_len_str,e_len_lst,e_len_tup,e_len_scr,e_list_lst,e_list_tup,e_list_scr,e_list_str,e_tuple_lst,e_tuple_tup,e_int_int,e_int_bl,e_bool_int,e_bool_bl,e_sum,e_all,e_any,e_min,e_max,e_join_l,e_join_t,e_count,e_strip,e_split,e_add_i,e_add_s,e_add_l,e_add_t,e_sub,e_mul_i,e_mul_s,e_mul_l,e_mul_t,e_is_bl,e_not_bl,e_mod,e_div,e_pow,e_cmp,e_isN_non,e_notN_non,e_isN_bl,e_notN_bl,e_isN_int,e_notN_int,e_isN_str,e_notN_str,e_isN_lst,e_notN_lst,e_isN_tup,e_notN_tup,e_isN_obj,e_notN_obj,e_isN_scr,e_notN_scr,e_isN_tok,e_notN_tok,e_ix_l,e_ix_t,e_ix_s,e_ix_n,e_in1,e_kBl,e_enS,e_repl,e_neg,e_gcd,e_lcm,e_lenO_str,e_lenO_lst,e_lenO_tup,e_lenO_scr,e_op_int,e_op_str,e_op_lst,e_op_tup,e_ixO_str,e_ixO_scr,e_ixO_lst,e_ixO_tup,e_it_lst',e_it_tup',e_it_str',e_rev,e_revS,e_lr1,e_lr2,e_sorted,e_ownF_lst,e_ownF_non,e_par2F,e_triF,e_setIx,lis_cons,lis_nil,lisO_un,lisO_int,lisO_str,lisO_bl,lisO_non,bind_ok,bind_exc,bind_bad,bind_ask,cat,noex,need_true,reduceIte,Nat.reduceEqDiff,if_true,if_false,Bool.false_eq_true,List.getElem?_cons_zero,List.getElem?_cons_succ,List.map_cons,List.map_nil,List.replicate,List.cons_append,List.nil_append,List.append_nil,List.length_cons,List.length_nil,List.set_cons_zero,List.set_cons_succ, e1, e2]
  cases v with
  | tok k =>
    have e : k = 7 := by simpa [valS] using hv
    subst e
    simp [isK, kindD, isiB, isW, fVar,fC,fBin,fNil,fCons,fTup,fLst,fONone,fOSome,fSl,fVal,fTru,fNotT,fAndT,fOrT,fNot,fAnd,fOr,fIfE,fB,fM1,fCall,fMeth,fMake,fProp,fFld,fXf,fNeg,fRepl,fFr,frzS,frz1,flatD,fFrT,jVal,jR1,jR2,jR3,jEnumL,fYes,fLc,zNil,zSeq,zAsg,zOwn,zOwnL,zDrop,zApp,zRet,zRetN,zRetL,zRetOwn,zIf,zBreak,zCont,zRaise,zTg,zPar2,zPar3,zFld,zSetSl,zFor,zTry,sx,setTF,setM,fDef,fIni,fPur,startD,Dl.isNon,plainB,wipeD,fChain,hNil,hCons,jEnumS,fOpO,fIxO,jObj,zOwnE,zPar2E,zTg3E,zOwnN,zPar2N,zTg3N,zSetIx,fRev,fRevS,fLR1,fLR2,fCallK,fBor,fBorT,e_asI,e_asB,e_tru_non,e_tru_bl,e_tru_int,e_tru_str,e_tru_lst,e_tru_tup,e_tru_scr,e_sl_lst,e_sl_str,e_sl_tup,e_some,e_none,e_it_lst,e_it_tup,e_it_str,e_it_scr,e_r1,e_r2,e_en,e_thenS_nx,e_thenS_rt,e_thenS_rn,e_thenS_bk,e_thenS_cn,e_thenS_ex,e_afterS_nx,e_afterS_rt,e_afterS_rn,e_afterS_bk,e_afterS_cn,e_afterS_ex,e_su_nx,e_su_rt,e_su_bk,e_su_cn,e_ca_nx,e_ca_bk,e_ca_cn,e_ca_rt,e_ca_ex,e_end_nx,e_end_rt,e_end_rn,e_end_ex,e_endN_rn,e_endN_ex,e_endI_ex,e_endI_nx,e_len_str,e_len_lst,e_len_tup,e_len_scr,e_list_lst,e_list_tup,e_list_scr,e_list_str,e_tuple_lst,e_tuple_tup,e_int_int,e_int_bl,e_bool_int,e_bool_bl,e_sum,e_all,e_any,e_min,e_max,e_join_l,e_join_t,e_count,e_strip,e_split,e_add_i,e_add_s,e_add_l,e_add_t,e_sub,e_mul_i,e_mul_s,e_mul_l,e_mul_t,e_is_bl,e_not_bl,e_mod,e_div,e_pow,e_cmp,e_isN_non,e_notN_non,e_isN_bl,e_notN_bl,e_isN_int,e_notN_int,e_isN_str,e_notN_str,e_isN_lst,e_notN_lst,e_isN_tup,e_notN_tup,e_isN_obj,e_notN_obj,e_isN_scr,e_notN_scr,e_isN_tok,e_notN_tok,e_ix_l,e_ix_t,e_ix_s,e_ix_n,e_in1,e_kBl,e_enS,e_repl,e_neg,e_gcd,e_lcm,e_lenO_str,e_lenO_lst,e_lenO_tup,e_lenO_scr,e_op_int,e_op_str,e_op_lst,e_op_tup,e_ixO_str,e_ixO_scr,e_ixO_lst,e_ixO_tup,e_it_lst',e_it_tup',e_it_str',e_rev,e_revS,e_lr1,e_lr2,e_sorted,e_ownF_lst,e_ownF_non,e_par2F,e_triF,e_setIx,lis_cons,lis_nil,lisO_un,lisO_int,lisO_str,lisO_bl,lisO_non,bind_ok,bind_exc,bind_bad,bind_ask,cat,noex,need_true,reduceIte,Nat.reduceEqDiff,if_true,if_false,Bool.false_eq_true,List.getElem?_cons_zero,List.getElem?_cons_succ,List.map_cons,List.map_nil,List.replicate,List.cons_append,List.nil_append,List.append_nil,List.length_cons,List.length_nil,List.set_cons_zero,List.set_cons_succ]
  | _ => first | (cases hv; done) | simp [isK, kindD, isiB, isW, fVar,fC,fBin,fNil,fCons,fTup,fLst,fONone,fOSome,fSl,fVal,fTru,fNotT,fAndT,fOrT,fNot,fAnd,fOr,fIfE,fB,fM1,fCall,fMeth,fMake,fProp,fFld,fXf,fNeg,fRepl,fFr,frzS,frz1,flatD,fFrT,jVal,jR1,jR2,jR3,jEnumL,fYes,fLc,zNil,zSeq,zAsg,zOwn,zOwnL,zDrop,zApp,zRet,zRetN,zRetL,zRetOwn,zIf,zBreak,zCont,zRaise,zTg,zPar2,zPar3,zFld,zSetSl,zFor,zTry,sx,setTF,setM,fDef,fIni,fPur,startD,Dl.isNon,plainB,wipeD,fChain,hNil,hCons,jEnumS,fOpO,fIxO,jObj,zOwnE,zPar2E,zTg3E,zOwnN,zPar2N,zTg3N,zSetIx,fRev,fRevS,fLR1,fLR2,fCallK,fBor,fBorT,e_asI,e_asB,e_tru_non,e_tru_bl,e_tru_int,e_tru_str,e_tru_lst,e_tru_tup,e_tru_scr,e_sl_lst,e_sl_str,e_sl_tup,e_some,e_none,e_it_lst,e_it_tup,e_it_str,e_it_scr,e_r1,e_r2,e_en,e_thenS_nx,e_thenS_rt,e_thenS_rn,e_thenS_bk,e_thenS_cn,e_thenS_ex,e_afterS_nx,e_afterS_rt,e_afterS_rn,e_afterS_bk,e_afterS_cn,e_afterS_ex,e_su_nx,e_su_rt,e_su_bk,e_su_cn,e_ca_nx,e_ca_bk,e_ca_cn,e_ca_rt,e_ca_ex,e_end_nx,e_end_rt,e_end_rn,e_end_ex,e_endN_rn,e_endN_ex,e_endI_ex,e_endI_nx,e_len_str,e_len_lst,e_len_tup,e_len_scr,e_list_lst,e_list_tup,e_list_scr,e_list_str,e_tuple_lst,e_tuple_tup,e_int_int,e_int_bl,e_bool_int,e_bool_bl,e_sum,e_all,e_any,e_min,e_max,e_join_l,e_join_t,e_count,e_strip,e_split,e_add_i,e_add_s,e_add_l,e_add_t,e_sub,e_mul_i,e_mul_s,e_mul_l,e_mul_t,e_is_bl,e_not_bl,e_mod,e_div,e_pow,e_cmp,e_isN_non,e_notN_non,e_isN_bl,e_notN_bl,e_isN_int,e_notN_int,e_isN_str,e_notN_str,e_isN_lst,e_notN_lst,e_isN_tup,e_notN_tup,e_isN_obj,e_notN_obj,e_isN_scr,e_notN_scr,e_isN_tok,e_notN_tok,e_ix_l,e_ix_t,e_ix_s,e_ix_n,e_in1,e_kBl,e_enS,e_repl,e_neg,e_gcd,e_lcm,e_lenO_str,e_lenO_lst,e_lenO_tup,e_lenO_scr,e_op_int,e_op_str,e_op_lst,e_op_tup,e_ixO_str,e_ixO_scr,e_ixO_lst,e_ixO_tup,e_it_lst',e_it_tup',e_it_str',e_rev,e_revS,e_lr1,e_lr2,e_sorted,e_ownF_lst,e_ownF_non,e_par2F,e_triF,e_setIx,lis_cons,lis_nil,lisO_un,lisO_int,lisO_str,lisO_bl,lisO_non,bind_ok,bind_exc,bind_bad,bind_ask,cat,noex,need_true,reduceIte,Nat.reduceEqDiff,if_true,if_false,Bool.false_eq_true,List.getElem?_cons_zero,List.getElem?_cons_succ,List.map_cons,List.map_nil,List.replicate,List.cons_append,List.nil_append,List.append_nil,List.length_cons,List.length_nil,List.set_cons_zero,List.set_cons_succ]
theorem g_check {v : D} {lo : Int} {hi : Option Int} (hv : valD v = true) : g_check_number [v, .int lo, opD hi] = if inBd v lo hi then .ok .non else .exc 1 v := by
  have e := g_whole hv
  simp only [g_check_number, f_check_number, fVar,fC,fBin,fNil,fCons,fTup,fLst,fONone,fOSome,asI,fSl,sliceD,asB,truR,fVal,fTru,fNotT,fAndT,fOrT,fNot,fAnd,fOr,fIfE,fB,fM1,fCall,fMeth,fMake,fProp,fFld,optR,fXf,fNeg,fRepl,fFr,frzS,frz1,flatD,fFrT,jVal,itR,jR1,jR2,jR3,rng1,rng2,rng3,jEnumL,enumR,fYes,fLc,zNil,zSeq,zAsg,zOwn,zOwnL,zDrop,zApp,zRet,zRetN,zRetL,zRetOwn,zIf,zBreak,zCont,zRaise,zTg,zPar2,zPar3,zFld,zSetSl,zFor,zTry,sx,thenS,afterS,suiteF,caughtF,setTF,setM,fDef,fIni,fPur,endR,endI,endN,startD,gLen,gList,gTuple,gInt,gBool,gSum,gAll,gAny,gMin,gMax,gIsi,pAdd,pSub,pMul,pMod,pDiv,pPow,pCmp,pIsN,pNotN,Dl.isNon,isiD,kindD,isiB,plainB,wipeD,fChain,hNil,hCons,jEnumS,fOpO,fIxO,jObj,zOwnE,zPar2E,zTg3E,zOwnN,zPar2N,zTg3N,zSetIx,fRev,fRevS,fLR1,fLR2,fCallK,fBor,fBorT,Res.bind_ok,Res.bind_exc,Res.bind_bad,Res.bind_ask,Res.cat,Res.noex,Res.need_true,reduceIte,Nat.reduceEqDiff,if_true,if_false,Bool.false_eq_true,List.getElem?_cons_zero,List.getElem?_cons_succ,List.map_cons,List.map_nil,List.replicate,List.cons_append,List.nil_append,List.append_nil,List.length_cons,List.length_nil,List.set_cons_zero,List.set_cons_succ]
  rw [e]
  cases v <;> cases hi <;> simp [isW, inBd, opD, fVar,fC,fBin,fNil,fCons,fTup,fLst,fONone,fOSome,asI,fSl,sliceD,asB,truR,fVal,fTru,fNotT,fAndT,fOrT,fNot,fAnd,fOr,fIfE,fB,fM1,fCall,fMeth,fMake,fProp,fFld,optR,fXf,fNeg,fRepl,fFr,frzS,frz1,flatD,fFrT,jVal,itR,jR1,jR2,jR3,rng1,rng2,rng3,jEnumL,enumR,fYes,fLc,zNil,zSeq,zAsg,zOwn,zOwnL,zDrop,zApp,zRet,zRetN,zRetL,zRetOwn,zIf,zBreak,zCont,zRaise,zTg,zPar2,zPar3,zFld,zSetSl,zFor,zTry,sx,thenS,afterS,suiteF,caughtF,setTF,setM,fDef,fIni,fPur,endR,endI,endN,startD,gLen,gList,gTuple,gInt,gBool,gSum,gAll,gAny,gMin,gMax,gIsi,pAdd,pSub,pMul,pMod,pDiv,pPow,pCmp,pIsN,pNotN,Dl.isNon,isiD,kindD,isiB,plainB,wipeD,fChain,hNil,hCons,jEnumS,fOpO,fIxO,jObj,zOwnE,zPar2E,zTg3E,zOwnN,zPar2N,zTg3N,zSetIx,fRev,fRevS,fLR1,fLR2,fCallK,fBor,fBorT,Res.bind_ok,Res.bind_exc,Res.bind_bad,Res.bind_ask,Res.cat,Res.noex,Res.need_true,reduceIte,Nat.reduceEqDiff,if_true,if_false,Bool.false_eq_true,List.getElem?_cons_zero,List.getElem?_cons_succ,List.map_cons,List.map_nil,List.replicate,List.cons_append,List.nil_append,List.append_nil,List.length_cons,List.length_nil,List.set_cons_zero,List.set_cons_succ]
  · rename_i i
    by_cases h : i < lo
    · simp [h, Int.not_le.mpr h, fVar,fC,fBin,fNil,fCons,fTup,fLst,fONone,fOSome,asI,fSl,sliceD,asB,truR,fVal,fTru,fNotT,fAndT,fOrT,fNot,fAnd,fOr,fIfE,fB,fM1,fCall,fMeth,fMake,fProp,fFld,optR,fXf,fNeg,fRepl,fFr,frzS,frz1,flatD,fFrT,jVal,itR,jR1,jR2,jR3,rng1,rng2,rng3,jEnumL,enumR,fYes,fLc,zNil,zSeq,zAsg,zOwn,zOwnL,zDrop,zApp,zRet,zRetN,zRetL,zRetOwn,zIf,zBreak,zCont,zRaise,zTg,zPar2,zPar3,zFld,zSetSl,zFor,zTry,sx,thenS,afterS,suiteF,caughtF,setTF,setM,fDef,fIni,fPur,endR,endI,endN,startD,gLen,gList,gTuple,gInt,gBool,gSum,gAll,gAny,gMin,gMax,gIsi,pAdd,pSub,pMul,pMod,pDiv,pPow,pCmp,pIsN,pNotN,Dl.isNon,isiD,kindD,isiB,plainB,wipeD,fChain,hNil,hCons,jEnumS,fOpO,fIxO,jObj,zOwnE,zPar2E,zTg3E,zOwnN,zPar2N,zTg3N,zSetIx,fRev,fRevS,fLR1,fLR2,fCallK,fBor,fBorT,Res.bind_ok,Res.bind_exc,Res.bind_bad,Res.bind_ask,Res.cat,Res.noex,Res.need_true,reduceIte,Nat.reduceEqDiff,if_true,if_false,Bool.false_eq_true,List.getElem?_cons_zero,List.getElem?_cons_succ,List.map_cons,List.map_nil,List.replicate,List.cons_append,List.nil_append,List.append_nil,List.length_cons,List.length_nil,List.set_cons_zero,List.set_cons_succ]
    · simp [h, Int.not_lt.mp h, fVar,fC,fBin,fNil,fCons,fTup,fLst,fONone,fOSome,asI,fSl,sliceD,asB,truR,fVal,fTru,fNotT,fAndT,fOrT,fNot,fAnd,fOr,fIfE,fB,fM1,fCall,fMeth,fMake,fProp,fFld,optR,fXf,fNeg,fRepl,fFr,frzS,frz1,flatD,fFrT,jVal,itR,jR1,jR2,jR3,rng1,rng2,rng3,jEnumL,enumR,fYes,fLc,zNil,zSeq,zAsg,zOwn,zOwnL,zDrop,zApp,zRet,zRetN,zRetL,zRetOwn,zIf,zBreak,zCont,zRaise,zTg,zPar2,zPar3,zFld,zSetSl,zFor,zTry,sx,thenS,afterS,suiteF,caughtF,setTF,setM,fDef,fIni,fPur,endR,endI,endN,startD,gLen,gList,gTuple,gInt,gBool,gSum,gAll,gAny,gMin,gMax,gIsi,pAdd,pSub,pMul,pMod,pDiv,pPow,pCmp,pIsN,pNotN,Dl.isNon,isiD,kindD,isiB,plainB,wipeD,fChain,hNil,hCons,jEnumS,fOpO,fIxO,jObj,zOwnE,zPar2E,zTg3E,zOwnN,zPar2N,zTg3N,zSetIx,fRev,fRevS,fLR1,fLR2,fCallK,fBor,fBorT,Res.bind_ok,Res.bind_exc,Res.bind_bad,Res.bind_ask,Res.cat,Res.noex,Res.need_true,reduceIte,Nat.reduceEqDiff,if_true,if_false,Bool.false_eq_true,List.getElem?_cons_zero,List.getElem?_cons_succ,List.map_cons,List.map_nil,List.replicate,List.cons_append,List.nil_append,List.append_nil,List.length_cons,List.length_nil,List.set_cons_zero,List.set_cons_succ]
  · rename_i i j
    by_cases h : i < lo
    · simp [h, Int.not_le.mpr h, fVar,fC,fBin,fNil,fCons,fTup,fLst,fONone,fOSome,asI,fSl,sliceD,asB,truR,fVal,fTru,fNotT,fAndT,fOrT,fNot,fAnd,fOr,fIfE,fB,fM1,fCall,fMeth,fMake,fProp,fFld,optR,fXf,fNeg,fRepl,fFr,frzS,frz1,flatD,fFrT,jVal,itR,jR1,jR2,jR3,rng1,rng2,rng3,jEnumL,enumR,fYes,fLc,zNil,zSeq,zAsg,zOwn,zOwnL,zDrop,zApp,zRet,zRetN,zRetL,zRetOwn,zIf,zBreak,zCont,zRaise,zTg,zPar2,zPar3,zFld,zSetSl,zFor,zTry,sx,thenS,afterS,suiteF,caughtF,setTF,setM,fDef,fIni,fPur,endR,endI,endN,startD,gLen,gList,gTuple,gInt,gBool,gSum,gAll,gAny,gMin,gMax,gIsi,pAdd,pSub,pMul,pMod,pDiv,pPow,pCmp,pIsN,pNotN,Dl.isNon,isiD,kindD,isiB,plainB,wipeD,fChain,hNil,hCons,jEnumS,fOpO,fIxO,jObj,zOwnE,zPar2E,zTg3E,zOwnN,zPar2N,zTg3N,zSetIx,fRev,fRevS,fLR1,fLR2,fCallK,fBor,fBorT,Res.bind_ok,Res.bind_exc,Res.bind_bad,Res.bind_ask,Res.cat,Res.noex,Res.need_true,reduceIte,Nat.reduceEqDiff,if_true,if_false,Bool.false_eq_true,List.getElem?_cons_zero,List.getElem?_cons_succ,List.map_cons,List.map_nil,List.replicate,List.cons_append,List.nil_append,List.append_nil,List.length_cons,List.length_nil,List.set_cons_zero,List.set_cons_succ]
    · by_cases h2 : j < i
      · simp [h, Int.not_lt.mp h, h2, Int.not_le.mpr h2, fVar,fC,fBin,fNil,fCons,fTup,fLst,fONone,fOSome,asI,fSl,sliceD,asB,truR,fVal,fTru,fNotT,fAndT,fOrT,fNot,fAnd,fOr,fIfE,fB,fM1,fCall,fMeth,fMake,fProp,fFld,optR,fXf,fNeg,fRepl,fFr,frzS,frz1,flatD,fFrT,jVal,itR,jR1,jR2,jR3,rng1,rng2,rng3,jEnumL,enumR,fYes,fLc,zNil,zSeq,zAsg,zOwn,zOwnL,zDrop,zApp,zRet,zRetN,zRetL,zRetOwn,zIf,zBreak,zCont,zRaise,zTg,zPar2,zPar3,zFld,zSetSl,zFor,zTry,sx,thenS,afterS,suiteF,caughtF,setTF,setM,fDef,fIni,fPur,endR,endI,endN,startD,gLen,gList,gTuple,gInt,gBool,gSum,gAll,gAny,gMin,gMax,gIsi,pAdd,pSub,pMul,pMod,pDiv,pPow,pCmp,pIsN,pNotN,Dl.isNon,isiD,kindD,isiB,plainB,wipeD,fChain,hNil,hCons,jEnumS,fOpO,fIxO,jObj,zOwnE,zPar2E,zTg3E,zOwnN,zPar2N,zTg3N,zSetIx,fRev,fRevS,fLR1,fLR2,fCallK,fBor,fBorT,Res.bind_ok,Res.bind_exc,Res.bind_bad,Res.bind_ask,Res.cat,Res.noex,Res.need_true,reduceIte,Nat.reduceEqDiff,if_true,if_false,Bool.false_eq_true,List.getElem?_cons_zero,List.getElem?_cons_succ,List.map_cons,List.map_nil,List.replicate,List.cons_append,List.nil_append,List.append_nil,List.length_cons,List.length_nil,List.set_cons_zero,List.set_cons_succ]
      · simp [h, Int.not_lt.mp h, h2, Int.not_lt.mp h2, fVar,fC,fBin,fNil,fCons,fTup,fLst,fONone,fOSome,asI,fSl,sliceD,asB,truR,fVal,fTru,fNotT,fAndT,fOrT,fNot,fAnd,fOr,fIfE,fB,fM1,fCall,fMeth,fMake,fProp,fFld,optR,fXf,fNeg,fRepl,fFr,frzS,frz1,flatD,fFrT,jVal,itR,jR1,jR2,jR3,rng1,rng2,rng3,jEnumL,enumR,fYes,fLc,zNil,zSeq,zAsg,zOwn,zOwnL,zDrop,zApp,zRet,zRetN,zRetL,zRetOwn,zIf,zBreak,zCont,zRaise,zTg,zPar2,zPar3,zFld,zSetSl,zFor,zTry,sx,thenS,afterS,suiteF,caughtF,setTF,setM,fDef,fIni,fPur,endR,endI,endN,startD,gLen,gList,gTuple,gInt,gBool,gSum,gAll,gAny,gMin,gMax,gIsi,pAdd,pSub,pMul,pMod,pDiv,pPow,pCmp,pIsN,pNotN,Dl.isNon,isiD,kindD,isiB,plainB,wipeD,fChain,hNil,hCons,jEnumS,fOpO,fIxO,jObj,zOwnE,zPar2E,zTg3E,zOwnN,zPar2N,zTg3N,zSetIx,fRev,fRevS,fLR1,fLR2,fCallK,fBor,fBorT,Res.bind_ok,Res.bind_exc,Res.bind_bad,Res.bind_ask,Res.cat,Res.noex,Res.need_true,reduceIte,Nat.reduceEqDiff,if_true,if_false,Bool.false_eq_true,List.getElem?_cons_zero,List.getElem?_cons_succ,List.map_cons,List.map_nil,List.replicate,List.cons_append,List.nil_append,List.append_nil,List.length_cons,List.length_nil,List.set_cons_zero,List.set_cons_succ]
theorem check1 {v : D} {lo : Int} (hv : valD v = true) : g_check_number [v, .int lo, .non] = if inBd v lo none then .ok .non else .exc 1 v := g_check (hi := none) hv
theorem inBd_up {i lo : Int} (h0 : lo ≤ i) : inBd (.int i) lo none = true := by simp [inBd, h0]
theorem purse_ok {ns : List Int} {at_ : Int} (h : 0 ≤ at_) (h2 : at_ ≤ 20) : (g__law_purse [.scr ns, .int at_]).wp (fun d => d = .tok 0) NoX := by
  refine w_pur rfl ?_
  unfold f__law_purse
  refine w_seq ?_
  simp only [fVar,fC,fBin,fNil,fCons,fTup,fLst,fONone,fOSome,fSl,fVal,fTru,fNotT,fAndT,fOrT,fNot,fAnd,fOr,fIfE,fB,fM1,fCall,fMeth,fMake,fProp,fFld,fXf,fNeg,fRepl,fFr,frzS,frz1,flatD,fFrT,jVal,jR1,jR2,jR3,jEnumL,fYes,fLc,zAsg,zOwn,zOwnL,zDrop,zApp,zRet,zRetN,zRetL,zRetOwn,zIf,zBreak,zCont,zRaise,zTg,zPar2,zPar3,zFld,zSetSl,zFor,zTry,setTF,setM,fDef,fIni,fPur,startD,Dl.isNon,plainB,wipeD,fChain,hNil,hCons,jEnumS,fOpO,fIxO,jObj,zOwnE,zPar2E,zTg3E,zOwnN,zPar2N,zTg3N,zSetIx,fRev,fRevS,fLR1,fLR2,fCallK,fBor,fBorT,e_asI,e_asB,e_tru_non,e_tru_bl,e_tru_int,e_tru_str,e_tru_lst,e_tru_tup,e_tru_scr,e_sl_lst,e_sl_str,e_sl_tup,e_some,e_none,e_it_lst,e_it_tup,e_it_str,e_it_scr,e_r1,e_r2,e_en,e_thenS_nx,e_thenS_rt,e_thenS_rn,e_thenS_bk,e_thenS_cn,e_thenS_ex,e_afterS_nx,e_afterS_rt,e_afterS_rn,e_afterS_bk,e_afterS_cn,e_afterS_ex,e_su_nx,e_su_rt,e_su_bk,e_su_cn,e_ca_nx,e_ca_bk,e_ca_cn,e_ca_rt,e_ca_ex,e_end_nx,e_end_rt,e_end_rn,e_end_ex,e_endN_rn,e_endN_ex,e_endI_ex,e_endI_nx,e_len_str,e_len_lst,e_len_tup,e_len_scr,e_list_lst,e_list_tup,e_list_scr,e_list_str,e_tuple_lst,e_tuple_tup,e_int_int,e_int_bl,e_bool_int,e_bool_bl,e_sum,e_all,e_any,e_min,e_max,e_join_l,e_join_t,e_count,e_strip,e_split,e_add_i,e_add_s,e_add_l,e_add_t,e_sub,e_mul_i,e_mul_s,e_mul_l,e_mul_t,e_is_bl,e_not_bl,e_mod,e_div,e_pow,e_cmp,e_isN_non,e_notN_non,e_isN_bl,e_notN_bl,e_isN_int,e_notN_int,e_isN_str,e_notN_str,e_isN_lst,e_notN_lst,e_isN_tup,e_notN_tup,e_isN_obj,e_notN_obj,e_isN_scr,e_notN_scr,e_isN_tok,e_notN_tok,e_ix_l,e_ix_t,e_ix_s,e_ix_n,e_in1,e_kBl,e_enS,e_repl,e_neg,e_gcd,e_lcm,e_lenO_str,e_lenO_lst,e_lenO_tup,e_lenO_scr,e_op_int,e_op_str,e_op_lst,e_op_tup,e_ixO_str,e_ixO_scr,e_ixO_lst,e_ixO_tup,e_it_lst',e_it_tup',e_it_str',e_rev,e_revS,e_lr1,e_lr2,e_sorted,e_ownF_lst,e_ownF_non,e_par2F,e_triF,e_setIx,lis_cons,lis_nil,lisO_un,lisO_int,lisO_str,lisO_bl,lisO_non,w_sx,w_nil,w_ok,w_exc,w_bad,wp_bind,wp_noex,wp_cat,wp_need,true_and,and_true,bind_ok,bind_exc,bind_bad,bind_ask,cat,noex,reduceIte,Nat.reduceEqDiff,if_true,if_false,Bool.false_eq_true,List.getElem?_cons_zero,List.getElem?_cons_succ,List.map_cons,List.map_nil,List.replicate,List.cons_append,List.nil_append,List.append_nil,List.length_cons,List.length_nil,List.set_cons_zero,List.set_cons_succ]
  obtain ⟨ms, e⟩ := slice_scr ns (some at_) (some (at_ + 1))
  rw [e]
  simp only [fVar,fC,fBin,fNil,fCons,fTup,fLst,fONone,fOSome,fSl,fVal,fTru,fNotT,fAndT,fOrT,fNot,fAnd,fOr,fIfE,fB,fM1,fCall,fMeth,fMake,fProp,fFld,fXf,fNeg,fRepl,fFr,frzS,frz1,flatD,fFrT,jVal,jR1,jR2,jR3,jEnumL,fYes,fLc,zAsg,zOwn,zOwnL,zDrop,zApp,zRet,zRetN,zRetL,zRetOwn,zIf,zBreak,zCont,zRaise,zTg,zPar2,zPar3,zFld,zSetSl,zFor,zTry,setTF,setM,fDef,fIni,fPur,startD,Dl.isNon,plainB,wipeD,fChain,hNil,hCons,jEnumS,fOpO,fIxO,jObj,zOwnE,zPar2E,zTg3E,zOwnN,zPar2N,zTg3N,zSetIx,fRev,fRevS,fLR1,fLR2,fCallK,fBor,fBorT,e_asI,e_asB,e_tru_non,e_tru_bl,e_tru_int,e_tru_str,e_tru_lst,e_tru_tup,e_tru_scr,e_sl_lst,e_sl_str,e_sl_tup,e_some,e_none,e_it_lst,e_it_tup,e_it_str,e_it_scr,e_r1,e_r2,e_en,e_thenS_nx,e_thenS_rt,e_thenS_rn,e_thenS_bk,e_thenS_cn,e_thenS_ex,e_afterS_nx,e_afterS_rt,e_afterS_rn,e_afterS_bk,e_afterS_cn,e_afterS_ex,e_su_nx,e_su_rt,e_su_bk,e_su_cn,e_ca_nx,e_ca_bk,e_ca_cn,e_ca_rt,e_ca_ex,e_end_nx,e_end_rt,e_end_rn,e_end_ex,e_endN_rn,e_endN_ex,e_endI_ex,e_endI_nx,e_len_str,e_len_lst,e_len_tup,e_len_scr,e_list_lst,e_list_tup,e_list_scr,e_list_str,e_tuple_lst,e_tuple_tup,e_int_int,e_int_bl,e_bool_int,e_bool_bl,e_sum,e_all,e_any,e_min,e_max,e_join_l,e_join_t,e_count,e_strip,e_split,e_add_i,e_add_s,e_add_l,e_add_t,e_sub,e_mul_i,e_mul_s,e_mul_l,e_mul_t,e_is_bl,e_not_bl,e_mod,e_div,e_pow,e_cmp,e_isN_non,e_notN_non,e_isN_bl,e_notN_bl,e_isN_int,e_notN_int,e_isN_str,e_notN_str,e_isN_lst,e_notN_lst,e_isN_tup,e_notN_tup,e_isN_obj,e_notN_obj,e_isN_scr,e_notN_scr,e_isN_tok,e_notN_tok,e_ix_l,e_ix_t,e_ix_s,e_ix_n,e_in1,e_kBl,e_enS,e_repl,e_neg,e_gcd,e_lcm,e_lenO_str,e_lenO_lst,e_lenO_tup,e_lenO_scr,e_op_int,e_op_str,e_op_lst,e_op_tup,e_ixO_str,e_ixO_scr,e_ixO_lst,e_ixO_tup,e_it_lst',e_it_tup',e_it_str',e_rev,e_revS,e_lr1,e_lr2,e_sorted,e_ownF_lst,e_ownF_non,e_par2F,e_triF,e_setIx,lis_cons,lis_nil,lisO_un,lisO_int,lisO_str,lisO_bl,lisO_non,w_sx,w_nil,w_ok,w_exc,w_bad,wp_bind,wp_noex,wp_cat,wp_need,true_and,and_true,bind_ok,bind_exc,bind_bad,bind_ask,cat,noex,reduceIte,Nat.reduceEqDiff,if_true,if_false,Bool.false_eq_true,List.getElem?_cons_zero,List.getElem?_cons_succ,List.map_cons,List.map_nil,List.replicate,List.cons_append,List.nil_append,List.append_nil,List.length_cons,List.length_nil,List.set_cons_zero,List.set_cons_succ, toInts_map]
  refine w_seq ?_
  have b1 : ∀ b : Bool, (if b then (1 : Int) else 0).natAbs < 2 ^ 2 := fun b => by cases b <;> decide
  have p1 : (0 : Int) < (10 ^ (60 : Int).toNat) ^ (10 : Int).toNat := by decide +kernel
  have p2 : ((10 : Int) ^ (60 : Int).toNat) ^ (10 : Int).toNat < 2 ^ 2000 := by decide +kernel
  have b2 : (ms.sum % (10 ^ (60 : Int).toNat) ^ (10 : Int).toNat).natAbs < 2 ^ 2000 := by
    have h0 := Int.emod_nonneg ms.sum (Int.ne_of_gt p1)
    have h1 := Int.emod_lt_of_pos ms.sum p1
    omega
  simp only [fVar,fC,fBin,fNil,fCons,fTup,fLst,fONone,fOSome,fSl,fVal,fTru,fNotT,fAndT,fOrT,fNot,fAnd,fOr,fIfE,fB,fM1,fCall,fMeth,fMake,fProp,fFld,fXf,fNeg,fRepl,fFr,frzS,frz1,flatD,fFrT,jVal,jR1,jR2,jR3,jEnumL,fYes,fLc,zAsg,zOwn,zOwnL,zDrop,zApp,zRet,zRetN,zRetL,zRetOwn,zIf,zBreak,zCont,zRaise,zTg,zPar2,zPar3,zFld,zSetSl,zFor,zTry,setTF,setM,fDef,fIni,fPur,startD,Dl.isNon,plainB,wipeD,fChain,hNil,hCons,jEnumS,fOpO,fIxO,jObj,zOwnE,zPar2E,zTg3E,zOwnN,zPar2N,zTg3N,zSetIx,fRev,fRevS,fLR1,fLR2,fCallK,fBor,fBorT,e_asI,e_asB,e_tru_non,e_tru_bl,e_tru_int,e_tru_str,e_tru_lst,e_tru_tup,e_tru_scr,e_sl_lst,e_sl_str,e_sl_tup,e_some,e_none,e_it_lst,e_it_tup,e_it_str,e_it_scr,e_r1,e_r2,e_en,e_thenS_nx,e_thenS_rt,e_thenS_rn,e_thenS_bk,e_thenS_cn,e_thenS_ex,e_afterS_nx,e_afterS_rt,e_afterS_rn,e_afterS_bk,e_afterS_cn,e_afterS_ex,e_su_nx,e_su_rt,e_su_bk,e_su_cn,e_ca_nx,e_ca_bk,e_ca_cn,e_ca_rt,e_ca_ex,e_end_nx,e_end_rt,e_end_rn,e_end_ex,e_endN_rn,e_endN_ex,e_endI_ex,e_endI_nx,e_len_str,e_len_lst,e_len_tup,e_len_scr,e_list_lst,e_list_tup,e_list_scr,e_list_str,e_tuple_lst,e_tuple_tup,e_int_int,e_int_bl,e_bool_int,e_bool_bl,e_sum,e_all,e_any,e_min,e_max,e_join_l,e_join_t,e_count,e_strip,e_split,e_add_i,e_add_s,e_add_l,e_add_t,e_sub,e_mul_i,e_mul_s,e_mul_l,e_mul_t,e_is_bl,e_not_bl,e_mod,e_div,e_pow,e_cmp,e_isN_non,e_notN_non,e_isN_bl,e_notN_bl,e_isN_int,e_notN_int,e_isN_str,e_notN_str,e_isN_lst,e_notN_lst,e_isN_tup,e_notN_tup,e_isN_obj,e_notN_obj,e_isN_scr,e_notN_scr,e_isN_tok,e_notN_tok,e_ix_l,e_ix_t,e_ix_s,e_ix_n,e_in1,e_kBl,e_enS,e_repl,e_neg,e_gcd,e_lcm,e_lenO_str,e_lenO_lst,e_lenO_tup,e_lenO_scr,e_op_int,e_op_str,e_op_lst,e_op_tup,e_ixO_str,e_ixO_scr,e_ixO_lst,e_ixO_tup,e_it_lst',e_it_tup',e_it_str',e_rev,e_revS,e_lr1,e_lr2,e_sorted,e_ownF_lst,e_ownF_non,e_par2F,e_triF,e_setIx,lis_cons,lis_nil,lisO_un,lisO_int,lisO_str,lisO_bl,lisO_non,w_sx,w_nil,w_ok,w_exc,w_bad,wp_bind,wp_noex,wp_cat,wp_need,true_and,and_true,bind_ok,bind_exc,bind_bad,bind_ask,cat,noex,reduceIte,Nat.reduceEqDiff,if_true,if_false,Bool.false_eq_true,List.getElem?_cons_zero,List.getElem?_cons_succ,List.map_cons,List.map_nil,List.replicate,List.cons_append,List.nil_append,List.append_nil,List.length_cons,List.length_nil,List.set_cons_zero,List.set_cons_succ]
  refine ⟨cpow_ok (k := 4) (by decide) (by decide) (by decide), cpow_ok (k := 4) (by decide) (by decide) (by decide), cpow_ok (k := 200) (by decide) (by decide +kernel) (by decide), p1, cmul_ok 2 2000 (b1 _) b2 (by decide), by decide, cmul_ok 10 10 (by decide) (by omega) (by decide), szL (by decide)⟩
/-- a step by its kind (0 Full, 1 Keep, 2 Lean, 3 Dig) and size -/
def stp (k : Nat) (n : Int) : D := match k with
  | 0 => .obj 4 []
  | 1 => .obj 5 [.int n]
  | 2 => .obj 6 [.int n]
  | _ => .obj 7 [.int n]
theorem nmK {r : Res D} : need ([Str.ofString "_size"] = nm[5]?.getD []) r = r := need_pos rfl
theorem nmL {r : Res D} : need ([Str.ofString "_size"] = nm[6]?.getD []) r = r := need_pos rfl
theorem nmD {r : Res D} : need ([Str.ofString "_size"] = nm[7]?.getD []) r = r := need_pos rfl
theorem nmU {r : Res D} : need (([] : List Str) = nm[4]?.getD []) r = r := need_pos rfl
theorem g_Full : g_Full_init [] = .ok [] := by simp [g_Full_init, f_Full_init, fVar,fC,fBin,fNil,fCons,fTup,fLst,fONone,fOSome,asI,fSl,sliceD,asB,truR,fVal,fTru,fNotT,fAndT,fOrT,fNot,fAnd,fOr,fIfE,fB,fM1,fCall,fMeth,fMake,fProp,fFld,optR,fXf,fNeg,fRepl,fFr,frzS,frz1,flatD,fFrT,jVal,itR,jR1,jR2,jR3,rng1,rng2,rng3,jEnumL,enumR,fYes,fLc,zNil,zSeq,zAsg,zOwn,zOwnL,zDrop,zApp,zRet,zRetN,zRetL,zRetOwn,zIf,zBreak,zCont,zRaise,zTg,zPar2,zPar3,zFld,zSetSl,zFor,zTry,sx,thenS,afterS,suiteF,caughtF,setTF,setM,fDef,fIni,fPur,endR,endI,endN,startD,gLen,gList,gTuple,gInt,gBool,gSum,gAll,gAny,gMin,gMax,gIsi,pAdd,pSub,pMul,pMod,pDiv,pPow,pCmp,pIsN,pNotN,Dl.isNon,isiD,kindD,isiB,plainB,wipeD,fChain,hNil,hCons,jEnumS,fOpO,fIxO,jObj,zOwnE,zPar2E,zTg3E,zOwnN,zPar2N,zTg3N,zSetIx,fRev,fRevS,fLR1,fLR2,fCallK,fBor,fBorT,Res.bind_ok,Res.bind_exc,Res.bind_bad,Res.bind_ask,Res.cat,Res.noex,Res.need_true,reduceIte,Nat.reduceEqDiff,if_true,if_false,Bool.false_eq_true,List.getElem?_cons_zero,List.getElem?_cons_succ,List.map_cons,List.map_nil,List.replicate,List.cons_append,List.nil_append,List.append_nil,List.length_cons,List.length_nil,List.set_cons_zero,List.set_cons_succ]
theorem g_Keep {v : D} (hv : valD v = true) : g_Keep_init [v] = if inBd v 1 none then .ok [("_size", v)] else .exc 1 v := by
  simp only [g_Keep_init, f_Keep_init, fVar,fC,fBin,fNil,fCons,fTup,fLst,fONone,fOSome,asI,fSl,sliceD,asB,truR,fVal,fTru,fNotT,fAndT,fOrT,fNot,fAnd,fOr,fIfE,fB,fM1,fCall,fMeth,fMake,fProp,fFld,optR,fXf,fNeg,fRepl,fFr,frzS,frz1,flatD,fFrT,jVal,itR,jR1,jR2,jR3,rng1,rng2,rng3,jEnumL,enumR,fYes,fLc,zNil,zSeq,zAsg,zOwn,zOwnL,zDrop,zApp,zRet,zRetN,zRetL,zRetOwn,zIf,zBreak,zCont,zRaise,zTg,zPar2,zPar3,zFld,zSetSl,zFor,zTry,sx,thenS,afterS,suiteF,caughtF,setTF,setM,fDef,fIni,fPur,endR,endI,endN,startD,gLen,gList,gTuple,gInt,gBool,gSum,gAll,gAny,gMin,gMax,gIsi,pAdd,pSub,pMul,pMod,pDiv,pPow,pCmp,pIsN,pNotN,Dl.isNon,isiD,kindD,isiB,plainB,wipeD,fChain,hNil,hCons,jEnumS,fOpO,fIxO,jObj,zOwnE,zPar2E,zTg3E,zOwnN,zPar2N,zTg3N,zSetIx,fRev,fRevS,fLR1,fLR2,fCallK,fBor,fBorT,Res.bind_ok,Res.bind_exc,Res.bind_bad,Res.bind_ask,Res.cat,Res.noex,Res.need_true,reduceIte,Nat.reduceEqDiff,if_true,if_false,Bool.false_eq_true,List.getElem?_cons_zero,List.getElem?_cons_succ,List.map_cons,List.map_nil,List.replicate,List.cons_append,List.nil_append,List.append_nil,List.length_cons,List.length_nil,List.set_cons_zero,List.set_cons_succ, check1 hv]
  cases inBd v 1 none <;> simp [fVar,fC,fBin,fNil,fCons,fTup,fLst,fONone,fOSome,asI,fSl,sliceD,asB,truR,fVal,fTru,fNotT,fAndT,fOrT,fNot,fAnd,fOr,fIfE,fB,fM1,fCall,fMeth,fMake,fProp,fFld,optR,fXf,fNeg,fRepl,fFr,frzS,frz1,flatD,fFrT,jVal,itR,jR1,jR2,jR3,rng1,rng2,rng3,jEnumL,enumR,fYes,fLc,zNil,zSeq,zAsg,zOwn,zOwnL,zDrop,zApp,zRet,zRetN,zRetL,zRetOwn,zIf,zBreak,zCont,zRaise,zTg,zPar2,zPar3,zFld,zSetSl,zFor,zTry,sx,thenS,afterS,suiteF,caughtF,setTF,setM,fDef,fIni,fPur,endR,endI,endN,startD,gLen,gList,gTuple,gInt,gBool,gSum,gAll,gAny,gMin,gMax,gIsi,pAdd,pSub,pMul,pMod,pDiv,pPow,pCmp,pIsN,pNotN,Dl.isNon,isiD,kindD,isiB,plainB,wipeD,fChain,hNil,hCons,jEnumS,fOpO,fIxO,jObj,zOwnE,zPar2E,zTg3E,zOwnN,zPar2N,zTg3N,zSetIx,fRev,fRevS,fLR1,fLR2,fCallK,fBor,fBorT,Res.bind_ok,Res.bind_exc,Res.bind_bad,Res.bind_ask,Res.cat,Res.noex,Res.need_true,reduceIte,Nat.reduceEqDiff,if_true,if_false,Bool.false_eq_true,List.getElem?_cons_zero,List.getElem?_cons_succ,List.map_cons,List.map_nil,List.replicate,List.cons_append,List.nil_append,List.append_nil,List.length_cons,List.length_nil,List.set_cons_zero,List.set_cons_succ]
theorem g_Lean {v : D} (hv : valD v = true) : g_Lean_init [v] = if inBd v 1 none then .ok [("_size", v)] else .exc 1 v := by
  simp only [g_Lean_init, f_Lean_init, fVar,fC,fBin,fNil,fCons,fTup,fLst,fONone,fOSome,asI,fSl,sliceD,asB,truR,fVal,fTru,fNotT,fAndT,fOrT,fNot,fAnd,fOr,fIfE,fB,fM1,fCall,fMeth,fMake,fProp,fFld,optR,fXf,fNeg,fRepl,fFr,frzS,frz1,flatD,fFrT,jVal,itR,jR1,jR2,jR3,rng1,rng2,rng3,jEnumL,enumR,fYes,fLc,zNil,zSeq,zAsg,zOwn,zOwnL,zDrop,zApp,zRet,zRetN,zRetL,zRetOwn,zIf,zBreak,zCont,zRaise,zTg,zPar2,zPar3,zFld,zSetSl,zFor,zTry,sx,thenS,afterS,suiteF,caughtF,setTF,setM,fDef,fIni,fPur,endR,endI,endN,startD,gLen,gList,gTuple,gInt,gBool,gSum,gAll,gAny,gMin,gMax,gIsi,pAdd,pSub,pMul,pMod,pDiv,pPow,pCmp,pIsN,pNotN,Dl.isNon,isiD,kindD,isiB,plainB,wipeD,fChain,hNil,hCons,jEnumS,fOpO,fIxO,jObj,zOwnE,zPar2E,zTg3E,zOwnN,zPar2N,zTg3N,zSetIx,fRev,fRevS,fLR1,fLR2,fCallK,fBor,fBorT,Res.bind_ok,Res.bind_exc,Res.bind_bad,Res.bind_ask,Res.cat,Res.noex,Res.need_true,reduceIte,Nat.reduceEqDiff,if_true,if_false,Bool.false_eq_true,List.getElem?_cons_zero,List.getElem?_cons_succ,List.map_cons,List.map_nil,List.replicate,List.cons_append,List.nil_append,List.append_nil,List.length_cons,List.length_nil,List.set_cons_zero,List.set_cons_succ, check1 hv]
  cases inBd v 1 none <;> simp [fVar,fC,fBin,fNil,fCons,fTup,fLst,fONone,fOSome,asI,fSl,sliceD,asB,truR,fVal,fTru,fNotT,fAndT,fOrT,fNot,fAnd,fOr,fIfE,fB,fM1,fCall,fMeth,fMake,fProp,fFld,optR,fXf,fNeg,fRepl,fFr,frzS,frz1,flatD,fFrT,jVal,itR,jR1,jR2,jR3,rng1,rng2,rng3,jEnumL,enumR,fYes,fLc,zNil,zSeq,zAsg,zOwn,zOwnL,zDrop,zApp,zRet,zRetN,zRetL,zRetOwn,zIf,zBreak,zCont,zRaise,zTg,zPar2,zPar3,zFld,zSetSl,zFor,zTry,sx,thenS,afterS,suiteF,caughtF,setTF,setM,fDef,fIni,fPur,endR,endI,endN,startD,gLen,gList,gTuple,gInt,gBool,gSum,gAll,gAny,gMin,gMax,gIsi,pAdd,pSub,pMul,pMod,pDiv,pPow,pCmp,pIsN,pNotN,Dl.isNon,isiD,kindD,isiB,plainB,wipeD,fChain,hNil,hCons,jEnumS,fOpO,fIxO,jObj,zOwnE,zPar2E,zTg3E,zOwnN,zPar2N,zTg3N,zSetIx,fRev,fRevS,fLR1,fLR2,fCallK,fBor,fBorT,Res.bind_ok,Res.bind_exc,Res.bind_bad,Res.bind_ask,Res.cat,Res.noex,Res.need_true,reduceIte,Nat.reduceEqDiff,if_true,if_false,Bool.false_eq_true,List.getElem?_cons_zero,List.getElem?_cons_succ,List.map_cons,List.map_nil,List.replicate,List.cons_append,List.nil_append,List.append_nil,List.length_cons,List.length_nil,List.set_cons_zero,List.set_cons_succ]
theorem g_Dig {v : D} (hv : valD v = true) : g_Dig_init [v] = if inBd v 1 none then .ok [("_size", v)] else .exc 1 v := by
  simp only [g_Dig_init, f_Dig_init, fVar,fC,fBin,fNil,fCons,fTup,fLst,fONone,fOSome,asI,fSl,sliceD,asB,truR,fVal,fTru,fNotT,fAndT,fOrT,fNot,fAnd,fOr,fIfE,fB,fM1,fCall,fMeth,fMake,fProp,fFld,optR,fXf,fNeg,fRepl,fFr,frzS,frz1,flatD,fFrT,jVal,itR,jR1,jR2,jR3,rng1,rng2,rng3,jEnumL,enumR,fYes,fLc,zNil,zSeq,zAsg,zOwn,zOwnL,zDrop,zApp,zRet,zRetN,zRetL,zRetOwn,zIf,zBreak,zCont,zRaise,zTg,zPar2,zPar3,zFld,zSetSl,zFor,zTry,sx,thenS,afterS,suiteF,caughtF,setTF,setM,fDef,fIni,fPur,endR,endI,endN,startD,gLen,gList,gTuple,gInt,gBool,gSum,gAll,gAny,gMin,gMax,gIsi,pAdd,pSub,pMul,pMod,pDiv,pPow,pCmp,pIsN,pNotN,Dl.isNon,isiD,kindD,isiB,plainB,wipeD,fChain,hNil,hCons,jEnumS,fOpO,fIxO,jObj,zOwnE,zPar2E,zTg3E,zOwnN,zPar2N,zTg3N,zSetIx,fRev,fRevS,fLR1,fLR2,fCallK,fBor,fBorT,Res.bind_ok,Res.bind_exc,Res.bind_bad,Res.bind_ask,Res.cat,Res.noex,Res.need_true,reduceIte,Nat.reduceEqDiff,if_true,if_false,Bool.false_eq_true,List.getElem?_cons_zero,List.getElem?_cons_succ,List.map_cons,List.map_nil,List.replicate,List.cons_append,List.nil_append,List.append_nil,List.length_cons,List.length_nil,List.set_cons_zero,List.set_cons_succ, check1 hv]
  cases inBd v 1 none <;> simp [fVar,fC,fBin,fNil,fCons,fTup,fLst,fONone,fOSome,asI,fSl,sliceD,asB,truR,fVal,fTru,fNotT,fAndT,fOrT,fNot,fAnd,fOr,fIfE,fB,fM1,fCall,fMeth,fMake,fProp,fFld,optR,fXf,fNeg,fRepl,fFr,frzS,frz1,flatD,fFrT,jVal,itR,jR1,jR2,jR3,rng1,rng2,rng3,jEnumL,enumR,fYes,fLc,zNil,zSeq,zAsg,zOwn,zOwnL,zDrop,zApp,zRet,zRetN,zRetL,zRetOwn,zIf,zBreak,zCont,zRaise,zTg,zPar2,zPar3,zFld,zSetSl,zFor,zTry,sx,thenS,afterS,suiteF,caughtF,setTF,setM,fDef,fIni,fPur,endR,endI,endN,startD,gLen,gList,gTuple,gInt,gBool,gSum,gAll,gAny,gMin,gMax,gIsi,pAdd,pSub,pMul,pMod,pDiv,pPow,pCmp,pIsN,pNotN,Dl.isNon,isiD,kindD,isiB,plainB,wipeD,fChain,hNil,hCons,jEnumS,fOpO,fIxO,jObj,zOwnE,zPar2E,zTg3E,zOwnN,zPar2N,zTg3N,zSetIx,fRev,fRevS,fLR1,fLR2,fCallK,fBor,fBorT,Res.bind_ok,Res.bind_exc,Res.bind_bad,Res.bind_ask,Res.cat,Res.noex,Res.need_true,reduceIte,Nat.reduceEqDiff,if_true,if_false,Bool.false_eq_true,List.getElem?_cons_zero,List.getElem?_cons_succ,List.map_cons,List.map_nil,List.replicate,List.cons_append,List.nil_append,List.append_nil,List.length_cons,List.length_nil,List.set_cons_zero,List.set_cons_succ]
theorem keep_n {n : Int} (h : 1 ≤ n) : g_Keep_init [.int n] = .ok [("_size", .int n)] := by rw [g_Keep rfl, inBd_up h, if_pos rfl]
theorem lean_n {n : Int} (h : 1 ≤ n) : g_Lean_init [.int n] = .ok [("_size", .int n)] := by rw [g_Lean rfl, inBd_up h, if_pos rfl]
theorem dig_n {n : Int} (h : 1 ≤ n) : g_Dig_init [.int n] = .ok [("_size", .int n)] := by rw [g_Dig rfl, inBd_up h, if_pos rfl]
theorem size_keep {n : Int} : g_Keep_size [.obj 5 [.int n]] = .ok (.int n) := by simp [g_Keep_size, f_Keep_size, fVar,fC,fBin,fNil,fCons,fTup,fLst,fONone,fOSome,asI,fSl,sliceD,asB,truR,fVal,fTru,fNotT,fAndT,fOrT,fNot,fAnd,fOr,fIfE,fB,fM1,fCall,fMeth,fMake,fProp,fFld,optR,fXf,fNeg,fRepl,fFr,frzS,frz1,flatD,fFrT,jVal,itR,jR1,jR2,jR3,rng1,rng2,rng3,jEnumL,enumR,fYes,fLc,zNil,zSeq,zAsg,zOwn,zOwnL,zDrop,zApp,zRet,zRetN,zRetL,zRetOwn,zIf,zBreak,zCont,zRaise,zTg,zPar2,zPar3,zFld,zSetSl,zFor,zTry,sx,thenS,afterS,suiteF,caughtF,setTF,setM,fDef,fIni,fPur,endR,endI,endN,startD,gLen,gList,gTuple,gInt,gBool,gSum,gAll,gAny,gMin,gMax,gIsi,pAdd,pSub,pMul,pMod,pDiv,pPow,pCmp,pIsN,pNotN,Dl.isNon,isiD,kindD,isiB,plainB,wipeD,fChain,hNil,hCons,jEnumS,fOpO,fIxO,jObj,zOwnE,zPar2E,zTg3E,zOwnN,zPar2N,zTg3N,zSetIx,fRev,fRevS,fLR1,fLR2,fCallK,fBor,fBorT,Res.bind_ok,Res.bind_exc,Res.bind_bad,Res.bind_ask,Res.cat,Res.noex,Res.need_true,reduceIte,Nat.reduceEqDiff,if_true,if_false,Bool.false_eq_true,List.getElem?_cons_zero,List.getElem?_cons_succ,List.map_cons,List.map_nil,List.replicate,List.cons_append,List.nil_append,List.append_nil,List.length_cons,List.length_nil,List.set_cons_zero,List.set_cons_succ]
theorem size_lean {n : Int} : g_Lean_size [.obj 6 [.int n]] = .ok (.int n) := by simp [g_Lean_size, f_Lean_size, fVar,fC,fBin,fNil,fCons,fTup,fLst,fONone,fOSome,asI,fSl,sliceD,asB,truR,fVal,fTru,fNotT,fAndT,fOrT,fNot,fAnd,fOr,fIfE,fB,fM1,fCall,fMeth,fMake,fProp,fFld,optR,fXf,fNeg,fRepl,fFr,frzS,frz1,flatD,fFrT,jVal,itR,jR1,jR2,jR3,rng1,rng2,rng3,jEnumL,enumR,fYes,fLc,zNil,zSeq,zAsg,zOwn,zOwnL,zDrop,zApp,zRet,zRetN,zRetL,zRetOwn,zIf,zBreak,zCont,zRaise,zTg,zPar2,zPar3,zFld,zSetSl,zFor,zTry,sx,thenS,afterS,suiteF,caughtF,setTF,setM,fDef,fIni,fPur,endR,endI,endN,startD,gLen,gList,gTuple,gInt,gBool,gSum,gAll,gAny,gMin,gMax,gIsi,pAdd,pSub,pMul,pMod,pDiv,pPow,pCmp,pIsN,pNotN,Dl.isNon,isiD,kindD,isiB,plainB,wipeD,fChain,hNil,hCons,jEnumS,fOpO,fIxO,jObj,zOwnE,zPar2E,zTg3E,zOwnN,zPar2N,zTg3N,zSetIx,fRev,fRevS,fLR1,fLR2,fCallK,fBor,fBorT,Res.bind_ok,Res.bind_exc,Res.bind_bad,Res.bind_ask,Res.cat,Res.noex,Res.need_true,reduceIte,Nat.reduceEqDiff,if_true,if_false,Bool.false_eq_true,List.getElem?_cons_zero,List.getElem?_cons_succ,List.map_cons,List.map_nil,List.replicate,List.cons_append,List.nil_append,List.append_nil,List.length_cons,List.length_nil,List.set_cons_zero,List.set_cons_succ]
theorem size_dig {n : Int} : g_Dig_size [.obj 7 [.int n]] = .ok (.int n) := by simp [g_Dig_size, f_Dig_size, fVar,fC,fBin,fNil,fCons,fTup,fLst,fONone,fOSome,asI,fSl,sliceD,asB,truR,fVal,fTru,fNotT,fAndT,fOrT,fNot,fAnd,fOr,fIfE,fB,fM1,fCall,fMeth,fMake,fProp,fFld,optR,fXf,fNeg,fRepl,fFr,frzS,frz1,flatD,fFrT,jVal,itR,jR1,jR2,jR3,rng1,rng2,rng3,jEnumL,enumR,fYes,fLc,zNil,zSeq,zAsg,zOwn,zOwnL,zDrop,zApp,zRet,zRetN,zRetL,zRetOwn,zIf,zBreak,zCont,zRaise,zTg,zPar2,zPar3,zFld,zSetSl,zFor,zTry,sx,thenS,afterS,suiteF,caughtF,setTF,setM,fDef,fIni,fPur,endR,endI,endN,startD,gLen,gList,gTuple,gInt,gBool,gSum,gAll,gAny,gMin,gMax,gIsi,pAdd,pSub,pMul,pMod,pDiv,pPow,pCmp,pIsN,pNotN,Dl.isNon,isiD,kindD,isiB,plainB,wipeD,fChain,hNil,hCons,jEnumS,fOpO,fIxO,jObj,zOwnE,zPar2E,zTg3E,zOwnN,zPar2N,zTg3N,zSetIx,fRev,fRevS,fLR1,fLR2,fCallK,fBor,fBorT,Res.bind_ok,Res.bind_exc,Res.bind_bad,Res.bind_ask,Res.cat,Res.noex,Res.need_true,reduceIte,Nat.reduceEqDiff,if_true,if_false,Bool.false_eq_true,List.getElem?_cons_zero,List.getElem?_cons_succ,List.map_cons,List.map_nil,List.replicate,List.cons_append,List.nil_append,List.append_nil,List.length_cons,List.length_nil,List.set_cons_zero,List.set_cons_succ]
theorem isi_stp (k : Nat) (n : Int) : gIsi subT [stp k n, .cls 3] = .ok (.bl true) := by
  unfold stp
  split <;> rfl
theorem nmS {r : Res D} : need ([Str.ofString "_steps"] = nm[8]?.getD []) r = r := need_pos rfl
/-- a list of steps -/
def stps (cs : List (Nat × Int)) : List D := cs.map fun c => stp c.1 c.2
theorem list_steps (cs : List (Nat × Int)) (h : cs.length ≤ 10000) : g__is_list_of_steps [.lst (stps cs)] = .ok (.bl true) := by
  have hl : (cs.map fun c => stp c.1 c.2).length ≤ sizeLine := szL (by rw [List.length_map]; omega)
  have e1 : gIsi subT [.lst (cs.map fun c => stp c.1 c.2), .ty "list"] = .ok (.bl true) := rfl
  simp only [g__is_list_of_steps, f__is_list_of_steps, stps, fVar,fC,fBin,fNil,fCons,fTup,fLst,fONone,fOSome,fSl,fVal,fTru,fNotT,fAndT,fOrT,fNot,fAnd,fOr,fIfE,fB,fM1,fCall,fMeth,fMake,fProp,fFld,fXf,fNeg,fRepl,fFr,frzS,frz1,flatD,fFrT,jVal,jR1,jR2,jR3,jEnumL,fYes,fLc,zNil,zSeq,zAsg,zOwn,zOwnL,zDrop,zApp,zRet,zRetN,zRetL,zRetOwn,zIf,zBreak,zCont,zRaise,zTg,zPar2,zPar3,zFld,zSetSl,zFor,zTry,sx,setTF,setM,fDef,fIni,fPur,startD,Dl.isNon,plainB,wipeD,fChain,hNil,hCons,jEnumS,fOpO,fIxO,jObj,zOwnE,zPar2E,zTg3E,zOwnN,zPar2N,zTg3N,zSetIx,fRev,fRevS,fLR1,fLR2,fCallK,fBor,fBorT,e_asI,e_asB,e_tru_non,e_tru_bl,e_tru_int,e_tru_str,e_tru_lst,e_tru_tup,e_tru_scr,e_sl_lst,e_sl_str,e_sl_tup,e_some,e_none,e_it_lst,e_it_tup,e_it_str,e_it_scr,e_r1,e_r2,e_en,e_thenS_nx,e_thenS_rt,e_thenS_rn,e_thenS_bk,e_thenS_cn,e_thenS_ex,e_afterS_nx,e_afterS_rt,e_afterS_rn,e_afterS_bk,e_afterS_cn,e_afterS_ex,e_su_nx,e_su_rt,e_su_bk,e_su_cn,e_ca_nx,e_ca_bk,e_ca_cn,e_ca_rt,e_ca_ex,e_end_nx,e_end_rt,e_end_rn,e_end_ex,e_endN_rn,e_endN_ex,e_endI_ex,e_endI_nx,e_len_str,e_len_lst,e_len_tup,e_len_scr,e_list_lst,e_list_tup,e_list_scr,e_list_str,e_tuple_lst,e_tuple_tup,e_int_int,e_int_bl,e_bool_int,e_bool_bl,e_sum,e_all,e_any,e_min,e_max,e_join_l,e_join_t,e_count,e_strip,e_split,e_add_i,e_add_s,e_add_l,e_add_t,e_sub,e_mul_i,e_mul_s,e_mul_l,e_mul_t,e_is_bl,e_not_bl,e_mod,e_div,e_pow,e_cmp,e_isN_non,e_notN_non,e_isN_bl,e_notN_bl,e_isN_int,e_notN_int,e_isN_str,e_notN_str,e_isN_lst,e_notN_lst,e_isN_tup,e_notN_tup,e_isN_obj,e_notN_obj,e_isN_scr,e_notN_scr,e_isN_tok,e_notN_tok,e_ix_l,e_ix_t,e_ix_s,e_ix_n,e_in1,e_kBl,e_enS,e_repl,e_neg,e_gcd,e_lcm,e_lenO_str,e_lenO_lst,e_lenO_tup,e_lenO_scr,e_op_int,e_op_str,e_op_lst,e_op_tup,e_ixO_str,e_ixO_scr,e_ixO_lst,e_ixO_tup,e_it_lst',e_it_tup',e_it_str',e_rev,e_revS,e_lr1,e_lr2,e_sorted,e_ownF_lst,e_ownF_non,e_par2F,e_triF,e_setIx,lis_cons,lis_nil,lisO_un,lisO_int,lisO_str,lisO_bl,lisO_non,bind_ok,bind_exc,bind_bad,bind_ask,cat,noex,need_true,reduceIte,Nat.reduceEqDiff,if_true,if_false,Bool.false_eq_true,List.getElem?_cons_zero,List.getElem?_cons_succ,List.map_cons,List.map_nil,List.replicate,List.cons_append,List.nil_append,List.append_nil,List.length_cons,List.length_nil,List.set_cons_zero,List.set_cons_succ, e1, if_true]
  rw [need_pos hl, comp_mapG (f := fun _ => .bl true) fun c hc => by simp only [fVar,fC,fBin,fNil,fCons,fTup,fLst,fONone,fOSome,fSl,fVal,fTru,fNotT,fAndT,fOrT,fNot,fAnd,fOr,fIfE,fB,fM1,fCall,fMeth,fMake,fProp,fFld,fXf,fNeg,fRepl,fFr,frzS,frz1,flatD,fFrT,jVal,jR1,jR2,jR3,jEnumL,fYes,fLc,zNil,zSeq,zAsg,zOwn,zOwnL,zDrop,zApp,zRet,zRetN,zRetL,zRetOwn,zIf,zBreak,zCont,zRaise,zTg,zPar2,zPar3,zFld,zSetSl,zFor,zTry,sx,setTF,setM,fDef,fIni,fPur,startD,Dl.isNon,plainB,wipeD,fChain,hNil,hCons,jEnumS,fOpO,fIxO,jObj,zOwnE,zPar2E,zTg3E,zOwnN,zPar2N,zTg3N,zSetIx,fRev,fRevS,fLR1,fLR2,fCallK,fBor,fBorT,e_asI,e_asB,e_tru_non,e_tru_bl,e_tru_int,e_tru_str,e_tru_lst,e_tru_tup,e_tru_scr,e_sl_lst,e_sl_str,e_sl_tup,e_some,e_none,e_it_lst,e_it_tup,e_it_str,e_it_scr,e_r1,e_r2,e_en,e_thenS_nx,e_thenS_rt,e_thenS_rn,e_thenS_bk,e_thenS_cn,e_thenS_ex,e_afterS_nx,e_afterS_rt,e_afterS_rn,e_afterS_bk,e_afterS_cn,e_afterS_ex,e_su_nx,e_su_rt,e_su_bk,e_su_cn,e_ca_nx,e_ca_bk,e_ca_cn,e_ca_rt,e_ca_ex,e_end_nx,e_end_rt,e_end_rn,e_end_ex,e_endN_rn,e_endN_ex,e_endI_ex,e_endI_nx,e_len_str,e_len_lst,e_len_tup,e_len_scr,e_list_lst,e_list_tup,e_list_scr,e_list_str,e_tuple_lst,e_tuple_tup,e_int_int,e_int_bl,e_bool_int,e_bool_bl,e_sum,e_all,e_any,e_min,e_max,e_join_l,e_join_t,e_count,e_strip,e_split,e_add_i,e_add_s,e_add_l,e_add_t,e_sub,e_mul_i,e_mul_s,e_mul_l,e_mul_t,e_is_bl,e_not_bl,e_mod,e_div,e_pow,e_cmp,e_isN_non,e_notN_non,e_isN_bl,e_notN_bl,e_isN_int,e_notN_int,e_isN_str,e_notN_str,e_isN_lst,e_notN_lst,e_isN_tup,e_notN_tup,e_isN_obj,e_notN_obj,e_isN_scr,e_notN_scr,e_isN_tok,e_notN_tok,e_ix_l,e_ix_t,e_ix_s,e_ix_n,e_in1,e_kBl,e_enS,e_repl,e_neg,e_gcd,e_lcm,e_lenO_str,e_lenO_lst,e_lenO_tup,e_lenO_scr,e_op_int,e_op_str,e_op_lst,e_op_tup,e_ixO_str,e_ixO_scr,e_ixO_lst,e_ixO_tup,e_it_lst',e_it_tup',e_it_str',e_rev,e_revS,e_lr1,e_lr2,e_sorted,e_ownF_lst,e_ownF_non,e_par2F,e_triF,e_setIx,lis_cons,lis_nil,lisO_un,lisO_int,lisO_str,lisO_bl,lisO_non,bind_ok,bind_exc,bind_bad,bind_ask,cat,noex,need_true,reduceIte,Nat.reduceEqDiff,if_true,if_false,Bool.false_eq_true,List.getElem?_cons_zero,List.getElem?_cons_succ,List.map_cons,List.map_nil,List.replicate,List.cons_append,List.nil_append,List.append_nil,List.length_cons,List.length_nil,List.set_cons_zero,List.set_cons_succ, isi_stp]]
  simp only [fVar,fC,fBin,fNil,fCons,fTup,fLst,fONone,fOSome,fSl,fVal,fTru,fNotT,fAndT,fOrT,fNot,fAnd,fOr,fIfE,fB,fM1,fCall,fMeth,fMake,fProp,fFld,fXf,fNeg,fRepl,fFr,frzS,frz1,flatD,fFrT,jVal,jR1,jR2,jR3,jEnumL,fYes,fLc,zNil,zSeq,zAsg,zOwn,zOwnL,zDrop,zApp,zRet,zRetN,zRetL,zRetOwn,zIf,zBreak,zCont,zRaise,zTg,zPar2,zPar3,zFld,zSetSl,zFor,zTry,sx,setTF,setM,fDef,fIni,fPur,startD,Dl.isNon,plainB,wipeD,fChain,hNil,hCons,jEnumS,fOpO,fIxO,jObj,zOwnE,zPar2E,zTg3E,zOwnN,zPar2N,zTg3N,zSetIx,fRev,fRevS,fLR1,fLR2,fCallK,fBor,fBorT,e_asI,e_asB,e_tru_non,e_tru_bl,e_tru_int,e_tru_str,e_tru_lst,e_tru_tup,e_tru_scr,e_sl_lst,e_sl_str,e_sl_tup,e_some,e_none,e_it_lst,e_it_tup,e_it_str,e_it_scr,e_r1,e_r2,e_en,e_thenS_nx,e_thenS_rt,e_thenS_rn,e_thenS_bk,e_thenS_cn,e_thenS_ex,e_afterS_nx,e_afterS_rt,e_afterS_rn,e_afterS_bk,e_afterS_cn,e_afterS_ex,e_su_nx,e_su_rt,e_su_bk,e_su_cn,e_ca_nx,e_ca_bk,e_ca_cn,e_ca_rt,e_ca_ex,e_end_nx,e_end_rt,e_end_rn,e_end_ex,e_endN_rn,e_endN_ex,e_endI_ex,e_endI_nx,e_len_str,e_len_lst,e_len_tup,e_len_scr,e_list_lst,e_list_tup,e_list_scr,e_list_str,e_tuple_lst,e_tuple_tup,e_int_int,e_int_bl,e_bool_int,e_bool_bl,e_sum,e_all,e_any,e_min,e_max,e_join_l,e_join_t,e_count,e_strip,e_split,e_add_i,e_add_s,e_add_l,e_add_t,e_sub,e_mul_i,e_mul_s,e_mul_l,e_mul_t,e_is_bl,e_not_bl,e_mod,e_div,e_pow,e_cmp,e_isN_non,e_notN_non,e_isN_bl,e_notN_bl,e_isN_int,e_notN_int,e_isN_str,e_notN_str,e_isN_lst,e_notN_lst,e_isN_tup,e_notN_tup,e_isN_obj,e_notN_obj,e_isN_scr,e_notN_scr,e_isN_tok,e_notN_tok,e_ix_l,e_ix_t,e_ix_s,e_ix_n,e_in1,e_kBl,e_enS,e_repl,e_neg,e_gcd,e_lcm,e_lenO_str,e_lenO_lst,e_lenO_tup,e_lenO_scr,e_op_int,e_op_str,e_op_lst,e_op_tup,e_ixO_str,e_ixO_scr,e_ixO_lst,e_ixO_tup,e_it_lst',e_it_tup',e_it_str',e_rev,e_revS,e_lr1,e_lr2,e_sorted,e_ownF_lst,e_ownF_non,e_par2F,e_triF,e_setIx,lis_cons,lis_nil,lisO_un,lisO_int,lisO_str,lisO_bl,lisO_non,bind_ok,bind_exc,bind_bad,bind_ask,cat,noex,need_true,reduceIte,Nat.reduceEqDiff,if_true,if_false,Bool.false_eq_true,List.getElem?_cons_zero,List.getElem?_cons_succ,List.map_cons,List.map_nil,List.replicate,List.cons_append,List.nil_append,List.append_nil,List.length_cons,List.length_nil,List.set_cons_zero,List.set_cons_succ, toBls_mapG, all_mapId]
  simp [fVar,fC,fBin,fNil,fCons,fTup,fLst,fONone,fOSome,fSl,fVal,fTru,fNotT,fAndT,fOrT,fNot,fAnd,fOr,fIfE,fB,fM1,fCall,fMeth,fMake,fProp,fFld,fXf,fNeg,fRepl,fFr,frzS,frz1,flatD,fFrT,jVal,jR1,jR2,jR3,jEnumL,fYes,fLc,zNil,zSeq,zAsg,zOwn,zOwnL,zDrop,zApp,zRet,zRetN,zRetL,zRetOwn,zIf,zBreak,zCont,zRaise,zTg,zPar2,zPar3,zFld,zSetSl,zFor,zTry,sx,setTF,setM,fDef,fIni,fPur,startD,Dl.isNon,plainB,wipeD,fChain,hNil,hCons,jEnumS,fOpO,fIxO,jObj,zOwnE,zPar2E,zTg3E,zOwnN,zPar2N,zTg3N,zSetIx,fRev,fRevS,fLR1,fLR2,fCallK,fBor,fBorT,e_asI,e_asB,e_tru_non,e_tru_bl,e_tru_int,e_tru_str,e_tru_lst,e_tru_tup,e_tru_scr,e_sl_lst,e_sl_str,e_sl_tup,e_some,e_none,e_it_lst,e_it_tup,e_it_str,e_it_scr,e_r1,e_r2,e_en,e_thenS_nx,e_thenS_rt,e_thenS_rn,e_thenS_bk,e_thenS_cn,e_thenS_ex,e_afterS_nx,e_afterS_rt,e_afterS_rn,e_afterS_bk,e_afterS_cn,e_afterS_ex,e_su_nx,e_su_rt,e_su_bk,e_su_cn,e_ca_nx,e_ca_bk,e_ca_cn,e_ca_rt,e_ca_ex,e_end_nx,e_end_rt,e_end_rn,e_end_ex,e_endN_rn,e_endN_ex,e_endI_ex,e_endI_nx,e_len_str,e_len_lst,e_len_tup,e_len_scr,e_list_lst,e_list_tup,e_list_scr,e_list_str,e_tuple_lst,e_tuple_tup,e_int_int,e_int_bl,e_bool_int,e_bool_bl,e_sum,e_all,e_any,e_min,e_max,e_join_l,e_join_t,e_count,e_strip,e_split,e_add_i,e_add_s,e_add_l,e_add_t,e_sub,e_mul_i,e_mul_s,e_mul_l,e_mul_t,e_is_bl,e_not_bl,e_mod,e_div,e_pow,e_cmp,e_isN_non,e_notN_non,e_isN_bl,e_notN_bl,e_isN_int,e_notN_int,e_isN_str,e_notN_str,e_isN_lst,e_notN_lst,e_isN_tup,e_notN_tup,e_isN_obj,e_notN_obj,e_isN_scr,e_notN_scr,e_isN_tok,e_notN_tok,e_ix_l,e_ix_t,e_ix_s,e_ix_n,e_in1,e_kBl,e_enS,e_repl,e_neg,e_gcd,e_lcm,e_lenO_str,e_lenO_lst,e_lenO_tup,e_lenO_scr,e_op_int,e_op_str,e_op_lst,e_op_tup,e_ixO_str,e_ixO_scr,e_ixO_lst,e_ixO_tup,e_it_lst',e_it_tup',e_it_str',e_rev,e_revS,e_lr1,e_lr2,e_sorted,e_ownF_lst,e_ownF_non,e_par2F,e_triF,e_setIx,lis_cons,lis_nil,lisO_un,lisO_int,lisO_str,lisO_bl,lisO_non,bind_ok,bind_exc,bind_bad,bind_ask,cat,noex,need_true,reduceIte,Nat.reduceEqDiff,if_true,if_false,Bool.false_eq_true,List.getElem?_cons_zero,List.getElem?_cons_succ,List.map_cons,List.map_nil,List.replicate,List.cons_append,List.nil_append,List.append_nil,List.length_cons,List.length_nil,List.set_cons_zero,List.set_cons_succ]
theorem g_Script (cs : List (Nat × Int)) (h : cs.length ≤ 10000) : g_Script_init [.lst (stps cs)] = .ok [("_steps", .tup (stps cs))] := by
  simp only [g_Script_init, f_Script_init, fVar,fC,fBin,fNil,fCons,fTup,fLst,fONone,fOSome,fSl,fVal,fTru,fNotT,fAndT,fOrT,fNot,fAnd,fOr,fIfE,fB,fM1,fCall,fMeth,fMake,fProp,fFld,fXf,fNeg,fRepl,fFr,frzS,frz1,flatD,fFrT,jVal,jR1,jR2,jR3,jEnumL,fYes,fLc,zNil,zSeq,zAsg,zOwn,zOwnL,zDrop,zApp,zRet,zRetN,zRetL,zRetOwn,zIf,zBreak,zCont,zRaise,zTg,zPar2,zPar3,zFld,zSetSl,zFor,zTry,sx,setTF,setM,fDef,fIni,fPur,startD,Dl.isNon,plainB,wipeD,fChain,hNil,hCons,jEnumS,fOpO,fIxO,jObj,zOwnE,zPar2E,zTg3E,zOwnN,zPar2N,zTg3N,zSetIx,fRev,fRevS,fLR1,fLR2,fCallK,fBor,fBorT,e_asI,e_asB,e_tru_non,e_tru_bl,e_tru_int,e_tru_str,e_tru_lst,e_tru_tup,e_tru_scr,e_sl_lst,e_sl_str,e_sl_tup,e_some,e_none,e_it_lst,e_it_tup,e_it_str,e_it_scr,e_r1,e_r2,e_en,e_thenS_nx,e_thenS_rt,e_thenS_rn,e_thenS_bk,e_thenS_cn,e_thenS_ex,e_afterS_nx,e_afterS_rt,e_afterS_rn,e_afterS_bk,e_afterS_cn,e_afterS_ex,e_su_nx,e_su_rt,e_su_bk,e_su_cn,e_ca_nx,e_ca_bk,e_ca_cn,e_ca_rt,e_ca_ex,e_end_nx,e_end_rt,e_end_rn,e_end_ex,e_endN_rn,e_endN_ex,e_endI_ex,e_endI_nx,e_len_str,e_len_lst,e_len_tup,e_len_scr,e_list_lst,e_list_tup,e_list_scr,e_list_str,e_tuple_lst,e_tuple_tup,e_int_int,e_int_bl,e_bool_int,e_bool_bl,e_sum,e_all,e_any,e_min,e_max,e_join_l,e_join_t,e_count,e_strip,e_split,e_add_i,e_add_s,e_add_l,e_add_t,e_sub,e_mul_i,e_mul_s,e_mul_l,e_mul_t,e_is_bl,e_not_bl,e_mod,e_div,e_pow,e_cmp,e_isN_non,e_notN_non,e_isN_bl,e_notN_bl,e_isN_int,e_notN_int,e_isN_str,e_notN_str,e_isN_lst,e_notN_lst,e_isN_tup,e_notN_tup,e_isN_obj,e_notN_obj,e_isN_scr,e_notN_scr,e_isN_tok,e_notN_tok,e_ix_l,e_ix_t,e_ix_s,e_ix_n,e_in1,e_kBl,e_enS,e_repl,e_neg,e_gcd,e_lcm,e_lenO_str,e_lenO_lst,e_lenO_tup,e_lenO_scr,e_op_int,e_op_str,e_op_lst,e_op_tup,e_ixO_str,e_ixO_scr,e_ixO_lst,e_ixO_tup,e_it_lst',e_it_tup',e_it_str',e_rev,e_revS,e_lr1,e_lr2,e_sorted,e_ownF_lst,e_ownF_non,e_par2F,e_triF,e_setIx,lis_cons,lis_nil,lisO_un,lisO_int,lisO_str,lisO_bl,lisO_non,bind_ok,bind_exc,bind_bad,bind_ask,cat,noex,need_true,reduceIte,Nat.reduceEqDiff,if_true,if_false,Bool.false_eq_true,List.getElem?_cons_zero,List.getElem?_cons_succ,List.map_cons,List.map_nil,List.replicate,List.cons_append,List.nil_append,List.append_nil,List.length_cons,List.length_nil,List.set_cons_zero,List.set_cons_succ, list_steps cs h]
  simp [fVar,fC,fBin,fNil,fCons,fTup,fLst,fONone,fOSome,fSl,fVal,fTru,fNotT,fAndT,fOrT,fNot,fAnd,fOr,fIfE,fB,fM1,fCall,fMeth,fMake,fProp,fFld,fXf,fNeg,fRepl,fFr,frzS,frz1,flatD,fFrT,jVal,jR1,jR2,jR3,jEnumL,fYes,fLc,zNil,zSeq,zAsg,zOwn,zOwnL,zDrop,zApp,zRet,zRetN,zRetL,zRetOwn,zIf,zBreak,zCont,zRaise,zTg,zPar2,zPar3,zFld,zSetSl,zFor,zTry,sx,setTF,setM,fDef,fIni,fPur,startD,Dl.isNon,plainB,wipeD,fChain,hNil,hCons,jEnumS,fOpO,fIxO,jObj,zOwnE,zPar2E,zTg3E,zOwnN,zPar2N,zTg3N,zSetIx,fRev,fRevS,fLR1,fLR2,fCallK,fBor,fBorT,e_asI,e_asB,e_tru_non,e_tru_bl,e_tru_int,e_tru_str,e_tru_lst,e_tru_tup,e_tru_scr,e_sl_lst,e_sl_str,e_sl_tup,e_some,e_none,e_it_lst,e_it_tup,e_it_str,e_it_scr,e_r1,e_r2,e_en,e_thenS_nx,e_thenS_rt,e_thenS_rn,e_thenS_bk,e_thenS_cn,e_thenS_ex,e_afterS_nx,e_afterS_rt,e_afterS_rn,e_afterS_bk,e_afterS_cn,e_afterS_ex,e_su_nx,e_su_rt,e_su_bk,e_su_cn,e_ca_nx,e_ca_bk,e_ca_cn,e_ca_rt,e_ca_ex,e_end_nx,e_end_rt,e_end_rn,e_end_ex,e_endN_rn,e_endN_ex,e_endI_ex,e_endI_nx,e_len_str,e_len_lst,e_len_tup,e_len_scr,e_list_lst,e_list_tup,e_list_scr,e_list_str,e_tuple_lst,e_tuple_tup,e_int_int,e_int_bl,e_bool_int,e_bool_bl,e_sum,e_all,e_any,e_min,e_max,e_join_l,e_join_t,e_count,e_strip,e_split,e_add_i,e_add_s,e_add_l,e_add_t,e_sub,e_mul_i,e_mul_s,e_mul_l,e_mul_t,e_is_bl,e_not_bl,e_mod,e_div,e_pow,e_cmp,e_isN_non,e_notN_non,e_isN_bl,e_notN_bl,e_isN_int,e_notN_int,e_isN_str,e_notN_str,e_isN_lst,e_notN_lst,e_isN_tup,e_notN_tup,e_isN_obj,e_notN_obj,e_isN_scr,e_notN_scr,e_isN_tok,e_notN_tok,e_ix_l,e_ix_t,e_ix_s,e_ix_n,e_in1,e_kBl,e_enS,e_repl,e_neg,e_gcd,e_lcm,e_lenO_str,e_lenO_lst,e_lenO_tup,e_lenO_scr,e_op_int,e_op_str,e_op_lst,e_op_tup,e_ixO_str,e_ixO_scr,e_ixO_lst,e_ixO_tup,e_it_lst',e_it_tup',e_it_str',e_rev,e_revS,e_lr1,e_lr2,e_sorted,e_ownF_lst,e_ownF_non,e_par2F,e_triF,e_setIx,lis_cons,lis_nil,lisO_un,lisO_int,lisO_str,lisO_bl,lisO_non,bind_ok,bind_exc,bind_bad,bind_ask,cat,noex,need_true,reduceIte,Nat.reduceEqDiff,if_true,if_false,Bool.false_eq_true,List.getElem?_cons_zero,List.getElem?_cons_succ,List.map_cons,List.map_nil,List.replicate,List.cons_append,List.nil_append,List.append_nil,List.length_cons,List.length_nil,List.set_cons_zero,List.set_cons_succ]
theorem g_blocks_eq {len n : Nat} (hl : len ≤ 10000) (hn : 1 ≤ n) (hn2 : n < 2 ^ 240) : g_blocks [.int len, .int n] = .ok (.lst ((List.range ((len + n - 1) / n)).map fun i => .tup [.int ((i * n : Nat) : Int), .int ((min (i * n + n) len : Nat) : Int)])) := by
  have ec : (((len : Int) + n - 1) / n).toNat = (len + n - 1) / n := by
    rw [show ((len : Int) + n - 1) = ((len + n - 1 : Nat) : Int) by omega, ← Int.natCast_ediv, Int.toNat_natCast]
  have h2 : (len + n - 1) / n ≤ 10000 := by
    have h1 : (len + n - 1) / n < len + 1 := Nat.div_lt_of_lt_mul (by
      have : n * (len + 1) = n * len + n := Nat.mul_succ _ _
      have h2 : 1 * len ≤ n * len := Nat.mul_le_mul_right _ hn
      omega)
    omega
  have s2 : (2 : Nat) ≤ sizeLine := szL (by decide)
  have e := rng3_big (n := len) (c := n) (by omega) (by omega) (Nat.lt_of_lt_of_le (show ((n : Int)).natAbs < 2 ^ 240 by omega) (Nat.pow_le_pow_right (by decide) (by decide)))
  rw [ec] at e
  simp only [g_blocks, f_blocks, fVar,fC,fBin,fNil,fCons,fTup,fLst,fONone,fOSome,fSl,fVal,fTru,fNotT,fAndT,fOrT,fNot,fAnd,fOr,fIfE,fB,fM1,fCall,fMeth,fMake,fProp,fFld,fXf,fNeg,fRepl,fFr,frzS,frz1,flatD,fFrT,jVal,jR1,jR2,jR3,jEnumL,fYes,fLc,zNil,zSeq,zAsg,zOwn,zOwnL,zDrop,zApp,zRet,zRetN,zRetL,zRetOwn,zIf,zBreak,zCont,zRaise,zTg,zPar2,zPar3,zFld,zSetSl,zFor,zTry,sx,setTF,setM,fDef,fIni,fPur,startD,Dl.isNon,plainB,wipeD,fChain,hNil,hCons,jEnumS,fOpO,fIxO,jObj,zOwnE,zPar2E,zTg3E,zOwnN,zPar2N,zTg3N,zSetIx,fRev,fRevS,fLR1,fLR2,fCallK,fBor,fBorT,e_asI,e_asB,e_tru_non,e_tru_bl,e_tru_int,e_tru_str,e_tru_lst,e_tru_tup,e_tru_scr,e_sl_lst,e_sl_str,e_sl_tup,e_some,e_none,e_it_lst,e_it_tup,e_it_str,e_it_scr,e_r1,e_r2,e_en,e_thenS_nx,e_thenS_rt,e_thenS_rn,e_thenS_bk,e_thenS_cn,e_thenS_ex,e_afterS_nx,e_afterS_rt,e_afterS_rn,e_afterS_bk,e_afterS_cn,e_afterS_ex,e_su_nx,e_su_rt,e_su_bk,e_su_cn,e_ca_nx,e_ca_bk,e_ca_cn,e_ca_rt,e_ca_ex,e_end_nx,e_end_rt,e_end_rn,e_end_ex,e_endN_rn,e_endN_ex,e_endI_ex,e_endI_nx,e_len_str,e_len_lst,e_len_tup,e_len_scr,e_list_lst,e_list_tup,e_list_scr,e_list_str,e_tuple_lst,e_tuple_tup,e_int_int,e_int_bl,e_bool_int,e_bool_bl,e_sum,e_all,e_any,e_min,e_max,e_join_l,e_join_t,e_count,e_strip,e_split,e_add_i,e_add_s,e_add_l,e_add_t,e_sub,e_mul_i,e_mul_s,e_mul_l,e_mul_t,e_is_bl,e_not_bl,e_mod,e_div,e_pow,e_cmp,e_isN_non,e_notN_non,e_isN_bl,e_notN_bl,e_isN_int,e_notN_int,e_isN_str,e_notN_str,e_isN_lst,e_notN_lst,e_isN_tup,e_notN_tup,e_isN_obj,e_notN_obj,e_isN_scr,e_notN_scr,e_isN_tok,e_notN_tok,e_ix_l,e_ix_t,e_ix_s,e_ix_n,e_in1,e_kBl,e_enS,e_repl,e_neg,e_gcd,e_lcm,e_lenO_str,e_lenO_lst,e_lenO_tup,e_lenO_scr,e_op_int,e_op_str,e_op_lst,e_op_tup,e_ixO_str,e_ixO_scr,e_ixO_lst,e_ixO_tup,e_it_lst',e_it_tup',e_it_str',e_rev,e_revS,e_lr1,e_lr2,e_sorted,e_ownF_lst,e_ownF_non,e_par2F,e_triF,e_setIx,lis_cons,lis_nil,lisO_un,lisO_int,lisO_str,lisO_bl,lisO_non,bind_ok,bind_exc,bind_bad,bind_ask,cat,noex,need_true,reduceIte,Nat.reduceEqDiff,if_true,if_false,Bool.false_eq_true,List.getElem?_cons_zero,List.getElem?_cons_succ,List.map_cons,List.map_nil,List.replicate,List.cons_append,List.nil_append,List.append_nil,List.length_cons,List.length_nil,List.set_cons_zero,List.set_cons_succ, e]
  have hl : (intsC 0 n ((len + n - 1) / n)).length ≤ sizeLine := by
    unfold intsC
    rw [List.length_map, List.length_range]
    exact szL (by omega)
  rw [need_pos hl]
  unfold intsC
  rw [comp_mapG (f := fun i : Nat => .tup [.int ((i * n : Nat) : Int), .int ((min (i * n + n) len : Nat) : Int)]) fun i hi => ?_]
  · simp [fVar,fC,fBin,fNil,fCons,fTup,fLst,fONone,fOSome,fSl,fVal,fTru,fNotT,fAndT,fOrT,fNot,fAnd,fOr,fIfE,fB,fM1,fCall,fMeth,fMake,fProp,fFld,fXf,fNeg,fRepl,fFr,frzS,frz1,flatD,fFrT,jVal,jR1,jR2,jR3,jEnumL,fYes,fLc,zNil,zSeq,zAsg,zOwn,zOwnL,zDrop,zApp,zRet,zRetN,zRetL,zRetOwn,zIf,zBreak,zCont,zRaise,zTg,zPar2,zPar3,zFld,zSetSl,zFor,zTry,sx,setTF,setM,fDef,fIni,fPur,startD,Dl.isNon,plainB,wipeD,fChain,hNil,hCons,jEnumS,fOpO,fIxO,jObj,zOwnE,zPar2E,zTg3E,zOwnN,zPar2N,zTg3N,zSetIx,fRev,fRevS,fLR1,fLR2,fCallK,fBor,fBorT,e_asI,e_asB,e_tru_non,e_tru_bl,e_tru_int,e_tru_str,e_tru_lst,e_tru_tup,e_tru_scr,e_sl_lst,e_sl_str,e_sl_tup,e_some,e_none,e_it_lst,e_it_tup,e_it_str,e_it_scr,e_r1,e_r2,e_en,e_thenS_nx,e_thenS_rt,e_thenS_rn,e_thenS_bk,e_thenS_cn,e_thenS_ex,e_afterS_nx,e_afterS_rt,e_afterS_rn,e_afterS_bk,e_afterS_cn,e_afterS_ex,e_su_nx,e_su_rt,e_su_bk,e_su_cn,e_ca_nx,e_ca_bk,e_ca_cn,e_ca_rt,e_ca_ex,e_end_nx,e_end_rt,e_end_rn,e_end_ex,e_endN_rn,e_endN_ex,e_endI_ex,e_endI_nx,e_len_str,e_len_lst,e_len_tup,e_len_scr,e_list_lst,e_list_tup,e_list_scr,e_list_str,e_tuple_lst,e_tuple_tup,e_int_int,e_int_bl,e_bool_int,e_bool_bl,e_sum,e_all,e_any,e_min,e_max,e_join_l,e_join_t,e_count,e_strip,e_split,e_add_i,e_add_s,e_add_l,e_add_t,e_sub,e_mul_i,e_mul_s,e_mul_l,e_mul_t,e_is_bl,e_not_bl,e_mod,e_div,e_pow,e_cmp,e_isN_non,e_notN_non,e_isN_bl,e_notN_bl,e_isN_int,e_notN_int,e_isN_str,e_notN_str,e_isN_lst,e_notN_lst,e_isN_tup,e_notN_tup,e_isN_obj,e_notN_obj,e_isN_scr,e_notN_scr,e_isN_tok,e_notN_tok,e_ix_l,e_ix_t,e_ix_s,e_ix_n,e_in1,e_kBl,e_enS,e_repl,e_neg,e_gcd,e_lcm,e_lenO_str,e_lenO_lst,e_lenO_tup,e_lenO_scr,e_op_int,e_op_str,e_op_lst,e_op_tup,e_ixO_str,e_ixO_scr,e_ixO_lst,e_ixO_tup,e_it_lst',e_it_tup',e_it_str',e_rev,e_revS,e_lr1,e_lr2,e_sorted,e_ownF_lst,e_ownF_non,e_par2F,e_triF,e_setIx,lis_cons,lis_nil,lisO_un,lisO_int,lisO_str,lisO_bl,lisO_non,bind_ok,bind_exc,bind_bad,bind_ask,cat,noex,need_true,reduceIte,Nat.reduceEqDiff,if_true,if_false,Bool.false_eq_true,List.getElem?_cons_zero,List.getElem?_cons_succ,List.map_cons,List.map_nil,List.replicate,List.cons_append,List.nil_append,List.append_nil,List.length_cons,List.length_nil,List.set_cons_zero,List.set_cons_succ]
  · have e1 : (0 : Int) + (i : Nat) * (n : Nat) = ((i * n : Nat) : Int) := by rw [Int.zero_add, Int.natCast_mul]
    have e2 : (if (len : Int) < ((i * n : Nat) : Int) + n then (len : Int) else ((i * n : Nat) : Int) + n) = ((min (i * n + n) len : Nat) : Int) := by
      split <;> omega
    simp only [fVar,fC,fBin,fNil,fCons,fTup,fLst,fONone,fOSome,fSl,fVal,fTru,fNotT,fAndT,fOrT,fNot,fAnd,fOr,fIfE,fB,fM1,fCall,fMeth,fMake,fProp,fFld,fXf,fNeg,fRepl,fFr,frzS,frz1,flatD,fFrT,jVal,jR1,jR2,jR3,jEnumL,fYes,fLc,zNil,zSeq,zAsg,zOwn,zOwnL,zDrop,zApp,zRet,zRetN,zRetL,zRetOwn,zIf,zBreak,zCont,zRaise,zTg,zPar2,zPar3,zFld,zSetSl,zFor,zTry,sx,setTF,setM,fDef,fIni,fPur,startD,Dl.isNon,plainB,wipeD,fChain,hNil,hCons,jEnumS,fOpO,fIxO,jObj,zOwnE,zPar2E,zTg3E,zOwnN,zPar2N,zTg3N,zSetIx,fRev,fRevS,fLR1,fLR2,fCallK,fBor,fBorT,e_asI,e_asB,e_tru_non,e_tru_bl,e_tru_int,e_tru_str,e_tru_lst,e_tru_tup,e_tru_scr,e_sl_lst,e_sl_str,e_sl_tup,e_some,e_none,e_it_lst,e_it_tup,e_it_str,e_it_scr,e_r1,e_r2,e_en,e_thenS_nx,e_thenS_rt,e_thenS_rn,e_thenS_bk,e_thenS_cn,e_thenS_ex,e_afterS_nx,e_afterS_rt,e_afterS_rn,e_afterS_bk,e_afterS_cn,e_afterS_ex,e_su_nx,e_su_rt,e_su_bk,e_su_cn,e_ca_nx,e_ca_bk,e_ca_cn,e_ca_rt,e_ca_ex,e_end_nx,e_end_rt,e_end_rn,e_end_ex,e_endN_rn,e_endN_ex,e_endI_ex,e_endI_nx,e_len_str,e_len_lst,e_len_tup,e_len_scr,e_list_lst,e_list_tup,e_list_scr,e_list_str,e_tuple_lst,e_tuple_tup,e_int_int,e_int_bl,e_bool_int,e_bool_bl,e_sum,e_all,e_any,e_min,e_max,e_join_l,e_join_t,e_count,e_strip,e_split,e_add_i,e_add_s,e_add_l,e_add_t,e_sub,e_mul_i,e_mul_s,e_mul_l,e_mul_t,e_is_bl,e_not_bl,e_mod,e_div,e_pow,e_cmp,e_isN_non,e_notN_non,e_isN_bl,e_notN_bl,e_isN_int,e_notN_int,e_isN_str,e_notN_str,e_isN_lst,e_notN_lst,e_isN_tup,e_notN_tup,e_isN_obj,e_notN_obj,e_isN_scr,e_notN_scr,e_isN_tok,e_notN_tok,e_ix_l,e_ix_t,e_ix_s,e_ix_n,e_in1,e_kBl,e_enS,e_repl,e_neg,e_gcd,e_lcm,e_lenO_str,e_lenO_lst,e_lenO_tup,e_lenO_scr,e_op_int,e_op_str,e_op_lst,e_op_tup,e_ixO_str,e_ixO_scr,e_ixO_lst,e_ixO_tup,e_it_lst',e_it_tup',e_it_str',e_rev,e_revS,e_lr1,e_lr2,e_sorted,e_ownF_lst,e_ownF_non,e_par2F,e_triF,e_setIx,lis_cons,lis_nil,lisO_un,lisO_int,lisO_str,lisO_bl,lisO_non,bind_ok,bind_exc,bind_bad,bind_ask,cat,noex,need_true,reduceIte,Nat.reduceEqDiff,if_true,if_false,Bool.false_eq_true,List.getElem?_cons_zero,List.getElem?_cons_succ,List.map_cons,List.map_nil,List.replicate,List.cons_append,List.nil_append,List.append_nil,List.length_cons,List.length_nil,List.set_cons_zero,List.set_cons_succ, e1, e2]
    rw [need_pos s2]
/-- the law's own steps: a kind's name and a size -/
def kname (k : Nat) : Str := match k with
  | 0 => "full"
  | 1 => "keep"
  | 2 => "lean"
  | _ => "dig"
def codeS (c : Nat × Int) : D := .tup [.str (kname c.1), .int c.2]
def kindsL : List D := [.str "keep", .str "keep", .str "dig", .str "dig", .str "lean", .str "full"]
theorem kind_at {d : Int} (h0 : 0 ≤ d) (h1 : d < 6) : ∃ k : Nat, k ≤ 3 ∧ atI kindsL d = some (.str (kname k)) := by
  have : d = 0 ∨ d = 1 ∨ d = 2 ∨ d = 3 ∨ d = 4 ∨ d = 5 := by omega
  rcases this with rfl | rfl | rfl | rfl | rfl | rfl
  · exact ⟨1, by decide, rfl⟩
  · exact ⟨1, by decide, rfl⟩
  · exact ⟨3, by decide, rfl⟩
  · exact ⟨3, by decide, rfl⟩
  · exact ⟨2, by decide, rfl⟩
  · exact ⟨0, by decide, rfl⟩
theorem int_at {l : List Int} {i : Int} (h0 : 0 ≤ i) (h1 : i < l.length) : ∃ n, n ∈ l ∧ atI (l.map D.int) i = some (.int n) := by
  obtain ⟨n, e, hn⟩ := atI_in (l := l) h0 h1
  exact ⟨n, hn, by rw [atI_map, e] <;> rfl⟩
theorem steps_ok {sizes : List Int} {most : Nat} (hm : most ≤ 100) (hs : 0 < sizes.length) (hs2 : sizes.length ≤ 100) : (g__law_steps [.tok 0, .lst (sizes.map D.int), .int most]).wp (fun d => ∃ cs : List (Nat × Int), d = .lst (cs.map codeS) ∧ cs.length ≤ most ∧ ∀ c ∈ cs, c.1 ≤ 3 ∧ c.2 ∈ sizes) NoX := by
  refine w_def rfl ?_
  unfold f__law_steps
  have s6 : (6 : Nat) ≤ sizeLine := szL (by decide)
  refine w_seq ?_
  simp only [fVar,fC,fBin,fNil,fCons,fTup,fLst,fONone,fOSome,fSl,fVal,fTru,fNotT,fAndT,fOrT,fNot,fAnd,fOr,fIfE,fB,fM1,fCall,fMeth,fMake,fProp,fFld,fXf,fNeg,fRepl,fFr,frzS,frz1,flatD,fFrT,jVal,jR1,jR2,jR3,jEnumL,fYes,fLc,zAsg,zOwn,zOwnL,zDrop,zApp,zRet,zRetN,zRetL,zRetOwn,zIf,zBreak,zCont,zRaise,zTg,zPar2,zPar3,zFld,zSetSl,zFor,zTry,setTF,setM,fDef,fIni,fPur,startD,Dl.isNon,plainB,wipeD,fChain,hNil,hCons,jEnumS,fOpO,fIxO,jObj,zOwnE,zPar2E,zTg3E,zOwnN,zPar2N,zTg3N,zSetIx,fRev,fRevS,fLR1,fLR2,fCallK,fBor,fBorT,e_asI,e_asB,e_tru_non,e_tru_bl,e_tru_int,e_tru_str,e_tru_lst,e_tru_tup,e_tru_scr,e_sl_lst,e_sl_str,e_sl_tup,e_some,e_none,e_it_lst,e_it_tup,e_it_str,e_it_scr,e_r1,e_r2,e_en,e_thenS_nx,e_thenS_rt,e_thenS_rn,e_thenS_bk,e_thenS_cn,e_thenS_ex,e_afterS_nx,e_afterS_rt,e_afterS_rn,e_afterS_bk,e_afterS_cn,e_afterS_ex,e_su_nx,e_su_rt,e_su_bk,e_su_cn,e_ca_nx,e_ca_bk,e_ca_cn,e_ca_rt,e_ca_ex,e_end_nx,e_end_rt,e_end_rn,e_end_ex,e_endN_rn,e_endN_ex,e_endI_ex,e_endI_nx,e_len_str,e_len_lst,e_len_tup,e_len_scr,e_list_lst,e_list_tup,e_list_scr,e_list_str,e_tuple_lst,e_tuple_tup,e_int_int,e_int_bl,e_bool_int,e_bool_bl,e_sum,e_all,e_any,e_min,e_max,e_join_l,e_join_t,e_count,e_strip,e_split,e_add_i,e_add_s,e_add_l,e_add_t,e_sub,e_mul_i,e_mul_s,e_mul_l,e_mul_t,e_is_bl,e_not_bl,e_mod,e_div,e_pow,e_cmp,e_isN_non,e_notN_non,e_isN_bl,e_notN_bl,e_isN_int,e_notN_int,e_isN_str,e_notN_str,e_isN_lst,e_notN_lst,e_isN_tup,e_notN_tup,e_isN_obj,e_notN_obj,e_isN_scr,e_notN_scr,e_isN_tok,e_notN_tok,e_ix_l,e_ix_t,e_ix_s,e_ix_n,e_in1,e_kBl,e_enS,e_repl,e_neg,e_gcd,e_lcm,e_lenO_str,e_lenO_lst,e_lenO_tup,e_lenO_scr,e_op_int,e_op_str,e_op_lst,e_op_tup,e_ixO_str,e_ixO_scr,e_ixO_lst,e_ixO_tup,e_it_lst',e_it_tup',e_it_str',e_rev,e_revS,e_lr1,e_lr2,e_sorted,e_ownF_lst,e_ownF_non,e_par2F,e_triF,e_setIx,lis_cons,lis_nil,lisO_un,lisO_int,lisO_str,lisO_bl,lisO_non,w_sx,w_nil,w_ok,w_exc,w_bad,wp_bind,wp_noex,wp_cat,wp_need,true_and,and_true,bind_ok,bind_exc,bind_bad,bind_ask,cat,noex,reduceIte,Nat.reduceEqDiff,if_true,if_false,Bool.false_eq_true,List.getElem?_cons_zero,List.getElem?_cons_succ,List.map_cons,List.map_nil,List.replicate,List.cons_append,List.nil_append,List.append_nil,List.length_cons,List.length_nil,List.set_cons_zero,List.set_cons_succ]
  refine ⟨szL (by decide), ?_⟩
  refine w_seq ?_
  simp only [fVar,fC,fBin,fNil,fCons,fTup,fLst,fONone,fOSome,fSl,fVal,fTru,fNotT,fAndT,fOrT,fNot,fAnd,fOr,fIfE,fB,fM1,fCall,fMeth,fMake,fProp,fFld,fXf,fNeg,fRepl,fFr,frzS,frz1,flatD,fFrT,jVal,jR1,jR2,jR3,jEnumL,fYes,fLc,zAsg,zOwn,zOwnL,zDrop,zApp,zRet,zRetN,zRetL,zRetOwn,zIf,zBreak,zCont,zRaise,zTg,zPar2,zPar3,zFld,zSetSl,zFor,zTry,setTF,setM,fDef,fIni,fPur,startD,Dl.isNon,plainB,wipeD,fChain,hNil,hCons,jEnumS,fOpO,fIxO,jObj,zOwnE,zPar2E,zTg3E,zOwnN,zPar2N,zTg3N,zSetIx,fRev,fRevS,fLR1,fLR2,fCallK,fBor,fBorT,e_asI,e_asB,e_tru_non,e_tru_bl,e_tru_int,e_tru_str,e_tru_lst,e_tru_tup,e_tru_scr,e_sl_lst,e_sl_str,e_sl_tup,e_some,e_none,e_it_lst,e_it_tup,e_it_str,e_it_scr,e_r1,e_r2,e_en,e_thenS_nx,e_thenS_rt,e_thenS_rn,e_thenS_bk,e_thenS_cn,e_thenS_ex,e_afterS_nx,e_afterS_rt,e_afterS_rn,e_afterS_bk,e_afterS_cn,e_afterS_ex,e_su_nx,e_su_rt,e_su_bk,e_su_cn,e_ca_nx,e_ca_bk,e_ca_cn,e_ca_rt,e_ca_ex,e_end_nx,e_end_rt,e_end_rn,e_end_ex,e_endN_rn,e_endN_ex,e_endI_ex,e_endI_nx,e_len_str,e_len_lst,e_len_tup,e_len_scr,e_list_lst,e_list_tup,e_list_scr,e_list_str,e_tuple_lst,e_tuple_tup,e_int_int,e_int_bl,e_bool_int,e_bool_bl,e_sum,e_all,e_any,e_min,e_max,e_join_l,e_join_t,e_count,e_strip,e_split,e_add_i,e_add_s,e_add_l,e_add_t,e_sub,e_mul_i,e_mul_s,e_mul_l,e_mul_t,e_is_bl,e_not_bl,e_mod,e_div,e_pow,e_cmp,e_isN_non,e_notN_non,e_isN_bl,e_notN_bl,e_isN_int,e_notN_int,e_isN_str,e_notN_str,e_isN_lst,e_notN_lst,e_isN_tup,e_notN_tup,e_isN_obj,e_notN_obj,e_isN_scr,e_notN_scr,e_isN_tok,e_notN_tok,e_ix_l,e_ix_t,e_ix_s,e_ix_n,e_in1,e_kBl,e_enS,e_repl,e_neg,e_gcd,e_lcm,e_lenO_str,e_lenO_lst,e_lenO_tup,e_lenO_scr,e_op_int,e_op_str,e_op_lst,e_op_tup,e_ixO_str,e_ixO_scr,e_ixO_lst,e_ixO_tup,e_it_lst',e_it_tup',e_it_str',e_rev,e_revS,e_lr1,e_lr2,e_sorted,e_ownF_lst,e_ownF_non,e_par2F,e_triF,e_setIx,lis_cons,lis_nil,lisO_un,lisO_int,lisO_str,lisO_bl,lisO_non,w_sx,w_nil,w_ok,w_exc,w_bad,wp_bind,wp_noex,wp_cat,wp_need,true_and,and_true,bind_ok,bind_exc,bind_bad,bind_ask,cat,noex,reduceIte,Nat.reduceEqDiff,if_true,if_false,Bool.false_eq_true,List.getElem?_cons_zero,List.getElem?_cons_succ,List.map_cons,List.map_nil,List.replicate,List.cons_append,List.nil_append,List.append_nil,List.length_cons,List.length_nil,List.set_cons_zero,List.set_cons_succ, w_draw]
  refine ⟨szlog (by omega) (by omega), fun d2 h2 h3 => ⟨by omega, ?_⟩⟩
  refine wp_for (fun ds s => ∃ (cs : List (Nat × Int)) (a b : Sl), s = [.v (.tok 0), .v (.lst (sizes.map D.int)), .v (.int most), .own (cs.map codeS), a, b] ∧ cs.length + ds.length ≤ most ∧ ∀ c ∈ cs, c.1 ≤ 3 ∧ c.2 ∈ sizes) ⟨[], _, _, rfl, by rw [ints_len]; simp; omega, fun c hc => by cases hc⟩ ?_ ?_
  · rintro _ ⟨cs, a, b, rfl, hl, hc⟩
    simp only [List.length_nil] at hl
    simp only [fVar,fC,fBin,fNil,fCons,fTup,fLst,fONone,fOSome,fSl,fVal,fTru,fNotT,fAndT,fOrT,fNot,fAnd,fOr,fIfE,fB,fM1,fCall,fMeth,fMake,fProp,fFld,fXf,fNeg,fRepl,fFr,frzS,frz1,flatD,fFrT,jVal,jR1,jR2,jR3,jEnumL,fYes,fLc,zAsg,zOwn,zOwnL,zDrop,zApp,zRet,zRetN,zRetL,zRetOwn,zIf,zBreak,zCont,zRaise,zTg,zPar2,zPar3,zFld,zSetSl,zFor,zTry,setTF,setM,fDef,fIni,fPur,startD,Dl.isNon,plainB,wipeD,fChain,hNil,hCons,jEnumS,fOpO,fIxO,jObj,zOwnE,zPar2E,zTg3E,zOwnN,zPar2N,zTg3N,zSetIx,fRev,fRevS,fLR1,fLR2,fCallK,fBor,fBorT,e_asI,e_asB,e_tru_non,e_tru_bl,e_tru_int,e_tru_str,e_tru_lst,e_tru_tup,e_tru_scr,e_sl_lst,e_sl_str,e_sl_tup,e_some,e_none,e_it_lst,e_it_tup,e_it_str,e_it_scr,e_r1,e_r2,e_en,e_thenS_nx,e_thenS_rt,e_thenS_rn,e_thenS_bk,e_thenS_cn,e_thenS_ex,e_afterS_nx,e_afterS_rt,e_afterS_rn,e_afterS_bk,e_afterS_cn,e_afterS_ex,e_su_nx,e_su_rt,e_su_bk,e_su_cn,e_ca_nx,e_ca_bk,e_ca_cn,e_ca_rt,e_ca_ex,e_end_nx,e_end_rt,e_end_rn,e_end_ex,e_endN_rn,e_endN_ex,e_endI_ex,e_endI_nx,e_len_str,e_len_lst,e_len_tup,e_len_scr,e_list_lst,e_list_tup,e_list_scr,e_list_str,e_tuple_lst,e_tuple_tup,e_int_int,e_int_bl,e_bool_int,e_bool_bl,e_sum,e_all,e_any,e_min,e_max,e_join_l,e_join_t,e_count,e_strip,e_split,e_add_i,e_add_s,e_add_l,e_add_t,e_sub,e_mul_i,e_mul_s,e_mul_l,e_mul_t,e_is_bl,e_not_bl,e_mod,e_div,e_pow,e_cmp,e_isN_non,e_notN_non,e_isN_bl,e_notN_bl,e_isN_int,e_notN_int,e_isN_str,e_notN_str,e_isN_lst,e_notN_lst,e_isN_tup,e_notN_tup,e_isN_obj,e_notN_obj,e_isN_scr,e_notN_scr,e_isN_tok,e_notN_tok,e_ix_l,e_ix_t,e_ix_s,e_ix_n,e_in1,e_kBl,e_enS,e_repl,e_neg,e_gcd,e_lcm,e_lenO_str,e_lenO_lst,e_lenO_tup,e_lenO_scr,e_op_int,e_op_str,e_op_lst,e_op_tup,e_ixO_str,e_ixO_scr,e_ixO_lst,e_ixO_tup,e_it_lst',e_it_tup',e_it_str',e_rev,e_revS,e_lr1,e_lr2,e_sorted,e_ownF_lst,e_ownF_non,e_par2F,e_triF,e_setIx,lis_cons,lis_nil,lisO_un,lisO_int,lisO_str,lisO_bl,lisO_non,w_sx,w_nil,w_ok,w_exc,w_bad,wp_bind,wp_noex,wp_cat,wp_need,true_and,and_true,bind_ok,bind_exc,bind_bad,bind_ask,cat,noex,reduceIte,Nat.reduceEqDiff,if_true,if_false,Bool.false_eq_true,List.getElem?_cons_zero,List.getElem?_cons_succ,List.map_cons,List.map_nil,List.replicate,List.cons_append,List.nil_append,List.append_nil,List.length_cons,List.length_nil,List.set_cons_zero,List.set_cons_succ]
    refine w_seq ?_
    simp only [fVar,fC,fBin,fNil,fCons,fTup,fLst,fONone,fOSome,fSl,fVal,fTru,fNotT,fAndT,fOrT,fNot,fAnd,fOr,fIfE,fB,fM1,fCall,fMeth,fMake,fProp,fFld,fXf,fNeg,fRepl,fFr,frzS,frz1,flatD,fFrT,jVal,jR1,jR2,jR3,jEnumL,fYes,fLc,zAsg,zOwn,zOwnL,zDrop,zApp,zRet,zRetN,zRetL,zRetOwn,zIf,zBreak,zCont,zRaise,zTg,zPar2,zPar3,zFld,zSetSl,zFor,zTry,setTF,setM,fDef,fIni,fPur,startD,Dl.isNon,plainB,wipeD,fChain,hNil,hCons,jEnumS,fOpO,fIxO,jObj,zOwnE,zPar2E,zTg3E,zOwnN,zPar2N,zTg3N,zSetIx,fRev,fRevS,fLR1,fLR2,fCallK,fBor,fBorT,e_asI,e_asB,e_tru_non,e_tru_bl,e_tru_int,e_tru_str,e_tru_lst,e_tru_tup,e_tru_scr,e_sl_lst,e_sl_str,e_sl_tup,e_some,e_none,e_it_lst,e_it_tup,e_it_str,e_it_scr,e_r1,e_r2,e_en,e_thenS_nx,e_thenS_rt,e_thenS_rn,e_thenS_bk,e_thenS_cn,e_thenS_ex,e_afterS_nx,e_afterS_rt,e_afterS_rn,e_afterS_bk,e_afterS_cn,e_afterS_ex,e_su_nx,e_su_rt,e_su_bk,e_su_cn,e_ca_nx,e_ca_bk,e_ca_cn,e_ca_rt,e_ca_ex,e_end_nx,e_end_rt,e_end_rn,e_end_ex,e_endN_rn,e_endN_ex,e_endI_ex,e_endI_nx,e_len_str,e_len_lst,e_len_tup,e_len_scr,e_list_lst,e_list_tup,e_list_scr,e_list_str,e_tuple_lst,e_tuple_tup,e_int_int,e_int_bl,e_bool_int,e_bool_bl,e_sum,e_all,e_any,e_min,e_max,e_join_l,e_join_t,e_count,e_strip,e_split,e_add_i,e_add_s,e_add_l,e_add_t,e_sub,e_mul_i,e_mul_s,e_mul_l,e_mul_t,e_is_bl,e_not_bl,e_mod,e_div,e_pow,e_cmp,e_isN_non,e_notN_non,e_isN_bl,e_notN_bl,e_isN_int,e_notN_int,e_isN_str,e_notN_str,e_isN_lst,e_notN_lst,e_isN_tup,e_notN_tup,e_isN_obj,e_notN_obj,e_isN_scr,e_notN_scr,e_isN_tok,e_notN_tok,e_ix_l,e_ix_t,e_ix_s,e_ix_n,e_in1,e_kBl,e_enS,e_repl,e_neg,e_gcd,e_lcm,e_lenO_str,e_lenO_lst,e_lenO_tup,e_lenO_scr,e_op_int,e_op_str,e_op_lst,e_op_tup,e_ixO_str,e_ixO_scr,e_ixO_lst,e_ixO_tup,e_it_lst',e_it_tup',e_it_str',e_rev,e_revS,e_lr1,e_lr2,e_sorted,e_ownF_lst,e_ownF_non,e_par2F,e_triF,e_setIx,lis_cons,lis_nil,lisO_un,lisO_int,lisO_str,lisO_bl,lisO_non,w_sx,w_nil,w_ok,w_exc,w_bad,wp_bind,wp_noex,wp_cat,wp_need,true_and,and_true,bind_ok,bind_exc,bind_bad,bind_ask,cat,noex,reduceIte,Nat.reduceEqDiff,if_true,if_false,Bool.false_eq_true,List.getElem?_cons_zero,List.getElem?_cons_succ,List.map_cons,List.map_nil,List.replicate,List.cons_append,List.nil_append,List.append_nil,List.length_cons,List.length_nil,List.set_cons_zero,List.set_cons_succ]
    exact ⟨cs, rfl, by omega, hc⟩
  · rintro d ds _ ⟨cs, a, b, rfl, hl, hc⟩
    simp only [List.length_cons] at hl
    refine w_seq ?_
    simp only [fVar,fC,fBin,fNil,fCons,fTup,fLst,fONone,fOSome,fSl,fVal,fTru,fNotT,fAndT,fOrT,fNot,fAnd,fOr,fIfE,fB,fM1,fCall,fMeth,fMake,fProp,fFld,fXf,fNeg,fRepl,fFr,frzS,frz1,flatD,fFrT,jVal,jR1,jR2,jR3,jEnumL,fYes,fLc,zAsg,zOwn,zOwnL,zDrop,zApp,zRet,zRetN,zRetL,zRetOwn,zIf,zBreak,zCont,zRaise,zTg,zPar2,zPar3,zFld,zSetSl,zFor,zTry,setTF,setM,fDef,fIni,fPur,startD,Dl.isNon,plainB,wipeD,fChain,hNil,hCons,jEnumS,fOpO,fIxO,jObj,zOwnE,zPar2E,zTg3E,zOwnN,zPar2N,zTg3N,zSetIx,fRev,fRevS,fLR1,fLR2,fCallK,fBor,fBorT,e_asI,e_asB,e_tru_non,e_tru_bl,e_tru_int,e_tru_str,e_tru_lst,e_tru_tup,e_tru_scr,e_sl_lst,e_sl_str,e_sl_tup,e_some,e_none,e_it_lst,e_it_tup,e_it_str,e_it_scr,e_r1,e_r2,e_en,e_thenS_nx,e_thenS_rt,e_thenS_rn,e_thenS_bk,e_thenS_cn,e_thenS_ex,e_afterS_nx,e_afterS_rt,e_afterS_rn,e_afterS_bk,e_afterS_cn,e_afterS_ex,e_su_nx,e_su_rt,e_su_bk,e_su_cn,e_ca_nx,e_ca_bk,e_ca_cn,e_ca_rt,e_ca_ex,e_end_nx,e_end_rt,e_end_rn,e_end_ex,e_endN_rn,e_endN_ex,e_endI_ex,e_endI_nx,e_len_str,e_len_lst,e_len_tup,e_len_scr,e_list_lst,e_list_tup,e_list_scr,e_list_str,e_tuple_lst,e_tuple_tup,e_int_int,e_int_bl,e_bool_int,e_bool_bl,e_sum,e_all,e_any,e_min,e_max,e_join_l,e_join_t,e_count,e_strip,e_split,e_add_i,e_add_s,e_add_l,e_add_t,e_sub,e_mul_i,e_mul_s,e_mul_l,e_mul_t,e_is_bl,e_not_bl,e_mod,e_div,e_pow,e_cmp,e_isN_non,e_notN_non,e_isN_bl,e_notN_bl,e_isN_int,e_notN_int,e_isN_str,e_notN_str,e_isN_lst,e_notN_lst,e_isN_tup,e_notN_tup,e_isN_obj,e_notN_obj,e_isN_scr,e_notN_scr,e_isN_tok,e_notN_tok,e_ix_l,e_ix_t,e_ix_s,e_ix_n,e_in1,e_kBl,e_enS,e_repl,e_neg,e_gcd,e_lcm,e_lenO_str,e_lenO_lst,e_lenO_tup,e_lenO_scr,e_op_int,e_op_str,e_op_lst,e_op_tup,e_ixO_str,e_ixO_scr,e_ixO_lst,e_ixO_tup,e_it_lst',e_it_tup',e_it_str',e_rev,e_revS,e_lr1,e_lr2,e_sorted,e_ownF_lst,e_ownF_non,e_par2F,e_triF,e_setIx,lis_cons,lis_nil,lisO_un,lisO_int,lisO_str,lisO_bl,lisO_non,w_sx,w_nil,w_ok,w_exc,w_bad,wp_bind,wp_noex,wp_cat,wp_need,true_and,and_true,bind_ok,bind_exc,bind_bad,bind_ask,cat,noex,reduceIte,Nat.reduceEqDiff,if_true,if_false,Bool.false_eq_true,List.getElem?_cons_zero,List.getElem?_cons_succ,List.map_cons,List.map_nil,List.replicate,List.cons_append,List.nil_append,List.append_nil,List.length_cons,List.length_nil,List.set_cons_zero,List.set_cons_succ, w_draw]
    refine ⟨szL (by decide), szlog (by decide) (by decide), fun d4 h4 h5 => ?_⟩
    obtain ⟨k, hk, ek⟩ := kind_at h4 h5
    refine wp_optR.mpr ⟨_, ek, ?_⟩
    refine w_seq ?_
    simp only [fVar,fC,fBin,fNil,fCons,fTup,fLst,fONone,fOSome,fSl,fVal,fTru,fNotT,fAndT,fOrT,fNot,fAnd,fOr,fIfE,fB,fM1,fCall,fMeth,fMake,fProp,fFld,fXf,fNeg,fRepl,fFr,frzS,frz1,flatD,fFrT,jVal,jR1,jR2,jR3,jEnumL,fYes,fLc,zAsg,zOwn,zOwnL,zDrop,zApp,zRet,zRetN,zRetL,zRetOwn,zIf,zBreak,zCont,zRaise,zTg,zPar2,zPar3,zFld,zSetSl,zFor,zTry,setTF,setM,fDef,fIni,fPur,startD,Dl.isNon,plainB,wipeD,fChain,hNil,hCons,jEnumS,fOpO,fIxO,jObj,zOwnE,zPar2E,zTg3E,zOwnN,zPar2N,zTg3N,zSetIx,fRev,fRevS,fLR1,fLR2,fCallK,fBor,fBorT,e_asI,e_asB,e_tru_non,e_tru_bl,e_tru_int,e_tru_str,e_tru_lst,e_tru_tup,e_tru_scr,e_sl_lst,e_sl_str,e_sl_tup,e_some,e_none,e_it_lst,e_it_tup,e_it_str,e_it_scr,e_r1,e_r2,e_en,e_thenS_nx,e_thenS_rt,e_thenS_rn,e_thenS_bk,e_thenS_cn,e_thenS_ex,e_afterS_nx,e_afterS_rt,e_afterS_rn,e_afterS_bk,e_afterS_cn,e_afterS_ex,e_su_nx,e_su_rt,e_su_bk,e_su_cn,e_ca_nx,e_ca_bk,e_ca_cn,e_ca_rt,e_ca_ex,e_end_nx,e_end_rt,e_end_rn,e_end_ex,e_endN_rn,e_endN_ex,e_endI_ex,e_endI_nx,e_len_str,e_len_lst,e_len_tup,e_len_scr,e_list_lst,e_list_tup,e_list_scr,e_list_str,e_tuple_lst,e_tuple_tup,e_int_int,e_int_bl,e_bool_int,e_bool_bl,e_sum,e_all,e_any,e_min,e_max,e_join_l,e_join_t,e_count,e_strip,e_split,e_add_i,e_add_s,e_add_l,e_add_t,e_sub,e_mul_i,e_mul_s,e_mul_l,e_mul_t,e_is_bl,e_not_bl,e_mod,e_div,e_pow,e_cmp,e_isN_non,e_notN_non,e_isN_bl,e_notN_bl,e_isN_int,e_notN_int,e_isN_str,e_notN_str,e_isN_lst,e_notN_lst,e_isN_tup,e_notN_tup,e_isN_obj,e_notN_obj,e_isN_scr,e_notN_scr,e_isN_tok,e_notN_tok,e_ix_l,e_ix_t,e_ix_s,e_ix_n,e_in1,e_kBl,e_enS,e_repl,e_neg,e_gcd,e_lcm,e_lenO_str,e_lenO_lst,e_lenO_tup,e_lenO_scr,e_op_int,e_op_str,e_op_lst,e_op_tup,e_ixO_str,e_ixO_scr,e_ixO_lst,e_ixO_tup,e_it_lst',e_it_tup',e_it_str',e_rev,e_revS,e_lr1,e_lr2,e_sorted,e_ownF_lst,e_ownF_non,e_par2F,e_triF,e_setIx,lis_cons,lis_nil,lisO_un,lisO_int,lisO_str,lisO_bl,lisO_non,w_sx,w_nil,w_ok,w_exc,w_bad,wp_bind,wp_noex,wp_cat,wp_need,true_and,and_true,bind_ok,bind_exc,bind_bad,bind_ask,cat,noex,reduceIte,Nat.reduceEqDiff,if_true,if_false,Bool.false_eq_true,List.getElem?_cons_zero,List.getElem?_cons_succ,List.map_cons,List.map_nil,List.replicate,List.cons_append,List.nil_append,List.append_nil,List.length_cons,List.length_nil,List.set_cons_zero,List.set_cons_succ, w_draw]
    refine ⟨szlog (by rw [List.length_map]; omega) (by rw [List.length_map]; omega), fun d6 h6 h7 => ?_⟩
    rw [List.length_map] at h7
    obtain ⟨n, hn, en⟩ := int_at h6 h7
    rw [en]
    simp only [fVar,fC,fBin,fNil,fCons,fTup,fLst,fONone,fOSome,fSl,fVal,fTru,fNotT,fAndT,fOrT,fNot,fAnd,fOr,fIfE,fB,fM1,fCall,fMeth,fMake,fProp,fFld,fXf,fNeg,fRepl,fFr,frzS,frz1,flatD,fFrT,jVal,jR1,jR2,jR3,jEnumL,fYes,fLc,zAsg,zOwn,zOwnL,zDrop,zApp,zRet,zRetN,zRetL,zRetOwn,zIf,zBreak,zCont,zRaise,zTg,zPar2,zPar3,zFld,zSetSl,zFor,zTry,setTF,setM,fDef,fIni,fPur,startD,Dl.isNon,plainB,wipeD,fChain,hNil,hCons,jEnumS,fOpO,fIxO,jObj,zOwnE,zPar2E,zTg3E,zOwnN,zPar2N,zTg3N,zSetIx,fRev,fRevS,fLR1,fLR2,fCallK,fBor,fBorT,e_asI,e_asB,e_tru_non,e_tru_bl,e_tru_int,e_tru_str,e_tru_lst,e_tru_tup,e_tru_scr,e_sl_lst,e_sl_str,e_sl_tup,e_some,e_none,e_it_lst,e_it_tup,e_it_str,e_it_scr,e_r1,e_r2,e_en,e_thenS_nx,e_thenS_rt,e_thenS_rn,e_thenS_bk,e_thenS_cn,e_thenS_ex,e_afterS_nx,e_afterS_rt,e_afterS_rn,e_afterS_bk,e_afterS_cn,e_afterS_ex,e_su_nx,e_su_rt,e_su_bk,e_su_cn,e_ca_nx,e_ca_bk,e_ca_cn,e_ca_rt,e_ca_ex,e_end_nx,e_end_rt,e_end_rn,e_end_ex,e_endN_rn,e_endN_ex,e_endI_ex,e_endI_nx,e_len_str,e_len_lst,e_len_tup,e_len_scr,e_list_lst,e_list_tup,e_list_scr,e_list_str,e_tuple_lst,e_tuple_tup,e_int_int,e_int_bl,e_bool_int,e_bool_bl,e_sum,e_all,e_any,e_min,e_max,e_join_l,e_join_t,e_count,e_strip,e_split,e_add_i,e_add_s,e_add_l,e_add_t,e_sub,e_mul_i,e_mul_s,e_mul_l,e_mul_t,e_is_bl,e_not_bl,e_mod,e_div,e_pow,e_cmp,e_isN_non,e_notN_non,e_isN_bl,e_notN_bl,e_isN_int,e_notN_int,e_isN_str,e_notN_str,e_isN_lst,e_notN_lst,e_isN_tup,e_notN_tup,e_isN_obj,e_notN_obj,e_isN_scr,e_notN_scr,e_isN_tok,e_notN_tok,e_ix_l,e_ix_t,e_ix_s,e_ix_n,e_in1,e_kBl,e_enS,e_repl,e_neg,e_gcd,e_lcm,e_lenO_str,e_lenO_lst,e_lenO_tup,e_lenO_scr,e_op_int,e_op_str,e_op_lst,e_op_tup,e_ixO_str,e_ixO_scr,e_ixO_lst,e_ixO_tup,e_it_lst',e_it_tup',e_it_str',e_rev,e_revS,e_lr1,e_lr2,e_sorted,e_ownF_lst,e_ownF_non,e_par2F,e_triF,e_setIx,lis_cons,lis_nil,lisO_un,lisO_int,lisO_str,lisO_bl,lisO_non,w_sx,w_nil,w_ok,w_exc,w_bad,wp_bind,wp_noex,wp_cat,wp_need,true_and,and_true,bind_ok,bind_exc,bind_bad,bind_ask,cat,noex,reduceIte,Nat.reduceEqDiff,if_true,if_false,Bool.false_eq_true,List.getElem?_cons_zero,List.getElem?_cons_succ,List.map_cons,List.map_nil,List.replicate,List.cons_append,List.nil_append,List.append_nil,List.length_cons,List.length_nil,List.set_cons_zero,List.set_cons_succ]
    refine ⟨szL (by decide), by rw [List.length_map]; exact Nat.lt_of_lt_of_le (show cs.length < 200 by omega) (szL (by decide)), ?_⟩
    refine ⟨cs ++ [(k, n)], _, _, by rw [List.map_append] <;> rfl, by rw [List.length_append]; simp; omega, ?_⟩
    intro c h
    rcases List.mem_append.mp h with h | h
    · exact hc c h
    · rw [List.mem_singleton.mp h]
      exact ⟨hk, hn⟩
theorem law_step {c : Nat × Int} (hk : c.1 ≤ 3) (hn : c.1 ≠ 0 → 1 ≤ c.2) : g__law_step [codeS c] = .ok (stp c.1 c.2) := by
  obtain ⟨k, n⟩ := c
  dsimp only at hk hn
  have x0 : ∀ (x : D) (y : D), atI [x, y] 0 = some x := fun _ _ => rfl
  have x1 : ∀ (x : D) (y : D), atI [x, y] 1 = some y := fun _ _ => rfl
  have n1 : ((Str.ofString "keep") == (Str.ofString "full")) = false := by decide +kernel
  have n2 : ((Str.ofString "lean") == (Str.ofString "full")) = false := by decide +kernel
  have n3 : ((Str.ofString "dig") == (Str.ofString "full")) = false := by decide +kernel
  have n4 : ((Str.ofString "lean") == (Str.ofString "keep")) = false := by decide +kernel
  have n5 : ((Str.ofString "dig") == (Str.ofString "keep")) = false := by decide +kernel
  have n6 : ((Str.ofString "dig") == (Str.ofString "lean")) = false := by decide +kernel
  match k, hk with
  | 0, _ => simp only [g__law_step, f__law_step, codeS, kname, fVar,fC,fBin,fNil,fCons,fTup,fLst,fONone,fOSome,fSl,fVal,fTru,fNotT,fAndT,fOrT,fNot,fAnd,fOr,fIfE,fB,fM1,fCall,fMeth,fMake,fProp,fFld,fXf,fNeg,fRepl,fFr,frzS,frz1,flatD,fFrT,jVal,jR1,jR2,jR3,jEnumL,fYes,fLc,zNil,zSeq,zAsg,zOwn,zOwnL,zDrop,zApp,zRet,zRetN,zRetL,zRetOwn,zIf,zBreak,zCont,zRaise,zTg,zPar2,zPar3,zFld,zSetSl,zFor,zTry,sx,setTF,setM,fDef,fIni,fPur,startD,Dl.isNon,plainB,wipeD,fChain,hNil,hCons,jEnumS,fOpO,fIxO,jObj,zOwnE,zPar2E,zTg3E,zOwnN,zPar2N,zTg3N,zSetIx,fRev,fRevS,fLR1,fLR2,fCallK,fBor,fBorT,e_asI,e_asB,e_tru_non,e_tru_bl,e_tru_int,e_tru_str,e_tru_lst,e_tru_tup,e_tru_scr,e_sl_lst,e_sl_str,e_sl_tup,e_some,e_none,e_it_lst,e_it_tup,e_it_str,e_it_scr,e_r1,e_r2,e_en,e_thenS_nx,e_thenS_rt,e_thenS_rn,e_thenS_bk,e_thenS_cn,e_thenS_ex,e_afterS_nx,e_afterS_rt,e_afterS_rn,e_afterS_bk,e_afterS_cn,e_afterS_ex,e_su_nx,e_su_rt,e_su_bk,e_su_cn,e_ca_nx,e_ca_bk,e_ca_cn,e_ca_rt,e_ca_ex,e_end_nx,e_end_rt,e_end_rn,e_end_ex,e_endN_rn,e_endN_ex,e_endI_ex,e_endI_nx,e_len_str,e_len_lst,e_len_tup,e_len_scr,e_list_lst,e_list_tup,e_list_scr,e_list_str,e_tuple_lst,e_tuple_tup,e_int_int,e_int_bl,e_bool_int,e_bool_bl,e_sum,e_all,e_any,e_min,e_max,e_join_l,e_join_t,e_count,e_strip,e_split,e_add_i,e_add_s,e_add_l,e_add_t,e_sub,e_mul_i,e_mul_s,e_mul_l,e_mul_t,e_is_bl,e_not_bl,e_mod,e_div,e_pow,e_cmp,e_isN_non,e_notN_non,e_isN_bl,e_notN_bl,e_isN_int,e_notN_int,e_isN_str,e_notN_str,e_isN_lst,e_notN_lst,e_isN_tup,e_notN_tup,e_isN_obj,e_notN_obj,e_isN_scr,e_notN_scr,e_isN_tok,e_notN_tok,e_ix_l,e_ix_t,e_ix_s,e_ix_n,e_in1,e_kBl,e_enS,e_repl,e_neg,e_gcd,e_lcm,e_lenO_str,e_lenO_lst,e_lenO_tup,e_lenO_scr,e_op_int,e_op_str,e_op_lst,e_op_tup,e_ixO_str,e_ixO_scr,e_ixO_lst,e_ixO_tup,e_it_lst',e_it_tup',e_it_str',e_rev,e_revS,e_lr1,e_lr2,e_sorted,e_ownF_lst,e_ownF_non,e_par2F,e_triF,e_setIx,lis_cons,lis_nil,lisO_un,lisO_int,lisO_str,lisO_bl,lisO_non,bind_ok,bind_exc,bind_bad,bind_ask,cat,noex,need_true,reduceIte,Nat.reduceEqDiff,if_true,if_false,Bool.false_eq_true,List.getElem?_cons_zero,List.getElem?_cons_succ,List.map_cons,List.map_nil,List.replicate,List.cons_append,List.nil_append,List.append_nil,List.length_cons,List.length_nil,List.set_cons_zero,List.set_cons_succ, eq_str, x0, x1, beq_self_eq_true, g_Full, List.getD_eq_getElem?_getD, nmU]; rfl
  | 1, _ => simp only [g__law_step, f__law_step, codeS, kname, fVar,fC,fBin,fNil,fCons,fTup,fLst,fONone,fOSome,fSl,fVal,fTru,fNotT,fAndT,fOrT,fNot,fAnd,fOr,fIfE,fB,fM1,fCall,fMeth,fMake,fProp,fFld,fXf,fNeg,fRepl,fFr,frzS,frz1,flatD,fFrT,jVal,jR1,jR2,jR3,jEnumL,fYes,fLc,zNil,zSeq,zAsg,zOwn,zOwnL,zDrop,zApp,zRet,zRetN,zRetL,zRetOwn,zIf,zBreak,zCont,zRaise,zTg,zPar2,zPar3,zFld,zSetSl,zFor,zTry,sx,setTF,setM,fDef,fIni,fPur,startD,Dl.isNon,plainB,wipeD,fChain,hNil,hCons,jEnumS,fOpO,fIxO,jObj,zOwnE,zPar2E,zTg3E,zOwnN,zPar2N,zTg3N,zSetIx,fRev,fRevS,fLR1,fLR2,fCallK,fBor,fBorT,e_asI,e_asB,e_tru_non,e_tru_bl,e_tru_int,e_tru_str,e_tru_lst,e_tru_tup,e_tru_scr,e_sl_lst,e_sl_str,e_sl_tup,e_some,e_none,e_it_lst,e_it_tup,e_it_str,e_it_scr,e_r1,e_r2,e_en,e_thenS_nx,e_thenS_rt,e_thenS_rn,e_thenS_bk,e_thenS_cn,e_thenS_ex,e_afterS_nx,e_afterS_rt,e_afterS_rn,e_afterS_bk,e_afterS_cn,e_afterS_ex,e_su_nx,e_su_rt,e_su_bk,e_su_cn,e_ca_nx,e_ca_bk,e_ca_cn,e_ca_rt,e_ca_ex,e_end_nx,e_end_rt,e_end_rn,e_end_ex,e_endN_rn,e_endN_ex,e_endI_ex,e_endI_nx,e_len_str,e_len_lst,e_len_tup,e_len_scr,e_list_lst,e_list_tup,e_list_scr,e_list_str,e_tuple_lst,e_tuple_tup,e_int_int,e_int_bl,e_bool_int,e_bool_bl,e_sum,e_all,e_any,e_min,e_max,e_join_l,e_join_t,e_count,e_strip,e_split,e_add_i,e_add_s,e_add_l,e_add_t,e_sub,e_mul_i,e_mul_s,e_mul_l,e_mul_t,e_is_bl,e_not_bl,e_mod,e_div,e_pow,e_cmp,e_isN_non,e_notN_non,e_isN_bl,e_notN_bl,e_isN_int,e_notN_int,e_isN_str,e_notN_str,e_isN_lst,e_notN_lst,e_isN_tup,e_notN_tup,e_isN_obj,e_notN_obj,e_isN_scr,e_notN_scr,e_isN_tok,e_notN_tok,e_ix_l,e_ix_t,e_ix_s,e_ix_n,e_in1,e_kBl,e_enS,e_repl,e_neg,e_gcd,e_lcm,e_lenO_str,e_lenO_lst,e_lenO_tup,e_lenO_scr,e_op_int,e_op_str,e_op_lst,e_op_tup,e_ixO_str,e_ixO_scr,e_ixO_lst,e_ixO_tup,e_it_lst',e_it_tup',e_it_str',e_rev,e_revS,e_lr1,e_lr2,e_sorted,e_ownF_lst,e_ownF_non,e_par2F,e_triF,e_setIx,lis_cons,lis_nil,lisO_un,lisO_int,lisO_str,lisO_bl,lisO_non,bind_ok,bind_exc,bind_bad,bind_ask,cat,noex,need_true,reduceIte,Nat.reduceEqDiff,if_true,if_false,Bool.false_eq_true,List.getElem?_cons_zero,List.getElem?_cons_succ,List.map_cons,List.map_nil,List.replicate,List.cons_append,List.nil_append,List.append_nil,List.length_cons,List.length_nil,List.set_cons_zero,List.set_cons_succ, eq_str, x0, x1, beq_self_eq_true, n1, keep_n (hn (by simp)), List.getD_eq_getElem?_getD, nmK]; rfl
  | 2, _ => simp only [g__law_step, f__law_step, codeS, kname, fVar,fC,fBin,fNil,fCons,fTup,fLst,fONone,fOSome,fSl,fVal,fTru,fNotT,fAndT,fOrT,fNot,fAnd,fOr,fIfE,fB,fM1,fCall,fMeth,fMake,fProp,fFld,fXf,fNeg,fRepl,fFr,frzS,frz1,flatD,fFrT,jVal,jR1,jR2,jR3,jEnumL,fYes,fLc,zNil,zSeq,zAsg,zOwn,zOwnL,zDrop,zApp,zRet,zRetN,zRetL,zRetOwn,zIf,zBreak,zCont,zRaise,zTg,zPar2,zPar3,zFld,zSetSl,zFor,zTry,sx,setTF,setM,fDef,fIni,fPur,startD,Dl.isNon,plainB,wipeD,fChain,hNil,hCons,jEnumS,fOpO,fIxO,jObj,zOwnE,zPar2E,zTg3E,zOwnN,zPar2N,zTg3N,zSetIx,fRev,fRevS,fLR1,fLR2,fCallK,fBor,fBorT,e_asI,e_asB,e_tru_non,e_tru_bl,e_tru_int,e_tru_str,e_tru_lst,e_tru_tup,e_tru_scr,e_sl_lst,e_sl_str,e_sl_tup,e_some,e_none,e_it_lst,e_it_tup,e_it_str,e_it_scr,e_r1,e_r2,e_en,e_thenS_nx,e_thenS_rt,e_thenS_rn,e_thenS_bk,e_thenS_cn,e_thenS_ex,e_afterS_nx,e_afterS_rt,e_afterS_rn,e_afterS_bk,e_afterS_cn,e_afterS_ex,e_su_nx,e_su_rt,e_su_bk,e_su_cn,e_ca_nx,e_ca_bk,e_ca_cn,e_ca_rt,e_ca_ex,e_end_nx,e_end_rt,e_end_rn,e_end_ex,e_endN_rn,e_endN_ex,e_endI_ex,e_endI_nx,e_len_str,e_len_lst,e_len_tup,e_len_scr,e_list_lst,e_list_tup,e_list_scr,e_list_str,e_tuple_lst,e_tuple_tup,e_int_int,e_int_bl,e_bool_int,e_bool_bl,e_sum,e_all,e_any,e_min,e_max,e_join_l,e_join_t,e_count,e_strip,e_split,e_add_i,e_add_s,e_add_l,e_add_t,e_sub,e_mul_i,e_mul_s,e_mul_l,e_mul_t,e_is_bl,e_not_bl,e_mod,e_div,e_pow,e_cmp,e_isN_non,e_notN_non,e_isN_bl,e_notN_bl,e_isN_int,e_notN_int,e_isN_str,e_notN_str,e_isN_lst,e_notN_lst,e_isN_tup,e_notN_tup,e_isN_obj,e_notN_obj,e_isN_scr,e_notN_scr,e_isN_tok,e_notN_tok,e_ix_l,e_ix_t,e_ix_s,e_ix_n,e_in1,e_kBl,e_enS,e_repl,e_neg,e_gcd,e_lcm,e_lenO_str,e_lenO_lst,e_lenO_tup,e_lenO_scr,e_op_int,e_op_str,e_op_lst,e_op_tup,e_ixO_str,e_ixO_scr,e_ixO_lst,e_ixO_tup,e_it_lst',e_it_tup',e_it_str',e_rev,e_revS,e_lr1,e_lr2,e_sorted,e_ownF_lst,e_ownF_non,e_par2F,e_triF,e_setIx,lis_cons,lis_nil,lisO_un,lisO_int,lisO_str,lisO_bl,lisO_non,bind_ok,bind_exc,bind_bad,bind_ask,cat,noex,need_true,reduceIte,Nat.reduceEqDiff,if_true,if_false,Bool.false_eq_true,List.getElem?_cons_zero,List.getElem?_cons_succ,List.map_cons,List.map_nil,List.replicate,List.cons_append,List.nil_append,List.append_nil,List.length_cons,List.length_nil,List.set_cons_zero,List.set_cons_succ, eq_str, x0, x1, beq_self_eq_true, n2, n4, lean_n (hn (by simp)), List.getD_eq_getElem?_getD, nmL]; rfl
  | 3, _ => simp only [g__law_step, f__law_step, codeS, kname, fVar,fC,fBin,fNil,fCons,fTup,fLst,fONone,fOSome,fSl,fVal,fTru,fNotT,fAndT,fOrT,fNot,fAnd,fOr,fIfE,fB,fM1,fCall,fMeth,fMake,fProp,fFld,fXf,fNeg,fRepl,fFr,frzS,frz1,flatD,fFrT,jVal,jR1,jR2,jR3,jEnumL,fYes,fLc,zNil,zSeq,zAsg,zOwn,zOwnL,zDrop,zApp,zRet,zRetN,zRetL,zRetOwn,zIf,zBreak,zCont,zRaise,zTg,zPar2,zPar3,zFld,zSetSl,zFor,zTry,sx,setTF,setM,fDef,fIni,fPur,startD,Dl.isNon,plainB,wipeD,fChain,hNil,hCons,jEnumS,fOpO,fIxO,jObj,zOwnE,zPar2E,zTg3E,zOwnN,zPar2N,zTg3N,zSetIx,fRev,fRevS,fLR1,fLR2,fCallK,fBor,fBorT,e_asI,e_asB,e_tru_non,e_tru_bl,e_tru_int,e_tru_str,e_tru_lst,e_tru_tup,e_tru_scr,e_sl_lst,e_sl_str,e_sl_tup,e_some,e_none,e_it_lst,e_it_tup,e_it_str,e_it_scr,e_r1,e_r2,e_en,e_thenS_nx,e_thenS_rt,e_thenS_rn,e_thenS_bk,e_thenS_cn,e_thenS_ex,e_afterS_nx,e_afterS_rt,e_afterS_rn,e_afterS_bk,e_afterS_cn,e_afterS_ex,e_su_nx,e_su_rt,e_su_bk,e_su_cn,e_ca_nx,e_ca_bk,e_ca_cn,e_ca_rt,e_ca_ex,e_end_nx,e_end_rt,e_end_rn,e_end_ex,e_endN_rn,e_endN_ex,e_endI_ex,e_endI_nx,e_len_str,e_len_lst,e_len_tup,e_len_scr,e_list_lst,e_list_tup,e_list_scr,e_list_str,e_tuple_lst,e_tuple_tup,e_int_int,e_int_bl,e_bool_int,e_bool_bl,e_sum,e_all,e_any,e_min,e_max,e_join_l,e_join_t,e_count,e_strip,e_split,e_add_i,e_add_s,e_add_l,e_add_t,e_sub,e_mul_i,e_mul_s,e_mul_l,e_mul_t,e_is_bl,e_not_bl,e_mod,e_div,e_pow,e_cmp,e_isN_non,e_notN_non,e_isN_bl,e_notN_bl,e_isN_int,e_notN_int,e_isN_str,e_notN_str,e_isN_lst,e_notN_lst,e_isN_tup,e_notN_tup,e_isN_obj,e_notN_obj,e_isN_scr,e_notN_scr,e_isN_tok,e_notN_tok,e_ix_l,e_ix_t,e_ix_s,e_ix_n,e_in1,e_kBl,e_enS,e_repl,e_neg,e_gcd,e_lcm,e_lenO_str,e_lenO_lst,e_lenO_tup,e_lenO_scr,e_op_int,e_op_str,e_op_lst,e_op_tup,e_ixO_str,e_ixO_scr,e_ixO_lst,e_ixO_tup,e_it_lst',e_it_tup',e_it_str',e_rev,e_revS,e_lr1,e_lr2,e_sorted,e_ownF_lst,e_ownF_non,e_par2F,e_triF,e_setIx,lis_cons,lis_nil,lisO_un,lisO_int,lisO_str,lisO_bl,lisO_non,bind_ok,bind_exc,bind_bad,bind_ask,cat,noex,need_true,reduceIte,Nat.reduceEqDiff,if_true,if_false,Bool.false_eq_true,List.getElem?_cons_zero,List.getElem?_cons_succ,List.map_cons,List.map_nil,List.replicate,List.cons_append,List.nil_append,List.append_nil,List.length_cons,List.length_nil,List.set_cons_zero,List.set_cons_succ, eq_str, x0, x1, beq_self_eq_true, n3, n5, n6, dig_n (hn (by simp)), List.getD_eq_getElem?_getD, nmD]; rfl
theorem law_script {cs : List (Nat × Int)} (hl : cs.length ≤ 10000) (h : ∀ c ∈ cs, c.1 ≤ 3 ∧ (c.1 ≠ 0 → 1 ≤ c.2)) : g__law_script [.lst (cs.map codeS)] = .ok (.obj 8 [.tup (stps cs)]) := by
  have hl2 : (cs.map codeS).length ≤ sizeLine := szL (by rw [List.length_map]; omega)
  simp only [g__law_script, f__law_script, fVar,fC,fBin,fNil,fCons,fTup,fLst,fONone,fOSome,fSl,fVal,fTru,fNotT,fAndT,fOrT,fNot,fAnd,fOr,fIfE,fB,fM1,fCall,fMeth,fMake,fProp,fFld,fXf,fNeg,fRepl,fFr,frzS,frz1,flatD,fFrT,jVal,jR1,jR2,jR3,jEnumL,fYes,fLc,zNil,zSeq,zAsg,zOwn,zOwnL,zDrop,zApp,zRet,zRetN,zRetL,zRetOwn,zIf,zBreak,zCont,zRaise,zTg,zPar2,zPar3,zFld,zSetSl,zFor,zTry,sx,setTF,setM,fDef,fIni,fPur,startD,Dl.isNon,plainB,wipeD,fChain,hNil,hCons,jEnumS,fOpO,fIxO,jObj,zOwnE,zPar2E,zTg3E,zOwnN,zPar2N,zTg3N,zSetIx,fRev,fRevS,fLR1,fLR2,fCallK,fBor,fBorT,e_asI,e_asB,e_tru_non,e_tru_bl,e_tru_int,e_tru_str,e_tru_lst,e_tru_tup,e_tru_scr,e_sl_lst,e_sl_str,e_sl_tup,e_some,e_none,e_it_lst,e_it_tup,e_it_str,e_it_scr,e_r1,e_r2,e_en,e_thenS_nx,e_thenS_rt,e_thenS_rn,e_thenS_bk,e_thenS_cn,e_thenS_ex,e_afterS_nx,e_afterS_rt,e_afterS_rn,e_afterS_bk,e_afterS_cn,e_afterS_ex,e_su_nx,e_su_rt,e_su_bk,e_su_cn,e_ca_nx,e_ca_bk,e_ca_cn,e_ca_rt,e_ca_ex,e_end_nx,e_end_rt,e_end_rn,e_end_ex,e_endN_rn,e_endN_ex,e_endI_ex,e_endI_nx,e_len_str,e_len_lst,e_len_tup,e_len_scr,e_list_lst,e_list_tup,e_list_scr,e_list_str,e_tuple_lst,e_tuple_tup,e_int_int,e_int_bl,e_bool_int,e_bool_bl,e_sum,e_all,e_any,e_min,e_max,e_join_l,e_join_t,e_count,e_strip,e_split,e_add_i,e_add_s,e_add_l,e_add_t,e_sub,e_mul_i,e_mul_s,e_mul_l,e_mul_t,e_is_bl,e_not_bl,e_mod,e_div,e_pow,e_cmp,e_isN_non,e_notN_non,e_isN_bl,e_notN_bl,e_isN_int,e_notN_int,e_isN_str,e_notN_str,e_isN_lst,e_notN_lst,e_isN_tup,e_notN_tup,e_isN_obj,e_notN_obj,e_isN_scr,e_notN_scr,e_isN_tok,e_notN_tok,e_ix_l,e_ix_t,e_ix_s,e_ix_n,e_in1,e_kBl,e_enS,e_repl,e_neg,e_gcd,e_lcm,e_lenO_str,e_lenO_lst,e_lenO_tup,e_lenO_scr,e_op_int,e_op_str,e_op_lst,e_op_tup,e_ixO_str,e_ixO_scr,e_ixO_lst,e_ixO_tup,e_it_lst',e_it_tup',e_it_str',e_rev,e_revS,e_lr1,e_lr2,e_sorted,e_ownF_lst,e_ownF_non,e_par2F,e_triF,e_setIx,lis_cons,lis_nil,lisO_un,lisO_int,lisO_str,lisO_bl,lisO_non,bind_ok,bind_exc,bind_bad,bind_ask,cat,noex,need_true,reduceIte,Nat.reduceEqDiff,if_true,if_false,Bool.false_eq_true,List.getElem?_cons_zero,List.getElem?_cons_succ,List.map_cons,List.map_nil,List.replicate,List.cons_append,List.nil_append,List.append_nil,List.length_cons,List.length_nil,List.set_cons_zero,List.set_cons_succ]
  rw [need_pos hl2, comp_mapG (f := fun c => stp c.1 c.2) fun c hc => by simp only [fVar,fC,fBin,fNil,fCons,fTup,fLst,fONone,fOSome,fSl,fVal,fTru,fNotT,fAndT,fOrT,fNot,fAnd,fOr,fIfE,fB,fM1,fCall,fMeth,fMake,fProp,fFld,fXf,fNeg,fRepl,fFr,frzS,frz1,flatD,fFrT,jVal,jR1,jR2,jR3,jEnumL,fYes,fLc,zNil,zSeq,zAsg,zOwn,zOwnL,zDrop,zApp,zRet,zRetN,zRetL,zRetOwn,zIf,zBreak,zCont,zRaise,zTg,zPar2,zPar3,zFld,zSetSl,zFor,zTry,sx,setTF,setM,fDef,fIni,fPur,startD,Dl.isNon,plainB,wipeD,fChain,hNil,hCons,jEnumS,fOpO,fIxO,jObj,zOwnE,zPar2E,zTg3E,zOwnN,zPar2N,zTg3N,zSetIx,fRev,fRevS,fLR1,fLR2,fCallK,fBor,fBorT,e_asI,e_asB,e_tru_non,e_tru_bl,e_tru_int,e_tru_str,e_tru_lst,e_tru_tup,e_tru_scr,e_sl_lst,e_sl_str,e_sl_tup,e_some,e_none,e_it_lst,e_it_tup,e_it_str,e_it_scr,e_r1,e_r2,e_en,e_thenS_nx,e_thenS_rt,e_thenS_rn,e_thenS_bk,e_thenS_cn,e_thenS_ex,e_afterS_nx,e_afterS_rt,e_afterS_rn,e_afterS_bk,e_afterS_cn,e_afterS_ex,e_su_nx,e_su_rt,e_su_bk,e_su_cn,e_ca_nx,e_ca_bk,e_ca_cn,e_ca_rt,e_ca_ex,e_end_nx,e_end_rt,e_end_rn,e_end_ex,e_endN_rn,e_endN_ex,e_endI_ex,e_endI_nx,e_len_str,e_len_lst,e_len_tup,e_len_scr,e_list_lst,e_list_tup,e_list_scr,e_list_str,e_tuple_lst,e_tuple_tup,e_int_int,e_int_bl,e_bool_int,e_bool_bl,e_sum,e_all,e_any,e_min,e_max,e_join_l,e_join_t,e_count,e_strip,e_split,e_add_i,e_add_s,e_add_l,e_add_t,e_sub,e_mul_i,e_mul_s,e_mul_l,e_mul_t,e_is_bl,e_not_bl,e_mod,e_div,e_pow,e_cmp,e_isN_non,e_notN_non,e_isN_bl,e_notN_bl,e_isN_int,e_notN_int,e_isN_str,e_notN_str,e_isN_lst,e_notN_lst,e_isN_tup,e_notN_tup,e_isN_obj,e_notN_obj,e_isN_scr,e_notN_scr,e_isN_tok,e_notN_tok,e_ix_l,e_ix_t,e_ix_s,e_ix_n,e_in1,e_kBl,e_enS,e_repl,e_neg,e_gcd,e_lcm,e_lenO_str,e_lenO_lst,e_lenO_tup,e_lenO_scr,e_op_int,e_op_str,e_op_lst,e_op_tup,e_ixO_str,e_ixO_scr,e_ixO_lst,e_ixO_tup,e_it_lst',e_it_tup',e_it_str',e_rev,e_revS,e_lr1,e_lr2,e_sorted,e_ownF_lst,e_ownF_non,e_par2F,e_triF,e_setIx,lis_cons,lis_nil,lisO_un,lisO_int,lisO_str,lisO_bl,lisO_non,bind_ok,bind_exc,bind_bad,bind_ask,cat,noex,need_true,reduceIte,Nat.reduceEqDiff,if_true,if_false,Bool.false_eq_true,List.getElem?_cons_zero,List.getElem?_cons_succ,List.map_cons,List.map_nil,List.replicate,List.cons_append,List.nil_append,List.append_nil,List.length_cons,List.length_nil,List.set_cons_zero,List.set_cons_succ, law_step (h c hc).1 (h c hc).2]]
  have e := g_Script cs hl
  unfold stps at e ⊢
  simp only [fVar,fC,fBin,fNil,fCons,fTup,fLst,fONone,fOSome,fSl,fVal,fTru,fNotT,fAndT,fOrT,fNot,fAnd,fOr,fIfE,fB,fM1,fCall,fMeth,fMake,fProp,fFld,fXf,fNeg,fRepl,fFr,frzS,frz1,flatD,fFrT,jVal,jR1,jR2,jR3,jEnumL,fYes,fLc,zNil,zSeq,zAsg,zOwn,zOwnL,zDrop,zApp,zRet,zRetN,zRetL,zRetOwn,zIf,zBreak,zCont,zRaise,zTg,zPar2,zPar3,zFld,zSetSl,zFor,zTry,sx,setTF,setM,fDef,fIni,fPur,startD,Dl.isNon,plainB,wipeD,fChain,hNil,hCons,jEnumS,fOpO,fIxO,jObj,zOwnE,zPar2E,zTg3E,zOwnN,zPar2N,zTg3N,zSetIx,fRev,fRevS,fLR1,fLR2,fCallK,fBor,fBorT,e_asI,e_asB,e_tru_non,e_tru_bl,e_tru_int,e_tru_str,e_tru_lst,e_tru_tup,e_tru_scr,e_sl_lst,e_sl_str,e_sl_tup,e_some,e_none,e_it_lst,e_it_tup,e_it_str,e_it_scr,e_r1,e_r2,e_en,e_thenS_nx,e_thenS_rt,e_thenS_rn,e_thenS_bk,e_thenS_cn,e_thenS_ex,e_afterS_nx,e_afterS_rt,e_afterS_rn,e_afterS_bk,e_afterS_cn,e_afterS_ex,e_su_nx,e_su_rt,e_su_bk,e_su_cn,e_ca_nx,e_ca_bk,e_ca_cn,e_ca_rt,e_ca_ex,e_end_nx,e_end_rt,e_end_rn,e_end_ex,e_endN_rn,e_endN_ex,e_endI_ex,e_endI_nx,e_len_str,e_len_lst,e_len_tup,e_len_scr,e_list_lst,e_list_tup,e_list_scr,e_list_str,e_tuple_lst,e_tuple_tup,e_int_int,e_int_bl,e_bool_int,e_bool_bl,e_sum,e_all,e_any,e_min,e_max,e_join_l,e_join_t,e_count,e_strip,e_split,e_add_i,e_add_s,e_add_l,e_add_t,e_sub,e_mul_i,e_mul_s,e_mul_l,e_mul_t,e_is_bl,e_not_bl,e_mod,e_div,e_pow,e_cmp,e_isN_non,e_notN_non,e_isN_bl,e_notN_bl,e_isN_int,e_notN_int,e_isN_str,e_notN_str,e_isN_lst,e_notN_lst,e_isN_tup,e_notN_tup,e_isN_obj,e_notN_obj,e_isN_scr,e_notN_scr,e_isN_tok,e_notN_tok,e_ix_l,e_ix_t,e_ix_s,e_ix_n,e_in1,e_kBl,e_enS,e_repl,e_neg,e_gcd,e_lcm,e_lenO_str,e_lenO_lst,e_lenO_tup,e_lenO_scr,e_op_int,e_op_str,e_op_lst,e_op_tup,e_ixO_str,e_ixO_scr,e_ixO_lst,e_ixO_tup,e_it_lst',e_it_tup',e_it_str',e_rev,e_revS,e_lr1,e_lr2,e_sorted,e_ownF_lst,e_ownF_non,e_par2F,e_triF,e_setIx,lis_cons,lis_nil,lisO_un,lisO_int,lisO_str,lisO_bl,lisO_non,bind_ok,bind_exc,bind_bad,bind_ask,cat,noex,need_true,reduceIte,Nat.reduceEqDiff,if_true,if_false,Bool.false_eq_true,List.getElem?_cons_zero,List.getElem?_cons_succ,List.map_cons,List.map_nil,List.replicate,List.cons_append,List.nil_append,List.append_nil,List.length_cons,List.length_nil,List.set_cons_zero,List.set_cons_succ, e, List.getD_eq_getElem?_getD, nmS]
end K13
set_option Elab.async false
set_option linter.all false
set_option exponentiation.threshold 4000
set_option maxRecDepth 100000
set_option maxHeartbeats 1000000
namespace K13
open PySem PySem.Spec L2 Dl Dl.Hd Res
abbrev scrD (cs : List (Nat × Int)) : D := .obj 8 [.tup (stps cs)]
theorem isi_scr (cs : List (Nat × Int)) : gIsi subT [scrD cs, .cls 8] = .ok (.bl true) := rfl
theorem ck_scr (cs : List (Nat × Int)) : g_check_script [scrD cs] = .ok .non := by
  simp [g_check_script, f_check_script, fVar,fC,fBin,fNil,fCons,fTup,fLst,fONone,fOSome,fSl,fVal,fTru,fNotT,fAndT,fOrT,fNot,fAnd,fOr,fIfE,fB,fM1,fCall,fMeth,fMake,fProp,fFld,fXf,fNeg,fRepl,fFr,frzS,frz1,flatD,fFrT,jVal,jR1,jR2,jR3,jEnumL,fYes,fLc,zNil,zSeq,zAsg,zOwn,zOwnL,zDrop,zApp,zRet,zRetN,zRetL,zRetOwn,zIf,zBreak,zCont,zRaise,zTg,zPar2,zPar3,zFld,zSetSl,zFor,zTry,sx,setTF,setM,fDef,fIni,fPur,startD,Dl.isNon,plainB,wipeD,fChain,hNil,hCons,jEnumS,fOpO,fIxO,jObj,zOwnE,zPar2E,zTg3E,zOwnN,zPar2N,zTg3N,zSetIx,fRev,fRevS,fLR1,fLR2,fCallK,fBor,fBorT,e_asI,e_asB,e_tru_non,e_tru_bl,e_tru_int,e_tru_str,e_tru_lst,e_tru_tup,e_tru_scr,e_sl_lst,e_sl_str,e_sl_tup,e_some,e_none,e_it_lst,e_it_tup,e_it_str,e_it_scr,e_r1,e_r2,e_en,e_thenS_nx,e_thenS_rt,e_thenS_rn,e_thenS_bk,e_thenS_cn,e_thenS_ex,e_afterS_nx,e_afterS_rt,e_afterS_rn,e_afterS_bk,e_afterS_cn,e_afterS_ex,e_su_nx,e_su_rt,e_su_bk,e_su_cn,e_ca_nx,e_ca_bk,e_ca_cn,e_ca_rt,e_ca_ex,e_end_nx,e_end_rt,e_end_rn,e_end_ex,e_endN_rn,e_endN_ex,e_endI_ex,e_endI_nx,e_len_str,e_len_lst,e_len_tup,e_len_scr,e_list_lst,e_list_tup,e_list_scr,e_list_str,e_tuple_lst,e_tuple_tup,e_int_int,e_int_bl,e_bool_int,e_bool_bl,e_sum,e_all,e_any,e_min,e_max,e_join_l,e_join_t,e_count,e_strip,e_split,e_add_i,e_add_s,e_add_l,e_add_t,e_sub,e_mul_i,e_mul_s,e_mul_l,e_mul_t,e_is_bl,e_not_bl,e_mod,e_div,e_pow,e_cmp,e_isN_non,e_notN_non,e_isN_bl,e_notN_bl,e_isN_int,e_notN_int,e_isN_str,e_notN_str,e_isN_lst,e_notN_lst,e_isN_tup,e_notN_tup,e_isN_obj,e_notN_obj,e_isN_scr,e_notN_scr,e_isN_tok,e_notN_tok,e_ix_l,e_ix_t,e_ix_s,e_ix_n,e_in1,e_kBl,e_enS,e_repl,e_neg,e_gcd,e_lcm,e_lenO_str,e_lenO_lst,e_lenO_tup,e_lenO_scr,e_op_int,e_op_str,e_op_lst,e_op_tup,e_ixO_str,e_ixO_scr,e_ixO_lst,e_ixO_tup,e_it_lst',e_it_tup',e_it_str',e_rev,e_revS,e_lr1,e_lr2,e_sorted,e_ownF_lst,e_ownF_non,e_par2F,e_triF,e_setIx,lis_cons,lis_nil,lisO_un,lisO_int,lisO_str,lisO_bl,lisO_non,bind_ok,bind_exc,bind_bad,bind_ask,cat,noex,need_true,reduceIte,Nat.reduceEqDiff,if_true,if_false,Bool.false_eq_true,List.getElem?_cons_zero,List.getElem?_cons_succ,List.map_cons,List.map_nil,List.replicate,List.cons_append,List.nil_append,List.append_nil,List.length_cons,List.length_nil,List.set_cons_zero,List.set_cons_succ, isi_scr]
/-- the least common multiple of the sizes -/
def perL (cs : List (Nat × Int)) : Nat := cs.foldl (fun m c => if c.1 = 0 then m else Nat.lcm m c.2.toNat) 1
theorem per_snoc (u : List (Nat × Int)) (c : Nat × Int) : perL (u ++ [c]) = if c.1 = 0 then perL u else Nat.lcm (perL u) c.2.toNat := by
  unfold perL
  rw [List.foldl_append]
  rfl
theorem per_dvd {M : Nat} : ∀ {cs : List (Nat × Int)}, divs cs M → ∀ {m : Nat}, m ∣ M → cs.foldl (fun m c => if c.1 = 0 then m else Nat.lcm m c.2.toNat) m ∣ M
  | [], _, m, h => h
  | c :: cs, d, m, h => by
    show cs.foldl _ (if c.1 = 0 then m else Nat.lcm m c.2.toNat) ∣ M
    refine per_dvd (fun e he => d e (List.mem_cons_of_mem _ he)) ?_
    split
    · exact h
    · rename_i z
      exact Nat.lcm_dvd h (d c List.mem_cons_self z)
theorem per_div {M : Nat} {cs : List (Nat × Int)} (d : divs cs M) : perL cs ∣ M := per_dvd d (Nat.one_dvd M)
theorem fold_up : ∀ (cs : List (Nat × Int)) (m : Nat), m ∣ cs.foldl (fun m c => if c.1 = 0 then m else Nat.lcm m c.2.toNat) m
  | [], m => Nat.dvd_refl m
  | c :: cs, m => by
    show m ∣ cs.foldl _ (if c.1 = 0 then m else Nat.lcm m c.2.toNat)
    refine Nat.dvd_trans ?_ (fold_up cs _)
    split
    · exact Nat.dvd_refl m
    · exact Nat.dvd_lcm_left ..
theorem divs_fold : ∀ (cs : List (Nat × Int)) (m : Nat), divs cs (cs.foldl (fun m c => if c.1 = 0 then m else Nat.lcm m c.2.toNat) m)
  | [], m => fun c h => by cases h
  | c :: cs, m => fun e he z => by
    rcases List.mem_cons.mp he with rfl | he
    · refine Nat.dvd_trans ?_ (fold_up cs _)
      show e.2.toNat ∣ if e.1 = 0 then m else Nat.lcm m e.2.toNat
      rw [if_neg z]
      exact Nat.dvd_lcm_right ..
    · exact divs_fold cs _ e he z
theorem divs_per (cs : List (Nat × Int)) : divs cs (perL cs) := divs_fold cs 1
theorem isi_full (k : Nat) (n : Int) : gIsi subT [stp k n, .cls 4] = .ok (.bl (k == 0)) := by
  unfold stp
  split
  · rfl
  · rfl
  · rfl
  · rename_i h1 h2 h3
    have : (k == 0) = false := by simpa using h1
    rw [this]
    rfl
theorem size_stp {tbl : Nat → Option FW} (t1 : tbl 5 = some g_Keep_size) (t2 : tbl 6 = some g_Lean_size) (t3 : tbl 7 = some g_Dig_size) {f : FE} {s : List Sl} {k : Nat} {n : Int} (hk : k ≠ 0) (h : f s = .ok (stp k n)) : fProp tbl f s = .ok (.int n) := by
  match k, hk with
  | 1, _ => exact e_prop t1 h size_keep
  | 2, _ => exact e_prop t2 h size_lean
  | j + 3, _ => exact e_prop t3 h size_dig
theorem s_period {M : Nat} {cs : List (Nat × Int)} (hM : 0 < M) (hM2 : M ≤ 1000) (d : divs cs M) (h : ∀ c ∈ cs, okS c) : g_Script_period [scrD cs] = .ok (.int (perL cs)) := by
  refine e_fdef rfl ?_
  unfold f_Script_period
  refine e_seq (s' := [.v (scrD cs), .v (.int ((1 : Nat) : Int)), .un]) (by simp only [startD, fVar,fC,fBin,fNil,fCons,fTup,fLst,fONone,fOSome,fSl,fVal,fTru,fNotT,fAndT,fOrT,fNot,fAnd,fOr,fIfE,fB,fM1,fCall,fMeth,fMake,fProp,fFld,fXf,fNeg,fRepl,fFr,frzS,frz1,flatD,fFrT,jVal,jR1,jR2,jR3,jEnumL,fYes,fLc,zNil,zSeq,zAsg,zOwn,zOwnL,zDrop,zApp,zRet,zRetN,zRetL,zRetOwn,zIf,zBreak,zCont,zRaise,zTg,zPar2,zPar3,zFld,zSetSl,zFor,zTry,sx,setTF,setM,fDef,fIni,fPur,startD,Dl.isNon,plainB,wipeD,fChain,hNil,hCons,jEnumS,fOpO,fIxO,jObj,zOwnE,zPar2E,zTg3E,zOwnN,zPar2N,zTg3N,zSetIx,fRev,fRevS,fLR1,fLR2,fCallK,fBor,fBorT,e_asI,e_asB,e_tru_non,e_tru_bl,e_tru_int,e_tru_str,e_tru_lst,e_tru_tup,e_tru_scr,e_sl_lst,e_sl_str,e_sl_tup,e_some,e_none,e_it_lst,e_it_tup,e_it_str,e_it_scr,e_r1,e_r2,e_en,e_thenS_nx,e_thenS_rt,e_thenS_rn,e_thenS_bk,e_thenS_cn,e_thenS_ex,e_afterS_nx,e_afterS_rt,e_afterS_rn,e_afterS_bk,e_afterS_cn,e_afterS_ex,e_su_nx,e_su_rt,e_su_bk,e_su_cn,e_ca_nx,e_ca_bk,e_ca_cn,e_ca_rt,e_ca_ex,e_end_nx,e_end_rt,e_end_rn,e_end_ex,e_endN_rn,e_endN_ex,e_endI_ex,e_endI_nx,e_len_str,e_len_lst,e_len_tup,e_len_scr,e_list_lst,e_list_tup,e_list_scr,e_list_str,e_tuple_lst,e_tuple_tup,e_int_int,e_int_bl,e_bool_int,e_bool_bl,e_sum,e_all,e_any,e_min,e_max,e_join_l,e_join_t,e_count,e_strip,e_split,e_add_i,e_add_s,e_add_l,e_add_t,e_sub,e_mul_i,e_mul_s,e_mul_l,e_mul_t,e_is_bl,e_not_bl,e_mod,e_div,e_pow,e_cmp,e_isN_non,e_notN_non,e_isN_bl,e_notN_bl,e_isN_int,e_notN_int,e_isN_str,e_notN_str,e_isN_lst,e_notN_lst,e_isN_tup,e_notN_tup,e_isN_obj,e_notN_obj,e_isN_scr,e_notN_scr,e_isN_tok,e_notN_tok,e_ix_l,e_ix_t,e_ix_s,e_ix_n,e_in1,e_kBl,e_enS,e_repl,e_neg,e_gcd,e_lcm,e_lenO_str,e_lenO_lst,e_lenO_tup,e_lenO_scr,e_op_int,e_op_str,e_op_lst,e_op_tup,e_ixO_str,e_ixO_scr,e_ixO_lst,e_ixO_tup,e_it_lst',e_it_tup',e_it_str',e_rev,e_revS,e_lr1,e_lr2,e_sorted,e_ownF_lst,e_ownF_non,e_par2F,e_triF,e_setIx,lis_cons,lis_nil,lisO_un,lisO_int,lisO_str,lisO_bl,lisO_non,bind_ok,bind_exc,bind_bad,bind_ask,cat,noex,need_true,reduceIte,Nat.reduceEqDiff,if_true,if_false,Bool.false_eq_true,List.getElem?_cons_zero,List.getElem?_cons_succ,List.map_cons,List.map_nil,List.replicate,List.cons_append,List.nil_append,List.append_nil,List.length_cons,List.length_nil,List.set_cons_zero,List.set_cons_succ]; rfl) ?_
  generalize hbody : zSeq (zIf _ _ _) _ = body
  obtain ⟨s', e, u, x, hu, rfl⟩ := e_for_inv (q := fun c : Nat × Int => stp c.1 c.2) (tg := .nm 2) (body := body)
    (fun l s => ∃ (u : List (Nat × Int)) (x : Sl), cs = u ++ l ∧ s = [.v (scrD cs), .v (.int (perL u)), x])
    (l := cs) (s := [.v (scrD cs), .v (.int ((1 : Nat) : Int)), .un]) ⟨[], .un, rfl, rfl⟩ (by
      rintro c l _ ⟨u, x, hu, rfl⟩
      have du : divs u M := fun e he => d e (by rw [hu]; exact List.mem_append_left _ he)
      have dc := d c (by rw [hu]; simp)
      have pu := Nat.le_of_dvd hM (per_div du)
      have big : (1000 : Nat) < 2 ^ 6000 := Nat.lt_of_lt_of_le (show 1000 < 2 ^ 10 by decide) (Nat.pow_le_pow_right (by decide) (by decide))
      refine ⟨_, [.v (scrD cs), .v (.int (perL (u ++ [c]))), .v (stp c.1 c.2)], rfl, ?_, u ++ [c], _, by rw [hu]; simp, rfl⟩
      rw [← hbody, per_snoc]
      refine e_seq ?_ rfl
      by_cases z : c.1 = 0
      · rw [if_pos z]
        exact e_ifF (e_notT (e_truB (b := true) (e_b2 rfl rfl (by rw [isi_full, z]; rfl)))) rfl
      · rw [if_neg z]
        refine e_ifT (e_notT (e_truB (b := false) (e_b2 rfl rfl (by rw [isi_full, beq_eq_false_iff_ne.mpr z])))) ?_
        have okc := h c (by rw [hu]; simp) z
        have cM := Nat.le_of_dvd hM (dc z)
        refine e_seq (e_zAsg (e_b2 rfl (size_stp rfl rfl rfl z rfl) ?_)) rfl
        rw [e_lcm, need_pos ⟨Nat.lt_of_le_of_lt (show perL u ≤ 1000 by omega) big, Nat.lt_of_le_of_lt (show c.2.natAbs ≤ 1000 by omega) big⟩]
        congr 2
        show ((Nat.lcm (perL u) c.2.natAbs : Nat) : Int) = _
        rw [show c.2.natAbs = c.2.toNat by omega])
  rw [List.append_nil] at hu
  subst hu
  refine e_seq (e_zFor (by simp only [fVar,fC,fBin,fNil,fCons,fTup,fLst,fONone,fOSome,fSl,fVal,fTru,fNotT,fAndT,fOrT,fNot,fAnd,fOr,fIfE,fB,fM1,fCall,fMeth,fMake,fProp,fFld,fXf,fNeg,fRepl,fFr,frzS,frz1,flatD,fFrT,jVal,jR1,jR2,jR3,jEnumL,fYes,fLc,zNil,zSeq,zAsg,zOwn,zOwnL,zDrop,zApp,zRet,zRetN,zRetL,zRetOwn,zIf,zBreak,zCont,zRaise,zTg,zPar2,zPar3,zFld,zSetSl,zFor,zTry,sx,setTF,setM,fDef,fIni,fPur,startD,Dl.isNon,plainB,wipeD,fChain,hNil,hCons,jEnumS,fOpO,fIxO,jObj,zOwnE,zPar2E,zTg3E,zOwnN,zPar2N,zTg3N,zSetIx,fRev,fRevS,fLR1,fLR2,fCallK,fBor,fBorT,e_asI,e_asB,e_tru_non,e_tru_bl,e_tru_int,e_tru_str,e_tru_lst,e_tru_tup,e_tru_scr,e_sl_lst,e_sl_str,e_sl_tup,e_some,e_none,e_it_lst,e_it_tup,e_it_str,e_it_scr,e_r1,e_r2,e_en,e_thenS_nx,e_thenS_rt,e_thenS_rn,e_thenS_bk,e_thenS_cn,e_thenS_ex,e_afterS_nx,e_afterS_rt,e_afterS_rn,e_afterS_bk,e_afterS_cn,e_afterS_ex,e_su_nx,e_su_rt,e_su_bk,e_su_cn,e_ca_nx,e_ca_bk,e_ca_cn,e_ca_rt,e_ca_ex,e_end_nx,e_end_rt,e_end_rn,e_end_ex,e_endN_rn,e_endN_ex,e_endI_ex,e_endI_nx,e_len_str,e_len_lst,e_len_tup,e_len_scr,e_list_lst,e_list_tup,e_list_scr,e_list_str,e_tuple_lst,e_tuple_tup,e_int_int,e_int_bl,e_bool_int,e_bool_bl,e_sum,e_all,e_any,e_min,e_max,e_join_l,e_join_t,e_count,e_strip,e_split,e_add_i,e_add_s,e_add_l,e_add_t,e_sub,e_mul_i,e_mul_s,e_mul_l,e_mul_t,e_is_bl,e_not_bl,e_mod,e_div,e_pow,e_cmp,e_isN_non,e_notN_non,e_isN_bl,e_notN_bl,e_isN_int,e_notN_int,e_isN_str,e_notN_str,e_isN_lst,e_notN_lst,e_isN_tup,e_notN_tup,e_isN_obj,e_notN_obj,e_isN_scr,e_notN_scr,e_isN_tok,e_notN_tok,e_ix_l,e_ix_t,e_ix_s,e_ix_n,e_in1,e_kBl,e_enS,e_repl,e_neg,e_gcd,e_lcm,e_lenO_str,e_lenO_lst,e_lenO_tup,e_lenO_scr,e_op_int,e_op_str,e_op_lst,e_op_tup,e_ixO_str,e_ixO_scr,e_ixO_lst,e_ixO_tup,e_it_lst',e_it_tup',e_it_str',e_rev,e_revS,e_lr1,e_lr2,e_sorted,e_ownF_lst,e_ownF_non,e_par2F,e_triF,e_setIx,lis_cons,lis_nil,lisO_un,lisO_int,lisO_str,lisO_bl,lisO_non,bind_ok,bind_exc,bind_bad,bind_ask,cat,noex,need_true,reduceIte,Nat.reduceEqDiff,if_true,if_false,Bool.false_eq_true,List.getElem?_cons_zero,List.getElem?_cons_succ,List.map_cons,List.map_nil,List.replicate,List.cons_append,List.nil_append,List.append_nil,List.length_cons,List.length_nil,List.set_cons_zero,List.set_cons_succ]; rfl) e) ?_
  exact e_seq_rt rfl
theorem per_pos {M : Nat} {cs : List (Nat × Int)} (hM : 0 < M) (d : divs cs M) : 0 < perL cs := Nat.pos_of_dvd_of_pos (per_div d) hM
theorem isi_keepB (k : Nat) (n : Int) : gIsi subT [stp k n, .cls 5] = .ok (.bl (decide (k = 1))) := by
  match k with
  | 0 => rfl
  | 1 => rfl
  | 2 => rfl
  | j + 3 => exact (show gIsi subT [.obj 7 [.int n], .cls 5] = .ok (.bl false) from rfl).trans (by rw [decide_eq_false (show ¬ j + 3 = 1 by omega)])
theorem isi_digB (k : Nat) (n : Int) : gIsi subT [stp k n, .cls 7] = .ok (.bl (decide (3 ≤ k))) := by
  match k with
  | 0 => rfl
  | 1 => rfl
  | 2 => rfl
  | j + 3 => exact (show gIsi subT [.obj 7 [.int n], .cls 7] = .ok (.bl true) from rfl).trans (by rw [decide_eq_true (show 3 ≤ j + 3 by omega)])
theorem s_joined (l : List Nat) : g__joined [natsD l] = .ok (natI (orN l)) := by
  refine e_fdef rfl ?_
  unfold f__joined
  refine e_seq (s' := [.v (natsD l), .v (natI 0), .un]) (e_zAsg rfl) ?_
  obtain ⟨s', e, u, x, hu, rfl⟩ := e_for_inv (q := natI) (tg := .nm 2) (body := zSeq (zAsg 1 (fBin pBor (fVar 1) (fVar 2))) zNil)
    (fun r s => ∃ (u : List Nat) (x : Sl), l = u ++ r ∧ s = [.v (natsD l), .v (natI (orN u)), x]) (l := l) (s := [.v (natsD l), .v (natI 0), .un]) ⟨[], .un, rfl, rfl⟩ (by
      rintro a r _ ⟨u, x, hu, rfl⟩
      refine ⟨_, [.v (natsD l), .v (natI (orN (u ++ [a]))), .v (natI a)], rfl, ?_, u ++ [a], _, by rw [hu]; simp, rfl⟩
      rw [orN_snoc]
      exact e_seq (e_zAsg (e_bin rfl rfl bor_n)) rfl)
  rw [List.append_nil] at hu
  subst hu
  exact e_seq (e_zFor (e_jVal rfl) e) (e_seq_rt (e_zRet rfl))
theorem len_nats (l : List Nat) {t : Nat → Option FW} : gLenO t [natsD l] = .ok (natI l.length) := by
  rw [e_lenO_lst, List.length_map]
theorem size_st {k : Nat} {n : Int} {f : FE} {s : List Sl} (hk : k ≠ 0) (h : f s = .ok (stp k n)) : fProp (fun n => if n = 5 then some g_Keep_size else if n = 6 then some g_Lean_size else if n = 7 then some g_Dig_size else none) f s = .ok (.int n) := by
  match k, hk with
  | 1, _ => exact e_prop rfl h size_keep
  | 2, _ => exact e_prop rfl h size_lean
  | j + 3, _ => exact e_prop rfl h size_dig
theorem blk_flat (k : Nat) (sg : List Nat) (al : Nat) (fd : List Nat) (u : List (Nat × Nat)) (p : Nat × Nat) : (((u ++ [p]).map (partN k sg al fd)).flatten) = ((u.map (partN k sg al fd)).flatten) ++ partN k sg al fd p := by
  rw [List.map_append, List.flatten_append]
  simp
theorem s_stepped {sg fd : List Nat} {al : Nat} {c : Nat × Int} (hl : fd.length ≤ 1000) (hs : sg.length ≤ 1000) (hc : okS c) : g__stepped [stp c.1 c.2, natT sg, natsD fd, natI al] = .ok (natsD (stepN sg al fd c)) := by
  have st : startD 8 [stp c.1 c.2, natT sg, natsD fd, natI al] = [.v (stp c.1 c.2), .v (natT sg), .v (natsD fd), .v (natI al), .un, .un, .un, .un] := rfl
  by_cases z : c.1 = 0
  · refine e_fdef rfl ?_
    unfold f__stepped
    rw [st]
    refine e_seq_rt (e_ifT (e_truB (b := true) (e_b2 rfl rfl (by rw [isi_full, z]; rfl))) (e_seq_rt (e_zRet (e_bin (e_lst (e_cons rfl e_nil) (by show 1 ≤ 1000; decide)) (e_b1 rfl (len_nats fd)) ?_))))
    rw [mul_rep hl]
    unfold stepN
    rw [if_pos z]
    show _ = Res.ok (D.lst _)
    rw [List.map_replicate]
  refine e_fdefL rfl ?_
  unfold f__stepped
  rw [st]
  refine e_seq (s' := [.v (stp c.1 c.2), .v (natT sg), .v (natsD fd), .v (natI al), .un, .un, .un, .un]) (e_ifF (e_truB (b := false) (e_b2 rfl rfl (by rw [isi_full, beq_eq_false_iff_ne.mpr z]))) rfl) ?_
  refine e_seq (s' := [.v (stp c.1 c.2), .v (natT sg), .v (natsD fd), .v (natI al), .own [], .un, .un, .un]) (e_zOwn e_nil (by show 0 ≤ 1000000; decide)) ?_
  obtain ⟨c1, c2⟩ := hc z
  have hn : 1 ≤ c.2.toNat := by omega
  have cz : c.2 = (c.2.toNat : Int) := by omega
  generalize hbody : zSeq (zIf _ _ _) zNil = body
  obtain ⟨s', e, u, x5, x6, x7, hu, rfl⟩ := e_for_inv (q := fun p : Nat × Nat => D.tup [natI p.1, natI p.2]) (tg := .tp [5, 6]) (body := body)
    (fun r s => ∃ (u : List (Nat × Nat)) (x5 x6 x7 : Sl), blkB fd.length c.2.toNat = u ++ r ∧ s = [.v (stp c.1 c.2), .v (natT sg), .v (natsD fd), .v (natI al), .own (((u.map (partN c.1 sg al fd)).flatten).map natI), x5, x6, x7]) (l := blkB fd.length c.2.toNat)
    (s := [.v (stp c.1 c.2), .v (natT sg), .v (natsD fd), .v (natI al), .own [], .un, .un, .un]) ⟨[], .un, .un, .un, rfl, rfl⟩ (by
      rintro p r _ ⟨u, x5, x6, x7, hu, rfl⟩
      have hp : p ∈ blkB fd.length c.2.toNat := by rw [hu]; simp
      obtain ⟨p1, p2, p3⟩ := blk_mem hn hp
      have pl : p.2 - p.1 ≤ 1000 := by omega
      have ul : (((u.map (partN c.1 sg al fd)).flatten).map natI).length + (p.2 - p.1) ≤ sizeLine := by
        have q := stepN_len (sg := sg) (al := al) (fd := fd) (c := c) (fun _ => c1)
        unfold stepN at q
        rw [if_neg z, hu, List.map_append, List.flatten_append, List.length_append] at q
        rw [List.length_map]
        exact szL (by omega)
      refine ⟨_, [.v (stp c.1 c.2), .v (natT sg), .v (natsD fd), .v (natI al), .own ((((u ++ [p]).map (partN c.1 sg al fd)).flatten).map natI), .v (natI p.1), .v (natI p.2), x7], rfl, ?_, u ++ [p], _, _, _, by rw [hu]; simp, rfl⟩
      rw [← hbody, blk_flat, List.map_append]
      refine e_seq ?_ rfl
      have SUB : fBin pSub (fVar 6) (fVar 5) [.v (stp c.1 c.2), .v (natT sg), .v (natsD fd), .v (natI al), .own (((u.map (partN c.1 sg al fd)).flatten).map natI), .v (natI p.1), .v (natI p.2), x7] = .ok (natI (p.2 - p.1)) := e_bin rfl rfl (sub_nat (by omega))
      have ROW : ∀ (x : D) (f : FE) (m : Nat), f [.v (stp c.1 c.2), .v (natT sg), .v (natsD fd), .v (natI al), .own (((u.map (partN c.1 sg al fd)).flatten).map natI), .v (natI p.1), .v (natI p.2), x7] = .ok (natI m) →
          fBin pMul (fLst (fCons f fNil)) (fBin pSub (fVar 6) (fVar 5)) [.v (stp c.1 c.2), .v (natT sg), .v (natsD fd), .v (natI al), .own (((u.map (partN c.1 sg al fd)).flatten).map natI), .v (natI p.1), .v (natI p.2), x7] = .ok (.lst ((List.replicate (p.2 - p.1) m).map natI)) := fun x f m hf => by
        rw [List.map_replicate]
        exact e_bin (e_lst (e_cons hf e_nil) (by show 1 ≤ 1000; decide)) SUB (mul_rep pl)
      have EXT : ∀ (f : FE) (ys : List Nat), ys.length = p.2 - p.1 → f [.v (stp c.1 c.2), .v (natT sg), .v (natsD fd), .v (natI al), .own (((u.map (partN c.1 sg al fd)).flatten).map natI), .v (natI p.1), .v (natI p.2), x7] = .ok (natsD ys) →
          zSeq (zExt 4 f) zNil [.v (stp c.1 c.2), .v (natT sg), .v (natsD fd), .v (natI al), .own (((u.map (partN c.1 sg al fd)).flatten).map natI), .v (natI p.1), .v (natI p.2), x7] = .ok (.nx [.v (stp c.1 c.2), .v (natT sg), .v (natsD fd), .v (natI al), .own ((((u.map (partN c.1 sg al fd)).flatten).map natI) ++ ys.map natI), .v (natI p.1), .v (natI p.2), x7]) := fun f ys hy hf =>
        e_seq (e_zExt (i := 4) rfl hf (by rw [List.length_map (as := ys), hy]; exact ul)) rfl
      have SL : fSl (fVar 2) (fOSome (fVar 5)) (fOSome (fVar 6)) [.v (stp c.1 c.2), .v (natT sg), .v (natsD fd), .v (natI al), .own (((u.map (partN c.1 sg al fd)).flatten).map natI), .v (natI p.1), .v (natI p.2), x7] = .ok (natsD (sliN fd p)) := e_slM rfl rfl rfl (by omega) p2
      have sl : (sliN fd p).length = p.2 - p.1 := by
        unfold sliN
        rw [List.length_take, List.length_drop]
        omega
      unfold partN
      by_cases k1 : c.1 = 1
      · rw [if_pos k1]
        exact e_ifT (e_truB (b := true) (e_b2 rfl rfl (by rw [isi_keepB, k1]; rfl))) (EXT _ _ (List.length_replicate ..) (ROW .non _ _ (e_call1 SL (s_joined _))))
      rw [if_neg k1]
      refine e_ifF (e_truB (b := false) (e_b2 rfl rfl (by rw [isi_keepB, decide_eq_false k1]))) ?_
      have ANY : fTru (fB gAny (fCons (fLc (jVal (fVar 1)) (.nm 7) fYes (fCh2 pLe pLt (fVar 5) (fVar 7) (fVar 6)) [7]) fNil)) [.v (stp c.1 c.2), .v (natT sg), .v (natsD fd), .v (natI al), .own (((u.map (partN c.1 sg al fd)).flatten).map natI), .v (natI p.1), .v (natI p.2), x7] = .ok (inB sg p) := by
        refine e_truB (e_b1 (x := .lst (sg.map fun j => .bl (decide (p.1 ≤ j) && decide (j < p.2)))) (e_lc (xs := sg.map natI) rfl (by rw [List.length_map]; omega) (comp_mapG fun j hj => ?_)) ?_)
        · refine e_ch2 (x := natI p.1) (y := natI j) (w := natI p.2) (b := decide (p.1 ≤ j)) rfl rfl (le_b.trans ?_) (fun _ => rfl) ?_
          · congr 3
            exact propext (by omega)
          · by_cases q : p.1 ≤ j
            · rw [if_pos (decide_eq_true q), decide_eq_true q, Bool.true_and]
              refine lt_b.trans ?_
              congr 3
              exact propext (by omega)
            · rw [decide_eq_false q]
              rfl
        · rw [e_any, toBls_mapG]
          show Res.ok (D.bl _) = _
          rw [any_mapId]
          rfl
      cases ib : inB sg p with
      | false =>
        rw [if_pos rfl]
        rw [ib] at ANY
        exact e_seq (e_ifT (e_notT ANY) (EXT _ _ (List.length_replicate ..) (ROW .non _ _ rfl))) rfl
      | true =>
        rw [if_neg (by decide)]
        rw [ib] at ANY
        refine e_seq (e_ifF (e_notT ANY) ?_) rfl
        by_cases k3 : 3 ≤ c.1
        · rw [if_pos k3]
          exact e_seq (e_ifT (e_truB (b := true) (e_b2 rfl rfl (by rw [isi_digB, decide_eq_true k3]))) (EXT _ _ sl SL)) rfl
        · rw [if_neg k3]
          exact e_seq (e_ifF (e_truB (b := false) (e_b2 rfl rfl (by rw [isi_digB, decide_eq_false k3]))) (EXT _ _ (List.length_replicate ..) (ROW .non _ _ rfl))) rfl)
  rw [List.append_nil] at hu
  refine e_seq (e_zFor (e_jVal (e_call2 (e_b1 rfl (len_nats fd)) ((size_st z rfl).trans (by rw [cz])) ?_)) e) ?_
  · refine (g_blocks_eq (by omega) hn (by omega)).trans ?_
    unfold blkB
    rw [List.map_map]
    rfl
  · rw [← hu]
    unfold stepN
    rw [if_neg z]
    exact e_seq_rn rfl
theorem s_starts {sg : List Nat} {L : Nat} {cs : List (Nat × Int)} (hL : L ≤ 900) (hs : sg.length ≤ 1000) (hc : ∀ c ∈ cs, okS c) : g_starts [scrD cs, natT sg, natI L] = .ok (natsD (startsN sg L cs)) := by
  refine e_fdef rfl ?_
  unfold f_starts
  have st : startD 7 [scrD cs, natT sg, natI L] = [.v (scrD cs), .v (natT sg), .v (natI L), .un, .un, .un, .un] := rfl
  rw [st]
  refine e_seq (s' := [.v (scrD cs), .v (natT sg), .v (natI L), .v (natI (alN L)), .un, .un, .un]) (e_zAsg (e_bin (e_bin rfl rfl (shl_nat (a := 2) (by decide) (by omega))) rfl (sub_nat (b := 1) (by have := Nat.two_pow_pos L; omega)))) ?_
  refine e_seq (s' := [.v (scrD cs), .v (natT sg), .v (natI L), .v (natI (alN L)), .v (natsD (f0N sg L)), .un, .un]) (e_zAsg ?_) ?_
  · refine (e_lc (jR1_n rfl (by omega)) (by rw [List.length_map, List.length_range]; omega) (comp_mapG (f := fun k => natI (if k ∈ sg then alN L else 2 ^ k)) fun k hk => ?_)).trans ?_
    · have hk := List.mem_range.mp hk
      by_cases z : k ∈ sg
      · rw [if_pos z]
        exact e_ifET (e_val (e_bin rfl rfl (in_nat.trans (by rw [decide_eq_true z])))) rfl
      · rw [if_neg z]
        refine e_ifEF (e_val (e_bin rfl rfl (in_nat.trans (by rw [decide_eq_false z])))) (e_bin rfl rfl ((shl_nat (a := 1) (by decide) (by omega)).trans ?_))
        rw [Nat.one_mul]
    · unfold f0N
      show _ = Res.ok (D.lst _)
      rw [List.map_map]
      rfl
  obtain ⟨s', e, u, x5, x6, hu, rfl⟩ := e_for_inv (q := fun c : Nat × Int => stp c.1 c.2) (tg := .nm 5) (body := zSeq (zAsg 4 (fCall g__stepped [] (fCons (fVar 5) (fCons (fVar 1) (fCons (fVar 4) (fCons (fVar 3) fNil)))))) zNil)
    (fun r s => ∃ (u : List (Nat × Int)) (x5 x6 : Sl), cs = u ++ r ∧ s = [.v (scrD cs), .v (natT sg), .v (natI L), .v (natI (alN L)), .v (natsD (startsN sg L u)), x5, x6]) (l := cs)
    (s := [.v (scrD cs), .v (natT sg), .v (natI L), .v (natI (alN L)), .v (natsD (f0N sg L)), .un, .un]) ⟨[], .un, .un, rfl, rfl⟩ (by
      rintro c r _ ⟨u, x5, x6, hu, rfl⟩
      have hcm : c ∈ cs := by rw [hu]; simp
      have ul : (startsN sg L u).length = L := startsN_len fun d hd z => (hc d (by rw [hu]; exact List.mem_append_left _ hd) z).1
      refine ⟨_, [.v (scrD cs), .v (natT sg), .v (natI L), .v (natI (alN L)), .v (natsD (startsN sg L (u ++ [c]))), .v (stp c.1 c.2), x6], rfl, ?_, u ++ [c], _, _, by rw [hu]; simp, rfl⟩
      have es : startsN sg L (u ++ [c]) = stepN sg (alN L) (startsN sg L u) c := by
        unfold startsN
        rw [List.foldl_append]
        rfl
      rw [es]
      exact e_seq (e_zAsg (e_call4 rfl rfl rfl rfl (s_stepped (by omega) hs (hc c hcm)))) rfl)
  rw [List.append_nil] at hu
  subst hu
  exact e_seq (e_zFor rfl e) (e_seq_rt (e_zRet rfl))
theorem s_signrows {L : Nat} (hL : L ≤ 24) : g_sign_rows [natI L] = .ok (.lst ((sigs L).map natT)) := by
  refine e_fdef rfl ?_
  unfold f_sign_rows
  have z : (2 : Nat) ^ 62 ≥ 100001 := by decide
  refine e_seq (s' := [.v (natI L), .v (tokRng L), .un, .un]) (e_zAsg (e_rngV rfl)) ?_
  refine e_seq_rt (e_zRet ?_)
  have RG : jRngV (fVar 1) [.v (natI L), .v (tokRng L), .un, .un] = .ok ((List.range L).map natI) := (e_iRngV rfl ⟨by omega, by omega⟩).trans (by rw [Int.toNat_natCast, intsR0])
  have A : fLc (jRngV (fVar 1)) (.nm 2) fYes (fTup (fCons (fVar 2) fNil)) [2] [.v (natI L), .v (tokRng L), .un, .un] = .ok (.lst ((sigs1 L).map natT)) := by
    refine (e_lc RG (by rw [List.length_map, List.length_range]; omega) (comp_mapG (f := fun k => natT [k]) fun k hk => e_tup (e_args1 rfl) (by show 1 ≤ 1000; decide))).trans ?_
    unfold sigs1
    rw [List.map_map]
    rfl
  have B : fLc2 (jRngV (fVar 1)) (.nm 3) fYes (jR2 (fCons (fBin pAdd (fVar 3) (fC (.int 1))) (fCons (fVar 0) fNil))) (.nm 2) fYes (fTup (fCons (fVar 3) (fCons (fVar 2) fNil))) [3, 2] [2] [.v (natI L), .v (tokRng L), .un, .un] = .ok (.lst ((sigs2 L).map natT)) := by
    refine (e_lc2 RG (by rw [List.length_map, List.length_range]; omega) (comp2_map (g := natI) (g1 := fun _ => natI) (l1 := fun j => List.range' (j + 1) (L - (j + 1))) (f := fun j k => natT [j, k]) (p := fun _ _ => true) fun j hj => ⟨?_, ?_, fun k hk => rfl, fun k hk _ => e_tup (e_args2 rfl rfl) (by show 2 ≤ 1000; decide)⟩)).trans ?_
    · have hj := List.mem_range.mp hj
      exact jR2_n (a := j + 1) rfl rfl (by omega) (by omega)
    · rw [List.length_range']
      omega
    · unfold sigs2
      rw [List.map_flatten, List.map_map]
      congr 4
      funext j
      show ((List.range' (j + 1) (L - (j + 1))).filter fun _ => true).map _ = ((List.range' (j + 1) (L - (j + 1))).map fun k => [j, k]).map natT
      rw [List.map_map, List.filter_eq_self.mpr fun _ _ => rfl]
      rfl
  have fin := e_lst (s := [.v (natI L), .v (tokRng L), .un, .un]) (e_cons (f := fTup fNil) (x := natT []) (e_tup e_nil (by show 0 ≤ 1000; decide)) (e_starL A (e_starL B e_nil))) (by
    have h := sigs_len hL
    unfold sigs at h
    rw [List.length_cons, List.length_append] at h
    rw [List.length_cons, List.length_append, List.length_append, List.length_map, List.length_map]
    show (sigs1 L).length + ((sigs2 L).length + 0) + 1 ≤ 1000
    omega)
  refine fin.trans ?_
  unfold sigs
  rw [List.map_cons, List.map_append, List.append_nil]
theorem s_blanks {f L : Nat} (hL : L ≤ 24) : g__blank_rows [natI f, natI L] = .ok (.lst ((blanksN f L).map natT)) := by
  refine e_fdef rfl ?_
  unfold f__blank_rows
  have st : startD 3 [natI f, natI L] = [.v (natI f), .v (natI L), .un] := rfl
  rw [st]
  have C : fTru (fBin pShr (fVar 0) (fVar 1)) [.v (natI f), .v (natI L), .un] = .ok (decide (f / 2 ^ L ≠ 0)) := e_truI (e_bin rfl rfl shr_nat)
  unfold blanksN
  by_cases z : f / 2 ^ L ≠ 0
  · rw [if_pos z]
    rw [decide_eq_true z] at C
    exact e_seq_rt (e_ifT C (e_seq_rt (e_zRet (e_lst (e_args1 (x := natT []) (e_tup e_nil (by show 0 ≤ 1000; decide))) (by show 1 ≤ 1000; decide)))))
  · rw [if_neg z]
    rw [decide_eq_false z] at C
    refine e_seq (s' := [.v (natI f), .v (natI L), .un]) (e_ifF C rfl) (e_seq_rt (e_zRet ?_))
    refine (e_lc (jR1_n (n := L) rfl (by omega)) (by rw [List.length_map, List.length_range]; omega) (comp_filterG (g := natI) (f := fun k => natT [k]) (p := fun k => decide (f / 2 ^ k % 2 ≠ 0)) (fun k hk => e_truI (bit_n rfl rfl)) fun k hk _ => e_tup (e_args1 rfl) (by show 1 ≤ 1000; decide))).trans ?_
    rw [List.map_map]
    rfl
theorem s_least {v : List Nat → Nat} {L : Nat} {sg bl : List Nat} (hs : sg ∈ sigs L) (hb : bl.length ≤ 100) : g__is_least [tokTab (tabN v (sigs L)), natT sg, natT bl] = .ok (.bl (leastN v sg bl)) := by
  refine e_fdef rfl ?_
  unfold f__is_least
  have st : startD 6 [tokTab (tabN v (sigs L)), natT sg, natT bl] = [.v (tokTab (tabN v (sigs L))), .v (natT sg), .v (natT bl), .un, .un, .un] := rfl
  rw [st]
  have sl := (sigs_lt hs).2
  obtain ⟨fl, e, r⟩ := e_for_invR (q := natI) (tg := .nm 3) (body := zSeq (zAsg 4 (fTabIx (fVar 0) (fB gTuple (fCons (fLc (jVal (fVar 1)) (.nm 5) (fVal (fBin (pNeT T0 1) (fVar 5) (fVar 3))) (fVar 5) [5]) fNil))))
      (zSeq (zIf (fTru (fB gAnyI (fCons (fLc (jVal (fTup (fCons (fVar 3) (fStar (fVar 2) fNil)))) (.nm 5) fYes (fBin pBand (fBin pShr (fVar 4) (fVar 5)) (fC (.int 1))) [5]) fNil))) (zSeq (zRet (fC (.bl false))) zNil) zNil) zNil))
    (fun r s => (∃ u, sg = u ++ r) ∧ (leastN v sg bl = r.all fun s => !((s :: bl).any fun k => decide (v (sg.filter fun x => decide (x ≠ s)) / 2 ^ k % 2 ≠ 0))) ∧ ∃ x3 x4 x5 : Sl, s = [.v (tokTab (tabN v (sigs L))), .v (natT sg), .v (natT bl), x3, x4, x5])
    (fun fl => (∃ s, fl = .nx s ∧ leastN v sg bl = true) ∨ fl = .rt (.bl false) ∧ leastN v sg bl = false) (l := sg) (s := [.v (tokTab (tabN v (sigs L))), .v (natT sg), .v (natT bl), .un, .un, .un]) ⟨⟨[], rfl⟩, rfl, .un, .un, .un, rfl⟩ (by
      rintro s ⟨_, h, _⟩
      exact .inl ⟨_, rfl, h⟩) (by
      rintro a r _ ⟨⟨u, hu⟩, h, x3, x4, x5, rfl⟩
      refine ⟨_, rfl, ?_⟩
      have GET : fTabIx (fVar 0) (fB gTuple (fCons (fLc (jVal (fVar 1)) (.nm 5) (fVal (fBin (pNeT T0 1) (fVar 5) (fVar 3))) (fVar 5) [5]) fNil)) [.v (tokTab (tabN v (sigs L))), .v (natT sg), .v (natT bl), .v (natI a), x4, x5] = .ok (natI (v (sg.filter fun x => decide (x ≠ a)))) := by
        refine e_tabIx (ks := (sg.filter fun x => decide (x ≠ a)).map fun k : Nat => (k : Int)) rfl ?_ (tab_look (sigs_sub hs a))
        refine (e_b1 (x := .lst ((sg.filter fun x => decide (x ≠ a)).map natI)) (e_lc (xs := sg.map natI) rfl (by rw [List.length_map]; omega) (comp_filterG (g := natI) (f := natI) (p := fun x => decide (x ≠ a)) (fun x hx => e_val (e_bin rfl rfl (ne_int.trans ?_))) fun x hx _ => rfl)) rfl).trans ?_
        · congr 2
          rw [Bool.eq_iff_iff, Bool.not_eq_true', beq_eq_false_iff_ne, decide_eq_true_eq]
          omega
        · show Res.ok (natT _) = _
          rw [natT_int]
      generalize hv : v (sg.filter fun x => decide (x ≠ a)) = w at GET
      have ANY : fTru (fB gAnyI (fCons (fLc (jVal (fTup (fCons (fVar 3) (fStar (fVar 2) fNil)))) (.nm 5) fYes (fBin pBand (fBin pShr (fVar 4) (fVar 5)) (fC (.int 1))) [5]) fNil)) [.v (tokTab (tabN v (sigs L))), .v (natT sg), .v (natT bl), .v (natI a), .v (natI w), x5] = .ok ((a :: bl).any fun k => decide (w / 2 ^ k % 2 ≠ 0)) := by
        refine e_truB (e_b1 (x := .lst (((a :: bl).map fun k => ((w / 2 ^ k % 2 : Nat) : Int)).map D.int)) ?_ ?_)
        · refine (e_lc (xs := (a :: bl).map natI) ?_ (by rw [List.length_map, List.length_cons]; omega) (comp_mapG (f := fun k => natI (w / 2 ^ k % 2)) fun k hk => bit_n rfl rfl)).trans ?_
          · have t := e_tup (s := [.v (tokTab (tabN v (sigs L))), .v (natT sg), .v (natT bl), .v (natI a), .v (natI w), x5]) (e_cons (f := fVar 3) (x := natI a) rfl (e_starT (f := fVar 2) (xs := bl.map natI) rfl e_nil)) (by
              rw [List.length_cons, List.length_append, List.length_map]
              show bl.length + 0 + 1 ≤ 1000
              omega)
            unfold jVal
            rw [t, List.append_nil]
            rfl
          · rw [List.map_map]
            rfl
        · rw [e_anyI, List.any_map]
          congr 3
          funext k
          show (!(((w / 2 ^ k % 2 : Nat) : Int) == 0)) = _
          rw [Bool.eq_iff_iff, Bool.not_eq_true', beq_eq_false_iff_ne, decide_eq_true_eq]
          omega
      rw [List.all_cons, hv] at h
      cases hA : (a :: bl).any fun k => decide (w / 2 ^ k % 2 ≠ 0) with
      | true =>
        rw [hA] at ANY h
        exact .inr ⟨_, e_seq (e_zAsg GET) (e_seq_rt (e_ifT ANY (e_seq_rt (e_zRet rfl)))), .inr ⟨rfl, by rw [h]; rfl⟩⟩
      | false =>
        rw [hA] at ANY h
        exact .inl ⟨_, e_seq (e_zAsg GET) (e_seq (e_ifF ANY rfl) rfl), ⟨u ++ [a], by rw [hu]; simp⟩, by rw [h]; rfl, _, _, _, rfl⟩)
  rcases r with ⟨s, rfl, r⟩ | ⟨rfl, r⟩
  · rw [r]
    exact e_seq (e_zFor rfl e) (e_seq_rt (e_zRet rfl))
  · rw [r]
    exact e_seq_rt (e_zFor rfl e)
/-- what a script makes of a row of signs, at one cell -/
def valN (cs : List (Nat × Int)) (L i : Nat) (sg : List Nat) : Nat := (startsN sg L cs).getD i 0
theorem s_reasons {cs : List (Nat × Int)} {cell : Nat} (hL : perL cs ≤ 24) (h0 : 0 < perL cs) (hc : ∀ c ∈ cs, okS c) (hcell : cell < 10 ^ 60) : g_reasons [scrD cs, natI cell] = .ok (.lst (((reasN (valN cs (perL cs) (cell % perL cs)) (perL cs)).map (reaD (cell / perL cs * perL cs))).mergeSort leD)) := by
  have P := s_period h0 (by omega) (divs_per cs) hc
  generalize perL cs = L at hL h0 P
  refine e_fdef rfl ?_
  unfold f_reasons
  have st : startD 8 [scrD cs, natI cell] = [.v (scrD cs), .v (natI cell), .un, .un, .un, .un, .un, .un] := rfl
  rw [st]
  refine e_seq (e_zDrop (e_call1 rfl (ck_scr cs))) ?_
  refine e_seq (e_zDrop (d := .non) (by
    show ((fCons (fVar 1) (fCons (fC (.int 0)) fNil)) _).bind _ = _
    rw [e_args2 rfl rfl]
    show g_check_number [natI cell, .int 0, .non] = _
    rw [check1 rfl, inBd_up (by omega)]
    rfl)) ?_
  refine e_seq (s' := [.v (scrD cs), .v (natI cell), .v (natI L), .un, .un, .un, .un, .un]) (e_zAsg (e_prop rfl rfl P)) ?_
  refine e_seq (s' := [.v (scrD cs), .v (natI cell), .v (natI L), .v (natI (cell / L * L)), .un, .un, .un, .un]) (e_zAsg (e_bin (e_bin rfl rfl (div_n hcell h0)) rfl (mul_n (Nat.lt_of_le_of_lt (Nat.div_le_self ..) hcell) (by omega)))) ?_
  have sub : cell - cell / L * L = cell % L := by
    have := Nat.div_add_mod cell L
    have e : L * (cell / L) = cell / L * L := Nat.mul_comm ..
    omega
  have le : cell / L * L ≤ cell := Nat.div_mul_le_self ..
  have ml : cell % L < L := Nat.mod_lt _ h0
  refine e_seq (s' := [.v (scrD cs), .v (natI cell), .v (natI L), .v (natI (cell / L * L)), .v (tokTab (tabN (valN cs L (cell % L)) (sigs L))), .un, .un, .un]) (e_zAsg ?_) ?_
  · refine e_dcT (e_jVal (e_call1 rfl (s_signrows hL))) (by rw [List.length_map]; have := sigs_len hL; omega) (comp_dict (g := natT) (k := fun sg => sg.map fun k : Nat => (k : Int)) (v := fun sg => ((valN cs L (cell % L) sg : Nat) : Int)) (a := []) (fun sg hsg => ⟨?_, ?_⟩) ?_)
    · show Res.ok (natT sg) = _
      rw [natT_int]
    · have q := sigs_lt hsg
      have S := s_starts (sg := sg) (L := L) (cs := cs) (by omega) (by omega) hc
      refine e_bin (e_call3 rfl rfl rfl S) (e_bin rfl rfl (sub_nat le)) ?_
      rw [sub]
      have ln := startsN_len (sg := sg) (L := L) (cs := cs) fun c hc' z => (hc c hc' z).1
      show optR (atI ((startsN sg L cs).map natI) ((cell % L : Nat) : Int)) = _
      rw [Dl.atI_nat, List.getElem?_map, List.getElem?_eq_getElem (by omega)]
      unfold valN
      rw [List.getD_eq_getElem?_getD, List.getElem?_eq_getElem (by omega)]
      rfl
    · exact tab_nodup
  generalize hv : valN cs L (cell % L) = v
  refine e_seq_rt (e_zRet (e_b1 (x := .lst ((reasN v L).map (reaD (cell / L * L)))) ?_ (e_sortD sortOk_rea)))
  have IT : jTab (fVar 4) [.v (scrD cs), .v (natI cell), .v (natI L), .v (natI (cell / L * L)), .v (tokTab (tabN v (sigs L))), .un, .un, .un] = .ok ((sigs L).map natT) := by
    refine (e_iTab (l := tabN v (sigs L)) rfl).trans ?_
    unfold tabN
    rw [List.map_map]
    congr 2
    funext sg
    show intT _ = _
    rw [natT_int]
  refine (e_lc2 IT (by rw [List.length_map]; have := sigs_len hL; omega) (comp2_map (g := natT) (g1 := fun _ => natT) (l1 := fun sg => blanksN (v sg) L) (f := fun sg bl => reaD (cell / L * L) (sg, bl)) (p := fun sg bl => leastN v sg bl) fun sg hsg => ⟨?_, ?_, fun bl hbl => ?_, fun bl hbl _ => ?_⟩)).trans ?_
  · have GET : fTabIx (fVar 4) (fVar 5) [.v (scrD cs), .v (natI cell), .v (natI L), .v (natI (cell / L * L)), .v (tokTab (tabN v (sigs L))), .v (natT sg), .un, .un] = .ok (natI (v sg)) := e_tabIx (ks := sg.map fun k : Nat => (k : Int)) rfl (by
      show Res.ok (natT sg) = _
      rw [natT_int]) (tab_look hsg)
    exact e_jVal (e_call2 GET rfl (s_blanks hL))
  · have := blanks_len (f := v sg) hL
    omega
  · have b1 : bl.length ≤ 100 := by
      unfold blanksN at hbl
      split at hbl
      · rw [List.mem_singleton.mp hbl]
        exact Nat.zero_le _
      · obtain ⟨k, _, rfl⟩ := List.mem_map.mp hbl
        show 1 ≤ 100
        omega
    exact e_truB (e_call3 rfl rfl rfl (s_least hsg b1))
  · have b1 : bl.length ≤ 100 := by
      unfold blanksN at hbl
      split at hbl
      · rw [List.mem_singleton.mp hbl]
        exact Nat.zero_le _
      · obtain ⟨k, _, rfl⟩ := List.mem_map.mp hbl
        show 1 ≤ 100
        omega
    have q := (sigs_lt hsg).2
    have ROW : ∀ (f : FE) (l : List Nat) (s : List Sl), l.length ≤ 100 → jVal f s = .ok (l.map natI) → fVar 3 (wipeD s [6]) = .ok (natI (cell / L * L)) → (∀ k, fVar 3 ((wipeD s [6]).set 6 (.v (natI k))) = .ok (natI (cell / L * L)) ∧ fVar 6 ((wipeD s [6]).set 6 (.v (natI k))) = .ok (natI k)) → fLc (jVal f) (.nm 6) fYes (fBin pAdd (fVar 3) (fVar 6)) [6] s = .ok (natsD (l.map fun k => cell / L * L + k)) := fun f l s hl h1 _ h3 => by
      refine (e_lc h1 (by rw [List.length_map]; omega) (comp_mapG (f := fun k => natI (cell / L * L + k)) fun k hk => e_bin (h3 k).1 (h3 k).2 ?_)).trans ?_
      · show Res.ok (D.int (((cell / L * L : Nat) : Int) + (k : Int))) = _
        rw [← Int.natCast_add]
      · show _ = Res.ok (D.lst _)
        rw [List.map_map]
        rfl
    exact e_tup (e_args2 (ROW _ sg _ (by omega) rfl rfl fun k => ⟨rfl, rfl⟩) (ROW _ bl _ b1 rfl rfl fun k => ⟨rfl, rfl⟩)) (by show 2 ≤ 1000; decide)
  · unfold reasN
    rw [List.map_flatten, List.map_map]
    congr 4
    funext sg
    show _ = (((blanksN (v sg) L).filter fun bl => leastN v sg bl).map fun bl => (sg, bl)).map (reaD (cell / L * L))
    rw [List.map_map]
    rfl
theorem least_lcm {f m k : Nat} (hf : 0 < f) (hm : 0 < m) (hk : 0 < k) (d : m ∣ f * k) (least : ∀ j, 0 < j → j < k → ¬ m ∣ f * j) : f * k = Nat.lcm f m := by
  have d1 : Nat.lcm f m ∣ f * k := Nat.lcm_dvd (Nat.dvd_mul_right f k) d
  obtain ⟨q, eq⟩ := Nat.dvd_lcm_left f m
  have lp : 0 < Nat.lcm f m := Nat.lcm_pos hf hm
  have q0 : 0 < q := by
    rcases Nat.eq_zero_or_pos q with z | z
    · rw [z, Nat.mul_zero] at eq
      omega
    · exact z
  have kq : k ≤ q := by
    rcases Nat.lt_or_ge q k with z | z
    · exact absurd (by rw [← eq]; exact Nat.dvd_lcm_right f m) (least q q0 z)
    · exact z
  have l1 := Nat.le_of_dvd (Nat.mul_pos hf hk) d1
  have l2 : f * k ≤ f * q := Nat.mul_le_mul_left f kq
  rw [← eq] at l2
  omega
theorem mult_ok {ms : List Nat} (hm : ∀ m ∈ ms, 0 < m ∧ m ≤ 1000) : g__law_multiple [.lst (ms.map fun n : Nat => D.int n)] = .ok (.int ((ms.foldl Nat.lcm 1 : Nat) : Int)) := by
  refine e_fdef rfl ?_
  unfold f__law_multiple
  have st : startD 5 [.lst (ms.map fun n : Nat => D.int n)] = [.v (.lst (ms.map fun n : Nat => D.int n)), .un, .un, .un, .un] := rfl
  rw [st]
  generalize hL : D.lst (ms.map fun n : Nat => D.int n) = L
  generalize hin : zSeq (zIf (fVal (fBin (pNeT TQ 10) (fBin pMod (fVar 3) (fVar 2)) (fC (.int 0)))) _ _) zNil = inn
  generalize hbody : zSeq (zAsg 3 (fVar 1)) _ = body
  obtain ⟨s', e, u, x, y, z, hu, rfl⟩ := e_for_inv (q := fun n : Nat => D.int n) (tg := .nm 2) (body := body)
    (fun l s => ∃ (u : List Nat) (x y z : Sl), ms = u ++ l ∧ s = [.v L, .v (.int ((u.foldl Nat.lcm 1 : Nat) : Int)), x, y, z])
    (l := ms) (s := [.v L, .v (.int ((1 : Nat) : Int)), .un, .un, .un]) ⟨[], .un, .un, .un, rfl, rfl⟩ (by
      rintro m l _ ⟨u, x, y, z, hu, rfl⟩
      have hmm := hm m (by rw [hu]; simp)
      have fp : 0 < u.foldl Nat.lcm 1 := by
        have : ∀ (v : List Nat) (a : Nat), 0 < a → (∀ m ∈ v, 0 < m) → 0 < v.foldl Nat.lcm a := by
          intro v
          induction v with
          | nil => intro a h _; exact h
          | cons b v ih => intro a h k; exact ih _ (Nat.lcm_pos h (k b List.mem_cons_self)) fun m hm => k m (List.mem_cons_of_mem _ hm)
        exact this u 1 (by decide) fun m h => (hm m (by rw [hu]; exact List.mem_append_left _ h)).1
      have es : (u ++ [m]).foldl Nat.lcm 1 = Nat.lcm (u.foldl Nat.lcm 1) m := by rw [List.foldl_append]; rfl
      generalize hf : u.foldl Nat.lcm 1 = f at fp es
      obtain ⟨s2, e2, t, k, z2, ht, k0, k1, least, dv, rfl⟩ := e_for_inv (q := fun n : Nat => D.int n) (tg := .nm 4) (body := inn)
        (fun l s => ∃ (t k : Nat) (z : Sl), t + l.length = m ∧ 0 < k ∧ k ≤ t + 1 ∧ (∀ j, 0 < j → j < k → ¬ m ∣ f * j) ∧ (k ≤ t → m ∣ f * k) ∧ s = [.v L, .v (.int (f : Nat)), .v (.int (m : Nat)), .v (.int ((f * k : Nat) : Int)), z])
        (l := List.range m) (s := [.v L, .v (.int (f : Nat)), .v (.int (m : Nat)), .v (.int ((f * 1 : Nat) : Int)), z]) ⟨0, 1, z, by rw [List.length_range]; omega, by decide, by decide, fun j a b => by omega, fun h => by omega, rfl⟩ (by
          rintro w l _ ⟨t, k, z, ht, k0, k1, least, dv, rfl⟩
          rw [List.length_cons] at ht
          have md : pMod (.int ((f * k : Nat) : Int)) (.int (m : Nat)) = .ok (.int ((f * k % m : Nat) : Int)) := by
            rw [e_mod, need_pos (by omega)]
            rfl
          by_cases d : m ∣ f * k
          · refine ⟨_, [.v L, .v (.int (f : Nat)), .v (.int (m : Nat)), .v (.int ((f * k : Nat) : Int)), .v (.int (w : Nat))], rfl, ?_, t + 1, k, _, by omega, k0, by omega, least, fun _ => d, rfl⟩
            rw [← hin]
            exact e_seq (e_ifF (e_val (b := false) (e_bin (e_bin rfl rfl md) rfl (by rw [Nat.mod_eq_zero_of_dvd d]; exact ne_same rfl))) rfl) rfl
          · have nz : f * k % m ≠ 0 := fun h => d (Nat.dvd_of_mod_eq_zero h)
            have kt : k = t + 1 := by
              rcases Nat.lt_or_ge t k with h | h
              · omega
              · exact absurd (dv h) d
            refine ⟨_, [.v L, .v (.int (f : Nat)), .v (.int (m : Nat)), .v (.int ((f * (k + 1) : Nat) : Int)), .v (.int (w : Nat))], rfl, ?_, t + 1, k + 1, _, by omega, by omega, by omega, fun j j0 j1 => ?_, fun h => by omega, rfl⟩
            · rw [← hin]
              refine e_seq (e_ifT (e_val (b := true) (e_bin (e_bin rfl rfl md) rfl (ne_int.trans ?_))) (e_seq (e_zAsg (e_bin rfl rfl ?_)) rfl)) rfl
              · have : ¬ (((f * k % m : Nat) : Int) = 0) := by omega
                simpa using this
              · rw [e_add_i, Nat.mul_succ, Int.natCast_add]
            · rcases Nat.lt_or_ge j k with h | h
              · exact least j j0 h
              · rw [show j = k by omega]
                exact d)
      have ht : t = m := by simpa using ht
      subst ht
      have dk : t ∣ f * k := by
        rcases Nat.lt_or_ge t k with h | h
        · exact absurd (Nat.dvd_mul_left t f) (least t hmm.1 h)
        · exact dv h
      have fin := least_lcm fp hmm.1 k0 dk least
      refine ⟨_, [.v L, .v (.int (((u ++ [t]).foldl Nat.lcm 1 : Nat) : Int)), .v (.int (t : Nat)), .v (.int ((f * k : Nat) : Int)), z2], rfl, ?_, u ++ [t], _, _, _, by rw [hu]; simp, rfl⟩
      rw [← hbody, es, ← fin]
      refine e_seq (s' := [.v L, .v (.int (f : Nat)), .v (.int (t : Nat)), .v (.int ((f * 1 : Nat) : Int)), z]) (e_zAsg (by rw [Nat.mul_one]; rfl)) ?_
      refine e_seq (e_zFor (by
        unfold jR1
        rw [e_args1 rfl]
        show rng1 [.int (t : Nat)] = _
        rw [e_r1, need_pos ⟨by omega, by omega⟩, Int.toNat_natCast, intsD_nat]) e2) ?_
      exact e_seq (e_zAsg rfl) rfl)
  rw [List.append_nil] at hu
  subst hu
  refine e_seq (s' := [.v L, .v (.int ((1 : Nat) : Int)), .un, .un, .un]) (e_zAsg rfl) ?_
  refine e_seq (e_zFor (by rw [← hL]; rfl) e) ?_
  exact e_seq_rt (e_zRet rfl)
theorem l_sizes {cs : List (Nat × Int)} (h4 : ∀ c ∈ cs, c.1 ≤ 3) (hl : cs.length ≤ 1000) : g__law_sizes [.lst (cs.map codeS)] = .ok (.lst ((cs.filter fun c => c.1 != 0).map fun c => .int c.2)) := by
  refine e_fdef rfl ?_
  unfold f__law_sizes
  have lc : (cs.map codeS).length ≤ sizeLine := szL (by rw [List.length_map]; omega)
  have CO : compF (.nm 1) (fVal (fBin (pNeT TQ 10) (fBin pIx (fVar 1) (fC (.int 0))) (fC (.str (Str.ofString "full"))))) (fBin pIx (fVar 1) (fC (.int 1))) [.v (.lst (cs.map codeS)), .un] (cs.map codeS) = .ok ((cs.filter fun c => c.1 != 0).map fun c => .int c.2) := by
    refine comp_filterG (g := codeS) (f := fun c : Nat × Int => .int c.2) (p := fun c : Nat × Int => c.1 != 0) (fun c hc => ?_) (fun c _ _ => e_bin rfl rfl rfl)
    refine e_val (e_bin (e_bin rfl rfl rfl) rfl ?_)
    show pNeT TQ 10 (.str (kname c.1)) (.str (Str.ofString "full")) = _
    rw [ne_str]
    have := h4 c hc
    have z : c.1 = 0 ∨ c.1 = 1 ∨ c.1 = 2 ∨ c.1 = 3 := by omega
    rcases z with z | z | z | z <;> rw [z] <;> rfl
  refine e_seq_rt (e_zRet ?_)
  unfold fLc
  show need _ _ = _
  rw [need_pos lc]
  show (compF _ _ _ [.v (.lst (cs.map codeS)), .un] _).bind _ = _
  rw [CO]
  rfl
end K13
set_option Elab.async false
set_option linter.all false
set_option exponentiation.threshold 4000
set_option maxRecDepth 100000
set_option maxHeartbeats 1000000
namespace K13
open PySem PySem.Spec L2 Dl Dl.Hd Res
theorem in_dl {k : Nat} (hk : k ≤ 3) : ∃ b, pIn (.str (kname k)) (.tup [.str (Str.ofString "dig"), .str (Str.ofString "lean")]) = .ok (.bl b) := by
  match k, hk with
  | 0, _ => exact ⟨_, need_pos ⟨rfl, rfl⟩⟩
  | 1, _ => exact ⟨_, need_pos ⟨rfl, rfl⟩⟩
  | 2, _ => exact ⟨_, need_pos ⟨rfl, rfl⟩⟩
  | 3, _ => exact ⟨_, need_pos ⟨rfl, rfl⟩⟩
theorem in_kf {k : Nat} (hk : k ≤ 3) : ∃ b, pIn (.str (kname k)) (.tup [.str (Str.ofString "keep"), .str (Str.ofString "full")]) = .ok (.bl b) := by
  match k, hk with
  | 0, _ => exact ⟨_, need_pos ⟨rfl, rfl⟩⟩
  | 1, _ => exact ⟨_, need_pos ⟨rfl, rfl⟩⟩
  | 2, _ => exact ⟨_, need_pos ⟨rfl, rfl⟩⟩
  | 3, _ => exact ⟨_, need_pos ⟨rfl, rfl⟩⟩
theorem few_ok {sizes : List Int} (hs : 0 < sizes.length) (hs2 : sizes.length ≤ 100) : (g__law_few [.tok 0, .lst (sizes.map D.int), .int 7]).wp (fun d => ∃ cs : List (Nat × Int), d = .lst (cs.map codeS) ∧ cs.length ≤ 7 ∧ ∀ c ∈ cs, c.1 ≤ 3 ∧ c.2 ∈ sizes) NoX := by
  refine w_def rfl ?_
  unfold f__law_few
  generalize hbody : zSeq (zAugI 4 _) _ = body
  refine w_seq ?_
  simp only [fVar,fC,fBin,fNil,fCons,fTup,fLst,fONone,fOSome,fSl,fVal,fTru,fNotT,fAndT,fOrT,fNot,fAnd,fOr,fIfE,fB,fM1,fCall,fMeth,fMake,fProp,fFld,fXf,fNeg,fRepl,fFr,frzS,frz1,flatD,fFrT,jVal,jR1,jR2,jR3,jEnumL,fYes,fLc,zAsg,zOwn,zOwnL,zDrop,zApp,zRet,zRetN,zRetL,zRetOwn,zIf,zBreak,zCont,zRaise,zTg,zPar2,zPar3,zFld,zSetSl,zFor,zTry,setTF,setM,fDef,fIni,fPur,startD,Dl.isNon,plainB,wipeD,fChain,hNil,hCons,jEnumS,fOpO,fIxO,jObj,zOwnE,zPar2E,zTg3E,zOwnN,zPar2N,zTg3N,zSetIx,fRev,fRevS,fLR1,fLR2,fCallK,fBor,fBorT,e_asI,e_asB,e_tru_non,e_tru_bl,e_tru_int,e_tru_str,e_tru_lst,e_tru_tup,e_tru_scr,e_sl_lst,e_sl_str,e_sl_tup,e_some,e_none,e_it_lst,e_it_tup,e_it_str,e_it_scr,e_r1,e_r2,e_en,e_thenS_nx,e_thenS_rt,e_thenS_rn,e_thenS_bk,e_thenS_cn,e_thenS_ex,e_afterS_nx,e_afterS_rt,e_afterS_rn,e_afterS_bk,e_afterS_cn,e_afterS_ex,e_su_nx,e_su_rt,e_su_bk,e_su_cn,e_ca_nx,e_ca_bk,e_ca_cn,e_ca_rt,e_ca_ex,e_end_nx,e_end_rt,e_end_rn,e_end_ex,e_endN_rn,e_endN_ex,e_endI_ex,e_endI_nx,e_len_str,e_len_lst,e_len_tup,e_len_scr,e_list_lst,e_list_tup,e_list_scr,e_list_str,e_tuple_lst,e_tuple_tup,e_int_int,e_int_bl,e_bool_int,e_bool_bl,e_sum,e_all,e_any,e_min,e_max,e_join_l,e_join_t,e_count,e_strip,e_split,e_add_i,e_add_s,e_add_l,e_add_t,e_sub,e_mul_i,e_mul_s,e_mul_l,e_mul_t,e_is_bl,e_not_bl,e_mod,e_div,e_pow,e_cmp,e_isN_non,e_notN_non,e_isN_bl,e_notN_bl,e_isN_int,e_notN_int,e_isN_str,e_notN_str,e_isN_lst,e_notN_lst,e_isN_tup,e_notN_tup,e_isN_obj,e_notN_obj,e_isN_scr,e_notN_scr,e_isN_tok,e_notN_tok,e_ix_l,e_ix_t,e_ix_s,e_ix_n,e_in1,e_kBl,e_enS,e_repl,e_neg,e_gcd,e_lcm,e_lenO_str,e_lenO_lst,e_lenO_tup,e_lenO_scr,e_op_int,e_op_str,e_op_lst,e_op_tup,e_ixO_str,e_ixO_scr,e_ixO_lst,e_ixO_tup,e_it_lst',e_it_tup',e_it_str',e_rev,e_revS,e_lr1,e_lr2,e_sorted,e_ownF_lst,e_ownF_non,e_par2F,e_triF,e_setIx,lis_cons,lis_nil,lisO_un,lisO_int,lisO_str,lisO_bl,lisO_non,w_sx,w_nil,w_ok,w_exc,w_bad,wp_bind,wp_noex,wp_cat,wp_need,true_and,and_true,bind_ok,bind_exc,bind_bad,bind_ask,cat,noex,reduceIte,Nat.reduceEqDiff,if_true,if_false,Bool.false_eq_true,List.getElem?_cons_zero,List.getElem?_cons_succ,List.map_cons,List.map_nil,List.replicate,List.cons_append,List.nil_append,List.append_nil,List.length_cons,List.length_nil,List.set_cons_zero,List.set_cons_succ]
  refine ⟨szL (by decide), ⟨rfl, rfl⟩, ?_⟩
  refine w_seq ?_
  simp only [fVar,fC,fBin,fNil,fCons,fTup,fLst,fONone,fOSome,fSl,fVal,fTru,fNotT,fAndT,fOrT,fNot,fAnd,fOr,fIfE,fB,fM1,fCall,fMeth,fMake,fProp,fFld,fXf,fNeg,fRepl,fFr,frzS,frz1,flatD,fFrT,jVal,jR1,jR2,jR3,jEnumL,fYes,fLc,zAsg,zOwn,zOwnL,zDrop,zApp,zRet,zRetN,zRetL,zRetOwn,zIf,zBreak,zCont,zRaise,zTg,zPar2,zPar3,zFld,zSetSl,zFor,zTry,setTF,setM,fDef,fIni,fPur,startD,Dl.isNon,plainB,wipeD,fChain,hNil,hCons,jEnumS,fOpO,fIxO,jObj,zOwnE,zPar2E,zTg3E,zOwnN,zPar2N,zTg3N,zSetIx,fRev,fRevS,fLR1,fLR2,fCallK,fBor,fBorT,e_asI,e_asB,e_tru_non,e_tru_bl,e_tru_int,e_tru_str,e_tru_lst,e_tru_tup,e_tru_scr,e_sl_lst,e_sl_str,e_sl_tup,e_some,e_none,e_it_lst,e_it_tup,e_it_str,e_it_scr,e_r1,e_r2,e_en,e_thenS_nx,e_thenS_rt,e_thenS_rn,e_thenS_bk,e_thenS_cn,e_thenS_ex,e_afterS_nx,e_afterS_rt,e_afterS_rn,e_afterS_bk,e_afterS_cn,e_afterS_ex,e_su_nx,e_su_rt,e_su_bk,e_su_cn,e_ca_nx,e_ca_bk,e_ca_cn,e_ca_rt,e_ca_ex,e_end_nx,e_end_rt,e_end_rn,e_end_ex,e_endN_rn,e_endN_ex,e_endI_ex,e_endI_nx,e_len_str,e_len_lst,e_len_tup,e_len_scr,e_list_lst,e_list_tup,e_list_scr,e_list_str,e_tuple_lst,e_tuple_tup,e_int_int,e_int_bl,e_bool_int,e_bool_bl,e_sum,e_all,e_any,e_min,e_max,e_join_l,e_join_t,e_count,e_strip,e_split,e_add_i,e_add_s,e_add_l,e_add_t,e_sub,e_mul_i,e_mul_s,e_mul_l,e_mul_t,e_is_bl,e_not_bl,e_mod,e_div,e_pow,e_cmp,e_isN_non,e_notN_non,e_isN_bl,e_notN_bl,e_isN_int,e_notN_int,e_isN_str,e_notN_str,e_isN_lst,e_notN_lst,e_isN_tup,e_notN_tup,e_isN_obj,e_notN_obj,e_isN_scr,e_notN_scr,e_isN_tok,e_notN_tok,e_ix_l,e_ix_t,e_ix_s,e_ix_n,e_in1,e_kBl,e_enS,e_repl,e_neg,e_gcd,e_lcm,e_lenO_str,e_lenO_lst,e_lenO_tup,e_lenO_scr,e_op_int,e_op_str,e_op_lst,e_op_tup,e_ixO_str,e_ixO_scr,e_ixO_lst,e_ixO_tup,e_it_lst',e_it_tup',e_it_str',e_rev,e_revS,e_lr1,e_lr2,e_sorted,e_ownF_lst,e_ownF_non,e_par2F,e_triF,e_setIx,lis_cons,lis_nil,lisO_un,lisO_int,lisO_str,lisO_bl,lisO_non,w_sx,w_nil,w_ok,w_exc,w_bad,wp_bind,wp_noex,wp_cat,wp_need,true_and,and_true,bind_ok,bind_exc,bind_bad,bind_ask,cat,noex,reduceIte,Nat.reduceEqDiff,if_true,if_false,Bool.false_eq_true,List.getElem?_cons_zero,List.getElem?_cons_succ,List.map_cons,List.map_nil,List.replicate,List.cons_append,List.nil_append,List.append_nil,List.length_cons,List.length_nil,List.set_cons_zero,List.set_cons_succ]
  refine wp_mono ?_ (fun _ _ z => z) (steps_ok (sizes := sizes) (most := 7) (by decide) hs hs2)
  rintro _ ⟨cs, rfl, hcl, hcs⟩
  obtain ⟨s', e, us, n, x, hu, hul, rfl⟩ := e_for_inv (q := codeS) (tg := .nm 5) (body := body)
    (fun l s => ∃ (us : List (Nat × Int)) (n : Int) (x : Sl), (∀ c ∈ us ++ l, c ∈ cs) ∧ us.length + l.length ≤ 7 ∧ s = [.v (.tok 0), .v (.lst (sizes.map D.int)), .v (.int 7), .own (us.map codeS), .v (.int n), x])
    (l := cs) (s := [.v (.tok 0), .v (.lst (sizes.map D.int)), .v (.int 7), .own [], .v (.int 0), .un]) ⟨[], 0, .un, fun c h => h, by simpa using hcl, rfl⟩ (by
      rintro c l _ ⟨us, n, x, hu, hul, rfl⟩
      have hc := (hcs c (hu c (by simp))).1
      rw [List.length_cons] at hul
      obtain ⟨b1, e1⟩ := in_dl hc
      obtain ⟨b2, e2⟩ := in_kf hc
      have A : zAugI 4 (fB gInt (fCons (fBin pIn (fBin pIx (fVar 5) (fC (.int 0))) (fTup (fCons (fC (.str (Str.ofString "dig"))) (fCons (fC (.str (Str.ofString "lean"))) fNil)))) fNil)) [.v (.tok 0), .v (.lst (sizes.map D.int)), .v (.int 7), .own (us.map codeS), .v (.int n), .v (codeS c)] = .ok (.nx [.v (.tok 0), .v (.lst (sizes.map D.int)), .v (.int 7), .own (us.map codeS), .v (.int (n + if b1 then 1 else 0)), .v (codeS c)]) := by
        have q : fB gInt (fCons (fBin pIn (fBin pIx (fVar 5) (fC (.int 0))) (fTup (fCons (fC (.str (Str.ofString "dig"))) (fCons (fC (.str (Str.ofString "lean"))) fNil)))) fNil) [.v (.tok 0), .v (.lst (sizes.map D.int)), .v (.int 7), .own (us.map codeS), .v (.int n), .v (codeS c)] = .ok (.int (if b1 then 1 else 0)) := by
          refine e_b1 (x := .bl b1) (e_bin (x := .str (kname c.1)) (e_bin rfl rfl rfl) (e_tup (e_args2 rfl rfl) (by show 2 ≤ 1000; decide)) e1) ?_
          cases b1 <;> rfl
        unfold zAugI
        show sx _ _ _ = _
        unfold sx
        rw [q]
        rfl
      have T1 : fVal (fBin pLe (fVar 4) (fC (.int 3))) [.v (.tok 0), .v (.lst (sizes.map D.int)), .v (.int 7), .own (us.map codeS), .v (.int (n + if b1 then 1 else 0)), .v (codeS c)] = .ok (decide (n + (if b1 then 1 else 0) ≤ 3)) := e_val (e_bin rfl rfl le_b)
      have T2 : fVal (fBin pIn (fBin pIx (fVar 5) (fC (.int 0))) (fTup (fCons (fC (.str (Str.ofString "keep"))) (fCons (fC (.str (Str.ofString "full"))) fNil)))) [.v (.tok 0), .v (.lst (sizes.map D.int)), .v (.int 7), .own (us.map codeS), .v (.int (n + if b1 then 1 else 0)), .v (codeS c)] = .ok b2 := e_val (e_bin (x := .str (kname c.1)) (e_bin rfl rfl rfl) (e_tup (e_args2 rfl rfl) (by show 2 ≤ 1000; decide)) e2)
      have keep : ∃ s2, zSeq (zApp 3 (fVar 5)) zNil [.v (.tok 0), .v (.lst (sizes.map D.int)), .v (.int 7), .own (us.map codeS), .v (.int (n + if b1 then 1 else 0)), .v (codeS c)] = .ok (.nx s2) ∧ s2 = [.v (.tok 0), .v (.lst (sizes.map D.int)), .v (.int 7), .own ((us ++ [c]).map codeS), .v (.int (n + if b1 then 1 else 0)), .v (codeS c)] := by
        refine ⟨_, e_seq (e_zApp (i := 3) (xs := us.map codeS) rfl rfl (by rw [List.length_map]; exact Nat.lt_of_lt_of_le (show us.length < 200 by omega) (szL (by decide)))) rfl, ?_⟩
        rw [List.map_append]
        rfl
      obtain ⟨s2, ek, rfl⟩ := keep
      rw [← hbody]
      have U1 : (∀ d ∈ (us ++ [c]) ++ l, d ∈ cs) := fun d hd => hu d (by simpa using hd)
      have U2 : (us ++ [c]).length + l.length ≤ 7 := by
        rw [List.length_append]
        show us.length + 1 + l.length ≤ 7
        omega
      cases ht : decide (n + (if b1 then 1 else 0) ≤ 3) with
      | true =>
        rw [ht] at T1
        exact ⟨_, _, rfl, e_seq A (e_seq (e_ifT (e_orT T1) ek) rfl), us ++ [c], _, _, U1, U2, rfl⟩
      | false =>
        rw [ht] at T1
        cases b2 with
        | true => exact ⟨_, _, rfl, e_seq A (e_seq (e_ifT (e_orF T1 T2) ek) rfl), us ++ [c], _, _, U1, U2, rfl⟩
        | false => exact ⟨_, _, rfl, e_seq A (e_seq (e_ifF (e_orF T1 T2) rfl) rfl), us, _, _, fun d hd => hu d (by
            rcases List.mem_append.mp hd with h | h
            · exact List.mem_append_left _ h
            · exact List.mem_append_right _ (List.mem_cons_of_mem _ h)), by omega, rfl⟩)
  rw [List.append_nil] at hu
  rw [show (D.int 0 : D) = .int 0 from rfl] at e
  refine w_eq (r := cs.map codeS) rfl ?_
  refine w_eq e ?_
  refine w_eq (r := Fl.rn (us.map codeS)) (e_seq_rn rfl) ?_
  exact ⟨us, rfl, by simpa using hul, fun c hc => hcs c (hu c hc)⟩
def greats : List (List Int) := [[1, 2, 4, 8], [1, 2, 3, 6], [2, 3, 4, 12], [2, 6, 8], [3, 9], [4, 6, 8, 24], [1, 5, 10]]
theorem greats_ok : ∀ l ∈ greats, 0 < l.length ∧ l.length ≤ 100 ∧ ∃ M : Nat, 0 < M ∧ M ≤ 24 ∧ ∀ n ∈ l, 1 ≤ n ∧ n ≤ 24 ∧ n.toNat ∣ M := by
  intro l hl
  simp only [greats, List.mem_cons, List.not_mem_nil, or_false] at hl
  rcases hl with rfl | rfl | rfl | rfl | rfl | rfl | rfl
  · exact ⟨by decide, by decide, 8, by decide, by decide, by decide⟩
  · exact ⟨by decide, by decide, 6, by decide, by decide, by decide⟩
  · exact ⟨by decide, by decide, 12, by decide, by decide, by decide⟩
  · exact ⟨by decide, by decide, 24, by decide, by decide, by decide⟩
  · exact ⟨by decide, by decide, 9, by decide, by decide, by decide⟩
  · exact ⟨by decide, by decide, 24, by decide, by decide, by decide⟩
  · exact ⟨by decide, by decide, 10, by decide, by decide, by decide⟩
theorem great_ok : (g__law_great [.tok 0]).wp (fun d => ∃ l ∈ greats, d = .lst (l.map D.int)) NoX := by
  refine w_def rfl ?_
  unfold f__law_great
  refine w_seq ?_
  simp only [fVar,fC,fBin,fNil,fCons,fTup,fLst,fONone,fOSome,fSl,fVal,fTru,fNotT,fAndT,fOrT,fNot,fAnd,fOr,fIfE,fB,fM1,fCall,fMeth,fMake,fProp,fFld,fXf,fNeg,fRepl,fFr,frzS,frz1,flatD,fFrT,jVal,jR1,jR2,jR3,jEnumL,fYes,fLc,zAsg,zOwn,zOwnL,zDrop,zApp,zRet,zRetN,zRetL,zRetOwn,zIf,zBreak,zCont,zRaise,zTg,zPar2,zPar3,zFld,zSetSl,zFor,zTry,setTF,setM,fDef,fIni,fPur,startD,Dl.isNon,plainB,wipeD,fChain,hNil,hCons,jEnumS,fOpO,fIxO,jObj,zOwnE,zPar2E,zTg3E,zOwnN,zPar2N,zTg3N,zSetIx,fRev,fRevS,fLR1,fLR2,fCallK,fBor,fBorT,e_asI,e_asB,e_tru_non,e_tru_bl,e_tru_int,e_tru_str,e_tru_lst,e_tru_tup,e_tru_scr,e_sl_lst,e_sl_str,e_sl_tup,e_some,e_none,e_it_lst,e_it_tup,e_it_str,e_it_scr,e_r1,e_r2,e_en,e_thenS_nx,e_thenS_rt,e_thenS_rn,e_thenS_bk,e_thenS_cn,e_thenS_ex,e_afterS_nx,e_afterS_rt,e_afterS_rn,e_afterS_bk,e_afterS_cn,e_afterS_ex,e_su_nx,e_su_rt,e_su_bk,e_su_cn,e_ca_nx,e_ca_bk,e_ca_cn,e_ca_rt,e_ca_ex,e_end_nx,e_end_rt,e_end_rn,e_end_ex,e_endN_rn,e_endN_ex,e_endI_ex,e_endI_nx,e_len_str,e_len_lst,e_len_tup,e_len_scr,e_list_lst,e_list_tup,e_list_scr,e_list_str,e_tuple_lst,e_tuple_tup,e_int_int,e_int_bl,e_bool_int,e_bool_bl,e_sum,e_all,e_any,e_min,e_max,e_join_l,e_join_t,e_count,e_strip,e_split,e_add_i,e_add_s,e_add_l,e_add_t,e_sub,e_mul_i,e_mul_s,e_mul_l,e_mul_t,e_is_bl,e_not_bl,e_mod,e_div,e_pow,e_cmp,e_isN_non,e_notN_non,e_isN_bl,e_notN_bl,e_isN_int,e_notN_int,e_isN_str,e_notN_str,e_isN_lst,e_notN_lst,e_isN_tup,e_notN_tup,e_isN_obj,e_notN_obj,e_isN_scr,e_notN_scr,e_isN_tok,e_notN_tok,e_ix_l,e_ix_t,e_ix_s,e_ix_n,e_in1,e_kBl,e_enS,e_repl,e_neg,e_gcd,e_lcm,e_lenO_str,e_lenO_lst,e_lenO_tup,e_lenO_scr,e_op_int,e_op_str,e_op_lst,e_op_tup,e_ixO_str,e_ixO_scr,e_ixO_lst,e_ixO_tup,e_it_lst',e_it_tup',e_it_str',e_rev,e_revS,e_lr1,e_lr2,e_sorted,e_ownF_lst,e_ownF_non,e_par2F,e_triF,e_setIx,lis_cons,lis_nil,lisO_un,lisO_int,lisO_str,lisO_bl,lisO_non,w_sx,w_nil,w_ok,w_exc,w_bad,wp_bind,wp_noex,wp_cat,wp_need,true_and,and_true,bind_ok,bind_exc,bind_bad,bind_ask,cat,noex,reduceIte,Nat.reduceEqDiff,if_true,if_false,Bool.false_eq_true,List.getElem?_cons_zero,List.getElem?_cons_succ,List.map_cons,List.map_nil,List.replicate,List.cons_append,List.nil_append,List.append_nil,List.length_cons,List.length_nil,List.set_cons_zero,List.set_cons_succ]
  refine ⟨szL (by decide), szL (by decide), szL (by decide), szL (by decide), szL (by decide), szL (by decide), szL (by decide), szL (by decide), ?_⟩
  refine w_seq ?_
  simp only [fVar,fC,fBin,fNil,fCons,fTup,fLst,fONone,fOSome,fSl,fVal,fTru,fNotT,fAndT,fOrT,fNot,fAnd,fOr,fIfE,fB,fM1,fCall,fMeth,fMake,fProp,fFld,fXf,fNeg,fRepl,fFr,frzS,frz1,flatD,fFrT,jVal,jR1,jR2,jR3,jEnumL,fYes,fLc,zAsg,zOwn,zOwnL,zDrop,zApp,zRet,zRetN,zRetL,zRetOwn,zIf,zBreak,zCont,zRaise,zTg,zPar2,zPar3,zFld,zSetSl,zFor,zTry,setTF,setM,fDef,fIni,fPur,startD,Dl.isNon,plainB,wipeD,fChain,hNil,hCons,jEnumS,fOpO,fIxO,jObj,zOwnE,zPar2E,zTg3E,zOwnN,zPar2N,zTg3N,zSetIx,fRev,fRevS,fLR1,fLR2,fCallK,fBor,fBorT,e_asI,e_asB,e_tru_non,e_tru_bl,e_tru_int,e_tru_str,e_tru_lst,e_tru_tup,e_tru_scr,e_sl_lst,e_sl_str,e_sl_tup,e_some,e_none,e_it_lst,e_it_tup,e_it_str,e_it_scr,e_r1,e_r2,e_en,e_thenS_nx,e_thenS_rt,e_thenS_rn,e_thenS_bk,e_thenS_cn,e_thenS_ex,e_afterS_nx,e_afterS_rt,e_afterS_rn,e_afterS_bk,e_afterS_cn,e_afterS_ex,e_su_nx,e_su_rt,e_su_bk,e_su_cn,e_ca_nx,e_ca_bk,e_ca_cn,e_ca_rt,e_ca_ex,e_end_nx,e_end_rt,e_end_rn,e_end_ex,e_endN_rn,e_endN_ex,e_endI_ex,e_endI_nx,e_len_str,e_len_lst,e_len_tup,e_len_scr,e_list_lst,e_list_tup,e_list_scr,e_list_str,e_tuple_lst,e_tuple_tup,e_int_int,e_int_bl,e_bool_int,e_bool_bl,e_sum,e_all,e_any,e_min,e_max,e_join_l,e_join_t,e_count,e_strip,e_split,e_add_i,e_add_s,e_add_l,e_add_t,e_sub,e_mul_i,e_mul_s,e_mul_l,e_mul_t,e_is_bl,e_not_bl,e_mod,e_div,e_pow,e_cmp,e_isN_non,e_notN_non,e_isN_bl,e_notN_bl,e_isN_int,e_notN_int,e_isN_str,e_notN_str,e_isN_lst,e_notN_lst,e_isN_tup,e_notN_tup,e_isN_obj,e_notN_obj,e_isN_scr,e_notN_scr,e_isN_tok,e_notN_tok,e_ix_l,e_ix_t,e_ix_s,e_ix_n,e_in1,e_kBl,e_enS,e_repl,e_neg,e_gcd,e_lcm,e_lenO_str,e_lenO_lst,e_lenO_tup,e_lenO_scr,e_op_int,e_op_str,e_op_lst,e_op_tup,e_ixO_str,e_ixO_scr,e_ixO_lst,e_ixO_tup,e_it_lst',e_it_tup',e_it_str',e_rev,e_revS,e_lr1,e_lr2,e_sorted,e_ownF_lst,e_ownF_non,e_par2F,e_triF,e_setIx,lis_cons,lis_nil,lisO_un,lisO_int,lisO_str,lisO_bl,lisO_non,w_sx,w_nil,w_ok,w_exc,w_bad,wp_bind,wp_noex,wp_cat,wp_need,true_and,and_true,bind_ok,bind_exc,bind_bad,bind_ask,cat,noex,reduceIte,Nat.reduceEqDiff,if_true,if_false,Bool.false_eq_true,List.getElem?_cons_zero,List.getElem?_cons_succ,List.map_cons,List.map_nil,List.replicate,List.cons_append,List.nil_append,List.append_nil,List.length_cons,List.length_nil,List.set_cons_zero,List.set_cons_succ, w_draw]
  refine ⟨szlog (by decide) (by decide), fun d h0 h1 => ?_⟩
  have : d = 0 ∨ d = 1 ∨ d = 2 ∨ d = 3 ∨ d = 4 ∨ d = 5 ∨ d = 6 := by
    have h2 : d < ((7 : Nat) : Int) := h1
    omega
  rcases this with rfl | rfl | rfl | rfl | rfl | rfl | rfl
  · exact wp_optR.mpr ⟨_, rfl, _, List.mem_cons_self .., rfl⟩
  · exact wp_optR.mpr ⟨_, rfl, [1, 2, 3, 6], by decide, rfl⟩
  · exact wp_optR.mpr ⟨_, rfl, [2, 3, 4, 12], by decide, rfl⟩
  · exact wp_optR.mpr ⟨_, rfl, [2, 6, 8], by decide, rfl⟩
  · exact wp_optR.mpr ⟨_, rfl, [3, 9], by decide, rfl⟩
  · exact wp_optR.mpr ⟨_, rfl, [4, 6, 8, 24], by decide, rfl⟩
  · exact wp_optR.mpr ⟨_, rfl, [1, 5, 10], by decide, rfl⟩
end K13
set_option Elab.async false
set_option linter.all false
set_option exponentiation.threshold 4000
set_option maxRecDepth 100000
set_option maxHeartbeats 1000000
namespace K13
open PySem PySem.Spec L2 Dl Dl.Hd Res
theorem per_fold : ∀ (cs : List (Nat × Int)) (m : Nat), cs.foldl (fun m c => if c.1 = 0 then m else Nat.lcm m c.2.toNat) m = ((cs.filter fun c => c.1 != 0).map fun c => c.2.toNat).foldl Nat.lcm m
  | [], m => rfl
  | c :: cs, m => by
    rw [List.foldl_cons, List.filter_cons]
    by_cases z : c.1 = 0
    · rw [if_pos z, if_neg (by simp [z])]
      exact per_fold cs m
    · rw [if_neg z, if_pos (by simp [z]), List.map_cons, List.foldl_cons]
      exact per_fold cs _
theorem l_period {cs : List (Nat × Int)} (h4 : ∀ c ∈ cs, c.1 ≤ 3) (hl : cs.length ≤ 1000) (h1 : ∀ c ∈ cs, 1 ≤ c.2 ∧ c.2 ≤ 24) {s : List Sl} {f : FE} (hf : f s = .ok (.lst (cs.map codeS))) : fCall g__law_multiple [] (fCons (fCall g__law_sizes [] (fCons f fNil)) fNil) s = .ok (natI (perL cs)) := by
  have M := mult_ok (ms := (cs.filter fun c => c.1 != 0).map fun c => c.2.toNat) (fun m hm => by
    obtain ⟨c, hc, rfl⟩ := List.mem_map.mp hm
    have := h1 c (List.mem_filter.mp hc).1
    omega)
  refine e_call1 (e_call1 hf (l_sizes h4 hl)) ?_
  have e : ((cs.filter fun c => c.1 != 0).map fun c => D.int c.2) = ((cs.filter fun c => c.1 != 0).map fun c => c.2.toNat).map fun n : Nat => D.int n := by
    rw [List.map_map]
    apply List.map_congr_left
    intro c hc
    have := h1 c (List.mem_filter.mp hc).1
    show D.int c.2 = D.int ((c.2.toNat : Nat) : Int)
    rw [show ((c.2.toNat : Nat) : Int) = c.2 by omega]
  rw [e]
  refine M.trans ?_
  unfold perL
  rw [per_fold]
theorem s_moved {l : List (List Nat × List Nat)} {b far : Nat} (hl : l.length ≤ 100000) (h : ∀ p ∈ l, p.1.length ≤ 100 ∧ p.2.length ≤ 100) : g__law_moved [.lst (l.map (reaD b)), natI far] = .ok (.lst (l.map (reaD (b + far)))) := by
  refine e_fdef rfl ?_
  unfold f__law_moved
  have st : startD 5 [.lst (l.map (reaD b)), natI far] = [.v (.lst (l.map (reaD b))), .v (natI far), .un, .un, .un] := rfl
  rw [st]
  refine e_seq_rt (e_zRet ?_)
  refine e_lc (xs := l.map (reaD b)) rfl (by rw [List.length_map]; omega) (comp_mapS fun p hp => ⟨_, rfl, ?_⟩)
  obtain ⟨h1, h2⟩ := h p hp
  have ROW : ∀ (f : FE) (r : List Nat) (s : List Sl), r.length ≤ 100 → jVal f s = .ok ((r.map fun k => b + k).map natI) → (∀ k, fVar 1 ((wipeD s [2]).set 2 (.v (natI k))) = .ok (natI far) ∧ fVar 2 ((wipeD s [2]).set 2 (.v (natI k))) = .ok (natI k)) → fLc (jVal f) (.nm 2) fYes (fBin pAdd (fVar 2) (fVar 1)) [2] s = .ok (natsD (r.map fun k => b + far + k)) := fun f r s hr h1 h3 => by
    refine (e_lc h1 (by rw [List.length_map, List.length_map]; omega) (comp_mapG (g := natI) (f := fun k => natI (k + far)) fun k hk => e_bin (h3 k).2 (h3 k).1 ?_)).trans ?_
    · show Res.ok (D.int ((k : Int) + (far : Int))) = _
      rw [← Int.natCast_add]
    · show Res.ok (D.lst _) = Res.ok (D.lst _)
      rw [List.map_map, List.map_map]
      congr 3
      funext k
      show natI (b + k + far) = natI (b + far + k)
      exact congrArg natI (show b + k + far = b + far + k by omega)
  exact e_tup (e_args2 (ROW _ p.1 _ h1 rfl fun k => ⟨rfl, rfl⟩) (ROW _ p.2 _ h2 rfl fun k => ⟨rfl, rfl⟩)) (by show 2 ≤ 1000; decide)
theorem flat_le {α β : Type} {f : α → List β} {M : Nat} : ∀ {l : List α}, (∀ a ∈ l, (f a).length ≤ M) → ((l.map f).flatten).length ≤ l.length * M
  | [], _ => by simp
  | a :: l, h => by
    rw [List.map_cons, List.flatten_cons, List.length_append, List.length_cons, Nat.succ_mul]
    have h1 := h a (List.mem_cons_self ..)
    have h2 := flat_le (f := f) (M := M) fun b hb => h b (List.mem_cons_of_mem _ hb)
    omega
theorem reas_len {v : List Nat → Nat} {L : Nat} (hL : L ≤ 24) : (sortR (reasN v L)).length ≤ 100000 := by
  unfold sortR
  rw [List.length_mergeSort]
  unfold reasN
  have h := flat_le (f := fun sg => ((blanksN (v sg) L).filter fun bl => leastN v sg bl).map fun bl => (sg, bl)) (M := 24) (l := sigs L) fun sg _ => by
    rw [List.length_map]
    exact Nat.le_trans (List.length_filter_le _ _) (blanks_len hL)
  have := sigs_len hL
  omega
theorem reas_mem {v : List Nat → Nat} {L : Nat} {p : List Nat × List Nat} (h : p ∈ sortR (reasN v L)) : p.1.length ≤ 100 ∧ p.2.length ≤ 100 := by
  unfold sortR at h
  have h := List.mem_mergeSort.mp h
  unfold reasN at h
  obtain ⟨l, hl, hp⟩ := List.mem_flatten.mp h
  obtain ⟨sg, hs, rfl⟩ := List.mem_map.mp hl
  obtain ⟨bl, hb, rfl⟩ := List.mem_map.mp hp
  have hb := (List.mem_filter.mp hb).1
  refine ⟨Nat.le_trans (sigs_lt hs).2 (by decide), ?_⟩
  unfold blanksN at hb
  split at hb
  · rw [List.mem_singleton.mp hb]
    exact Nat.zero_le _
  · obtain ⟨k, _, rfl⟩ := List.mem_map.mp hb
    show 1 ≤ 100
    omega
theorem sim_nats (b : Nat) (r : List Nat) : sim 7 (natsD (r.map fun k => b + k)) = true := by
  show selfDs _ 6 ((r.map fun k => b + k).map natI) = true
  exact sims_map fun k _ => rfl
theorem sim_rea (b : Nat) (p : List Nat × List Nat) : sim 8 (reaD b p) = true := by
  show selfDs _ 7 [natsD (p.1.map fun k => b + k), natsD (p.2.map fun k => b + k)] = true
  have h1 := sim_nats b p.1
  have h2 := sim_nats b p.2
  unfold sim at h1 h2
  simp only [selfDs, h1, h2, Bool.and_self]
theorem ne_reas (b : Nat) (l : List (List Nat × List Nat)) : pNeT TQ 10 (.lst (l.map (reaD b))) (.lst (l.map (reaD b))) = .ok (.bl false) := by
  have h : sim 9 (.lst (l.map (reaD b))) = true := by
    show selfDs _ 8 (l.map (reaD b)) = true
    exact sims_map fun p _ => sim_rea b p
  have ok := okE_self (T := TQ) (k := 1) (ob := fun _ => false) (fun _ z => by cases z) h
  exact ne_of (b := true) ok (eqD_rf (sim_rf h))
end K13
set_option Elab.async false
set_option linter.all false
set_option exponentiation.threshold 4000
set_option maxRecDepth 100000
set_option maxHeartbeats 1000000
namespace K13
open PySem PySem.Spec L2 Dl Dl.Hd Res
theorem law_ok (ns : List Int) : (g_law [.scr ns]).wp (fun d => d = .bl true) NoX := by
  refine w_def rfl ?_
  unfold f_law
  generalize hin : zSeq (zPar2 7 8 _) _ = inn
  refine w_seq ?_
  simp only [fVar,fC,fBin,fNil,fCons,fTup,fLst,fONone,fOSome,fSl,fVal,fTru,fNotT,fAndT,fOrT,fNot,fAnd,fOr,fIfE,fB,fM1,fCall,fMeth,fMake,fProp,fFld,fXf,fNeg,fRepl,fFr,frzS,frz1,flatD,fFrT,jVal,jR1,jR2,jR3,jEnumL,fYes,fLc,zAsg,zOwn,zOwnL,zDrop,zApp,zRet,zRetN,zRetL,zRetOwn,zIf,zBreak,zCont,zRaise,zTg,zPar2,zPar3,zFld,zSetSl,zFor,zTry,setTF,setM,fDef,fIni,fPur,startD,Dl.isNon,plainB,wipeD,fChain,hNil,hCons,jEnumS,fOpO,fIxO,jObj,zOwnE,zPar2E,zTg3E,zOwnN,zPar2N,zTg3N,zSetIx,fRev,fRevS,fLR1,fLR2,fCallK,fBor,fBorT,e_asI,e_asB,e_tru_non,e_tru_bl,e_tru_int,e_tru_str,e_tru_lst,e_tru_tup,e_tru_scr,e_sl_lst,e_sl_str,e_sl_tup,e_some,e_none,e_it_lst,e_it_tup,e_it_str,e_it_scr,e_r1,e_r2,e_en,e_thenS_nx,e_thenS_rt,e_thenS_rn,e_thenS_bk,e_thenS_cn,e_thenS_ex,e_afterS_nx,e_afterS_rt,e_afterS_rn,e_afterS_bk,e_afterS_cn,e_afterS_ex,e_su_nx,e_su_rt,e_su_bk,e_su_cn,e_ca_nx,e_ca_bk,e_ca_cn,e_ca_rt,e_ca_ex,e_end_nx,e_end_rt,e_end_rn,e_end_ex,e_endN_rn,e_endN_ex,e_endI_ex,e_endI_nx,e_len_str,e_len_lst,e_len_tup,e_len_scr,e_list_lst,e_list_tup,e_list_scr,e_list_str,e_tuple_lst,e_tuple_tup,e_int_int,e_int_bl,e_bool_int,e_bool_bl,e_sum,e_all,e_any,e_min,e_max,e_join_l,e_join_t,e_count,e_strip,e_split,e_add_i,e_add_s,e_add_l,e_add_t,e_sub,e_mul_i,e_mul_s,e_mul_l,e_mul_t,e_is_bl,e_not_bl,e_mod,e_div,e_pow,e_cmp,e_isN_non,e_notN_non,e_isN_bl,e_notN_bl,e_isN_int,e_notN_int,e_isN_str,e_notN_str,e_isN_lst,e_notN_lst,e_isN_tup,e_notN_tup,e_isN_obj,e_notN_obj,e_isN_scr,e_notN_scr,e_isN_tok,e_notN_tok,e_ix_l,e_ix_t,e_ix_s,e_ix_n,e_in1,e_kBl,e_enS,e_repl,e_neg,e_gcd,e_lcm,e_lenO_str,e_lenO_lst,e_lenO_tup,e_lenO_scr,e_op_int,e_op_str,e_op_lst,e_op_tup,e_ixO_str,e_ixO_scr,e_ixO_lst,e_ixO_tup,e_it_lst',e_it_tup',e_it_str',e_rev,e_revS,e_lr1,e_lr2,e_sorted,e_ownF_lst,e_ownF_non,e_par2F,e_triF,e_setIx,lis_cons,lis_nil,lisO_un,lisO_int,lisO_str,lisO_bl,lisO_non,w_sx,w_nil,w_ok,w_exc,w_bad,wp_bind,wp_noex,wp_cat,wp_need,true_and,and_true,bind_ok,bind_exc,bind_bad,bind_ask,cat,noex,reduceIte,Nat.reduceEqDiff,if_true,if_false,Bool.false_eq_true,List.getElem?_cons_zero,List.getElem?_cons_succ,List.map_cons,List.map_nil,List.replicate,List.cons_append,List.nil_append,List.append_nil,List.length_cons,List.length_nil,List.set_cons_zero,List.set_cons_succ]
  refine ⟨⟨by decide, by decide⟩, ?_⟩
  refine wp_forAll (fun s => ∃ a1 a2 a3 a4 a5 a6 a7 a8 : Sl, s = [.v (.scr ns), a1, a2, a3, a4, a5, a6, a7, a8]) ⟨_, _, _, _, _, _, _, _, rfl⟩ ?_ ?_
  · rintro _ ⟨a1, a2, a3, a4, a5, a6, a7, a8, rfl⟩
    simp only [fVar,fC,fBin,fNil,fCons,fTup,fLst,fONone,fOSome,fSl,fVal,fTru,fNotT,fAndT,fOrT,fNot,fAnd,fOr,fIfE,fB,fM1,fCall,fMeth,fMake,fProp,fFld,fXf,fNeg,fRepl,fFr,frzS,frz1,flatD,fFrT,jVal,jR1,jR2,jR3,jEnumL,fYes,fLc,zAsg,zOwn,zOwnL,zDrop,zApp,zRet,zRetN,zRetL,zRetOwn,zIf,zBreak,zCont,zRaise,zTg,zPar2,zPar3,zFld,zSetSl,zFor,zTry,setTF,setM,fDef,fIni,fPur,startD,Dl.isNon,plainB,wipeD,fChain,hNil,hCons,jEnumS,fOpO,fIxO,jObj,zOwnE,zPar2E,zTg3E,zOwnN,zPar2N,zTg3N,zSetIx,fRev,fRevS,fLR1,fLR2,fCallK,fBor,fBorT,e_asI,e_asB,e_tru_non,e_tru_bl,e_tru_int,e_tru_str,e_tru_lst,e_tru_tup,e_tru_scr,e_sl_lst,e_sl_str,e_sl_tup,e_some,e_none,e_it_lst,e_it_tup,e_it_str,e_it_scr,e_r1,e_r2,e_en,e_thenS_nx,e_thenS_rt,e_thenS_rn,e_thenS_bk,e_thenS_cn,e_thenS_ex,e_afterS_nx,e_afterS_rt,e_afterS_rn,e_afterS_bk,e_afterS_cn,e_afterS_ex,e_su_nx,e_su_rt,e_su_bk,e_su_cn,e_ca_nx,e_ca_bk,e_ca_cn,e_ca_rt,e_ca_ex,e_end_nx,e_end_rt,e_end_rn,e_end_ex,e_endN_rn,e_endN_ex,e_endI_ex,e_endI_nx,e_len_str,e_len_lst,e_len_tup,e_len_scr,e_list_lst,e_list_tup,e_list_scr,e_list_str,e_tuple_lst,e_tuple_tup,e_int_int,e_int_bl,e_bool_int,e_bool_bl,e_sum,e_all,e_any,e_min,e_max,e_join_l,e_join_t,e_count,e_strip,e_split,e_add_i,e_add_s,e_add_l,e_add_t,e_sub,e_mul_i,e_mul_s,e_mul_l,e_mul_t,e_is_bl,e_not_bl,e_mod,e_div,e_pow,e_cmp,e_isN_non,e_notN_non,e_isN_bl,e_notN_bl,e_isN_int,e_notN_int,e_isN_str,e_notN_str,e_isN_lst,e_notN_lst,e_isN_tup,e_notN_tup,e_isN_obj,e_notN_obj,e_isN_scr,e_notN_scr,e_isN_tok,e_notN_tok,e_ix_l,e_ix_t,e_ix_s,e_ix_n,e_in1,e_kBl,e_enS,e_repl,e_neg,e_gcd,e_lcm,e_lenO_str,e_lenO_lst,e_lenO_tup,e_lenO_scr,e_op_int,e_op_str,e_op_lst,e_op_tup,e_ixO_str,e_ixO_scr,e_ixO_lst,e_ixO_tup,e_it_lst',e_it_tup',e_it_str',e_rev,e_revS,e_lr1,e_lr2,e_sorted,e_ownF_lst,e_ownF_non,e_par2F,e_triF,e_setIx,lis_cons,lis_nil,lisO_un,lisO_int,lisO_str,lisO_bl,lisO_non,w_sx,w_nil,w_ok,w_exc,w_bad,wp_bind,wp_noex,wp_cat,wp_need,true_and,and_true,bind_ok,bind_exc,bind_bad,bind_ask,cat,noex,reduceIte,Nat.reduceEqDiff,if_true,if_false,Bool.false_eq_true,List.getElem?_cons_zero,List.getElem?_cons_succ,List.map_cons,List.map_nil,List.replicate,List.cons_append,List.nil_append,List.append_nil,List.length_cons,List.length_nil,List.set_cons_zero,List.set_cons_succ]
    exact w_eq (r := Fl.rt (D.bl true)) (e_seq_rt rfl) (show D.bl true = D.bl true from rfl)
  · rintro d hd _ ⟨a1, a2, a3, a4, a5, a6, a7, a8, rfl⟩
    obtain ⟨t, t0, t1, rfl⟩ : ∃ t : Int, 0 ≤ t ∧ t ≤ 1 ∧ d = .int t := by
      obtain ⟨i, hi, rfl⟩ := List.mem_map.mp hd
      have := List.mem_range.mp hi
      have h2 : i < 2 := this
      exact ⟨0 + (i : Nat), by omega, by omega, rfl⟩
    refine ⟨_, rfl, ?_⟩
    simp only [List.set_cons_zero, List.set_cons_succ]
    refine w_seq ?_
    simp only [fVar,fC,fBin,fNil,fCons,fTup,fLst,fONone,fOSome,fSl,fVal,fTru,fNotT,fAndT,fOrT,fNot,fAnd,fOr,fIfE,fB,fM1,fCall,fMeth,fMake,fProp,fFld,fXf,fNeg,fRepl,fFr,frzS,frz1,flatD,fFrT,jVal,jR1,jR2,jR3,jEnumL,fYes,fLc,zAsg,zOwn,zOwnL,zDrop,zApp,zRet,zRetN,zRetL,zRetOwn,zIf,zBreak,zCont,zRaise,zTg,zPar2,zPar3,zFld,zSetSl,zFor,zTry,setTF,setM,fDef,fIni,fPur,startD,Dl.isNon,plainB,wipeD,fChain,hNil,hCons,jEnumS,fOpO,fIxO,jObj,zOwnE,zPar2E,zTg3E,zOwnN,zPar2N,zTg3N,zSetIx,fRev,fRevS,fLR1,fLR2,fCallK,fBor,fBorT,e_asI,e_asB,e_tru_non,e_tru_bl,e_tru_int,e_tru_str,e_tru_lst,e_tru_tup,e_tru_scr,e_sl_lst,e_sl_str,e_sl_tup,e_some,e_none,e_it_lst,e_it_tup,e_it_str,e_it_scr,e_r1,e_r2,e_en,e_thenS_nx,e_thenS_rt,e_thenS_rn,e_thenS_bk,e_thenS_cn,e_thenS_ex,e_afterS_nx,e_afterS_rt,e_afterS_rn,e_afterS_bk,e_afterS_cn,e_afterS_ex,e_su_nx,e_su_rt,e_su_bk,e_su_cn,e_ca_nx,e_ca_bk,e_ca_cn,e_ca_rt,e_ca_ex,e_end_nx,e_end_rt,e_end_rn,e_end_ex,e_endN_rn,e_endN_ex,e_endI_ex,e_endI_nx,e_len_str,e_len_lst,e_len_tup,e_len_scr,e_list_lst,e_list_tup,e_list_scr,e_list_str,e_tuple_lst,e_tuple_tup,e_int_int,e_int_bl,e_bool_int,e_bool_bl,e_sum,e_all,e_any,e_min,e_max,e_join_l,e_join_t,e_count,e_strip,e_split,e_add_i,e_add_s,e_add_l,e_add_t,e_sub,e_mul_i,e_mul_s,e_mul_l,e_mul_t,e_is_bl,e_not_bl,e_mod,e_div,e_pow,e_cmp,e_isN_non,e_notN_non,e_isN_bl,e_notN_bl,e_isN_int,e_notN_int,e_isN_str,e_notN_str,e_isN_lst,e_notN_lst,e_isN_tup,e_notN_tup,e_isN_obj,e_notN_obj,e_isN_scr,e_notN_scr,e_isN_tok,e_notN_tok,e_ix_l,e_ix_t,e_ix_s,e_ix_n,e_in1,e_kBl,e_enS,e_repl,e_neg,e_gcd,e_lcm,e_lenO_str,e_lenO_lst,e_lenO_tup,e_lenO_scr,e_op_int,e_op_str,e_op_lst,e_op_tup,e_ixO_str,e_ixO_scr,e_ixO_lst,e_ixO_tup,e_it_lst',e_it_tup',e_it_str',e_rev,e_revS,e_lr1,e_lr2,e_sorted,e_ownF_lst,e_ownF_non,e_par2F,e_triF,e_setIx,lis_cons,lis_nil,lisO_un,lisO_int,lisO_str,lisO_bl,lisO_non,w_sx,w_nil,w_ok,w_exc,w_bad,wp_bind,wp_noex,wp_cat,wp_need,true_and,and_true,bind_ok,bind_exc,bind_bad,bind_ask,cat,noex,reduceIte,Nat.reduceEqDiff,if_true,if_false,Bool.false_eq_true,List.getElem?_cons_zero,List.getElem?_cons_succ,List.map_cons,List.map_nil,List.replicate,List.cons_append,List.nil_append,List.append_nil,List.length_cons,List.length_nil,List.set_cons_zero,List.set_cons_succ]
    refine wp_mono ?_ (fun _ _ z => z) (purse_ok (ns := ns) (at_ := t) (by omega) (by omega))
    rintro _ rfl
    refine w_seq ?_
    simp only [fVar,fC,fBin,fNil,fCons,fTup,fLst,fONone,fOSome,fSl,fVal,fTru,fNotT,fAndT,fOrT,fNot,fAnd,fOr,fIfE,fB,fM1,fCall,fMeth,fMake,fProp,fFld,fXf,fNeg,fRepl,fFr,frzS,frz1,flatD,fFrT,jVal,jR1,jR2,jR3,jEnumL,fYes,fLc,zAsg,zOwn,zOwnL,zDrop,zApp,zRet,zRetN,zRetL,zRetOwn,zIf,zBreak,zCont,zRaise,zTg,zPar2,zPar3,zFld,zSetSl,zFor,zTry,setTF,setM,fDef,fIni,fPur,startD,Dl.isNon,plainB,wipeD,fChain,hNil,hCons,jEnumS,fOpO,fIxO,jObj,zOwnE,zPar2E,zTg3E,zOwnN,zPar2N,zTg3N,zSetIx,fRev,fRevS,fLR1,fLR2,fCallK,fBor,fBorT,e_asI,e_asB,e_tru_non,e_tru_bl,e_tru_int,e_tru_str,e_tru_lst,e_tru_tup,e_tru_scr,e_sl_lst,e_sl_str,e_sl_tup,e_some,e_none,e_it_lst,e_it_tup,e_it_str,e_it_scr,e_r1,e_r2,e_en,e_thenS_nx,e_thenS_rt,e_thenS_rn,e_thenS_bk,e_thenS_cn,e_thenS_ex,e_afterS_nx,e_afterS_rt,e_afterS_rn,e_afterS_bk,e_afterS_cn,e_afterS_ex,e_su_nx,e_su_rt,e_su_bk,e_su_cn,e_ca_nx,e_ca_bk,e_ca_cn,e_ca_rt,e_ca_ex,e_end_nx,e_end_rt,e_end_rn,e_end_ex,e_endN_rn,e_endN_ex,e_endI_ex,e_endI_nx,e_len_str,e_len_lst,e_len_tup,e_len_scr,e_list_lst,e_list_tup,e_list_scr,e_list_str,e_tuple_lst,e_tuple_tup,e_int_int,e_int_bl,e_bool_int,e_bool_bl,e_sum,e_all,e_any,e_min,e_max,e_join_l,e_join_t,e_count,e_strip,e_split,e_add_i,e_add_s,e_add_l,e_add_t,e_sub,e_mul_i,e_mul_s,e_mul_l,e_mul_t,e_is_bl,e_not_bl,e_mod,e_div,e_pow,e_cmp,e_isN_non,e_notN_non,e_isN_bl,e_notN_bl,e_isN_int,e_notN_int,e_isN_str,e_notN_str,e_isN_lst,e_notN_lst,e_isN_tup,e_notN_tup,e_isN_obj,e_notN_obj,e_isN_scr,e_notN_scr,e_isN_tok,e_notN_tok,e_ix_l,e_ix_t,e_ix_s,e_ix_n,e_in1,e_kBl,e_enS,e_repl,e_neg,e_gcd,e_lcm,e_lenO_str,e_lenO_lst,e_lenO_tup,e_lenO_scr,e_op_int,e_op_str,e_op_lst,e_op_tup,e_ixO_str,e_ixO_scr,e_ixO_lst,e_ixO_tup,e_it_lst',e_it_tup',e_it_str',e_rev,e_revS,e_lr1,e_lr2,e_sorted,e_ownF_lst,e_ownF_non,e_par2F,e_triF,e_setIx,lis_cons,lis_nil,lisO_un,lisO_int,lisO_str,lisO_bl,lisO_non,w_sx,w_nil,w_ok,w_exc,w_bad,wp_bind,wp_noex,wp_cat,wp_need,true_and,and_true,bind_ok,bind_exc,bind_bad,bind_ask,cat,noex,reduceIte,Nat.reduceEqDiff,if_true,if_false,Bool.false_eq_true,List.getElem?_cons_zero,List.getElem?_cons_succ,List.map_cons,List.map_nil,List.replicate,List.cons_append,List.nil_append,List.append_nil,List.length_cons,List.length_nil,List.set_cons_zero,List.set_cons_succ]
    refine wp_mono ?_ (fun _ _ z => z) great_ok
    rintro _ ⟨l, hl, rfl⟩
    obtain ⟨l1, l2, M, M0, M1, hr⟩ := greats_ok l hl
    refine wp_mono ?_ (fun _ _ z => z) (few_ok l1 l2)
    rintro _ ⟨cs, rfl, ncs, hcs⟩
    have q : (24 : Int) < 2 ^ 240 := by decide +kernel
    have okc : ∀ c ∈ cs, okS c := fun c hc _ => by have := hr _ (hcs c hc).2; omega
    have okb : ∀ c ∈ cs, c.1 ≤ 3 ∧ (c.1 ≠ 0 → 1 ≤ c.2) := fun c hc => ⟨(hcs c hc).1, fun z => (okc c hc z).1⟩
    have dM : divs cs M := fun c hc _ => (hr _ (hcs c hc).2).2.2
    have LS := law_script (cs := cs) (by omega) okb
    have N0 := per_pos M0 dM
    have N1 : perL cs ≤ 24 := Nat.le_trans (Nat.le_of_dvd M0 (per_div dM)) M1
    refine w_next (s' := [.v (.scr ns), .v (.int t), .v (.tok 0), .v (.lst (cs.map codeS)), .v (scrD cs), a5, a6, a7, a8]) (e_zAsg (e_call1 rfl LS)) ?_
    refine w_next (s' := [.v (.scr ns), .v (.int t), .v (.tok 0), .v (.lst (cs.map codeS)), .v (scrD cs), .v (natI (perL cs)), a6, a7, a8]) (e_zAsg (l_period (fun c hc => (hcs c hc).1) (by omega) (fun c hc => by have := hr _ (hcs c hc).2; omega) rfl)) ?_
    refine w_seq ?_
    simp only [fVar,fC,fBin,fNil,fCons,fTup,fLst,fONone,fOSome,fSl,fVal,fTru,fNotT,fAndT,fOrT,fNot,fAnd,fOr,fIfE,fB,fM1,fCall,fMeth,fMake,fProp,fFld,fXf,fNeg,fRepl,fFr,frzS,frz1,flatD,fFrT,jVal,jR1,jR2,jR3,jEnumL,fYes,fLc,zAsg,zOwn,zOwnL,zDrop,zApp,zRet,zRetN,zRetL,zRetOwn,zIf,zBreak,zCont,zRaise,zTg,zPar2,zPar3,zFld,zSetSl,zFor,zTry,setTF,setM,fDef,fIni,fPur,startD,Dl.isNon,plainB,wipeD,fChain,hNil,hCons,jEnumS,fOpO,fIxO,jObj,zOwnE,zPar2E,zTg3E,zOwnN,zPar2N,zTg3N,zSetIx,fRev,fRevS,fLR1,fLR2,fCallK,fBor,fBorT,e_asI,e_asB,e_tru_non,e_tru_bl,e_tru_int,e_tru_str,e_tru_lst,e_tru_tup,e_tru_scr,e_sl_lst,e_sl_str,e_sl_tup,e_some,e_none,e_it_lst,e_it_tup,e_it_str,e_it_scr,e_r1,e_r2,e_en,e_thenS_nx,e_thenS_rt,e_thenS_rn,e_thenS_bk,e_thenS_cn,e_thenS_ex,e_afterS_nx,e_afterS_rt,e_afterS_rn,e_afterS_bk,e_afterS_cn,e_afterS_ex,e_su_nx,e_su_rt,e_su_bk,e_su_cn,e_ca_nx,e_ca_bk,e_ca_cn,e_ca_rt,e_ca_ex,e_end_nx,e_end_rt,e_end_rn,e_end_ex,e_endN_rn,e_endN_ex,e_endI_ex,e_endI_nx,e_len_str,e_len_lst,e_len_tup,e_len_scr,e_list_lst,e_list_tup,e_list_scr,e_list_str,e_tuple_lst,e_tuple_tup,e_int_int,e_int_bl,e_bool_int,e_bool_bl,e_sum,e_all,e_any,e_min,e_max,e_join_l,e_join_t,e_count,e_strip,e_split,e_add_i,e_add_s,e_add_l,e_add_t,e_sub,e_mul_i,e_mul_s,e_mul_l,e_mul_t,e_is_bl,e_not_bl,e_mod,e_div,e_pow,e_cmp,e_isN_non,e_notN_non,e_isN_bl,e_notN_bl,e_isN_int,e_notN_int,e_isN_str,e_notN_str,e_isN_lst,e_notN_lst,e_isN_tup,e_notN_tup,e_isN_obj,e_notN_obj,e_isN_scr,e_notN_scr,e_isN_tok,e_notN_tok,e_ix_l,e_ix_t,e_ix_s,e_ix_n,e_in1,e_kBl,e_enS,e_repl,e_neg,e_gcd,e_lcm,e_lenO_str,e_lenO_lst,e_lenO_tup,e_lenO_scr,e_op_int,e_op_str,e_op_lst,e_op_tup,e_ixO_str,e_ixO_scr,e_ixO_lst,e_ixO_tup,e_it_lst',e_it_tup',e_it_str',e_rev,e_revS,e_lr1,e_lr2,e_sorted,e_ownF_lst,e_ownF_non,e_par2F,e_triF,e_setIx,lis_cons,lis_nil,lisO_un,lisO_int,lisO_str,lisO_bl,lisO_non,w_sx,w_nil,w_ok,w_exc,w_bad,wp_bind,wp_noex,wp_cat,wp_need,true_and,and_true,bind_ok,bind_exc,bind_bad,bind_ask,cat,noex,reduceIte,Nat.reduceEqDiff,if_true,if_false,Bool.false_eq_true,List.getElem?_cons_zero,List.getElem?_cons_succ,List.map_cons,List.map_nil,List.replicate,List.cons_append,List.nil_append,List.append_nil,List.length_cons,List.length_nil,List.set_cons_zero,List.set_cons_succ]
    refine ⟨⟨by decide, by decide⟩, ?_⟩
    refine wp_forAll (fun s => ∃ a6 a7 a8 : Sl, s = [.v (.scr ns), .v (.int t), .v (.tok 0), .v (.lst (cs.map codeS)), .v (scrD cs), .v (natI (perL cs)), a6, a7, a8]) ⟨_, _, _, rfl⟩ ?_ ?_
    · rintro _ ⟨a6, a7, a8, rfl⟩
      simp only [fVar,fC,fBin,fNil,fCons,fTup,fLst,fONone,fOSome,fSl,fVal,fTru,fNotT,fAndT,fOrT,fNot,fAnd,fOr,fIfE,fB,fM1,fCall,fMeth,fMake,fProp,fFld,fXf,fNeg,fRepl,fFr,frzS,frz1,flatD,fFrT,jVal,jR1,jR2,jR3,jEnumL,fYes,fLc,zAsg,zOwn,zOwnL,zDrop,zApp,zRet,zRetN,zRetL,zRetOwn,zIf,zBreak,zCont,zRaise,zTg,zPar2,zPar3,zFld,zSetSl,zFor,zTry,setTF,setM,fDef,fIni,fPur,startD,Dl.isNon,plainB,wipeD,fChain,hNil,hCons,jEnumS,fOpO,fIxO,jObj,zOwnE,zPar2E,zTg3E,zOwnN,zPar2N,zTg3N,zSetIx,fRev,fRevS,fLR1,fLR2,fCallK,fBor,fBorT,e_asI,e_asB,e_tru_non,e_tru_bl,e_tru_int,e_tru_str,e_tru_lst,e_tru_tup,e_tru_scr,e_sl_lst,e_sl_str,e_sl_tup,e_some,e_none,e_it_lst,e_it_tup,e_it_str,e_it_scr,e_r1,e_r2,e_en,e_thenS_nx,e_thenS_rt,e_thenS_rn,e_thenS_bk,e_thenS_cn,e_thenS_ex,e_afterS_nx,e_afterS_rt,e_afterS_rn,e_afterS_bk,e_afterS_cn,e_afterS_ex,e_su_nx,e_su_rt,e_su_bk,e_su_cn,e_ca_nx,e_ca_bk,e_ca_cn,e_ca_rt,e_ca_ex,e_end_nx,e_end_rt,e_end_rn,e_end_ex,e_endN_rn,e_endN_ex,e_endI_ex,e_endI_nx,e_len_str,e_len_lst,e_len_tup,e_len_scr,e_list_lst,e_list_tup,e_list_scr,e_list_str,e_tuple_lst,e_tuple_tup,e_int_int,e_int_bl,e_bool_int,e_bool_bl,e_sum,e_all,e_any,e_min,e_max,e_join_l,e_join_t,e_count,e_strip,e_split,e_add_i,e_add_s,e_add_l,e_add_t,e_sub,e_mul_i,e_mul_s,e_mul_l,e_mul_t,e_is_bl,e_not_bl,e_mod,e_div,e_pow,e_cmp,e_isN_non,e_notN_non,e_isN_bl,e_notN_bl,e_isN_int,e_notN_int,e_isN_str,e_notN_str,e_isN_lst,e_notN_lst,e_isN_tup,e_notN_tup,e_isN_obj,e_notN_obj,e_isN_scr,e_notN_scr,e_isN_tok,e_notN_tok,e_ix_l,e_ix_t,e_ix_s,e_ix_n,e_in1,e_kBl,e_enS,e_repl,e_neg,e_gcd,e_lcm,e_lenO_str,e_lenO_lst,e_lenO_tup,e_lenO_scr,e_op_int,e_op_str,e_op_lst,e_op_tup,e_ixO_str,e_ixO_scr,e_ixO_lst,e_ixO_tup,e_it_lst',e_it_tup',e_it_str',e_rev,e_revS,e_lr1,e_lr2,e_sorted,e_ownF_lst,e_ownF_non,e_par2F,e_triF,e_setIx,lis_cons,lis_nil,lisO_un,lisO_int,lisO_str,lisO_bl,lisO_non,w_sx,w_nil,w_ok,w_exc,w_bad,wp_bind,wp_noex,wp_cat,wp_need,true_and,and_true,bind_ok,bind_exc,bind_bad,bind_ask,cat,noex,reduceIte,Nat.reduceEqDiff,if_true,if_false,Bool.false_eq_true,List.getElem?_cons_zero,List.getElem?_cons_succ,List.map_cons,List.map_nil,List.replicate,List.cons_append,List.nil_append,List.append_nil,List.length_cons,List.length_nil,List.set_cons_zero,List.set_cons_succ]
      exact ⟨_, _, _, _, _, _, _, _, rfl⟩
    · rintro d hd _ ⟨a6, a7, a8, rfl⟩
      refine ⟨_, rfl, ?_⟩
      simp only [List.set_cons_zero, List.set_cons_succ]
      rw [← hin]
      refine w_seq ?_
      simp only [fVar,fC,fBin,fNil,fCons,fTup,fLst,fONone,fOSome,fSl,fVal,fTru,fNotT,fAndT,fOrT,fNot,fAnd,fOr,fIfE,fB,fM1,fCall,fMeth,fMake,fProp,fFld,fXf,fNeg,fRepl,fFr,frzS,frz1,flatD,fFrT,jVal,jR1,jR2,jR3,jEnumL,fYes,fLc,zAsg,zOwn,zOwnL,zDrop,zApp,zRet,zRetN,zRetL,zRetOwn,zIf,zBreak,zCont,zRaise,zTg,zPar2,zPar3,zFld,zSetSl,zFor,zTry,setTF,setM,fDef,fIni,fPur,startD,Dl.isNon,plainB,wipeD,fChain,hNil,hCons,jEnumS,fOpO,fIxO,jObj,zOwnE,zPar2E,zTg3E,zOwnN,zPar2N,zTg3N,zSetIx,fRev,fRevS,fLR1,fLR2,fCallK,fBor,fBorT,e_asI,e_asB,e_tru_non,e_tru_bl,e_tru_int,e_tru_str,e_tru_lst,e_tru_tup,e_tru_scr,e_sl_lst,e_sl_str,e_sl_tup,e_some,e_none,e_it_lst,e_it_tup,e_it_str,e_it_scr,e_r1,e_r2,e_en,e_thenS_nx,e_thenS_rt,e_thenS_rn,e_thenS_bk,e_thenS_cn,e_thenS_ex,e_afterS_nx,e_afterS_rt,e_afterS_rn,e_afterS_bk,e_afterS_cn,e_afterS_ex,e_su_nx,e_su_rt,e_su_bk,e_su_cn,e_ca_nx,e_ca_bk,e_ca_cn,e_ca_rt,e_ca_ex,e_end_nx,e_end_rt,e_end_rn,e_end_ex,e_endN_rn,e_endN_ex,e_endI_ex,e_endI_nx,e_len_str,e_len_lst,e_len_tup,e_len_scr,e_list_lst,e_list_tup,e_list_scr,e_list_str,e_tuple_lst,e_tuple_tup,e_int_int,e_int_bl,e_bool_int,e_bool_bl,e_sum,e_all,e_any,e_min,e_max,e_join_l,e_join_t,e_count,e_strip,e_split,e_add_i,e_add_s,e_add_l,e_add_t,e_sub,e_mul_i,e_mul_s,e_mul_l,e_mul_t,e_is_bl,e_not_bl,e_mod,e_div,e_pow,e_cmp,e_isN_non,e_notN_non,e_isN_bl,e_notN_bl,e_isN_int,e_notN_int,e_isN_str,e_notN_str,e_isN_lst,e_notN_lst,e_isN_tup,e_notN_tup,e_isN_obj,e_notN_obj,e_isN_scr,e_notN_scr,e_isN_tok,e_notN_tok,e_ix_l,e_ix_t,e_ix_s,e_ix_n,e_in1,e_kBl,e_enS,e_repl,e_neg,e_gcd,e_lcm,e_lenO_str,e_lenO_lst,e_lenO_tup,e_lenO_scr,e_op_int,e_op_str,e_op_lst,e_op_tup,e_ixO_str,e_ixO_scr,e_ixO_lst,e_ixO_tup,e_it_lst',e_it_tup',e_it_str',e_rev,e_revS,e_lr1,e_lr2,e_sorted,e_ownF_lst,e_ownF_non,e_par2F,e_triF,e_setIx,lis_cons,lis_nil,lisO_un,lisO_int,lisO_str,lisO_bl,lisO_non,w_sx,w_nil,w_ok,w_exc,w_bad,wp_bind,wp_noex,wp_cat,wp_need,true_and,and_true,bind_ok,bind_exc,bind_bad,bind_ask,cat,noex,reduceIte,Nat.reduceEqDiff,if_true,if_false,Bool.false_eq_true,List.getElem?_cons_zero,List.getElem?_cons_succ,List.map_cons,List.map_nil,List.replicate,List.cons_append,List.nil_append,List.append_nil,List.length_cons,List.length_nil,List.set_cons_zero,List.set_cons_succ, w_draw]
      refine ⟨szlog (by omega) (by omega), fun cell c0 c1 => ?_⟩
      refine ⟨cpow_ok (k := 4) (by decide) (by decide) (by decide), szL (by decide), szlog (by decide) (by decide), fun e e0 e1 => ?_⟩
      obtain ⟨m, em, mb⟩ : ∃ m : Nat, atI [D.int 1, D.int 2, D.int 7, D.int (10 ^ Int.toNat 36)] e = some (natI m) ∧ m ≤ 10 ^ 36 := by
        have : e = 0 ∨ e = 1 ∨ e = 2 ∨ e = 3 := by omega
        rcases this with rfl | rfl | rfl | rfl
        · exact ⟨1, rfl, by decide +kernel⟩
        · exact ⟨2, rfl, by decide +kernel⟩
        · exact ⟨7, rfl, by decide +kernel⟩
        · refine ⟨10 ^ 36, ?_, Nat.le_refl _⟩
          show some (D.int ((10 : Int) ^ (36 : Int).toNat)) = some (D.int ((10 ^ 36 : Nat) : Int))
          congr 2
      refine wp_optR.mpr ⟨_, em, ?_⟩
      obtain ⟨c, rfl⟩ : ∃ c : Nat, cell = (c : Int) := ⟨cell.toNat, by omega⟩
      have cL : c < perL cs := by omega
      have big : (10 : Nat) ^ 36 * 24 + 24 < 10 ^ 60 := by decide +kernel
      have mL : perL cs * m ≤ 24 * 10 ^ 36 := Nat.mul_le_mul N1 mb
      have MUL : pMul (natI (perL cs)) (natI m) = .ok (natI (perL cs * m)) := by
        have q1 : ((perL cs : Nat) : Int).natAbs < 2 ^ 10 := by
          rw [Int.natAbs_natCast]
          exact Nat.lt_of_le_of_lt N1 (by decide)
        have q2 : ((m : Nat) : Int).natAbs < 2 ^ 240 := by
          rw [Int.natAbs_natCast]
          exact Nat.lt_of_le_of_lt mb (by decide +kernel)
        rw [e_mul_i, need_pos (cmul_ok 10 240 q1 q2 (by decide)), ← Int.natCast_mul]
      refine w_eq MUL ?_
      have R1 := s_reasons (cs := cs) (cell := c + perL cs * m) N1 N0 okc (by omega)
      have R0 := s_reasons (cs := cs) (cell := c) N1 N0 okc (by omega)
      have d1 : (c + perL cs * m) % perL cs = c := by rw [Nat.add_mul_mod_self_left, Nat.mod_eq_of_lt cL]
      have d2 : (c + perL cs * m) / perL cs * perL cs = perL cs * m := by
        rw [Nat.add_mul_div_left _ _ N0, Nat.div_eq_of_lt cL, Nat.zero_add, Nat.mul_comm]
      have d3 : c / perL cs * perL cs = 0 := by rw [Nat.div_eq_of_lt cL, Nat.zero_mul]
      have d4 : c % perL cs = c := Nat.mod_eq_of_lt cL
      rw [d1, d2, sort_rea] at R1
      rw [d3, d4, sort_rea] at R0
      have MV := s_moved (l := sortR (reasN (valN cs (perL cs) c) (perL cs))) (b := 0) (far := perL cs * m) (reas_len N1) fun p hp => reas_mem hp
      rw [Nat.zero_add] at MV
      have ADD : pAdd (natI c) (natI (perL cs * m)) = .ok (natI (c + perL cs * m)) := by
        show Res.ok (D.int ((c : Int) + ((perL cs * m : Nat) : Int))) = _
        rw [← Int.natCast_add]
      refine w_eq (e_seq (e_ifF (e_val (e_bin (e_call2 rfl (e_bin rfl rfl ADD) R1) (e_call2 (e_call2 rfl rfl R0) rfl MV) (ne_reas _ _))) rfl) rfl) ?_
      exact ⟨_, _, _, rfl⟩
end K13
set_option Elab.async false
set_option linter.all false
set_option exponentiation.threshold 4000
set_option maxRecDepth 100000
set_option maxHeartbeats 1000000
namespace K13
open PySem PySem.Spec L2 Dl Dl.Hd Res
theorem bind_law {K : PySem.W.Frag} (c : Says fa fn K) {fd : FuncData} (F : FunD K d45.nam d45.qua d45.par d45.bod d45.sco (d45.dvs K) [] (d45.adr K) fd) (s : Shared) (u : Value) : BindsTo s fd ⟨[u], []⟩ [("script", u)] :=
  FunD.bindsA (ps := ["script"]) F (fun _ _ _ _ _ _ us hl => match us, hl with | [_], _ => rfl) s [u] rfl
theorem scr_spec {K : PySem.W.Frag} {H : Hp} {a : Addr} {ns : List Int} (h : SqL K H a (ns.map V.int)) : spD K (ct K) w45 [.ref a] H (fun v _ => v = .bl true) fun _ _ _ => False :=
  ⟨fun _ => False, [.scr ns], fun d => d = .bl true, fun _ _ => False, fun a z => z.elim, RepL.cons (rep_scr.mpr ⟨a, rfl, by
    rcases h with h | h
    · exact .inl ⟨fun z => z, h⟩
    · exact .inr h⟩) RepL.nil, m_law_ _ _ _ (law_ok ns), fun v d H' s r e => by
    subst e
    exact rep_bl.mp r, fun _ _ _ _ _ _ _ z => z.elim⟩
abbrev CXn : CXT := fun _ _ _ _ _ _ => False
theorem to0 {P : Program} {w : World} {K : PySem.W.Frag} {mg : Str → Option Value} {base : Heap} {k : Nat} {f : Addr} {fd : FuncData} {ps : List Str} {sp : Sp} (F : FnOk P w K mg base (L2.CX P w) k f fd ps sp) : FnOk P w K mg base CXn k f fd ps (fun vs H Q _ => sp vs H Q fun _ _ _ => False) :=
  ⟨fun vs H Q E h => F.len vs H Q _ h, fun A outer s H args us vs Q E hr e0 hb r h => codeAny_mono (F.run A outer s H args us vs Q (fun _ _ _ => False) hr e0 hb r h) fun res s' hs => by
    cases res with
    | error e =>
      obtain ⟨_, _, _, _, _, _, _, _, _, _, _, _, z⟩ := hs
      exact z.elim
    | ok fl => cases fl <;> exact hs⟩
end K13
open PySem PySem.W PySem.Calls PyProof.Rows
theorem PySem.Challenge.cw_keptholes_k13_reasons_of_far_cells_holds : PySem.Challenge.rw_keptholes_k13_reasons_of_far_cells.Holds := by
  w_on; o_law
  refine HandSHeadRun.head_imp (r := OpenLaw.row PySem.Challenge.rw_keptholes_k13_reasons_of_far_cells) (q := view (OpenLaw.row PySem.Challenge.rw_keptholes_k13_reasons_of_far_cells).prog [0, 38]) (H := K13.hk) (ob := K13.ob) (M := 20000) (loose := K13.loose) (d := HandSHeadRun.topDef (OpenLaw.row PySem.Challenge.rw_keptholes_k13_reasons_of_far_cells).prog 38) (kwd := []) K13.ob_eq
    K13.run (by kernel_rfl) (by kernel_rfl) (by kernel_rfl) (by rfl) (by first | assumption | decide +kernel) (by decide +kernel) ⟨rfl, rfl, rfl, rfl, rfl, by decide +kernel⟩ ?hw ?hc
  case hw => w_witness2
  case hc =>
    refine L2.walk_ofE (l := PySem.Challenge.rw_keptholes_k13_reasons_of_far_cells) (n := 63) (k := 14) (x := "script") (CX := K13.CXn) rfl (by decide) (by kernel_rfl) ⟨rfl, by decide, by decide⟩ ?F (fun _ _ _ _ z => z)
    intro w mg fa h Y G hmg0
    obtain ⟨K, KX, c⟩ := Y
    have hmg : mg ("law" : PySem.Str) = some (.ref fa) := by
      have e : (HandSHeadRun.topDef (OpenLaw.row PySem.Challenge.rw_keptholes_k13_reasons_of_far_cells).prog 38).name = ("law" : PySem.Str) := by kernel_rfl
      rw [← e]
      exact hmg0
    have e := hmg.symm.trans (He.glo_ok (x := "law") KX G (c.fact 31 rfl))
    cases e
    obtain ⟨fd, Fd⟩ := c.fun_ 45 (d := K13.d45) rfl
    refine ⟨K, fd, fun vs H Q _ => Dl.spD K (K13.ct K) K13.w45 vs H Q fun _ _ _ => False, KX, fun s u => K13.bind_law c Fd s u, fun H a ns hl _ hS => K13.scr_spec hS, fun base hK hG => ?_⟩
    exact K13.to0 (K13.okL (P := (PySem.Challenge.rw_keptholes_k13_reasons_of_far_cells).prog) (w := w) (base := base) KX G c Fd)

