import PyProof.Rows.All
import Wide.All
import OpenK.AllK
import Wide.FinOn
import HandS.ForExc
import HandS.ForMost
import HandS.TupMul
import HandS.TupAny
import HandS.CallSlots
import HandS.Property
import HandS.Wide
import HandS.Defaults
import HandS.TupLe
import HandS.WideBits
import PyProof.StrOps2
import PyProof.LongRange
import HandS.ExcInit
import HandS.ExcField
import HandS.IsInst
import HandS.StrMore
import PyProof.ListStr
import HandS.OwnEq
import PyProof.NeKinds
import HandS.Codes
import HandS.Style
import KE.KStateDown
import HandS.Ends
import HandS.Words
import HandS.WordsExc
import HandS.Head0
import HandS.Head1
import HandS.Head2
import HandS.HeadEnd
import HandS.HeadHook1
import HandS.HeadHook2
import HandS.ReplaceLit
import HandS.ReplaceList
import HandS.Gcd
import HandS.ReplaceDef
import PyProof.Draws
import PyProof.EnumMake
import KE.KOpsOwn
import HandS.IterVal
import KE.KOwnIter
import HandS.MakeKw
import HandS.MakeKwOnly
import HandS.SortInts
import HandS.Conv
import PyProof.SliceStr2
import KE.KRevSl
import HandS.Iter
import HandS.Dict
import HandS.Zip
import HandS.DictTup
import KE.SortData
import KE.KDictWalk
import PyProof.MeetsIn
import HandS.Strs
import HandS.SetFor
import HandS.Head3
import HandS.SortRule
import HandS.Text
import KE.GoesEnumKw
import KE.GoesMore
import HandS.Star
import PyProof.Rows.Chain
import PySem.Challenge.RW_keptholes_k81_texts_that_are_none
set_option Elab.async false
set_option linter.all false
set_option maxRecDepth 100000
set_option maxHeartbeats 4000000
namespace Dl
open PySem PySem.Spec L2 PyProof.Rows
end Dl
set_option Elab.async false
set_option linter.all false
set_option maxRecDepth 100000
set_option maxHeartbeats 4000000
namespace Dl
open PySem PySem.Spec L2
inductive D where
  | non | bl (b : Bool) | int (i : Int) | str (x : Str) | ty (n : String)
  | lst (xs : List D) | tup (xs : List D) | scr (ns : List Int)
  | obj (c : Nat) (fs : List D)
  | cls (c : Nat)
  | tok (k : Nat)
  /-- an object at its place; a dict, keys and values -/
  | ref (a : Addr)
  | dic (ks : List Key) (vs : List D)
/-- what the frame holds besides: the exception of a suite, the object that an __init__ makes -/
structure Gh where
  exA : Addr := 0
  exC : Value := .none
  exD : Option Addr := none
  slf : Addr := 0
  sdx : Addr := 0
/-- the own classes by number: where they stand, their attributes in the order in which they are stored; tokens: what stands there -/
structure CT where
  addr : Nat → Addr
  names : Nat → List Str
  tok : Nat → Addr → HO
  gh : Gh := {}
  tokOk : ∀ k a, (∀ xs, tok k a ≠ .lst xs) ∧ (∀ C dx fs, tok k a ≠ .ins C dx fs)
section
variable (K : PySem.W.Frag) (ct : CT) (H : Hp) (O : Addr → Prop)
/-- a list | a tuple that is read, not one of O -/
def LAt (a : Addr) (vs : List V) : Prop := (¬ O a ∧ Rd H a (.lst vs)) ∨
  ∃ (o : Obj) (its : Array Value) (n : Nat), K.lookup a = some o ∧ o.cls = .type "list" ∧ o.dict = none ∧ o.data = .seq its n ∧ its.size ≤ sizeLine ∧ Vals vs its.toList
mutual
def Rep : D → V → Prop
  | .non, v => v = .non
  | .bl b, v => v = .bl b
  | .int i, v => v = .int i
  | .str x, v => v = .str x
  | .ty n, v => v = .ty n
  | .lst xs, v => ∃ a vs, v = .ref a ∧ ¬ O a ∧ H a = some (.lst vs) ∧ RepL xs vs
  | .scr ns, v => ∃ a, v = .ref a ∧ LAt K H O a (ns.map V.int)
  | .tup xs, v => ∃ a vs, v = .ref a ∧ SqT K H a vs ∧ RepL xs vs
  | .obj c fs, v => ∃ a dx vs, v = .ref a ∧ ¬ O a ∧ H a = some (.ins (ct.addr c) dx ((ct.names c).zip vs)) ∧ vs.length = (ct.names c).length ∧ RepL fs vs
  | .cls c, v => v = .ref (ct.addr c)
  | .tok k, v => ∃ a, v = .ref a ∧ ¬ O a ∧ H a = some (ct.tok k a)
  | .ref a, v => v = .ref a
  | .dic ks xs, v => ∃ a vs, v = .ref a ∧ ¬ O a ∧ H a = some (.dK (ks.zip vs)) ∧ ks.length = vs.length ∧ RepL xs vs
def RepL : List D → List V → Prop
  | [], vs => vs = []
  | d :: ds, vs => ∃ v r, vs = v :: r ∧ Rep d v ∧ RepL ds r
end
end
section
variable {K : PySem.W.Frag} {ct : CT} {H H' : Hp} {O O' : Addr → Prop}
theorem RepL.length : ∀ {ds : List D} {vs : List V}, RepL K ct H O ds vs → vs.length = ds.length
  | [], vs, h => by simp only [RepL] at h; rw [h] <;> rfl
  | d :: ds, vs, h => by
    simp only [RepL] at h
    obtain ⟨v, r, e, _, h2⟩ := h
    rw [e]
    show r.length + 1 = ds.length + 1
    rw [RepL.length h2]
end
end Dl
set_option Elab.async false
set_option linter.all false
set_option maxRecDepth 100000
set_option maxHeartbeats 4000000
namespace Dl
open PySem PySem.Spec L2
end Dl
set_option Elab.async false
set_option linter.all false
set_option maxRecDepth 100000
set_option maxHeartbeats 4000000
namespace Dl
open PySem PySem.Spec L2
end Dl
set_option Elab.async false
set_option linter.all false
set_option maxRecDepth 100000
set_option maxHeartbeats 4000000
namespace Dl
open PySem PySem.Spec L2
end Dl
set_option Elab.async false
set_option linter.all false
set_option maxRecDepth 100000
set_option maxHeartbeats 4000000
namespace Dl
open PySem PySem.Spec L2
end Dl
set_option Elab.async false
set_option linter.all false
set_option maxRecDepth 100000
set_option maxHeartbeats 4000000
namespace Dl
open PySem PySem.Spec L2
end Dl
set_option Elab.async false
set_option linter.all false
set_option maxRecDepth 100000
set_option maxHeartbeats 4000000
namespace Dl
open PySem PySem.Spec L2
end Dl
set_option Elab.async false
set_option linter.all false
set_option maxRecDepth 100000
set_option maxHeartbeats 4000000
namespace Dl
open PySem PySem.Spec L2
end Dl
set_option Elab.async false
set_option linter.all false
set_option maxRecDepth 100000
set_option maxHeartbeats 4000000
namespace Dl
open PySem PySem.Spec L2
end Dl
set_option Elab.async false
set_option linter.all false
set_option maxRecDepth 100000
set_option maxHeartbeats 4000000
namespace Dl
open PySem PySem.Spec L2
end Dl
set_option Elab.async false
set_option linter.all false
set_option maxRecDepth 100000
set_option maxHeartbeats 4000000
namespace Dl
open PySem PySem.Spec L2
def oexB (K : PySem.W.Frag) (C : Addr) : Bool := (match K.lookup C with
  | some ⟨.type t, _, .cls cd, sl⟩ => t == "type" && (match cd.mro, sl.toList with
    | .ref C' :: bm, [_, _, _, _, some (.builtin n), _] => C' == C && (n == "ValueError.__new__" && (!cd.hasDel && (cd.hasDict && PySem.HandSPX.refsVE bm)))
    | _, _ => false)
  | _ => false) && (decide (PySem.W.findIn K (.ref C) "__setattr__" = some (some (.builtin "object.__setattr__"))) && (decide (PySem.W.subIn K (.ref C) (.type "BaseException") = some true) && (decide (PySem.W.typeIn K (.ref C) = some (.type "type")) && PySem.W.keepIn K (.ref C))))
end Dl
set_option Elab.async false
set_option linter.all false
set_option maxRecDepth 100000
set_option maxHeartbeats 4000000
namespace Dl
open PySem PySem.Spec L2
end Dl
set_option Elab.async false
set_option linter.all false
set_option maxRecDepth 100000
set_option maxHeartbeats 4000000
namespace Dl.G
open PySem PySem.SeqAt
open AutoSeq1 (wpAny_loadPart')
open MeetsSeq MeetsSeq2 MeetsSeq3 SeqRoads2
end Dl.G
set_option Elab.async false
set_option linter.all false
set_option maxRecDepth 100000
set_option maxHeartbeats 4000000
namespace Dl.G
open PySem PySem.SeqAt
open AutoSeq1 (wpAny_loadPart')
open MeetsSeq MeetsSeq2 MeetsSeq3 SeqRoads2
end Dl.G
set_option Elab.async false
set_option linter.all false
set_option maxRecDepth 100000
set_option maxHeartbeats 4000000
namespace Dl.G
open PySem PySem.Spec PySem.SeqAt
end Dl.G
set_option Elab.async false
set_option linter.all false
set_option maxRecDepth 100000
set_option maxHeartbeats 4000000
namespace Dl
open PySem PySem.Spec L2
end Dl
set_option Elab.async false
set_option linter.all false
set_option maxRecDepth 100000
set_option maxHeartbeats 4000000
namespace Dl
open PySem PySem.Spec L2
end Dl
set_option Elab.async false
set_option linter.all false
set_option maxRecDepth 100000
set_option maxHeartbeats 4000000
namespace Dl
open PySem PySem.Spec L2
end Dl
set_option Elab.async false
set_option linter.all false
set_option maxRecDepth 100000
set_option maxHeartbeats 4000000
namespace Dl
open PySem PySem.Spec L2
end Dl
set_option Elab.async false
set_option linter.all false
set_option maxRecDepth 100000
set_option maxHeartbeats 4000000
namespace Dl
open PySem PySem.Spec L2
end Dl
set_option Elab.async false
set_option linter.all false
set_option maxRecDepth 100000
set_option maxHeartbeats 4000000
namespace Dl
open PySem PySem.Spec L2
abbrev kinds : List String := ["NoneType", "bool", "int", "str", "list", "tuple", "dict"]
def isiB (k m : String) : Bool := k == m || (k == "bool" && m == "int")
abbrev Sub2 := Nat → Nat → Option Bool
end Dl
set_option Elab.async false
set_option linter.all false
set_option maxRecDepth 100000
set_option maxHeartbeats 4000000
namespace Dl
open PySem PySem.Spec L2
end Dl
set_option Elab.async false
set_option linter.all false
set_option maxRecDepth 100000
set_option maxHeartbeats 4000000
namespace Dl
open PySem PySem.Spec L2
end Dl
set_option Elab.async false
set_option linter.all false
set_option maxRecDepth 100000
set_option maxHeartbeats 4000000
namespace Dl.Hd
open PySem PySem.Spec L2
/-- a def at the address that adr tells -/
structure DefP where
  adr : PySem.W.Frag → Addr
  nam : Str
  qua : Str
  par : Arguments
  bod : List Stmt
  sco : Scope
  dfs : List He.Dv := []
  kwd : List (Str × He.Dv) := []
def DefP.kvs (K : PySem.W.Frag) (d : DefP) : List (Str × V) := d.kwd.map fun q => (q.1, q.2.v K)
def DefP.dvs (K : PySem.W.Frag) (d : DefP) : List V := d.dfs.map (He.Dv.v K)
def fnA (K : PySem.W.Frag) (a : Addr) : He.FnW := match K.lookup a with
  | some o => (match o.data with
    | .func fd => some (fd.name, fd.qualname, fd.params, fd.body, fd.scope, fd.globals, fd.closure, fd.builtins)
    | _ => none)
  | none => none
def DefP.val (d : DefP) : He.FnW := some (d.nam, d.qua, d.par, .stmts d.bod, d.sco, mainGlobals, [], builtinsNs)
def DefP.fine (K : PySem.W.Frag) (d : DefP) : Bool := PySem.W.keepIn K (.ref (d.adr K)) && (match K.lookup (d.adr K) with
  | some o => (match o.data with
    | .func fd => PySem.W.codeIn K fd.code d.qua && (He.dflB K fd.defaults (d.dvs K) && He.kwdB K fd.kwdefaults (d.kvs K))
    | _ => false)
  | none => false)
abbrev Al : Type := List Bool × List He.FnW
def obsK (fa : List (PySem.W.Frag → Bool)) (fn : List DefP) (K : PySem.W.Frag) : Al := ((fa.map fun f => f K) ++ (fn.map fun d => d.fine K), fn.map fun d => fnA K (d.adr K))
def obsG (n : Nat) (fa : List (PySem.W.Frag → Bool)) (fn : List DefP) (g : Addr → Option Obj) : Al := obsK fa fn (He.frG g (He.asD g n))
def valG (fa : List (PySem.W.Frag → Bool)) (fn : List DefP) : Al := ((fa.map fun _ => true) ++ (fn.map fun _ => true), fn.map DefP.val)
def Says (fa : List (PySem.W.Frag → Bool)) (fn : List DefP) (K : PySem.W.Frag) : Prop := obsK fa fn K = valG fa fn
def hook (n : Nat) (fa : List (PySem.W.Frag → Bool)) (fn : List DefP) : PySem.W.Hook where
  α := Al
  obs := fun s => obsG n fa fn s.heap.get?
  val := fun _ => valG fa fn
  says := fun _ h => ∃ K : PySem.W.Frag, K.In h ∧ Says fa fn K
  of := fun _ _ e => ⟨_, He.frG_in, e⟩
  keeps := fun _ _ _ ⟨K, hK, c⟩ k => ⟨K, PySem.W.Frag.In.keeps hK k, c⟩
def glB (x : Str) (K : PySem.W.Frag) : Bool := He.Fa.ok K (.glo x)
def frB (x : Str) (K : PySem.W.Frag) : Bool := He.Fa.ok K (.free x)
def stB (x z : Str) (K : PySem.W.Frag) : Bool := He.Fa.ok K (.str x z)
def clB (x : Str) (K : PySem.W.Frag) : Bool := He.Fa.ok K (.cls x)
def naB (x f : Str) (K : PySem.W.Frag) : Bool := He.Fa.ok K (.noat x f)
def meB (x m : Str) (K : PySem.W.Frag) : Bool := He.Fa.ok K (.meth x m)
def mkB (x : Str) (K : PySem.W.Frag) : Bool := He.Fa.ok K (.mkr x)
def exmB (x y : Str) (b : Bool) (K : PySem.W.Frag) : Bool := He.Fa.ok K (.exm x y b)
/-- a property's getter -/
def gA (x f : Str) (K : PySem.W.Frag) : Addr := match PySem.W.recIn K (He.ma K (He.ga K x) f) "property" with
  | some (.ref g :: _) => g
  | _ => 0
/-- an own exception class: its __init__ is a def of its own -/
def exB (x n : Str) (K : PySem.W.Frag) : Bool := oexB K (He.ga K x) && (He.eqO (PySem.W.findIn K (.ref (He.ga K x)) "__init__") (some (some (.ref (He.ma K (He.ga K x) "__init__")))) && (decide (PySem.W.typeIn K (.ref (He.ma K (He.ga K x) "__init__")) = some (.type "function")) &&
  (He.eqO (PySem.W.findIn K (.ref (He.ga K x)) n) (some none) && L2.xfB K (He.ga K x))))
def ad (cn : List Str) (K : PySem.W.Frag) (n : Nat) : Addr := He.ga K (cn.getD n Str.empty)
def inB (C : Addr) (K : PySem.W.Frag) : Bool := He.eqO (PySem.W.findIn K (.ref C) "__class__") (some (some (.builtin "object.__class__"))) && (He.eqO (PySem.W.specialIn K (.builtin "object.__class__") "__get__") (some (some (.builtin "getset_descriptor.__get__"))) &&
  (decide (PySem.W.takesIn K (.builtin "object.__class__") = some true) && (decide (PySem.W.mroIn K C (.type "object") = some true) && decide (PySem.W.kitOne K (.ref C) (.ref C) = some true))))
def allP (n : Nat) (p : Nat → Bool) : Bool := (List.range n).all p
def isB (cn : List Str) (sub : Sub2) (K : PySem.W.Frag) : Bool :=
  (kinds.all fun k => kinds.all fun m => decide (PySem.W.kitOne K (.type k) (.type m) = some (isiB k m))) &&
  allP cn.length fun c => (match sub c c with
    | some _ => clB (cn.getD c Str.empty) K && (inB (ad cn K c) K && (kinds.all fun m => decide (PySem.W.kitOne K (.ref (ad cn K c)) (.type m) = some false) && decide (PySem.W.kitOne K (.type m) (.ref (ad cn K c)) = some false)))
    | none => true) && allP cn.length fun c' => (match sub c c' with
    | some b => decide (PySem.W.kitOne K (.ref (ad cn K c)) (.ref (ad cn K c')) = some b)
    | none => true)
/-- == of own classes: which have it -/
def eqB (cn : List Str) (has : Nat → Bool) (K : PySem.W.Frag) : Bool := allP cn.length fun c => if has c then
    He.eqO (PySem.W.findIn K (.ref (ad cn K c)) "__eq__") (some (some (.ref (He.ma K (ad cn K c) "__eq__")))) && (PySem.W.isFn K (.ref (He.ma K (ad cn K c) "__eq__")) && (He.eqO (PySem.W.findIn K (.ref (ad cn K c)) "__ne__") (some (some (.builtin "object.__ne__"))) &&
    (decide (PySem.W.mroIn K (ad cn K c) (.type "object") = some true) && ((["NoneType", "bool", "int", "str", "list", "tuple", "dict"].all fun n => PySem.W.notFirst K (ad cn K c) (.type n)) && allP cn.length fun c' => if has c' then PySem.W.notFirst K (ad cn K c) (.ref (ad cn K c')) && (decide (ad cn K c = ad cn K c') == (c == c')) else true))))
  else true
end Dl.Hd
set_option Elab.async false
set_option linter.all false
set_option maxRecDepth 100000
set_option maxHeartbeats 4000000
namespace Dl
open PySem PySem.Spec L2
end Dl
set_option Elab.async false
set_option linter.all false
set_option maxRecDepth 100000
set_option maxHeartbeats 4000000
namespace Dl
open PySem PySem.Spec L2
end Dl
set_option Elab.async false
set_option linter.all false
set_option maxRecDepth 100000
set_option maxHeartbeats 4000000
namespace Dl
open PySem PySem.Spec L2
end Dl
set_option Elab.async false
set_option linter.all false
set_option maxRecDepth 100000
set_option maxHeartbeats 4000000
namespace Dl
open PySem PySem.Spec L2
end Dl
set_option Elab.async false
set_option linter.all false
set_option maxRecDepth 100000
set_option maxHeartbeats 400000
namespace Dl
open PySem PySem.Spec L2
end Dl
set_option Elab.async false
set_option linter.all false
set_option maxRecDepth 100000
set_option maxHeartbeats 4000000
namespace Dl
open PySem PySem.Spec L2
end Dl
set_option Elab.async false
set_option linter.all false
set_option maxRecDepth 100000
set_option maxHeartbeats 4000000
namespace Dl
open PySem PySem.Spec L2
end Dl
set_option Elab.async false
set_option linter.all false
set_option maxRecDepth 100000
set_option maxHeartbeats 4000000
namespace Dl
open PySem PySem.Spec L2
end Dl
set_option Elab.async false
set_option linter.all false
set_option maxRecDepth 100000
set_option maxHeartbeats 4000000
namespace Dl
open PySem PySem.Spec L2
end Dl
set_option Elab.async false
set_option linter.all false
set_option maxRecDepth 100000
set_option maxHeartbeats 4000000
namespace Dl
open PySem PySem.Spec L2
end Dl
set_option Elab.async false
set_option linter.all false
set_option maxRecDepth 100000
set_option maxHeartbeats 4000000
namespace L2
open PySem PySem.Spec PyProof.Rows CwR
end L2
namespace Dl
open PySem PySem.Spec L2
end Dl
set_option Elab.async false
set_option linter.all false
set_option maxRecDepth 100000
set_option maxHeartbeats 4000000
namespace L2
open PySem PySem.Spec PyProof.Rows
end L2
namespace Dl
open PySem PySem.Spec L2
end Dl
set_option Elab.async false
set_option linter.all false
set_option maxRecDepth 100000
set_option maxHeartbeats 4000000
namespace Dl
open PySem PySem.Spec L2 PySem.W PySem.Calls PyProof.Rows
end Dl
set_option Elab.async false
set_option linter.all false
set_option maxRecDepth 100000
set_option maxHeartbeats 4000000
namespace Dl
open PySem PySem.Spec L2 PySem.W PySem.Calls PyProof.Rows
def fnB (x m : Str) (K : PySem.W.Frag) : Bool := fnIn K (He.ma K (He.ga K x) m)
end Dl
set_option Elab.async false
set_option linter.all false
set_option maxRecDepth 100000
set_option maxHeartbeats 4000000
namespace Dl
open PySem PySem.Spec L2 PySem.W PySem.Calls PyProof.Rows
end Dl
set_option Elab.async false
set_option linter.all false
set_option maxRecDepth 100000
set_option maxHeartbeats 4000000
namespace L2
open PySem PySem.Spec PyProof.Rows CwR
end L2
namespace Dl
open PySem PySem.Spec L2
end Dl
set_option Elab.async false
set_option linter.all false
set_option maxRecDepth 100000
set_option maxHeartbeats 4000000
namespace Dl
open PySem PySem.Spec L2
end Dl
set_option Elab.async false
set_option linter.all false
set_option maxRecDepth 100000
set_option maxHeartbeats 4000000
namespace Dl
open PySem PySem.Spec L2
end Dl
set_option Elab.async false
set_option linter.all false
set_option maxRecDepth 100000
set_option maxHeartbeats 4000000
namespace Dl
open PySem PySem.Spec L2
end Dl
set_option Elab.async false
set_option linter.all false
set_option maxRecDepth 100000
set_option maxHeartbeats 4000000
namespace Dl
open PySem PySem.Spec L2
end Dl
set_option Elab.async false
set_option linter.all false
set_option maxRecDepth 100000
set_option maxHeartbeats 4000000
namespace Dl
open PySem PySem.Spec L2
end Dl
set_option Elab.async false
set_option linter.all false
set_option maxRecDepth 100000
set_option maxHeartbeats 4000000
namespace Dl
open PySem PySem.Spec L2
end Dl
set_option Elab.async false
set_option linter.all false
set_option maxRecDepth 100000
set_option maxHeartbeats 4000000
namespace Dl
open PySem PySem.Spec L2
end Dl
set_option Elab.async false
set_option linter.all false
set_option maxRecDepth 100000
set_option maxHeartbeats 4000000
namespace L2
open PySem PySem.Spec PyProof.Rows
end L2
namespace Dl
open PySem PySem.Spec L2
end Dl
set_option Elab.async false
set_option linter.all false
set_option maxRecDepth 100000
set_option maxHeartbeats 4000000
namespace Dl
open PySem PySem.Spec L2
end Dl
set_option Elab.async false
set_option linter.all false
set_option maxRecDepth 100000
set_option maxHeartbeats 4000000
namespace Dl
open PySem PySem.Spec L2 PyProof.Rows
end Dl
set_option Elab.async false
set_option linter.all false
set_option maxRecDepth 100000
set_option maxHeartbeats 4000000
namespace Dl
open PySem PySem.Spec L2 PySem.W PySem.Calls PyProof.Rows
end Dl
set_option Elab.async false
set_option linter.all false
set_option maxRecDepth 100000
set_option maxHeartbeats 4000000
namespace L2
open PySem PySem.Spec PyProof.Rows CwR
end L2
namespace Dl
open PySem PySem.Spec L2
end Dl
set_option Elab.async false
set_option linter.all false
set_option maxRecDepth 100000
set_option maxHeartbeats 4000000
namespace Dl
open PySem PySem.Spec L2 PySem.W PySem.Calls PyProof.Rows
end Dl
set_option Elab.async false
set_option linter.all false
set_option maxRecDepth 100000
set_option maxHeartbeats 4000000
namespace Dl
open PySem PySem.Spec L2
end Dl
set_option Elab.async false
set_option linter.all false
set_option maxRecDepth 100000
set_option maxHeartbeats 4000000
namespace Dl
open PySem PySem.Spec L2
end Dl
set_option Elab.async false
set_option linter.all false
set_option maxRecDepth 100000
set_option maxHeartbeats 4000000
namespace Dl
open PySem PySem.Spec L2 PyProof.Rows
end Dl
set_option Elab.async false
set_option linter.all false
set_option maxRecDepth 100000
set_option maxHeartbeats 4000000
namespace Dl
open PySem PySem.Spec L2 PyProof.Rows
end Dl
set_option Elab.async false
set_option linter.all false
set_option maxRecDepth 100000
set_option maxHeartbeats 4000000
namespace Dl
open PySem PySem.Spec L2
end Dl
set_option Elab.async false
set_option linter.all false
set_option maxRecDepth 100000
set_option maxHeartbeats 4000000
namespace L2.DX
open PySem PySem.Spec PyProof.Rows PySem.W
end L2.DX
namespace Dl
open PySem PySem.Spec L2
end Dl
set_option Elab.async false
set_option linter.all false
set_option maxRecDepth 100000
set_option maxHeartbeats 4000000
namespace Dl.G
open PySem PySem.SeqAt
open AutoSeq1 (wpAny_loadPart')
open MeetsSeq MeetsSeq2 MeetsSeq3 SeqRoads2
end Dl.G
namespace Dl
open PySem PySem.Spec L2
end Dl
set_option Elab.async false
set_option linter.all false
set_option maxRecDepth 100000
set_option maxHeartbeats 4000000
namespace L2
open PySem PySem.Spec PyProof.Rows
end L2
namespace Dl
open PySem PySem.Spec L2
end Dl
set_option Elab.async false
set_option linter.all false
set_option maxRecDepth 100000
set_option maxHeartbeats 4000000
namespace Dl
open PySem PySem.Spec L2
end Dl
set_option Elab.async false
set_option linter.all false
set_option maxRecDepth 100000
set_option maxHeartbeats 4000000
namespace Dl
open PySem PySem.Spec L2
end Dl
set_option Elab.async false
set_option linter.all false
set_option maxRecDepth 100000
set_option maxHeartbeats 0
namespace K81
open PySem PySem.Spec L2 Dl Dl.Hd
def top (i : Nat) : Stmt := PySem.Challenge.pw_keptholes_k81_texts_that_are_none.main.body.getD i (.Pass ⟨0, 0, 0, 0⟩)
def clsB_ : Stmt → List Stmt := C8.clsBody
def cn : List Str := ["HoleError", "InvalidFile", "InvalidNumber", "InvalidScript", "InvalidList", "InvalidWrite", "InvalidText", "File", "History", "Step", "Full", "Keep", "Lean", "Dig", "Script"]
def subT : Sub2 := fun a b => if a ∈ ([7, 8, 9, 10, 11, 12, 13, 14] : List Nat) ∧ b ∈ ([7, 8, 9, 10, 11, 12, 13, 14] : List Nat) then some (decide ((a, b) ∈ ([(7, 7), (8, 8), (9, 9), (10, 9), (10, 10), (11, 9), (11, 11), (12, 9), (12, 12), (13, 9), (13, 13), (14, 14)] : List (Nat × Nat)))) else none
def hasE : Nat → Bool := fun c => decide (c ∈ ([7, 8, 10, 11, 12, 13, 14] : List Nat))
def fa1 : List (PySem.W.Frag → Bool) := [glB "InvalidFile", glB "InvalidNumber", glB "InvalidScript", glB "InvalidList", glB "InvalidWrite", glB "InvalidText", glB "File", glB "History", glB "Step", glB "Full"] ++ ([glB "Keep", glB "Lean", glB "Dig", glB "Script", glB "is_whole", glB "check_number", glB "is_row", glB "check_file", glB "check_write", glB "is_fitting"] : List (PySem.W.Frag → Bool)) ++ ([glB "_is_content", glB "_is_write", glB "_is_list_of_steps", glB "read_script", glB "read_history", glB "_lines", glB "_step_of", glB "_write_of", glB "_number_of", glB "_law_spring"] : List (PySem.W.Frag → Bool)) ++ ([glB "_law_sip", glB "_law_cells", glB "_law_text", glB "_law_writes", glB "_law_spot", glB "_law_steps", glB "_law_no_steps", glB "_law_no_writes", glB "_law_all_told", glB "law"] : List (PySem.W.Frag → Bool)) ++ ([stB "HOLE" ".", stB "CELLS" ".0abcdefghijklmnopqrstuvwxyz", stB "FIGURES" "0123456789", frB "all", frB "bool", frB "enumerate", frB "int", frB "isinstance", frB "len", frB "list"] : List (PySem.W.Frag → Bool)) ++ ([frB "min", frB "range", frB "str", frB "tuple", clB "File", mkB "File", naB "File" "_cells", meB "File" "__len__", meB "File" "__getitem__", clB "History"] : List (PySem.W.Frag → Bool))
def fa2 : List (PySem.W.Frag → Bool) := [mkB "History", naB "History" "_file", naB "History" "_writes", meB "History" "__len__", meB "History" "__getitem__", mkB "Full", clB "Keep", mkB "Keep", naB "Keep" "_size", clB "Lean"] ++ ([mkB "Lean", naB "Lean" "_size", clB "Dig", mkB "Dig", naB "Dig" "_size", clB "Script", mkB "Script", naB "Script" "_steps", meB "Script" "__len__", meB "Script" "__getitem__"] : List (PySem.W.Frag → Bool)) ++ ([exB "InvalidFile" "value", exB "InvalidNumber" "value", exB "InvalidScript" "value", exB "InvalidList" "value", exB "InvalidWrite" "value", exB "InvalidText" "spot", exmB "InvalidFile" "InvalidText" false, exmB "InvalidNumber" "InvalidText" false, exmB "InvalidScript" "InvalidText" false, exmB "InvalidList" "InvalidText" false] : List (PySem.W.Frag → Bool)) ++ ([exmB "InvalidWrite" "InvalidText" false, exmB "InvalidText" "InvalidText" true, fnB "File" "__getitem__", fnB "History" "__getitem__", fnB "Script" "__getitem__", isB cn subT, eqB cn hasE] : List (PySem.W.Frag → Bool))
def fa : List (PySem.W.Frag → Bool) := fa1 ++ (fa2)
abbrev s0 : Stmt := ((clsB_ (top 3)).getD 0 (.Pass ⟨0, 0, 0, 0⟩))
def d0 : DefP := ⟨(fun K => He.ma K (He.ga K "InvalidFile") "__init__"), "__init__", "InvalidFile.__init__", defArgs s0, defBody s0, defScope s0, [.non], []⟩
abbrev s1 : Stmt := ((clsB_ (top 4)).getD 0 (.Pass ⟨0, 0, 0, 0⟩))
def d1 : DefP := ⟨(fun K => He.ma K (He.ga K "InvalidNumber") "__init__"), "__init__", "InvalidNumber.__init__", defArgs s1, defBody s1, defScope s1, [.non], []⟩
abbrev s2 : Stmt := ((clsB_ (top 5)).getD 0 (.Pass ⟨0, 0, 0, 0⟩))
def d2 : DefP := ⟨(fun K => He.ma K (He.ga K "InvalidScript") "__init__"), "__init__", "InvalidScript.__init__", defArgs s2, defBody s2, defScope s2, [.non], []⟩
abbrev s3 : Stmt := ((clsB_ (top 6)).getD 0 (.Pass ⟨0, 0, 0, 0⟩))
def d3 : DefP := ⟨(fun K => He.ma K (He.ga K "InvalidList") "__init__"), "__init__", "InvalidList.__init__", defArgs s3, defBody s3, defScope s3, [.non], []⟩
abbrev s4 : Stmt := ((clsB_ (top 7)).getD 0 (.Pass ⟨0, 0, 0, 0⟩))
def d4 : DefP := ⟨(fun K => He.ma K (He.ga K "InvalidWrite") "__init__"), "__init__", "InvalidWrite.__init__", defArgs s4, defBody s4, defScope s4, [.non], []⟩
abbrev s5 : Stmt := ((clsB_ (top 8)).getD 0 (.Pass ⟨0, 0, 0, 0⟩))
def d5 : DefP := ⟨(fun K => He.ma K (He.ga K "InvalidText") "__init__"), "__init__", "InvalidText.__init__", defArgs s5, defBody s5, defScope s5, [.non], []⟩
abbrev s6 : Stmt := ((clsB_ (top 18)).getD 0 (.Pass ⟨0, 0, 0, 0⟩))
def d6 : DefP := ⟨(fun K => He.ma K (He.ga K "File") "__init__"), "__init__", "File.__init__", defArgs s6, defBody s6, defScope s6, [.str ""], []⟩
abbrev s7 : Stmt := ((clsB_ (top 18)).getD 1 (.Pass ⟨0, 0, 0, 0⟩))
def d7 : DefP := ⟨(gA "File" "cells"), "cells", "File.cells", defArgs s7, defBody s7, defScope s7, [], []⟩
abbrev s8 : Stmt := ((clsB_ (top 18)).getD 4 (.Pass ⟨0, 0, 0, 0⟩))
def d8 : DefP := ⟨(fun K => He.ma K (He.ga K "File") "__len__"), "__len__", "File.__len__", defArgs s8, defBody s8, defScope s8, [], []⟩
abbrev s9 : Stmt := ((clsB_ (top 18)).getD 5 (.Pass ⟨0, 0, 0, 0⟩))
def d9 : DefP := ⟨(fun K => He.ma K (He.ga K "File") "__getitem__"), "__getitem__", "File.__getitem__", defArgs s9, defBody s9, defScope s9, [], []⟩
abbrev s10 : Stmt := ((clsB_ (top 18)).getD 6 (.Pass ⟨0, 0, 0, 0⟩))
def d10 : DefP := ⟨(fun K => He.ma K (He.ga K "File") "__eq__"), "__eq__", "File.__eq__", defArgs s10, defBody s10, defScope s10, [], []⟩
abbrev s11 : Stmt := ((clsB_ (top 21)).getD 0 (.Pass ⟨0, 0, 0, 0⟩))
def d11 : DefP := ⟨(fun K => He.ma K (He.ga K "History") "__init__"), "__init__", "History.__init__", defArgs s11, defBody s11, defScope s11, [.non], []⟩
abbrev s12 : Stmt := ((clsB_ (top 21)).getD 1 (.Pass ⟨0, 0, 0, 0⟩))
def d12 : DefP := ⟨(gA "History" "file"), "file", "History.file", defArgs s12, defBody s12, defScope s12, [], []⟩
abbrev s13 : Stmt := ((clsB_ (top 21)).getD 2 (.Pass ⟨0, 0, 0, 0⟩))
def d13 : DefP := ⟨(fun K => He.ma K (He.ga K "History") "__len__"), "__len__", "History.__len__", defArgs s13, defBody s13, defScope s13, [], []⟩
abbrev s14 : Stmt := ((clsB_ (top 21)).getD 3 (.Pass ⟨0, 0, 0, 0⟩))
def d14 : DefP := ⟨(fun K => He.ma K (He.ga K "History") "__getitem__"), "__getitem__", "History.__getitem__", defArgs s14, defBody s14, defScope s14, [], []⟩
abbrev s15 : Stmt := ((clsB_ (top 21)).getD 5 (.Pass ⟨0, 0, 0, 0⟩))
def d15 : DefP := ⟨(fun K => He.ma K (He.ga K "History") "__eq__"), "__eq__", "History.__eq__", defArgs s15, defBody s15, defScope s15, [], []⟩
abbrev s16 : Stmt := ((clsB_ (top 28)).getD 0 (.Pass ⟨0, 0, 0, 0⟩))
def d16 : DefP := ⟨(fun K => He.ma K (He.ga K "Full") "__init__"), "__init__", "Full.__init__", defArgs s16, defBody s16, defScope s16, [], []⟩
abbrev s17 : Stmt := ((clsB_ (top 28)).getD 1 (.Pass ⟨0, 0, 0, 0⟩))
def d17 : DefP := ⟨(fun K => He.ma K (He.ga K "Full") "__eq__"), "__eq__", "Full.__eq__", defArgs s17, defBody s17, defScope s17, [], []⟩
abbrev s18 : Stmt := ((clsB_ (top 29)).getD 0 (.Pass ⟨0, 0, 0, 0⟩))
def d18 : DefP := ⟨(fun K => He.ma K (He.ga K "Keep") "__init__"), "__init__", "Keep.__init__", defArgs s18, defBody s18, defScope s18, [], []⟩
abbrev s19 : Stmt := ((clsB_ (top 29)).getD 2 (.Pass ⟨0, 0, 0, 0⟩))
def d19 : DefP := ⟨(fun K => He.ma K (He.ga K "Keep") "__eq__"), "__eq__", "Keep.__eq__", defArgs s19, defBody s19, defScope s19, [], []⟩
abbrev s20 : Stmt := ((clsB_ (top 30)).getD 0 (.Pass ⟨0, 0, 0, 0⟩))
def d20 : DefP := ⟨(fun K => He.ma K (He.ga K "Lean") "__init__"), "__init__", "Lean.__init__", defArgs s20, defBody s20, defScope s20, [], []⟩
abbrev s21 : Stmt := ((clsB_ (top 30)).getD 2 (.Pass ⟨0, 0, 0, 0⟩))
def d21 : DefP := ⟨(fun K => He.ma K (He.ga K "Lean") "__eq__"), "__eq__", "Lean.__eq__", defArgs s21, defBody s21, defScope s21, [], []⟩
abbrev s22 : Stmt := ((clsB_ (top 31)).getD 0 (.Pass ⟨0, 0, 0, 0⟩))
def d22 : DefP := ⟨(fun K => He.ma K (He.ga K "Dig") "__init__"), "__init__", "Dig.__init__", defArgs s22, defBody s22, defScope s22, [], []⟩
abbrev s23 : Stmt := ((clsB_ (top 31)).getD 2 (.Pass ⟨0, 0, 0, 0⟩))
def d23 : DefP := ⟨(fun K => He.ma K (He.ga K "Dig") "__eq__"), "__eq__", "Dig.__eq__", defArgs s23, defBody s23, defScope s23, [], []⟩
abbrev s24 : Stmt := ((clsB_ (top 32)).getD 0 (.Pass ⟨0, 0, 0, 0⟩))
def d24 : DefP := ⟨(fun K => He.ma K (He.ga K "Script") "__init__"), "__init__", "Script.__init__", defArgs s24, defBody s24, defScope s24, [.non], []⟩
abbrev s25 : Stmt := ((clsB_ (top 32)).getD 2 (.Pass ⟨0, 0, 0, 0⟩))
def d25 : DefP := ⟨(fun K => He.ma K (He.ga K "Script") "__len__"), "__len__", "Script.__len__", defArgs s25, defBody s25, defScope s25, [], []⟩
abbrev s26 : Stmt := ((clsB_ (top 32)).getD 3 (.Pass ⟨0, 0, 0, 0⟩))
def d26 : DefP := ⟨(fun K => He.ma K (He.ga K "Script") "__getitem__"), "__getitem__", "Script.__getitem__", defArgs s26, defBody s26, defScope s26, [], []⟩
abbrev s27 : Stmt := ((clsB_ (top 32)).getD 4 (.Pass ⟨0, 0, 0, 0⟩))
def d27 : DefP := ⟨(fun K => He.ma K (He.ga K "Script") "__eq__"), "__eq__", "Script.__eq__", defArgs s27, defBody s27, defScope s27, [], []⟩
abbrev s28 : Stmt := (top 10)
def d28 : DefP := ⟨(fun K => He.ga K "is_whole"), "is_whole", "is_whole", defArgs s28, defBody s28, defScope s28, [], []⟩
abbrev s29 : Stmt := (top 11)
def d29 : DefP := ⟨(fun K => He.ga K "check_number"), "check_number", "check_number", defArgs s29, defBody s29, defScope s29, [.non], []⟩
abbrev s30 : Stmt := (top 12)
def d30 : DefP := ⟨(fun K => He.ga K "is_row"), "is_row", "is_row", defArgs s30, defBody s30, defScope s30, [], []⟩
abbrev s31 : Stmt := (top 19)
def d31 : DefP := ⟨(fun K => He.ga K "check_file"), "check_file", "check_file", defArgs s31, defBody s31, defScope s31, [], []⟩
abbrev s32 : Stmt := (top 22)
def d32 : DefP := ⟨(fun K => He.ga K "check_write"), "check_write", "check_write", defArgs s32, defBody s32, defScope s32, [], []⟩
abbrev s33 : Stmt := (top 23)
def d33 : DefP := ⟨(fun K => He.ga K "is_fitting"), "is_fitting", "is_fitting", defArgs s33, defBody s33, defScope s33, [], []⟩
abbrev s34 : Stmt := (top 24)
def d34 : DefP := ⟨(fun K => He.ga K "_is_content"), "_is_content", "_is_content", defArgs s34, defBody s34, defScope s34, [], []⟩
abbrev s35 : Stmt := (top 25)
def d35 : DefP := ⟨(fun K => He.ga K "_is_write"), "_is_write", "_is_write", defArgs s35, defBody s35, defScope s35, [], []⟩
abbrev s36 : Stmt := (top 34)
def d36 : DefP := ⟨(fun K => He.ga K "_is_list_of_steps"), "_is_list_of_steps", "_is_list_of_steps", defArgs s36, defBody s36, defScope s36, [], []⟩
abbrev s37 : Stmt := (top 37)
def d37 : DefP := ⟨(fun K => He.ga K "read_script"), "read_script", "read_script", defArgs s37, defBody s37, defScope s37, [], []⟩
abbrev s38 : Stmt := (top 38)
def d38 : DefP := ⟨(fun K => He.ga K "read_history"), "read_history", "read_history", defArgs s38, defBody s38, defScope s38, [], []⟩
abbrev s39 : Stmt := (top 39)
def d39 : DefP := ⟨(fun K => He.ga K "_lines"), "_lines", "_lines", defArgs s39, defBody s39, defScope s39, [], []⟩
abbrev s40 : Stmt := (top 40)
def d40 : DefP := ⟨(fun K => He.ga K "_step_of"), "_step_of", "_step_of", defArgs s40, defBody s40, defScope s40, [], []⟩
abbrev s41 : Stmt := (top 41)
def d41 : DefP := ⟨(fun K => He.ga K "_write_of"), "_write_of", "_write_of", defArgs s41, defBody s41, defScope s41, [], []⟩
abbrev s42 : Stmt := (top 42)
def d42 : DefP := ⟨(fun K => He.ga K "_number_of"), "_number_of", "_number_of", defArgs s42, defBody s42, defScope s42, [], []⟩
abbrev s43 : Stmt := (top 44)
def d43 : DefP := ⟨(fun K => He.ga K "_law_spring"), "_law_spring", "_law_spring", defArgs s43, defBody s43, defScope s43, [], []⟩
abbrev s44 : Stmt := (top 45)
def d44 : DefP := ⟨(fun K => He.ga K "_law_sip"), "_law_sip", "_law_sip", defArgs s44, defBody s44, defScope s44, [], []⟩
abbrev s45 : Stmt := (top 46)
def d45 : DefP := ⟨(fun K => He.ga K "_law_cells"), "_law_cells", "_law_cells", defArgs s45, defBody s45, defScope s45, [], []⟩
abbrev s46 : Stmt := (top 47)
def d46 : DefP := ⟨(fun K => He.ga K "_law_text"), "_law_text", "_law_text", defArgs s46, defBody s46, defScope s46, [], []⟩
abbrev s47 : Stmt := (top 48)
def d47 : DefP := ⟨(fun K => He.ga K "_law_writes"), "_law_writes", "_law_writes", defArgs s47, defBody s47, defScope s47, [], []⟩
abbrev s48 : Stmt := (top 50)
def d48 : DefP := ⟨(fun K => He.ga K "_law_spot"), "_law_spot", "_law_spot", defArgs s48, defBody s48, defScope s48, [], []⟩
abbrev s49 : Stmt := (top 51)
def d49 : DefP := ⟨(fun K => He.ga K "_law_steps"), "_law_steps", "_law_steps", defArgs s49, defBody s49, defScope s49, [], []⟩
abbrev s50 : Stmt := (top 52)
def d50 : DefP := ⟨(fun K => He.ga K "_law_no_steps"), "_law_no_steps", "_law_no_steps", defArgs s50, defBody s50, defScope s50, [], []⟩
abbrev s51 : Stmt := (top 53)
def d51 : DefP := ⟨(fun K => He.ga K "_law_no_writes"), "_law_no_writes", "_law_no_writes", defArgs s51, defBody s51, defScope s51, [], []⟩
abbrev s52 : Stmt := (top 54)
def d52 : DefP := ⟨(fun K => He.ga K "_law_all_told"), "_law_all_told", "_law_all_told", defArgs s52, defBody s52, defScope s52, [], []⟩
abbrev s53 : Stmt := (top 55)
def d53 : DefP := ⟨(fun K => He.ga K "law"), "law", "law", defArgs s53, defBody s53, defScope s53, [], []⟩
def fn1 : List DefP := [d0, d1, d2, d3, d4, d5, d6, d7, d8, d9, d10, d11, d12, d13, d14, d15, d16, d17, d18, d19, d20, d21, d22, d23, d24, d25, d26]
def fn2 : List DefP := [d27, d28, d29, d30, d31, d32, d33, d34, d35, d36, d37, d38, d39, d40, d41, d42, d43, d44, d45, d46, d47, d48, d49, d50, d51, d52, d53]
def fn : List DefP := fn1 ++ (fn2)
abbrev R : PySem.W.OpenRow := PySem.W.OpenLaw.row PySem.Challenge.rw_keptholes_k81_texts_that_are_none
def asL : List PySem.Addr := [
  3, 6, 4, 21, 31, 52, 72, 92, 112, 132, 152, 161, 169, 174, 181, 279, 290, 386, 397, 404,
  411, 418, 435, 470, 511, 552, 593, 684, 695, 700, 707, 714, 721, 728, 735, 742, 749, 756, 761, 766,
  773, 780, 787, 794, 801, 808, 815, 820, 0, 20, 30, 51, 71, 91, 111, 131, 151, 160, 168, 162,
  173, 180, 278, 289, 385, 396, 403, 410, 417, 434, 469, 510, 551, 592, 683, 694, 699, 706, 713, 720,
  727, 734, 741, 748, 755, 760, 765, 772, 779, 786, 793, 800, 807, 814, 819, 15, 16, 17, 18, 19,
  29, 32, 49, 50, 69, 70, 89, 90, 109, 110, 129, 130, 149, 150, 155, 156, 157, 158, 159, 163,
  164, 165, 166, 167, 170, 171, 172, 175, 176, 177, 178, 179, 196, 204, 212, 220, 227, 234, 241, 248,
  255, 262, 269, 276, 277, 280, 281, 284, 285, 286, 287, 288, 305, 313, 320, 327, 334, 341, 348, 355,
  362, 369, 376, 383, 384, 387, 388, 391, 392, 393, 394, 395, 398, 399, 400, 401, 402, 405, 406, 407,
  408, 409, 412, 413, 414, 415, 416, 432, 433, 436, 437, 453, 460, 467, 468, 486, 494, 501, 508, 509,
  527, 535, 542, 549, 550, 568, 576, 583, 590, 591, 610, 618, 625, 632, 639, 646, 653, 660, 667, 674,
  681, 682, 685, 686, 689, 690, 691, 692, 693, 696, 697, 698, 701, 702, 703, 704, 705, 708, 709, 710,
  711, 712, 715, 716, 717, 718, 719, 722, 723, 724, 725, 726, 729, 730, 731, 732, 733, 736, 737, 738,
  739, 740, 743, 744, 745, 746, 747, 750, 751, 752, 753, 754, 757, 758, 759, 762, 763, 764, 767, 768,
  769, 770, 771, 774, 775, 776, 777, 778, 781, 782, 783, 784, 785, 788, 789, 790, 791, 792, 795, 796,
  797, 798, 799, 802, 803, 804, 805, 806, 809, 810, 811, 812, 813, 816, 817, 818, 48, 42, 68, 62,
  88, 82, 108, 102, 128, 122, 148, 142, 195, 189, 203, 211, 219, 226, 233, 240, 247, 254, 261, 268,
  275, 304, 298, 312, 319, 326, 333, 340, 347, 354, 361, 368, 375, 382, 431, 452, 459, 466, 485, 493,
  500, 507, 526, 534, 541, 548, 567, 575, 582, 589, 609, 603, 617, 624, 631, 638, 645, 652, 659, 666,
  673, 680, 43, 44, 45, 46, 47, 63, 64, 65, 66, 67, 83, 84, 85, 86, 87, 103, 104, 105,
  106, 107, 123, 124, 125, 126, 127, 143, 144, 145, 146, 147, 190, 191, 192, 193, 194, 202, 210, 218,
  221, 222, 223, 224, 225, 228, 229, 230, 231, 232, 235, 236, 237, 238, 239, 242, 243, 244, 245, 246,
  249, 250, 251, 252, 253, 256, 257, 258, 259, 260, 263, 264, 265, 266, 267, 270, 271, 272, 273, 274,
  299, 300, 301, 302, 303, 311, 314, 315, 316, 317, 318, 321, 322, 323, 324, 325, 328, 329, 330, 331,
  332, 335, 336, 337, 338, 339, 342, 343, 344, 345, 346, 349, 350, 351, 352, 353, 356, 357, 358, 359,
  360, 363, 364, 365, 366, 367, 370, 371, 372, 373, 374, 377, 378, 379, 380, 381, 426, 427, 428, 429,
  430, 447, 448, 449, 450, 451, 454, 455, 456, 457, 458, 461, 462, 463, 464, 465, 480, 481, 482, 483,
  484, 492, 495, 496, 497, 498, 499, 502, 503, 504, 505, 506, 521, 522, 523, 524, 525, 533, 536, 537,
  538, 539, 540, 543, 544, 545, 546, 547, 562, 563, 564, 565, 566, 574, 577, 578, 579, 580, 581, 584,
  585, 586, 587, 588, 604, 605, 606, 607, 608, 616, 619, 620, 621, 622, 623, 626, 627, 628, 629, 630,
  633, 634, 635, 636, 637, 640, 641, 642, 643, 644, 647, 648, 649, 650, 651, 654, 655, 656, 657, 658,
  661, 662, 663, 664, 665, 668, 669, 670, 671, 672, 675, 676, 677, 678, 679, 197, 198, 199, 200, 201,
  205, 206, 207, 208, 209, 213, 214, 215, 216, 217, 306, 307, 308, 309, 310, 487, 488, 489, 490, 491,
  528, 529, 530, 531, 532, 569, 570, 571, 572, 573, 611, 612, 613, 614, 615]
def hookL (as : List PySem.Addr) (fa : List (PySem.W.Frag → Bool)) (fn : List DefP) : PySem.W.Hook where
  α := Al
  obs := fun s => obsK fa fn (He.frG s.heap.get? as)
  val := fun _ => valG fa fn
  says := fun _ h => ∃ K : PySem.W.Frag, K.In h ∧ Says fa fn K
  of := fun _ _ e => ⟨_, He.frG_in, e⟩
  keeps := fun _ _ _ ⟨K, hK, c⟩ k => ⟨K, PySem.W.Frag.In.keeps hK k, c⟩
abbrev hk : PySem.W.Hook := hookL asL fa fn
def ob (s : PySem.W.SharedT) : Al := obsK fa fn (He.frG (HandSHeadRun.getT s) asL)
def loose : List PySem.Str := (["_wall", "__name__", "HoleError", "InvalidFile", "InvalidNumber", "InvalidScript", "InvalidList", "InvalidWrite", "InvalidText", "is_whole"] : List PySem.Str) ++ (["check_number", "is_row", "overwritten", "HOLE", "BLANK", "CELLS", "File", "check_file", "History", "check_write"] : List PySem.Str) ++ (["is_fitting", "_is_content", "_is_write", "Step", "Full", "Keep", "Lean", "Dig", "Script", "check_script"] : List PySem.Str) ++ (["_is_list_of_steps", "FIGURES", "read_script", "read_history", "_lines", "_step_of", "_write_of", "_number_of", "_law_spring", "_law_sip"] : List PySem.Str) ++ (["_law_cells", "_law_text", "_law_writes", "_law_states", "_law_spot", "_law_steps", "_law_no_steps", "_law_no_writes", "_law_all_told"] : List PySem.Str)
theorem obs_app {K : PySem.W.Frag} {a b : List (PySem.W.Frag → Bool)} {c d : List DefP} (h : obsK a c K = valG a c) (k : obsK b d K = valG b d) : obsK (a ++ b) (c ++ d) K = valG (a ++ b) (c ++ d) := by
  have h1 : a.map (fun f => f K) ++ c.map (fun d => d.fine K) = a.map (fun _ => true) ++ c.map (fun _ => true) := congrArg Prod.fst h
  have h2 : c.map (fun d => fnA K (d.adr K)) = c.map DefP.val := congrArg Prod.snd h
  have k1 : b.map (fun f => f K) ++ d.map (fun d => d.fine K) = b.map (fun _ => true) ++ d.map (fun _ => true) := congrArg Prod.fst k
  have k2 : d.map (fun d => fnA K (d.adr K)) = d.map DefP.val := congrArg Prod.snd k
  obtain ⟨e1, e2⟩ := List.append_inj h1 (by simp)
  obtain ⟨e3, e4⟩ := List.append_inj k1 (by simp)
  unfold obsK valG
  rw [List.map_append, List.map_append, List.map_append, List.map_append, List.map_append, List.map_append, e1, e2, e3, e4, h2, k2]
def kf (s : PySem.W.SharedT) : PySem.W.Frag := He.frG (HandSHeadRun.getT s) asL
open PySem PySem.W PySem.Calls PyProof.Rows in
theorem run_l (w : World) (os : OsState) : (HandSHeadRun.endF (HandSHeadRun.stepQ (HandSHeadRun.denQ HandSHeadRun.tabQ) R.prog w) 20000 R.prog w os).map (fun s => HandSHeadRun.looksF R.prog (boot_heap w.params) s.abs) = some true := by kernel_rfl
open PySem PySem.W PySem.Calls PyProof.Rows in
theorem run_s (w : World) (os : OsState) : (HandSHeadRun.endF (HandSHeadRun.stepQ (HandSHeadRun.denQ HandSHeadRun.tabQ) R.prog w) 20000 R.prog w os).map (fun s => HandSHeadRun.seenQ (PySem.W.view R.prog [55]) loose (importedModules R.prog.main.body) (fun s => PySem.W.xlAt (PySem.W.view R.prog [55]) [] s && PySem.W.recOk R.toRowW.records s) s.abs) = some (openGood (PySem.W.view R.prog [55]) loose) := by kernel_rfl
theorem run_1 (w : World) (os : OsState) : (HandSHeadRun.endF (HandSHeadRun.stepQ (HandSHeadRun.denQ HandSHeadRun.tabQ) R.prog w) 20000 R.prog w os).map (fun s => obsK fa1 fn1 (kf s)) = some (valG fa1 fn1) := by kernel_rfl
theorem run_2 (w : World) (os : OsState) : (HandSHeadRun.endF (HandSHeadRun.stepQ (HandSHeadRun.denQ HandSHeadRun.tabQ) R.prog w) 20000 R.prog w os).map (fun s => obsK fa2 fn2 (kf s)) = some (valG fa2 fn2) := by kernel_rfl
theorem run (w : World) : HandSHeadRun.RunEq R (PySem.W.view R.prog [55]) hk ob 20000 loose w := by
  unfold HandSHeadRun.RunEq
  intro os
  have hl := run_l w os
  have hs := run_s w os
  have h1 := run_1 w os
  have h2 := run_2 w os
  generalize HandSHeadRun.endF (HandSHeadRun.stepQ (HandSHeadRun.denQ HandSHeadRun.tabQ) R.prog w) 20000 R.prog w os = r at hl hs h1 h2 ⊢
  cases r with
  | none => cases hl
  | some s =>
    have hl := Option.some.inj hl
    have hs := Option.some.inj hs
    have h1 := Option.some.inj h1
    have h2 := Option.some.inj h2
    have ho : obsK fa fn (kf s) = valG fa fn := obs_app h1 h2
    exact congrArg some (Prod.ext hl (Prod.ext hs ho))
end K81
set_option Elab.async false
set_option linter.all false
set_option maxRecDepth 100000
set_option maxHeartbeats 4000000
namespace L2
open PySem PySem.Spec PyProof.Rows
end L2
namespace Dl
open PySem PySem.Spec L2
end Dl
set_option Elab.async false
set_option linter.all false
set_option maxRecDepth 100000
set_option maxHeartbeats 4000000
namespace Dl
open PySem PySem.Spec L2
end Dl
set_option Elab.async false
set_option linter.all false
set_option maxRecDepth 100000
set_option maxHeartbeats 4000000
namespace L2
open PySem PySem.Spec PyProof.Rows
end L2
namespace Dl
open PySem PySem.Spec L2
end Dl
set_option Elab.async false
set_option linter.all false
set_option maxRecDepth 100000
set_option maxHeartbeats 4000000
namespace L2
open PySem PySem.Spec PyProof.Rows
end L2
namespace Dl
open PySem PySem.Spec L2
end Dl
set_option Elab.async false
set_option linter.all false
set_option maxRecDepth 100000
set_option maxHeartbeats 4000000
namespace Dl
open PySem PySem.Spec L2
end Dl
set_option Elab.async false
set_option linter.all false
set_option maxRecDepth 100000
set_option maxHeartbeats 4000000
namespace Dl
open PySem PySem.Spec L2
end Dl
set_option Elab.async false
set_option linter.all false
set_option maxRecDepth 100000
set_option maxHeartbeats 4000000
namespace Dl
open PySem PySem.Spec L2 PyProof.Rows
end Dl
set_option Elab.async false
set_option linter.all false
set_option maxRecDepth 100000
set_option maxHeartbeats 400000
namespace Dl
open PySem PySem.Spec L2
namespace Res
end Res
open Res
end Dl
set_option Elab.async false
set_option linter.all false
set_option maxRecDepth 100000
set_option maxHeartbeats 400000
namespace Dl
open PySem PySem.Spec L2 Res
end Dl
set_option Elab.async false
set_option linter.all false
set_option maxRecDepth 100000
set_option maxHeartbeats 400000
namespace Dl
open PySem PySem.Spec L2 Res
end Dl
set_option Elab.async false
set_option linter.all false
set_option maxRecDepth 100000
set_option maxHeartbeats 400000
namespace Dl
open PySem PySem.Spec L2 Res
end Dl
set_option Elab.async false
set_option linter.all false
set_option maxRecDepth 100000
set_option maxHeartbeats 400000
namespace Dl
open PySem PySem.Spec L2 Res
end Dl
set_option Elab.async false
set_option linter.all false
set_option maxRecDepth 100000
set_option maxHeartbeats 400000
namespace Dl
open PySem PySem.Spec L2 Res
end Dl
set_option Elab.async false
set_option linter.all false
set_option maxRecDepth 100000
set_option maxHeartbeats 400000
namespace Dl
open PySem PySem.Spec L2 Res
end Dl
set_option Elab.async false
set_option linter.all false
set_option maxRecDepth 100000
set_option maxHeartbeats 400000
namespace Dl
open PySem PySem.Spec L2 Res
end Dl
set_option Elab.async false
set_option linter.all false
set_option maxRecDepth 100000
set_option maxHeartbeats 400000
namespace Dl
open PySem PySem.Spec L2 Res
end Dl
set_option Elab.async false
set_option linter.all false
set_option maxRecDepth 100000
set_option maxHeartbeats 400000
namespace Dl
open PySem PySem.Spec L2 Res
end Dl
set_option Elab.async false
set_option linter.all false
set_option maxRecDepth 100000
set_option maxHeartbeats 400000
namespace Dl
open PySem PySem.Spec L2 Res
end Dl
namespace Dl
open PySem PySem.Spec L2 Res
end Dl
namespace Dl
open PySem PySem.Spec L2 Res
end Dl
set_option Elab.async false
set_option linter.all false
set_option maxRecDepth 100000
set_option maxHeartbeats 400000
namespace Dl
open PySem PySem.Spec L2 Res PySem.Builtin PySem.Builtin.Str
end Dl
set_option Elab.async false
set_option linter.all false
set_option maxRecDepth 100000
set_option maxHeartbeats 400000
namespace Dl
open PySem PySem.Spec L2 Res
end Dl
namespace Dl
open PySem PySem.Spec L2 Res
end Dl
set_option Elab.async false
set_option linter.all false
set_option maxRecDepth 100000
set_option maxHeartbeats 400000
namespace Dl
open PySem PySem.Spec L2 Res
end Dl
set_option Elab.async false
set_option linter.all false
set_option maxRecDepth 100000
set_option maxHeartbeats 400000
namespace Dl
open PySem PySem.Spec L2 Res
end Dl
set_option Elab.async false
set_option linter.all false
set_option maxRecDepth 100000
set_option maxHeartbeats 400000
namespace Dl
open PySem PySem.Spec L2 Res
end Dl
set_option Elab.async false
set_option linter.all false
set_option maxRecDepth 100000
set_option maxHeartbeats 400000
namespace Dl
open PySem PySem.Spec L2 Res
end Dl
set_option Elab.async false
set_option linter.all false
set_option maxRecDepth 100000
set_option maxHeartbeats 400000
namespace Dl
open PySem PySem.Spec L2 Res
end Dl
set_option Elab.async false
set_option linter.all false
set_option maxRecDepth 100000
set_option maxHeartbeats 400000
namespace Dl
open PySem PySem.Spec L2 Res
end Dl
set_option Elab.async false
set_option linter.all false
set_option maxRecDepth 100000
set_option maxHeartbeats 400000
namespace Dl
open PySem PySem.Spec L2 Res
end Dl
set_option Elab.async false
set_option linter.all false
set_option maxRecDepth 100000
set_option maxHeartbeats 400000
namespace Dl
open PySem PySem.Spec L2 Res
end Dl
set_option Elab.async false
set_option linter.all false
set_option maxRecDepth 100000
set_option maxHeartbeats 400000
namespace Dl
open PySem PySem.Spec L2 Res
end Dl
set_option Elab.async false
set_option linter.all false
set_option maxRecDepth 100000
set_option maxHeartbeats 400000
namespace Dl
open PySem PySem.Spec L2 Res
end Dl
set_option Elab.async false
set_option linter.all false
set_option maxRecDepth 100000
set_option maxHeartbeats 400000
namespace Dl
open PySem PySem.Spec L2 Res
end Dl
set_option Elab.async false
set_option linter.all false
set_option maxRecDepth 100000
set_option maxHeartbeats 400000
namespace Dl
open PySem PySem.Spec L2 Res
end Dl
set_option Elab.async false
set_option linter.all false
set_option maxRecDepth 100000
set_option maxHeartbeats 400000
namespace Dl
open PySem PySem.Spec L2 Res
end Dl
set_option Elab.async false
set_option linter.all false
set_option maxRecDepth 100000
set_option maxHeartbeats 400000
namespace Dl
open PySem PySem.Spec L2 Res
end Dl
set_option Elab.async false
set_option linter.all false
set_option maxRecDepth 100000
set_option maxHeartbeats 400000
namespace Dl
open PySem PySem.Spec L2 Res
end Dl
set_option Elab.async false
set_option linter.all false
set_option maxRecDepth 100000
set_option maxHeartbeats 400000
namespace Dl
open PySem PySem.Spec L2 Res
end Dl
set_option Elab.async false
set_option linter.all false
set_option maxRecDepth 100000
set_option maxHeartbeats 400000
namespace Dl
open PySem PySem.Spec L2 Res
end Dl
set_option Elab.async false
set_option linter.all false
set_option maxRecDepth 100000
set_option maxHeartbeats 400000
namespace Dl
open PySem PySem.Spec L2 Res
end Dl
set_option Elab.async false
set_option linter.all false
set_option maxRecDepth 100000
set_option maxHeartbeats 400000
namespace Dl
open PySem PySem.Spec L2 Res
end Dl
set_option Elab.async false
set_option linter.all false
set_option maxRecDepth 100000
set_option maxHeartbeats 400000
namespace Dl
open PySem PySem.Spec L2 Res
end Dl
set_option Elab.async false
set_option linter.all false
set_option maxRecDepth 100000
set_option maxHeartbeats 400000
namespace Dl
open PySem PySem.Spec L2 Res
end Dl
set_option Elab.async false
set_option linter.all false
set_option maxRecDepth 100000
set_option maxHeartbeats 400000
namespace Dl
open PySem PySem.Spec L2 Res
end Dl
set_option Elab.async false
set_option linter.all false
set_option maxRecDepth 100000
set_option maxHeartbeats 400000
namespace Dl
open PySem PySem.Spec L2 Res
end Dl
set_option Elab.async false
set_option linter.all false
set_option maxRecDepth 100000
set_option maxHeartbeats 400000
namespace Dl
open PySem PySem.Spec L2 Res
end Dl
set_option Elab.async false
set_option linter.all false
set_option maxRecDepth 100000
set_option maxHeartbeats 400000
namespace Dl
open PySem PySem.Spec L2 Res
end Dl
set_option Elab.async false
set_option linter.all false
set_option maxRecDepth 100000
set_option maxHeartbeats 400000
namespace Dl
open PySem PySem.Spec L2 Res
end Dl
set_option Elab.async false
set_option linter.all false
set_option maxRecDepth 100000
set_option maxHeartbeats 400000
namespace Dl
open PySem PySem.Spec L2 Res
end Dl
set_option Elab.async false
set_option linter.all false
set_option maxRecDepth 100000
set_option maxHeartbeats 400000
namespace Dl
open PySem PySem.Spec L2 Res
end Dl
set_option Elab.async false
set_option linter.all false
set_option maxRecDepth 100000
set_option maxHeartbeats 400000
namespace Dl
open PySem PySem.Spec L2 Res
end Dl
set_option Elab.async false
set_option linter.all false
set_option maxRecDepth 100000
set_option maxHeartbeats 400000
namespace Dl
end Dl
set_option Elab.async false
set_option linter.all false
set_option maxRecDepth 100000
set_option maxHeartbeats 400000
namespace Dl
/-- is cell i written -/
def mkB (a : List Nat) (i : Nat) : Bool := match a[i]? with
  | some x => x != 46
  | none => false
end Dl
set_option Elab.async false
set_option linter.all false
set_option maxRecDepth 100000
set_option maxHeartbeats 400000
namespace Dl
end Dl
set_option Elab.async false
set_option linter.all false
set_option maxRecDepth 100000
namespace Dl
open PySem
end Dl
set_option Elab.async false
set_option linter.all false
set_option maxRecDepth 100000
set_option maxHeartbeats 4000000
set_option Elab.async false
set_option linter.all false
set_option maxRecDepth 100000
set_option maxHeartbeats 4000000
set_option Elab.async false
set_option linter.all false
set_option exponentiation.threshold 4000
set_option maxRecDepth 100000
set_option maxHeartbeats 1000000
set_option Elab.async false
set_option linter.all false
set_option exponentiation.threshold 4000
set_option maxRecDepth 100000
set_option maxHeartbeats 1000000
set_option Elab.async false
set_option linter.all false
set_option exponentiation.threshold 4000
set_option maxRecDepth 100000
set_option maxHeartbeats 1000000
set_option Elab.async false
set_option linter.all false
set_option exponentiation.threshold 4000
set_option maxRecDepth 100000
set_option maxHeartbeats 1000000
set_option Elab.async false
set_option linter.all false
set_option exponentiation.threshold 4000
set_option maxRecDepth 100000
set_option maxHeartbeats 1000000
set_option Elab.async false
set_option linter.all false
set_option exponentiation.threshold 4000
set_option maxRecDepth 100000
set_option maxHeartbeats 1000000
set_option Elab.async false
set_option linter.all false
set_option exponentiation.threshold 4000
set_option maxRecDepth 100000
set_option maxHeartbeats 1000000
set_option Elab.async false
set_option linter.all false
set_option exponentiation.threshold 4000
set_option maxRecDepth 100000
set_option maxHeartbeats 1000000
set_option Elab.async false
set_option linter.all false
set_option exponentiation.threshold 4000
set_option maxRecDepth 100000
set_option maxHeartbeats 1000000
set_option Elab.async false
set_option linter.all false
set_option exponentiation.threshold 4000
set_option maxRecDepth 100000
set_option maxHeartbeats 1000000
set_option Elab.async false
set_option linter.all false
set_option exponentiation.threshold 4000
set_option maxRecDepth 100000
set_option maxHeartbeats 1000000
set_option Elab.async false
set_option linter.all false
set_option exponentiation.threshold 4000
set_option maxRecDepth 100000
set_option maxHeartbeats 1000000
set_option Elab.async false
set_option linter.all false
set_option maxRecDepth 100000
set_option maxHeartbeats 4000000
namespace Dl
open PySem PySem.Spec L2 PyProof.Rows
theorem tup_mul_same (l : Addr) (items : Array Value) (n : Nat) (dd : Option Addr) (sl : Array (Option Value)) (x : Int) (u : Tok) (c0 : (decide (x < -(2 ^ 63)) || decide (x ≥ 2 ^ 63)) = false) (c1 : (items.isEmpty || x == 1) = true) :
    Meets (Builtin.«tuple.__mul__» ⟨[.ref l, .int x u], []⟩) (fun _ R s => s.heap.get? l = some { cls := .type "tuple", dict := dd, data := .seq items n, slots := sl } ∧ R (.ok (.ret (Value.ref l))) s) :=
  .of_wp fun prog w A R s h => by
    obtain ⟨hp, g, d, tk, os⟩ := s
    obtain ⟨hl, h⟩ := h
    have f1 := AutoSeq1.idx_int
    wp_walk using wpAny_loadPart' hl
    repeat (first
      | (refine wpAny_ite_false (decide_eq_false (by rw [c0]; exact Bool.false_ne_true)) ?_; wp_walk using wpAny_loadPart' hl)
      | (refine wpAny_ite_true (decide_eq_true c1) ?_; wp_walk using wpAny_loadPart' hl))
    exact ⟨_, rfl, h⟩
theorem tup_mul_none (l : Addr) (items : Array Value) (n : Nat) (dd : Option Addr) (sl : Array (Option Value)) (x : Int) (u : Tok) (c0 : (decide (x < -(2 ^ 63)) || decide (x ≥ 2 ^ 63)) = false) (c1 : (items.isEmpty || x == 1) = false) (c2 : (decide (x ≤ 0) || items.isEmpty) = true) :
    Meets (Builtin.«tuple.__mul__» ⟨[.ref l, .int x u], []⟩) (fun _ R s => s.heap.get? l = some { cls := .type "tuple", dict := dd, data := .seq items n, slots := sl } ∧
      R (.ok (.ret (Value.ref s.heap.objs.size))) { s with heap := s.heap.push { cls := Value.type "tuple", data := Data.seq #[] }, toks := s.toks }) :=
  .of_wp fun prog w A R s h => by
    obtain ⟨hp, g, d, tk, os⟩ := s
    obtain ⟨hl, h⟩ := h
    have f1 := AutoSeq1.idx_int
    wp_walk using wpAny_loadPart' hl
    repeat (first
      | (refine wpAny_ite_false (decide_eq_false (by rw [c0]; exact Bool.false_ne_true)) ?_; wp_walk using wpAny_loadPart' hl)
      | (refine wpAny_ite_false (decide_eq_false (by rw [c1]; exact Bool.false_ne_true)) ?_; wp_walk using wpAny_loadPart' hl)
      | (refine wpAny_ite_true (decide_eq_true c2) ?_; wp_walk using wpAny_loadPart' hl))
    exact ⟨_, rfl, h⟩
def rRepA (K : PySem.W.Frag) : R2 := fun x y H Q => ∃ l k xs, x = .ref l ∧ y = .int k ∧ SqT K H l xs ∧ -(2 ^ 62) ≤ k ∧ k ≤ 1000 ∧ xs.length ≤ 1000 ∧ (xs = [] ∨ k = 1 → Q (.ref l) H) ∧
  (¬ (xs = [] ∨ k = 1) → ∀ p, H p = none → Q (.ref p) (upd H p (.tup (List.replicate k.toNat xs).flatten)))
section
variable {X : Cx}
theorem op_repA : OpR X (binaryOp .Mult) (rRepA X.K) := by
  intro pins s σ H x y v u Q I rx ry h
  obtain ⟨l, k, xs, rfl, rfl, hT, h1, h2, hz, q1, q2⟩ := h
  by_cases hk : ¬ (xs = [] ∨ k = 1) ∧ 2 ≤ k
  · exact op_repT pins s σ H _ _ v u Q I rx ry ⟨l, k, xs, rfl, rfl, hT, fun e => hk.1 (.inl e), hk.2, h2, hz, q2 hk.1⟩
  cases rx
  obtain ⟨t, rfl⟩ := ry
  obtain ⟨its, r, ⟨⟨cls, dd, data, sl⟩, ho, hc, n, hd⟩, hs⟩ := I.tuple hT
  simp only at hc hd
  subst hc hd
  have hle : its.length = xs.length := r.length.symm
  have hi : its.toArray.isEmpty = decide (xs = []) := by
    cases its with
    | nil =>
      have : xs = [] := List.eq_nil_of_length_eq_zero hle.symm
      subst this
      rfl
    | cons a b =>
      cases xs with
      | nil => cases hle
      | cons c d => rfl
  have c0 : (decide (k < -(2 ^ 63)) || decide (k ≥ 2 ^ 63)) = false := by
    rw [decide_eq_false (by omega), decide_eq_false (by omega)] <;> rfl
  by_cases e : xs = [] ∨ k = 1
  · have c1 : (its.toArray.isEmpty || k == 1) = true := by
      rw [hi]
      rcases e with e | e
      · rw [decide_eq_true e] <;> rfl
      · rw [e, Bool.or_eq_true] <;> exact .inr rfl
    exact wpAny_binaryOp_repeat_ref (T := "tuple") (U := "int") (by decide) ⟨_, ho, rfl⟩ (fun s' => typeIs_int s' k t) noFill_tuple_mul F.fills_int_mul F.slot_int_rmul repeat_tuple F.slot_int_index.lookup
      (call_meets F.slot_int_rmul (typeIs_int s k t) F.entry_int_rmul (F.args_int_rmul_2 _ _) (int_rmul_tuple k t l its.toArray n dd sl)
        ⟨ho, rfl, ⟨_, ho, rfl⟩, call_meets F.slot_tuple_mul ⟨_, ho, rfl⟩ F.entry_tuple_mul (F.args_tuple_mul_2 _ _) (tup_mul_same l its.toArray n dd sl k t c0 c1) ⟨ho, .ref l, H, I, rfl, q1 e⟩⟩)
  · have k0 : k ≤ 0 := by
      apply Classical.byContradiction
      intro z
      exact hk ⟨e, by have : k ≠ 1 := fun w => e (.inr w); omega⟩
    have c1 : (its.toArray.isEmpty || k == 1) = false := by
      rw [hi, decide_eq_false (fun w => e (.inl w)), Bool.false_or]
      exact beq_eq_false_iff_ne.mpr (by omega)
    have c2 : (decide (k ≤ 0) || its.toArray.isEmpty) = true := by rw [decide_eq_true k0] <;> rfl
    have e0 : k.toNat = 0 := by omega
    have q3 := q2 e
    rw [e0] at q3
    refine wpAny_binaryOp_repeat_ref (T := "tuple") (U := "int") (by decide) ⟨_, ho, rfl⟩ (fun s' => typeIs_int s' k t) noFill_tuple_mul F.fills_int_mul F.slot_int_rmul repeat_tuple F.slot_int_index.lookup
      (call_meets F.slot_int_rmul (typeIs_int s k t) F.entry_int_rmul (F.args_int_rmul_2 _ _) (int_rmul_tuple k t l its.toArray n dd sl)
        ⟨ho, rfl, ⟨_, ho, rfl⟩, call_meets F.slot_tuple_mul ⟨_, ho, rfl⟩ F.entry_tuple_mul (F.args_tuple_mul_2 _ _) (tup_mul_none l its.toArray n dd sl k t c0 c1 c2) ⟨ho, ?_⟩⟩)
    refine ⟨.ref s.heap.objs.size, _, I.laid (t' := s.toks) (o := .tup []) (fun b ob q => Heap.get?_push_of_some _ q) (Nat.le_refl _) ?_, rfl, q3 _ (I.hok.fresh (Nat.le_refl _))⟩
    exact ⟨Nat.zero_le _, [], .nil, IsTup.new _ _⟩
end
end Dl
set_option Elab.async false
set_option linter.all false
set_option maxRecDepth 100000
set_option maxHeartbeats 4000000
namespace Dl
open PySem PySem.Spec L2
/-- a slot: empty or forgotten; a value; a list that this frame alone holds; an object that is being made -/
inductive Sl where
  | un | v (d : D) | own (xs : List D) | ini (c : Nat) (fs : List (Str × D)) | exc (c : Nat) (x : D) | dic (ks : List Key) (ds : List D)
def isOwn : Sl → Bool
  | .own _ => true
  | .ini _ _ => true
  | .dic _ _ => true
  | _ => false
section
variable (K : PySem.W.Frag) (ct : CT) (H : Hp) (O : Addr → Prop)
end
/-- what may change: lists and objects of O -/
def Mutb : HO → Prop
  | .lst _ => True
  | .ins _ _ _ => True
  | .dK _ => True
  | _ => False
def Chg (O : Addr → Prop) (H H' : Hp) : Prop := ∀ b o, H b = some o → H' b = some o ∨ (O b ∧ Mutb o)
theorem Chg.of {O : Addr → Prop} {H H' : Hp} (e : Same H H') : Chg O H H' := fun b o h => .inl (e b o h)
section
variable {K : PySem.W.Frag} {ct : CT} {H H' : Hp} {O O' : Addr → Prop}
theorem Chg.lat {a : Addr} {vs : List V} (c : Chg O H H') (h : LAt K H O a vs) : LAt K H' O a vs := by
  rcases h with ⟨n, h⟩ | h
  · refine .inl ⟨n, ?_⟩
    rcases h with h | ⟨o, h⟩
    · rcases c a _ h with z | ⟨z, _⟩
      · exact .inl z
      · exact absurd z n
    · rcases c a _ h with z | ⟨z, _⟩
      · exact .inr ⟨o, z⟩
      · exact absurd z n
  · exact .inr h
theorem Chg.sqt {a : Addr} {vs : List V} (c : Chg O H H') (h : SqT K H a vs) : SqT K H' a vs := by
  rcases h with h | h
  · rcases h with h | ⟨o, h⟩
    · rcases c a _ h with z | ⟨_, z⟩
      · exact .inl (.inl z)
      · exact z.elim
    · rcases c a _ h with z | ⟨_, z⟩
      · exact .inl (.inr ⟨o, z⟩)
      · exact z.elim
  · exact .inr h
mutual
theorem Rep.chg (c : Chg O H H') : ∀ {d : D} {v : V}, Rep K ct H O d v → Rep K ct H' O d v
  | .non, v, h => by simp only [Rep] at h ⊢; exact h
  | .bl b, v, h => by simp only [Rep] at h ⊢; exact h
  | .int i, v, h => by simp only [Rep] at h ⊢; exact h
  | .str x, v, h => by simp only [Rep] at h ⊢; exact h
  | .ty n, v, h => by simp only [Rep] at h ⊢; exact h
  | .cls n, v, h => by simp only [Rep] at h ⊢; exact h
  | .lst xs, v, h => by
    simp only [Rep] at h ⊢
    obtain ⟨a, vs, e, n, l, r⟩ := h
    refine ⟨a, vs, e, n, ?_, RepL.chg c r⟩
    rcases c a _ l with z | ⟨z, _⟩
    · exact z
    · exact absurd z n
  | .scr ns, v, h => by
    simp only [Rep] at h ⊢
    obtain ⟨a, e, l⟩ := h
    exact ⟨a, e, c.lat l⟩
  | .tup xs, v, h => by
    simp only [Rep] at h ⊢
    obtain ⟨a, vs, e, l, r⟩ := h
    exact ⟨a, vs, e, c.sqt l, RepL.chg c r⟩
  | .obj k fs, v, h => by
    simp only [Rep] at h ⊢
    obtain ⟨a, dx, vs, e, n, l, hl, r⟩ := h
    refine ⟨a, dx, vs, e, n, ?_, hl, RepL.chg c r⟩
    rcases c a _ l with z | ⟨z, _⟩
    · exact z
    · exact absurd z n
  | .tok k, v, h => by
    simp only [Rep] at h ⊢
    obtain ⟨a, e, n, l⟩ := h
    refine ⟨a, e, n, ?_⟩
    rcases c a _ l with z | ⟨z, _⟩
    · exact z
    · exact absurd z n
  | .ref a, v, h => by simp only [Rep] at h ⊢; exact h
  | .dic ks xs, v, h => by
    simp only [Rep] at h ⊢
    obtain ⟨a, vs, e, n, l, hl, r⟩ := h
    refine ⟨a, vs, e, n, ?_, hl, RepL.chg c r⟩
    rcases c a _ l with z | ⟨z, _⟩
    · exact z
    · exact absurd z n
theorem RepL.chg (c : Chg O H H') : ∀ {ds : List D} {vs : List V}, RepL K ct H O ds vs → RepL K ct H' O ds vs
  | [], vs, h => by simp only [RepL] at h ⊢; exact h
  | d :: ds, vs, h => by
    simp only [RepL] at h ⊢
    obtain ⟨v, r, e, h1, h2⟩ := h
    exact ⟨v, r, e, Rep.chg c h1, RepL.chg c h2⟩
end
/-- another set of what may change -/
theorem LAt.to {a : Addr} {vs : List V} (h : LAt K H O a vs) (c : ∀ b, ¬ O b → (∃ o, H b = some o) → ¬ O' b) : LAt K H O' a vs := by
  rcases h with ⟨n, h⟩ | h
  · refine .inl ⟨c a n ?_, h⟩
    rcases h with h | ⟨o, h⟩
    · exact ⟨_, h⟩
    · exact ⟨_, h⟩
  · exact .inr h
mutual
theorem Rep.to (c : ∀ b, ¬ O b → (∃ o, H b = some o) → ¬ O' b) : ∀ {d : D} {v : V}, Rep K ct H O d v → Rep K ct H O' d v
  | .non, v, h => by simp only [Rep] at h ⊢; exact h
  | .bl b, v, h => by simp only [Rep] at h ⊢; exact h
  | .int i, v, h => by simp only [Rep] at h ⊢; exact h
  | .str x, v, h => by simp only [Rep] at h ⊢; exact h
  | .ty n, v, h => by simp only [Rep] at h ⊢; exact h
  | .cls n, v, h => by simp only [Rep] at h ⊢; exact h
  | .lst xs, v, h => by
    simp only [Rep] at h ⊢
    obtain ⟨a, vs, e, n, l, r⟩ := h
    exact ⟨a, vs, e, c a n ⟨_, l⟩, l, RepL.to c r⟩
  | .scr ns, v, h => by
    simp only [Rep] at h ⊢
    obtain ⟨a, e, l⟩ := h
    exact ⟨a, e, l.to c⟩
  | .tup xs, v, h => by
    simp only [Rep] at h ⊢
    obtain ⟨a, vs, e, l, r⟩ := h
    exact ⟨a, vs, e, l, RepL.to c r⟩
  | .obj k fs, v, h => by
    simp only [Rep] at h ⊢
    obtain ⟨a, dx, vs, e, n, l, hl, r⟩ := h
    exact ⟨a, dx, vs, e, c a n ⟨_, l⟩, l, hl, RepL.to c r⟩
  | .tok k, v, h => by
    simp only [Rep] at h ⊢
    obtain ⟨a, e, n, l⟩ := h
    exact ⟨a, e, c a n ⟨_, l⟩, l⟩
  | .ref a, v, h => by simp only [Rep] at h ⊢; exact h
  | .dic ks xs, v, h => by
    simp only [Rep] at h ⊢
    obtain ⟨a, vs, e, n, l, hl, r⟩ := h
    exact ⟨a, vs, e, c a n ⟨_, l⟩, l, hl, RepL.to c r⟩
theorem RepL.to (c : ∀ b, ¬ O b → (∃ o, H b = some o) → ¬ O' b) : ∀ {ds : List D} {vs : List V}, RepL K ct H O ds vs → RepL K ct H O' ds vs
  | [], vs, h => by simp only [RepL] at h ⊢; exact h
  | d :: ds, vs, h => by
    simp only [RepL] at h ⊢
    obtain ⟨v, r, e, h1, h2⟩ := h
    exact ⟨v, r, e, Rep.to c h1, RepL.to c h2⟩
end
theorem Rep.same (c : Same H H') {d : D} {v : V} (h : Rep K ct H O d v) : Rep K ct H' O d v := Rep.chg (Chg.of c) h
theorem RepL.same (c : Same H H') {d : List D} {v : List V} (h : RepL K ct H O d v) : RepL K ct H' O d v := RepL.chg (Chg.of c) h
theorem Rep.less (c : ∀ b, O' b → O b) {d : D} {v : V} (h : Rep K ct H O d v) : Rep K ct H O' d v := Rep.to (fun b n _ z => n (c b z)) h
theorem RepL.less (c : ∀ b, O' b → O b) {d : List D} {v : List V} (h : RepL K ct H O d v) : RepL K ct H O' d v := RepL.to (fun b n _ z => n (c b z)) h
/-- a new address may change -/
theorem RepL.fresh {p : Addr} (hp : H p = none) (c : ∀ b, O' b → O b ∨ b = p) {d : List D} {v : List V} (h : RepL K ct H O d v) : RepL K ct H O' d v := RepL.to (fun b n ⟨o, e⟩ z => by
  rcases c b z with z | z
  · exact n z
  · rw [z, hp] at e
    cases e) h
theorem Rep.fresh {p : Addr} (hp : H p = none) (c : ∀ b, O' b → O b ∨ b = p) {d : D} {v : V} (h : Rep K ct H O d v) : Rep K ct H O' d v := Rep.to (fun b n ⟨o, e⟩ z => by
  rcases c b z with z | z
  · exact n z
  · rw [z, hp] at e
    cases e) h
theorem RepL.nil : RepL K ct H O [] [] := by simp only [RepL]
theorem RepL.cons {d : D} {v : V} {ds : List D} {vs : List V} (h : Rep K ct H O d v) (r : RepL K ct H O ds vs) : RepL K ct H O (d :: ds) (v :: vs) := by
  simp only [RepL]
  exact ⟨v, vs, rfl, h, r⟩
theorem RepL.cons_inv {d : D} {ds : List D} {vs : List V} (h : RepL K ct H O (d :: ds) vs) : ∃ v r, vs = v :: r ∧ Rep K ct H O d v ∧ RepL K ct H O ds r := by
  simp only [RepL] at h
  exact h
theorem RepL.app : ∀ {ds es : List D} {vs us : List V}, RepL K ct H O ds vs → RepL K ct H O es us → RepL K ct H O (ds ++ es) (vs ++ us)
  | [], es, vs, us, h, r => by simp only [RepL] at h; subst h; exact r
  | d :: ds, es, vs, us, h, r => by
    obtain ⟨v, q, e, h1, h2⟩ := h.cons_inv
    subst e
    exact RepL.cons h1 (RepL.app h2 r)
theorem RepL.get : ∀ {ds : List D} {vs : List V} {i : Nat} {d : D}, RepL K ct H O ds vs → ds[i]? = some d → ∃ v, vs[i]? = some v ∧ Rep K ct H O d v
  | [], _, _, _, _, e => by simp at e
  | d :: ds, vs, 0, x, h, e => by
    obtain ⟨v, q, e2, h1, h2⟩ := h.cons_inv
    subst e2
    simp at e
    subst e
    exact ⟨v, rfl, h1⟩
  | d :: ds, vs, i + 1, x, h, e => by
    obtain ⟨v, q, e2, h1, h2⟩ := h.cons_inv
    subst e2
    obtain ⟨u, a, b⟩ := RepL.get (i := i) h2 (by simpa using e)
    exact ⟨u, by simpa using a, b⟩
theorem RepL.getV : ∀ {ds : List D} {vs : List V} {i : Nat} {v : V}, RepL K ct H O ds vs → vs[i]? = some v → ∃ d, ds[i]? = some d ∧ Rep K ct H O d v
  | [], vs, i, v, h, e => by simp only [RepL] at h; subst h; simp at e
  | d :: ds, vs, 0, x, h, e => by
    obtain ⟨v, q, e2, h1, h2⟩ := h.cons_inv
    subst e2
    simp at e
    subst e
    exact ⟨d, rfl, h1⟩
  | d :: ds, vs, i + 1, x, h, e => by
    obtain ⟨v, q, e2, h1, h2⟩ := h.cons_inv
    subst e2
    obtain ⟨u, a, b⟩ := RepL.getV (i := i) h2 (by simpa using e)
    exact ⟨u, by simpa using a, b⟩
end
/-- an exception of the own class number c, its field x -/
def ExcAt (K : PySem.W.Frag) (ct : CT) (H : Hp) (O : Addr → Prop) (c : Nat) (x : D) (cls : Value) (dd : Option Addr) : Prop :=
  cls = .ref (ct.addr c) ∧ ∃ d v, dd = some d ∧ H d = some (.xd ((ct.names c).zip [v])) ∧ Rep K ct H O x v
section
variable {K : PySem.W.Frag} {ct : CT} {H H' : Hp} {O O' : Addr → Prop} {c : Nat} {x : D} {cls : Value} {dd : Option Addr}
theorem ExcAt.chg (h : ExcAt K ct H O c x cls dd) (g : Chg O H H') : ExcAt K ct H' O c x cls dd := by
  obtain ⟨e, d, v, e2, e3, r⟩ := h
  refine ⟨e, d, v, e2, ?_, r.chg g⟩
  rcases g d _ e3 with z | ⟨_, z⟩
  · exact z
  · exact z.elim
theorem ExcAt.same (h : ExcAt K ct H O c x cls dd) (g : Same H H') : ExcAt K ct H' O c x cls dd := h.chg (Chg.of g)
theorem ExcAt.less (h : ExcAt K ct H O c x cls dd) (l : ∀ b, O' b → O b) : ExcAt K ct H O' c x cls dd := by
  obtain ⟨e, d, v, e2, e3, r⟩ := h
  exact ⟨e, d, v, e2, e3, r.less l⟩
theorem ExcAt.fresh {p : Addr} (h : ExcAt K ct H O c x cls dd) (hp : H p = none) (l : ∀ b, O' b → O b ∨ b = p) : ExcAt K ct H O' c x cls dd := by
  obtain ⟨e, d, v, e2, e3, r⟩ := h
  exact ⟨e, d, v, e2, e3, r.fresh hp l⟩
end
def CT.w (ct : CT) (g : Gh) : CT := { ct with gh := g }
section
variable {K : PySem.W.Frag} {ct : CT} {H : Hp} {O : Addr → Prop} {g : Gh}
mutual
theorem Rep.w : ∀ {d : D} {v : V}, Rep K (ct.w g) H O d v ↔ Rep K ct H O d v
  | .non, v => by simp only [Rep]
  | .bl b, v => by simp only [Rep]
  | .int i, v => by simp only [Rep]
  | .str x, v => by simp only [Rep]
  | .ty n, v => by simp only [Rep]
  | .cls n, v => by simp only [Rep]; exact Iff.rfl
  | .lst xs, v => by
    simp only [Rep]
    exact ⟨fun ⟨a, vs, e, n, l, r⟩ => ⟨a, vs, e, n, l, RepL.w.mp r⟩, fun ⟨a, vs, e, n, l, r⟩ => ⟨a, vs, e, n, l, RepL.w.mpr r⟩⟩
  | .scr ns, v => by simp only [Rep]
  | .tup xs, v => by
    simp only [Rep]
    exact ⟨fun ⟨a, vs, e, l, r⟩ => ⟨a, vs, e, l, RepL.w.mp r⟩, fun ⟨a, vs, e, l, r⟩ => ⟨a, vs, e, l, RepL.w.mpr r⟩⟩
  | .obj k fs, v => by
    simp only [Rep]
    exact ⟨fun ⟨a, dx, vs, e, n, l, hl, r⟩ => ⟨a, dx, vs, e, n, l, hl, RepL.w.mp r⟩, fun ⟨a, dx, vs, e, n, l, hl, r⟩ => ⟨a, dx, vs, e, n, l, hl, RepL.w.mpr r⟩⟩
  | .tok k, v => by simp only [Rep]; exact Iff.rfl
  | .ref k, v => by simp only [Rep]
  | .dic ks xs, v => by
    simp only [Rep]
    exact ⟨fun ⟨a, vs, e, n, l, hl, r⟩ => ⟨a, vs, e, n, l, hl, RepL.w.mp r⟩, fun ⟨a, vs, e, n, l, hl, r⟩ => ⟨a, vs, e, n, l, hl, RepL.w.mpr r⟩⟩
theorem RepL.w : ∀ {ds : List D} {vs : List V}, RepL K (ct.w g) H O ds vs ↔ RepL K ct H O ds vs
  | [], vs => by simp only [RepL]
  | d :: ds, vs => by
    simp only [RepL]
    exact ⟨fun ⟨v, r, e, h1, h2⟩ => ⟨v, r, e, Rep.w.mp h1, RepL.w.mp h2⟩, fun ⟨v, r, e, h1, h2⟩ => ⟨v, r, e, Rep.w.mpr h1, RepL.w.mpr h2⟩⟩
end
theorem ExcAt.w {c : Nat} {x : D} {cls : Value} {dd : Option Addr} : ExcAt K (ct.w g) H O c x cls dd ↔ ExcAt K ct H O c x cls dd :=
  ⟨fun ⟨e, d, v, e2, e3, r⟩ => ⟨e, d, v, e2, e3, Rep.w.mp r⟩, fun ⟨e, d, v, e2, e3, r⟩ => ⟨e, d, v, e2, e3, Rep.w.mpr r⟩⟩
end
section
variable (K : PySem.W.Frag) (ct : CT) (H : Hp) (O : Addr → Prop)
def SlOk (a : Addr) : Sl → Option V → Prop
  | .un, _ => True
  | .v d, o => ∃ v, o = some v ∧ Rep K ct H O d v
  | .own xs, o => o = some (.ref a) ∧ O a ∧ ∃ vs, H a = some (.lst vs) ∧ RepL K ct H O xs vs
  | .ini c fs, o => o = some (.ref a) ∧ O a ∧ a = ct.gh.slf ∧ ∃ vs, H a = some (.ins (ct.addr c) ct.gh.sdx ((fs.map (·.1)).zip vs)) ∧ RepL K ct H O (fs.map (·.2)) vs
  | .exc c x, o => o = some (.ref ct.gh.exA) ∧ ExcAt K ct H O c x ct.gh.exC ct.gh.exD
  | .dic ks ds, o => o = some (.ref a) ∧ O a ∧ ∃ vs, H a = some (.dK (ks.zip vs)) ∧ ks.length = vs.length ∧ RepL K ct H O ds vs
structure StE (f : Nat → Addr) (dσ : List Sl) (σ : St) : Prop where
  len : dσ.length = σ.length
  at_ : ∀ i s, dσ[i]? = some s → ∃ o, σ[i]? = some o ∧ SlOk K ct H O (f i) s o
  dom : ∀ a, O a → ∃ o, H a = some o
end
section
variable {K : PySem.W.Frag} {ct : CT} {H H' : Hp} {O O' : Addr → Prop} {f : Nat → Addr} {dσ : List Sl} {σ : St}
theorem SlOk.same {a : Addr} {s : Sl} {o : Option V} (c : Same H H') (h : SlOk K ct H O a s o) : SlOk K ct H' O a s o := by
  cases s with
  | un => trivial
  | v d =>
    obtain ⟨v, e, r⟩ := h
    exact ⟨v, e, r.same c⟩
  | own xs =>
    obtain ⟨e, n, vs, l, r⟩ := h
    exact ⟨e, n, vs, c _ _ l, r.same c⟩
  | ini k fs =>
    obtain ⟨e, n, ea, vs, l, r⟩ := h
    exact ⟨e, n, ea, vs, c _ _ l, r.same c⟩
  | exc k x => exact ⟨h.1, h.2.same c⟩
  | dic ks xs =>
    obtain ⟨e, n, vs, l, hl, r⟩ := h
    exact ⟨e, n, vs, c _ _ l, hl, r.same c⟩
theorem StE.same (c : Same H H') (h : StE K ct H O f dσ σ) : StE K ct H' O f dσ σ :=
  ⟨h.len, fun i s e => by
    obtain ⟨o, a, b⟩ := h.at_ i s e
    exact ⟨o, a, b.same c⟩, fun a z => by
    obtain ⟨o, e⟩ := h.dom a z
    exact ⟨o, c a o e⟩⟩
theorem StE.var (h : StE K ct H O f dσ σ) {i : Nat} {d : D} (e : dσ[i]? = some (.v d)) : ∃ v, σ[i]? = some (some v) ∧ Rep K ct H O d v := by
  obtain ⟨o, a, v, b, r⟩ := h.at_ i _ e
  subst b
  exact ⟨v, a, r⟩
end
abbrev QX := Nat → D → Prop
abbrev TD := List Sl → (D → Prop) → QX → Prop
abbrev TDT := List Sl → (Bool → Prop) → QX → Prop
abbrev TDA := List Sl → (List D → Prop) → QX → Prop
section
variable (K : PySem.W.Frag) (ct : CT) (W : WX)
def KE (H : Hp) (O : Addr → Prop) (σ : St) (QE : QX) : Prop := ∀ c x cls dd H', Same H H' → ExcAt K ct H' O c x cls dd → QE c x → W cls dd σ H'
def liftE (td : TD) : TE := fun σ H Q => ∃ O f dσ QD QE, StE K ct H O f dσ σ ∧ td dσ QD QE ∧ (∀ v d H', Same H H' → Rep K ct H' O d v → QD d → Q v H') ∧ KE K ct W H O σ QE
def liftT (td : TDT) : TT := fun σ H Q => ∃ O f dσ QD QE, StE K ct H O f dσ σ ∧ td dσ QD QE ∧ (∀ b H', Same H H' → QD b → Q b H') ∧ KE K ct W H O σ QE
def liftA (td : TDA) : TA := fun σ H Q => ∃ O f dσ QD QE, StE K ct H O f dσ σ ∧ td dσ QD QE ∧ (∀ vs ds H', Same H H' → RepL K ct H' O ds vs → QD ds → Q vs H') ∧ KE K ct W H O σ QE
end
theorem KE.same {K : PySem.W.Frag} {ct : CT} {W : WX} {H H' : Hp} {O : Addr → Prop} {σ : St} {QE : QX} (c : Same H H') (h : KE K ct W H O σ QE) : KE K ct W H' O σ QE := fun k x cls dd H2 e => h k x cls dd H2 (c.trans e)
section
variable (X : Cx) (ct : CT) (W : WX)
def DE (e : Expr) (td : TD) : Prop := PE X e (liftE X.K ct W td)
def DT (e : Expr) (td : TDT) : Prop := PT X e (liftT X.K ct W td)
def DW (e : Expr) (td : TDT) : Prop := PW X e (liftT X.K ct W td)
def DA (es : List Expr) (td : TDA) : Prop := PA X es (liftA X.K ct W td)
end
theorem PE.imp {X : Cx} {e : Expr} {t t' : TE} (h : PE X e t) (c : ∀ σ H Q, t' σ H Q → t σ H Q) : PE X e t' := ⟨fun pins s σ H Q I q => h.run pins s σ H Q I (c _ _ _ q)⟩
theorem PT.imp {X : Cx} {e : Expr} {t t' : TT} (h : PT X e t) (c : ∀ σ H Q, t' σ H Q → t σ H Q) : PT X e t' := ⟨fun pins s σ H Q I q => h.run pins s σ H Q I (c _ _ _ q)⟩
theorem PW.imp {X : Cx} {e : Expr} {t t' : TT} (h : PW X e t) (c : ∀ σ H Q, t' σ H Q → t σ H Q) : PW X e t' := ⟨fun wh pins s σ H Q I q => h.run wh pins s σ H Q I (c _ _ _ q)⟩
theorem PA.imp {X : Cx} {es : List Expr} {t t' : TA} (h : PA X es t) (c : ∀ σ H Q, t' σ H Q → t σ H Q) : PA X es t' := ⟨fun pos pins s σ H Q I q => h.run pos pins s σ H Q I (c _ _ _ q)⟩
theorem PS.imp {X : Cx} {e : Stmt} {t t' : TS} (h : PS X e t) (c : ∀ D σ H, t' D σ H → t D σ H) : PS X e t' := ⟨fun pins s σ H D I q => h.run pins s σ H D I (c _ _ _ q)⟩
theorem PSs.imp {X : Cx} {e : List Stmt} {t t' : TS} (h : PSs X e t) (c : ∀ D σ H, t' D σ H → t D σ H) : PSs X e t' := ⟨fun pins s σ H D I q => h.run pins s σ H D I (c _ _ _ q)⟩
def dVar (i : Nat) : TD := fun s Q _ => match s[i]? with
  | some (.v d) => Q d
  | _ => False
def dC (d : D) : TD := fun _ Q _ => Q d
section
variable {X : Cx} {ct : CT} {W : WX} {e a b : Expr} {es : List Expr} {td ta tb : TD} {pos : Pos}
theorem de_v (i : Nat) {x : Str} (hN : X.N[i]? = some x := by rfl) (hv : Vis X.env.scope x := by first | exact Or.inl rfl | exact Or.inr (Or.inl rfl) | exact Or.inr (Or.inr rfl)) (hd : (x == ("__debug__" : Str)) = false := by decide)
    (hcd : (x == ("__classdict__" : Str)) = false := by decide) : DE X ct W (.Name x pos) (dVar i) := by
  refine PE.imp (pe_var hN hv hd hcd) fun σ H Q ⟨O, f, dσ, QD, QE, hs, h, k, _⟩ => ?_
  unfold dVar at h
  split at h
  · rename_i d e
    obtain ⟨v, e1, r⟩ := hs.var e
    exact ⟨v, e1, k v d H (Same.refl H) r h⟩
  · exact h.elim
theorem de_c {v : V} {d : D} (h : PE X e (tC v)) (r : ∀ H O, Rep X.K ct H O d v) : DE X ct W e (dC d) := by
  refine PE.imp h fun σ H Q ⟨O, f, dσ, QD, QE, hs, h, k, _⟩ => ?_
  exact k _ d H (Same.refl H) (r H O) h
theorem de_int {i : Int} {j} : DE X ct W (.Constant (.int i) j pos) (dC (.int i)) := de_c pe_int fun _ _ => by simp only [Rep]
theorem de_bl {i : Bool} {j} : DE X ct W (.Constant (.bool i) j pos) (dC (.bl i)) := de_c pe_bl fun _ _ => by simp only [Rep]
theorem de_non {j} : DE X ct W (.Constant .none j pos) (dC .non) := de_c pe_non fun _ _ => by simp only [Rep]
theorem de_str {x : Str} {j} : DE X ct W (.Constant (.str x) j pos) (dC (.str x)) := de_c pe_str fun _ _ => by simp only [Rep]
end
end Dl
set_option Elab.async false
set_option linter.all false
set_option maxRecDepth 100000
set_option maxHeartbeats 4000000
namespace Dl
open PySem PySem.Spec L2
def Dom (H : Hp) (O : Addr → Prop) : Prop := ∀ a, O a → ∃ o, H a = some o
abbrev O2 := D → D → (D → Prop) → Prop
section
variable (K : PySem.W.Frag) (ct : CT)
/-- an operation on values, by what it does with trees -/
def R2D (o : O2) : R2 := fun x y H Q => ∃ O dx dy QD, Dom H O ∧ Rep K ct H O dx x ∧ Rep K ct H O dy y ∧ o dx dy QD ∧ ∀ v d H', Same H H' → Rep K ct H' O d v → QD d → Q v H'
def RCD (c : List D → (D → Prop) → Prop) : List V → Hp → VK → Prop := fun xs H Q => ∃ O ds QD, Dom H O ∧ RepL K ct H O ds xs ∧ c ds QD ∧ ∀ v d H', Same H H' → Rep K ct H' O d v → QD d → Q v H'
end
theorem OpR.imp {X : Cx} {f : Value → Value → Sem Value} {r r' : R2} (h : OpR X f r) (c : ∀ x y H Q, r' x y H Q → r x y H Q) : OpR X f r' := fun pins s σ H x y v u Q I rx ry q => h pins s σ H x y v u Q I rx ry (c _ _ _ _ q)
theorem CallR.imp {X : Cx} {f : Value} {r r' : List V → Hp → VK → Prop} (h : CallR X f r) (c : ∀ xs H Q, r' xs H Q → r xs H Q) : CallR X f r' := fun pins s σ H vs us Q I rx q => h pins s σ H vs us Q I rx (c _ _ _ q)
section
variable {K : PySem.W.Frag} {ct : CT} {H H' : Hp} {O : Addr → Prop}
theorem rep_int {i : Int} {v : V} : Rep K ct H O (.int i) v ↔ v = .int i := by simp only [Rep]
theorem rep_bl {i : Bool} {v : V} : Rep K ct H O (.bl i) v ↔ v = .bl i := by simp only [Rep]
theorem rep_str {i : Str} {v : V} : Rep K ct H O (.str i) v ↔ v = .str i := by simp only [Rep]
theorem rep_non {v : V} : Rep K ct H O .non v ↔ v = .non := by simp only [Rep]
theorem rep_lst {xs : List D} {v : V} : Rep K ct H O (.lst xs) v ↔ ∃ a vs, v = .ref a ∧ ¬ O a ∧ H a = some (.lst vs) ∧ RepL K ct H O xs vs := by simp only [Rep]
theorem rep_tup {xs : List D} {v : V} : Rep K ct H O (.tup xs) v ↔ ∃ a vs, v = .ref a ∧ SqT K H a vs ∧ RepL K ct H O xs vs := by simp only [Rep]
theorem rep_scr {xs : List Int} {v : V} : Rep K ct H O (.scr xs) v ↔ ∃ a, v = .ref a ∧ LAt K H O a (xs.map V.int) := by simp only [Rep]
theorem rep_obj {c : Nat} {fs : List D} {v : V} : Rep K ct H O (.obj c fs) v ↔ ∃ a dx vs, v = .ref a ∧ ¬ O a ∧ H a = some (.ins (ct.addr c) dx ((ct.names c).zip vs)) ∧ vs.length = (ct.names c).length ∧ RepL K ct H O fs vs := by simp only [Rep]
theorem rep_tok {k : Nat} {v : V} : Rep K ct H O (.tok k) v ↔ ∃ a, v = .ref a ∧ ¬ O a ∧ H a = some (ct.tok k a) := by simp only [Rep]
theorem rep_ref {a : Addr} {v : V} : Rep K ct H O (.ref a) v ↔ v = .ref a := by simp only [Rep]
theorem rep_dic {ks : List Key} {xs : List D} {v : V} : Rep K ct H O (.dic ks xs) v ↔ ∃ a vs, v = .ref a ∧ ¬ O a ∧ H a = some (.dK (ks.zip vs)) ∧ ks.length = vs.length ∧ RepL K ct H O xs vs := by simp only [Rep]
theorem rep_cls {k : Nat} {v : V} : Rep K ct H O (.cls k) v ↔ v = .ref (ct.addr k) := by simp only [Rep]
theorem LAt.sq {a : Addr} {vs : List V} (h : LAt K H O a vs) : SqL K H a vs := by
  rcases h with ⟨_, h⟩ | h
  · exact .inl h
  · exact .inr h
theorem same_new {p : Addr} {o : HO} (hp : H p = none) : Same H (upd H p o) := fun a u e => by
  rw [upd_ne (ne_of_none e hp)]
  exact e
/-- a new list of these -/
theorem new_lst {p : Addr} {vs : List V} {ds : List D} (hp : H p = none) (dm : Dom H O) (r : RepL K ct H O ds vs) : Rep K ct (upd H p (.lst vs)) O (.lst ds) (.ref p) :=
  rep_lst.mpr ⟨p, vs, rfl, (fun z => by
    obtain ⟨o, e⟩ := dm p z
    rw [hp] at e
    cases e), upd_same, r.same (same_new hp)⟩
theorem new_tup {p : Addr} {vs : List V} {ds : List D} (hp : H p = none) (r : RepL K ct H O ds vs) : Rep K ct (upd H p (.tup vs)) O (.tup ds) (.ref p) :=
  rep_tup.mpr ⟨p, vs, rfl, SqT.of upd_same, r.same (same_new hp)⟩
theorem RepL.ints : ∀ {ns : List Int}, RepL K ct H O (ns.map D.int) (ns.map V.int)
  | [] => RepL.nil
  | n :: ns => RepL.cons (rep_int.mpr rfl) RepL.ints
theorem RepL.ints_inv : ∀ {ns : List Int} {vs : List V}, RepL K ct H O (ns.map D.int) vs → vs = ns.map V.int
  | [], vs, h => by simpa only [RepL, List.map] using h
  | n :: ns, vs, h => by
    obtain ⟨v, r, e, h1, h2⟩ := RepL.cons_inv (d := .int n) (ds := ns.map D.int) h
    rw [e, rep_int.mp h1, RepL.ints_inv h2]
    rfl
theorem RepL.strs : ∀ {ns : List Str}, RepL K ct H O (ns.map D.str) (ns.map V.str)
  | [] => RepL.nil
  | n :: ns => RepL.cons (rep_str.mpr rfl) RepL.strs
theorem RepL.strs_inv : ∀ {ns : List Str} {vs : List V}, RepL K ct H O (ns.map D.str) vs → vs = ns.map V.str
  | [], vs, h => by simpa only [RepL, List.map] using h
  | n :: ns, vs, h => by
    obtain ⟨v, r, e, h1, h2⟩ := RepL.cons_inv (d := .str n) (ds := ns.map D.str) h
    rw [e, rep_str.mp h1, RepL.strs_inv h2]
    rfl
theorem RepL.bls_inv : ∀ {ns : List Bool} {vs : List V}, RepL K ct H O (ns.map D.bl) vs → vs = ns.map V.bl
  | [], vs, h => by simpa only [RepL, List.map] using h
  | n :: ns, vs, h => by
    obtain ⟨v, r, e, h1, h2⟩ := RepL.cons_inv (d := .bl n) (ds := ns.map D.bl) h
    rw [e, rep_bl.mp h1, RepL.bls_inv h2]
    rfl
theorem RepL.rep : ∀ {ds : List D} {vs : List V} (n : Nat), RepL K ct H O ds vs → RepL K ct H O (List.replicate n ds).flatten (List.replicate n vs).flatten
  | ds, vs, 0, h => RepL.nil
  | ds, vs, n + 1, h => by
    rw [List.replicate_succ, List.replicate_succ, List.flatten_cons, List.flatten_cons]
    exact RepL.app h (RepL.rep n h)
theorem RepL.drop : ∀ {ds : List D} {vs : List V} (n : Nat), RepL K ct H O ds vs → RepL K ct H O (ds.drop n) (vs.drop n)
  | ds, vs, 0, h => by simpa using h
  | [], vs, n + 1, h => by simp only [RepL] at h; subst h; exact RepL.nil
  | d :: ds, vs, n + 1, h => by
    obtain ⟨v, r, e, _, h2⟩ := h.cons_inv
    subst e
    exact RepL.drop n h2
theorem RepL.take : ∀ {ds : List D} {vs : List V} (n : Nat), RepL K ct H O ds vs → RepL K ct H O (ds.take n) (vs.take n)
  | ds, vs, 0, h => by simpa using RepL.nil
  | [], vs, n + 1, h => by simp only [RepL] at h; subst h; exact RepL.nil
  | d :: ds, vs, n + 1, h => by
    obtain ⟨v, r, e, h1, h2⟩ := h.cons_inv
    subst e
    exact RepL.cons h1 (RepL.take n h2)
end
def oAdd : O2
  | .int i, .int j, Q => Q (.int (i + j))
  | .str a, .str b, Q => a.length + b.length ≤ sizeLine ∧ Q (.str (a ++ b))
  | .lst a, .lst b, Q => a.length + b.length ≤ sizeLine ∧ Q (.lst (a ++ b))
  | .tup a, .tup b, Q => a.length + b.length ≤ sizeLine ∧ Q (.tup (a ++ b))
  | _, _, _ => False
def oSub : O2
  | .int i, .int j, Q => Q (.int (i - j))
  | _, _, _ => False
/-- a text n times -/
def strRep (x : Str) (n : Nat) : Str := ⟨(List.replicate n x.cps.toList).flatten.toArray⟩
def oMul : O2
  | .int i, .int j, Q => CMulX i j ∧ Q (.int (i * j))
  | .str x, .int n, Q => -(2 ^ 62) ≤ n ∧ x.length * n.toNat ≤ 10000000 ∧ n.toNat ≤ 10000000 ∧ Q (.str (strRep x n.toNat))
  | .lst a, .int n, Q => -(2 ^ 63) ≤ n ∧ n < 2 ^ 63 ∧ a.length * n.toNat ≤ sizeLine ∧ Q (.lst (List.replicate n.toNat a).flatten)
  | .tup a, .int n, Q => -(2 ^ 62) ≤ n ∧ n ≤ 1000 ∧ a.length ≤ 1000 ∧ Q (.tup (List.replicate n.toNat a).flatten)
  | _, _, _ => False
def oMod : O2
  | .int i, .int j, Q => 0 < j ∧ Q (.int (i % j))
  | _, _, _ => False
def oCmp (f : Int → Int → Bool) : O2
  | .int i, .int j, Q => Q (.bl (f i j))
  | _, _, _ => False
section
variable {X : Cx} {ct : CT}
theorem foldl_app (x : List Nat) : ∀ (n : Nat) (acc : List Nat), (List.replicate n x.toArray).foldl (· ++ ·) acc.toArray = (acc ++ (List.replicate n x).flatten).toArray
  | 0, acc => by simp
  | n + 1, acc => by
    rw [List.replicate_succ, List.foldl_cons, List.append_toArray, foldl_app x n, List.replicate_succ, List.flatten_cons, List.append_assoc]
theorem op_rep_str : OpR X (binaryOp .Mult) (fun x y H Q => ∃ a n, x = .str a ∧ y = .int n ∧ -(2 ^ 62) ≤ n ∧ a.length * n.toNat ≤ 10000000 ∧ n.toNat ≤ 10000000 ∧ Q (.str (strRep a n.toNat)) H) := by
  intro pins s σ H x y v u Q I rx ry h
  obtain ⟨a, n, rfl, rfl, h0, h1, h2, q⟩ := h
  obtain ⟨t, rfl⟩ := rx
  obtain ⟨t', rfl⟩ := ry
  have hn : n < 2 ^ 63 := by omega
  have ea : (⟨a.cps.toList.toArray⟩ : Str) = a := by cases a; simp
  have e3 : strRep a n.toNat = ⟨(List.replicate n.toNat a.cps).foldl (· ++ ·) #[]⟩ := by
    unfold strRep
    have z := foldl_app a.cps.toList n.toNat []
    simp only [Array.toArray_toList, List.nil_append] at z
    rw [← z]
  refine PySem.P.mul_str ?_ (fun _ _ => ?_) (fun _ _ => ?_) ?_
  · have c1 : decide (n < -(2 ^ 63 : Int)) = false := decide_eq_false (by omega)
    have c2 : decide (n ≥ (2 ^ 63 : Int)) = false := decide_eq_false (by omega)
    rw [c1, c2]
    rfl
  · rename_i g1 g2
    have hp : 0 < n := by omega
    have : (a.length : Int) * n ≤ 2 ^ 63 - 1 := by
      have e : ((a.length * n.toNat : Nat) : Int) = (a.length : Int) * n := by
        rw [Int.natCast_mul, Int.toNat_of_nonneg (by omega)]
      omega
    have := Int.le_ediv_of_mul_le hp this
    omega
  · unfold PySem.Builtin.Str.tooLong
    rw [decide_eq_false]
    rw [sizeLine_eq]
    omega
  · by_cases g1 : n < 1
    · rw [if_pos g1]
      have e0 : n.toNat = 0 := by omega
      have e : strRep a n.toNat = Str.empty := by rw [e0] <;> rfl
      rw [e] at q
      exact ⟨by decide, .str Str.empty, H, I.tok _, ⟨_, rfl⟩, q⟩
    · rw [if_neg g1]
      by_cases g2 : (n == 1 || a.length == 0) = true
      · rw [if_pos g2]
        have e : strRep a n.toNat = a := by
          rcases Bool.or_eq_true_iff.mp g2 with z | z
          · have e1 : n.toNat = 1 := by
              have := beq_iff_eq.mp z
              omega
            rw [e1]
            unfold strRep
            simp
          · have z' : a.length = 0 := beq_iff_eq.mp z
            have e2 : a.cps.toList = [] := by
              apply List.eq_nil_of_length_eq_zero
              rw [Array.length_toList]
              exact z'
            unfold strRep
            rw [e2]
            simp only [List.flatten_replicate_nil]
            rw [← ea, e2]
        rw [e] at q
        exact ⟨.str a, H, I, ⟨_, rfl⟩, q⟩
      · rw [if_neg g2, ← e3]
        refine ⟨?_, .str _, H, I.tok _, ⟨_, rfl⟩, q⟩
        show (strRep a n.toNat).cps.size ≤ sizeLine
        unfold strRep
        have e9 : ∀ (m : Nat) (l : List Nat), (List.replicate m l).flatten.length = m * l.length := fun m l => by simp
        rw [List.size_toArray, e9, Array.length_toList]
        have : n.toNat * a.cps.size = a.length * n.toNat := Nat.mul_comm _ _
        rw [sizeLine_eq]
        omega
theorem od_add : OpR X (binaryOp .Add) (R2D X.K ct oAdd) := by
  refine OpR.imp (((op_add.or op_add_str).or op_cat).or op_catA) fun x y H Q h => ?_
  obtain ⟨O, dx, dy, QD, dm, rx, ry, o, k⟩ := h
  unfold oAdd at o
  split at o
  · exact .inl (.inl (.inl ⟨_, _, rep_int.mp rx, rep_int.mp ry, k _ _ H (Same.refl H) (rep_int.mpr rfl) o⟩))
  · exact .inl (.inl (.inr ⟨_, _, rep_str.mp rx, rep_str.mp ry, o.1, k _ _ H (Same.refl H) (rep_str.mpr rfl) o.2⟩))
  · obtain ⟨a, vs, e, n, l, r⟩ := rep_lst.mp rx
    obtain ⟨b, us, e2, n2, l2, r2⟩ := rep_lst.mp ry
    exact .inl (.inr ⟨a, b, vs, us, e, e2, l, l2, by rw [r.length, r2.length]; exact o.1, fun p hp => k _ _ _ (same_new hp) (new_lst hp dm (r.app r2)) o.2⟩)
  · obtain ⟨a, vs, e, l, r⟩ := rep_tup.mp rx
    obtain ⟨b, us, e2, l2, r2⟩ := rep_tup.mp ry
    rename_i da db
    obtain ⟨o2, o3⟩ := o
    refine .inr ⟨a, b, vs, us, e, e2, l, l2, by rw [r.length, r2.length]; exact o2, fun z => ?_, fun _ z => ?_, fun _ _ p hp => k _ _ _ (same_new hp) (new_tup hp (r.app r2)) o3⟩
    · rw [z] at r
      have e3 : da = [] := List.eq_nil_of_length_eq_zero (by rw [← r.length] <;> rfl)
      rw [e3, List.nil_append] at o3
      exact k _ _ H (Same.refl H) (rep_tup.mpr ⟨b, us, rfl, l2, r2⟩) o3
    · rw [z] at r2
      have e3 : db = [] := List.eq_nil_of_length_eq_zero (by rw [← r2.length] <;> rfl)
      rw [e3, List.append_nil] at o3
      exact k _ _ H (Same.refl H) (rep_tup.mpr ⟨a, vs, rfl, l, r⟩) o3
  · exact o.elim
theorem od_int {f : Value → Value → Sem Value} {C : Int → Int → Prop} {g : Int → Int → Int} {o : O2} (h : OpR X f (rI C fun i j => .int (g i j))) (ho : ∀ dx dy QD, o dx dy QD → ∃ i j, dx = .int i ∧ dy = .int j ∧ C i j ∧ QD (.int (g i j))) : OpR X f (R2D X.K ct o) := by
  refine OpR.imp h fun x y H Q ⟨O, dx, dy, QD, dm, rx, ry, o, k⟩ => ?_
  obtain ⟨i, j, rfl, rfl, c, q⟩ := ho _ _ _ o
  exact ⟨i, j, rep_int.mp rx, rep_int.mp ry, c, k _ _ H (Same.refl H) (rep_int.mpr rfl) q⟩
theorem od_int0 {f : Value → Value → Sem Value} {g : Int → Int → Int} {o : O2} (h : OpR X f (rI0 fun i j => .int (g i j))) (ho : ∀ dx dy QD, o dx dy QD → ∃ i j, dx = .int i ∧ dy = .int j ∧ QD (.int (g i j))) : OpR X f (R2D X.K ct o) := by
  refine OpR.imp h fun x y H Q ⟨O, dx, dy, QD, dm, rx, ry, o, k⟩ => ?_
  obtain ⟨i, j, rfl, rfl, q⟩ := ho _ _ _ o
  exact ⟨i, j, rep_int.mp rx, rep_int.mp ry, k _ _ H (Same.refl H) (rep_int.mpr rfl) q⟩
theorem od_sub : OpR X (binaryOp .Sub) (R2D X.K ct oSub) := od_int0 op_sub fun dx dy QD h => by
  unfold oSub at h
  split at h
  · exact ⟨_, _, rfl, rfl, h⟩
  · exact h.elim
theorem od_mod : OpR X (binaryOp .Mod) (R2D X.K ct oMod) := od_int op_mod fun dx dy QD h => by
  unfold oMod at h
  split at h
  · exact ⟨_, _, rfl, rfl, h.1, h.2⟩
  · exact h.elim
theorem od_mul : OpR X (binaryOp .Mult) (R2D X.K ct oMul) := by
  refine OpR.imp (((op_mulX.or op_rep_str).or op_rep).or op_repA) fun x y H Q h => ?_
  obtain ⟨O, dx, dy, QD, dm, rx, ry, o, k⟩ := h
  unfold oMul at o
  split at o
  · exact .inl (.inl (.inl ⟨_, _, rep_int.mp rx, rep_int.mp ry, o.1, k _ _ H (Same.refl H) (rep_int.mpr rfl) o.2⟩))
  · exact .inl (.inl (.inr ⟨_, _, rep_str.mp rx, rep_int.mp ry, o.1, o.2.1, o.2.2.1, k _ _ H (Same.refl H) (rep_str.mpr rfl) o.2.2.2⟩))
  · obtain ⟨a, vs, e, n, l, r⟩ := rep_lst.mp rx
    obtain ⟨o1, o2, o3, o4⟩ := o
    exact .inl (.inr ⟨a, _, vs, e, rep_int.mp ry, l, o1, o2, by rw [r.length]; exact o3, fun p hp => k _ _ _ (same_new hp) (new_lst hp dm (r.rep _)) o4⟩)
  · obtain ⟨a, vs, e, l, r⟩ := rep_tup.mp rx
    rename_i da n
    obtain ⟨o1, o2, o3, o4⟩ := o
    refine .inr ⟨a, _, vs, e, rep_int.mp ry, l, o1, o2, by rw [r.length]; exact o3, fun z => ?_, fun _ p hp => k _ _ _ (same_new hp) (new_tup hp (r.rep _)) o4⟩
    have e3 : (List.replicate n.toNat da).flatten = da := by
      rcases z with z | z
      · rw [z] at r
        have e4 : da = [] := List.eq_nil_of_length_eq_zero (by rw [← r.length] <;> rfl)
        rw [e4]
        simp
      · rw [z]
        simp
    rw [e3] at o4
    exact k _ _ H (Same.refl H) (rep_tup.mpr ⟨a, vs, rfl, l, r⟩) o4
  · exact o.elim
theorem od_cmp {op : CmpOp} {f : Int → Int → Bool} (h : OpR X (compareOp op) (rI0 fun i j => .bl (f i j))) : OpR X (compareOp op) (R2D X.K ct (oCmp f)) := by
  refine OpR.imp h fun x y H Q ⟨O, dx, dy, QD, dm, rx, ry, o, k⟩ => ?_
  unfold oCmp at o
  split at o
  · exact ⟨_, _, rep_int.mp rx, rep_int.mp ry, k _ _ H (Same.refl H) (rep_bl.mpr rfl) o⟩
  · exact o.elim
abbrev oLt : O2 := oCmp fun i j => decide (i < j)
abbrev oLe : O2 := oCmp fun i j => decide (i ≤ j)
abbrev oGt : O2 := oCmp fun i j => decide (j < i)
abbrev oGe : O2 := oCmp fun i j => decide (j ≤ i)
theorem od_lt : OpR X (compareOp .Lt) (R2D X.K ct oLt) := od_cmp op_lt
theorem od_le : OpR X (compareOp .LtE) (R2D X.K ct oLe) := od_cmp op_le
theorem od_gt : OpR X (compareOp .Gt) (R2D X.K ct oGt) := od_cmp op_gt
theorem od_ge : OpR X (compareOp .GtE) (R2D X.K ct oGe) := od_cmp op_ge
/-- is None, is not None -/
def isNon : D → Bool
  | .non => true
  | _ => false
theorem isNon_rep {K : PySem.W.Frag} {H : Hp} {O : Addr → Prop} {d : D} {v : V} (h : Rep K ct H O d v) : decide (v = .non) = isNon d := by
  cases d with
  | non => rw [rep_non.mp h]; rfl
  | bl b => rw [rep_bl.mp h]; rfl
  | int b => rw [rep_int.mp h]; rfl
  | str b => rw [rep_str.mp h]; rfl
  | ty n => simp only [Rep] at h; rw [h]; rfl
  | lst xs => obtain ⟨a, vs, e, _⟩ := rep_lst.mp h; rw [e]; rfl
  | tup xs => obtain ⟨a, vs, e, _⟩ := rep_tup.mp h; rw [e]; rfl
  | scr xs => obtain ⟨a, e, _⟩ := rep_scr.mp h; rw [e]; rfl
  | obj c xs => obtain ⟨a, dx, vs, e, _⟩ := rep_obj.mp h; rw [e]; rfl
  | cls c => rw [rep_cls.mp h]; rfl
  | tok c => obtain ⟨a, e, _⟩ := rep_tok.mp h; rw [e]; rfl
  | ref a => rw [rep_ref.mp h]; rfl
  | dic ks xs => obtain ⟨a, vs, e, _⟩ := rep_dic.mp h; rw [e]; rfl
def oIsN : O2
  | d, .non, Q => Q (.bl (isNon d))
  | .bl a, .bl b, Q => Q (.bl (a == b))
  | _, _, _ => False
def oNotN : O2
  | d, .non, Q => Q (.bl (!isNon d))
  | .bl a, .bl b, Q => Q (.bl (!(a == b)))
  | _, _, _ => False
theorem od_isN : OpR X (compareOp .Is) (R2D X.K ct oIsN) := by
  refine OpR.imp (op_isN.or op_is_bl) fun x y H Q ⟨O, dx, dy, QD, dm, rx, ry, o, k⟩ => ?_
  unfold oIsN at o
  split at o
  · exact .inl ⟨rep_non.mp ry, k _ _ H (Same.refl H) (rep_bl.mpr (by rw [isNon_rep rx])) o⟩
  · exact .inr ⟨_, _, rep_bl.mp rx, rep_bl.mp ry, k _ _ H (Same.refl H) (rep_bl.mpr (by rename_i a b; cases a <;> cases b <;> rfl)) o⟩
  · exact o.elim
theorem od_notN : OpR X (compareOp .IsNot) (R2D X.K ct oNotN) := by
  refine OpR.imp (op_notN.or op_isnot_bl) fun x y H Q ⟨O, dx, dy, QD, dm, rx, ry, o, k⟩ => ?_
  unfold oNotN at o
  split at o
  · exact .inl ⟨rep_non.mp ry, k _ _ H (Same.refl H) (rep_bl.mpr (by rw [isNon_rep rx])) o⟩
  · exact .inr ⟨_, _, rep_bl.mp rx, rep_bl.mp ry, k _ _ H (Same.refl H) (rep_bl.mpr (by rename_i a b; cases a <;> cases b <;> rfl)) o⟩
  · exact o.elim
end
def dBin (o : O2) (ta tb : TD) : TD := fun s Q E => ta s (fun x => tb s (fun y => o x y Q) E) E
section
variable {X : Cx} {ct : CT} {W : WX} {e a b c : Expr} {es : List Expr} {td ta tb tc : TD} {pos : Pos}
theorem lift_bin {K : PySem.W.Frag} {o o' : O2} {r : R2} (hr : ∀ x y H Q, R2D K ct o x y H Q → r x y H Q) : ∀ σ H Q, liftE K ct W (dBin o ta tb) σ H Q → tOp r (liftE K ct W ta) (liftE K ct W tb) σ H Q := fun σ H Q ⟨O, f, dσ, QD, QE, hs, h, k, kx⟩ => by
  refine ⟨O, f, dσ, _, QE, hs, h, fun x dx H1 e1 rx q1 => ?_, kx⟩
  refine ⟨O, f, dσ, _, QE, hs.same e1, q1, fun y dy H2 e2 ry q2 => ?_, kx.same e1⟩
  exact hr _ _ _ _ ⟨O, dx, dy, QD, ((hs.same e1).same e2).dom, rx.same e2, ry, q2, fun v d H3 e3 r q3 => k v d H3 (e1.trans (e2.trans e3)) r q3⟩
theorem de_op {op : Operator} {o : O2} (ho : OpR X (binaryOp op) (R2D X.K ct o)) (ha : DE X ct W a ta) (hb : DE X ct W b tb) : DE X ct W (.BinOp a op b pos) (dBin o ta tb) :=
  PE.imp (pe_op ho ha hb) (lift_bin (o' := o) fun _ _ _ _ h => h)
theorem de_cmp {op : CmpOp} {o : O2} (ho : OpR X (compareOp op) (R2D X.K ct o)) (ha : DE X ct W a ta) (hb : DE X ct W b tb) (hm : behindInMarks op b = false := by first | exact nomark _ | rfl) : DE X ct W (.Compare a [op] [b] pos) (dBin o ta tb) :=
  PE.imp (pe_cmpR ho ha hb hm) (lift_bin (o' := o) fun _ _ _ _ h => h)
end
end Dl
set_option Elab.async false
set_option linter.all false
set_option maxRecDepth 100000
set_option maxHeartbeats 4000000
namespace Dl
open PySem PySem.Spec L2
def aNil : TDA := fun _ Q _ => Q []
def aCons (t : TD) (r : TDA) : TDA := fun s Q E => t s (fun x => r s (fun xs => Q (x :: xs)) E) E
def dTup (t : TDA) : TD := fun s Q E => t s (fun xs => xs.length ≤ sizeLine ∧ Q (.tup xs)) E
def dLst (t : TDA) : TD := fun s Q E => t s (fun xs => xs.length ≤ sizeLine ∧ Q (.lst xs)) E
/-- a place in a list: Python's index -/
def sIx (n : Nat) (d : Nat) (o : Option Int) : Nat := HT.sIx n d o
def cutD (xs : List D) (lo hi : Option Int) : List D := (xs.drop (HT.sIx xs.length 0 lo)).take (HT.sIx xs.length xs.length hi - HT.sIx xs.length 0 lo)
abbrev TDO := List Sl → (Option Int → Prop) → QX → Prop
def oNone : TDO := fun _ Q _ => Q none
def oSome (t : TD) : TDO := fun s Q E => t s (fun x => match x with
  | .int i => Q (some i)
  | _ => False) E
def slD (x : D) (lo hi : Option Int) (Q : D → Prop) : Prop := match x with
  | .lst xs => Q (.lst (cutD xs lo hi))
  | .str z => z.length ≤ sizeLine ∧ Q (.str (cutS z lo hi))
  | .tup xs => Q (.tup (cutD xs lo hi))
  | .scr ns => Q (.lst ((cutV (ns.map V.int) lo hi).map fun v => match v with
    | .int i => .int i
    | _ => .non))
  | _ => False
def dSl (te : TD) (tl th : TDO) : TD := fun s Q E => te s (fun x => tl s (fun lo => th s (fun hi => slD x lo hi Q) E) E) E
def oIx : O2
  | .lst xs, .int i, Q => ∃ d, atI xs i = some d ∧ Q d
  | .tup xs, .int i, Q => ∃ d, atI xs i = some d ∧ Q d
  | .str z, .int i, Q => z.length ≤ sizeLine ∧ ∃ c, atI z.cps.toList i = some c ∧ Q (.str ⟨#[c]⟩)
  | .scr ns, .int i, Q => ∃ n, atI ns i = some n ∧ Q (.int n)
  | _, _, _ => False
section
variable {X : Cx} {ct : CT} {W : WX} {e a b c : Expr} {es : List Expr} {td ta tb tc : TD} {tda : TDA} {pos : Pos}
theorem da_nil : DA X ct W [] aNil := PA.imp pa_nil fun σ H Q ⟨O, f, dσ, QD, QE, hs, h, k, _⟩ => k _ _ H (Same.refl H) RepL.nil h
theorem da_cons (ha : DE X ct W e td) (hr : DA X ct W es tda) (hs : starEach (e :: es) X.env = (false, eval e X.env) :: starEach es X.env := by rfl) : DA X ct W (e :: es) (aCons td tda) :=
  PA.imp (pa_cons ha hr hs) fun σ H Q ⟨O, f, dσ, QD, QE, hs, h, k, kx⟩ => by
    refine ⟨O, f, dσ, _, QE, hs, h, fun x dx H1 e1 rx q1 => ?_, kx⟩
    refine ⟨O, f, dσ, _, QE, hs.same e1, q1, fun xs ds H2 e2 rs q2 => ?_, kx.same e1⟩
    exact k _ _ _ (e1.trans e2) (RepL.cons (rx.same e2) rs) q2
theorem de_tup {x1} (h : DA X ct W es tda) : DE X ct W (.Tuple es x1 pos) (dTup tda) := PE.imp (pe_tup h) fun σ H Q ⟨O, f, dσ, QD, QE, hs, h, k, kx⟩ => by
  refine ⟨O, f, dσ, _, QE, hs, h, fun xs ds H1 e1 rx ⟨z, q⟩ => ⟨by rw [rx.length]; exact z, fun p hp => ?_⟩, kx⟩
  exact k _ _ _ (e1.trans (same_new hp)) (new_tup hp rx) q
theorem de_lst (h : DA X ct W es tda) : DE X ct W (.List es pos) (dLst tda) := PE.imp (pe_lst h) fun σ H Q ⟨O, f, dσ, QD, QE, hs, h, k, kx⟩ => by
  refine ⟨O, f, dσ, _, QE, hs, h, fun xs ds H1 e1 rx ⟨z, q⟩ => ⟨by rw [rx.length]; exact z, fun p hp => ?_⟩, kx⟩
  exact k _ _ _ (e1.trans (same_new hp)) (new_lst hp (hs.same e1).dom rx) q
theorem atI_map {α β : Type} (g : α → β) (xs : List α) (i : Int) : atI (xs.map g) i = (atI xs i).map g := by
  unfold atI
  rw [List.length_map]
  cases ixN xs.length i with
  | none => rfl
  | some j =>
    show (xs.map g)[j]? = (xs[j]?).map g
    rw [List.getElem?_map]
theorem atI_rep {K : PySem.W.Frag} {H : Hp} {O : Addr → Prop} {ds : List D} {vs : List V} {i : Int} {d : D} (r : RepL K ct H O ds vs) (h : atI ds i = some d) : ∃ v, atI vs i = some v ∧ Rep K ct H O d v := by
  unfold atI at h ⊢
  rw [r.length]
  cases e : ixN ds.length i with
  | none =>
    rw [e] at h
    cases h
  | some j =>
    rw [e] at h
    exact r.get h
theorem IxR.or {r r' : R2} (h : IxR X r) (h' : IxR X r') : IxR X (fun x y H Q => r x y H Q ∨ r' x y H Q) := by
  intro value slice pins s σ H x y v u Q I rx ry q hs
  rcases q with q | q
  · exact h value slice pins s σ H x y v u Q I rx ry q hs
  · exact h' value slice pins s σ H x y v u Q I rx ry q hs
theorem IxR.imp {r r' : R2} (h : IxR X r) (c : ∀ x y H Q, r' x y H Q → r x y H Q) : IxR X r' := fun value slice pins s σ H x y v u Q I rx ry q hs => h value slice pins s σ H x y v u Q I rx ry (c _ _ _ _ q) hs
theorem od_ix : IxR X (R2D X.K ct oIx) := by
  refine IxR.imp ((ix_list.or ix_tup).or ix_str) fun x y H Q ⟨O, dx, dy, QD, dm, rx, ry, o, k⟩ => ?_
  unfold oIx at o
  split at o
  · obtain ⟨a, vs, e, n, l, r⟩ := rep_lst.mp rx
    obtain ⟨d, ed, q⟩ := o
    obtain ⟨v, ev, rv⟩ := atI_rep r ed
    exact .inl (.inl ⟨a, vs, _, v, e, rep_int.mp ry, SqL.of l, ev, k _ _ H (Same.refl H) rv q⟩)
  · obtain ⟨a, vs, e, l, r⟩ := rep_tup.mp rx
    obtain ⟨d, ed, q⟩ := o
    obtain ⟨v, ev, rv⟩ := atI_rep r ed
    exact .inl (.inr ⟨a, vs, _, v, e, rep_int.mp ry, l, ev, k _ _ H (Same.refl H) rv q⟩)
  · obtain ⟨z, d, ed, q⟩ := o
    exact .inr ⟨_, _, d, rep_str.mp rx, rep_int.mp ry, z, ed, k _ _ H (Same.refl H) (rep_str.mpr rfl) q⟩
  · obtain ⟨a, e, l⟩ := rep_scr.mp rx
    obtain ⟨n, en, q⟩ := o
    exact .inl (.inl ⟨a, _, _, .int n, e, rep_int.mp ry, l.sq, by rw [atI_map, en] <;> rfl, k _ _ H (Same.refl H) (rep_int.mpr rfl) q⟩)
  · exact o.elim
theorem de_ix (ha : DE X ct W a ta) (hb : DE X ct W b tb) (hs : PlainIx b := by exact (fun _ _ => rfl)) : DE X ct W (.Subscript a b pos) (dBin oIx ta tb) :=
  PE.imp (pe_ix od_ix ha hb hs) (lift_bin (o' := oIx) fun _ _ _ _ h => h)
section
variable (K : PySem.W.Frag) (ct : CT) (W : WX)
def liftO (td : TDO) : TO := fun σ H Q => ∃ O f dσ QD QE, StE K ct H O f dσ σ ∧ td dσ QD QE ∧ (∀ o H', Same H H' → QD o → Q o H') ∧ KE K ct W H O σ QE
end
def DO (X : Cx) (ct : CT) (W : WX) (e : Option Expr) (td : TDO) : Prop := PO X e (liftO X.K ct W td)
theorem PO.imp {e : Option Expr} {t t' : TO} (h : PO X e t) (c : ∀ σ H Q, t' σ H Q → t σ H Q) : PO X e t' := ⟨fun pins s σ H Q I q => h.run pins s σ H Q I (c _ _ _ q)⟩
theorem do_none : DO X ct W none oNone := PO.imp po_none fun σ H Q ⟨O, f, dσ, QD, QE, hs, h, k, kx⟩ => k _ H (Same.refl H) h
theorem do_some (h : DE X ct W e td) : DO X ct W (some e) (oSome td) := PO.imp (po_some h) fun σ H Q ⟨O, f, dσ, QD, QE, hs, h, k, kx⟩ => by
  refine ⟨O, f, dσ, _, QE, hs, h, fun x dx H1 e1 rx q => ?_, kx⟩
  revert q rx
  cases dx with
  | int i => exact fun rx q => ⟨i, rep_int.mp rx, k _ _ e1 q⟩
  | _ => exact fun _ q => q.elim
theorem cutV_rep {K : PySem.W.Frag} {H : Hp} {O : Addr → Prop} {ds : List D} {vs : List V} (lo hi : Option Int) (r : RepL K ct H O ds vs) : RepL K ct H O (cutD ds lo hi) (cutV vs lo hi) := by
  unfold cutD cutV
  rw [r.length]
  exact (r.drop _).take _
theorem SlR.imp {r r' : V → Option Int → Option Int → Hp → VK → Prop} (h : SlR X r) (c : ∀ x lo hi H Q, r' x lo hi H Q → r x lo hi H Q) : SlR X r' := fun pins s σ H x v vl vu lo hi sl Q I rx a b d q => h pins s σ H x v vl vu lo hi sl Q I rx a b d (c _ _ _ _ _ q)
def RSl (K : PySem.W.Frag) (ct : CT) : V → Option Int → Option Int → Hp → VK → Prop := fun x lo hi H Q => ∃ O dx QD, Dom H O ∧ Rep K ct H O dx x ∧ slD dx lo hi QD ∧ ∀ v d H', Same H H' → Rep K ct H' O d v → QD d → Q v H'
theorem cutI (ns : List Int) (lo hi : Option Int) : ∃ ms : List Int, cutV (ns.map V.int) lo hi = ms.map V.int ∧ (cutV (ns.map V.int) lo hi).map (fun v => match v with
    | .int i => D.int i
    | _ => D.non) = ms.map D.int := by
  refine ⟨(ns.drop (HT.sIx (ns.map V.int).length 0 lo)).take (HT.sIx (ns.map V.int).length (ns.map V.int).length hi - HT.sIx (ns.map V.int).length 0 lo), ?_, ?_⟩
  · unfold cutV
    rw [List.map_take, List.map_drop]
  · unfold cutV
    rw [← List.map_drop, ← List.map_take, List.map_map]
    rfl
theorem od_sl : SlR X (RSl X.K ct) := by
  refine SlR.imp ((sl_list.or sl_tupA).or sl_str) fun x lo hi H Q ⟨O, dx, QD, dm, rx, o, k⟩ => ?_
  unfold slD at o
  split at o
  · obtain ⟨a, vs, e, n, l, r⟩ := rep_lst.mp rx
    exact .inl (.inl ⟨a, vs, e, SqL.of l, fun p hp => k _ _ _ (same_new hp) (new_lst hp dm (cutV_rep lo hi r)) o⟩)
  · exact .inr ⟨_, rep_str.mp rx, o.1, k _ _ H (Same.refl H) (rep_str.mpr rfl) o.2⟩
  · obtain ⟨a, vs, e, l, r⟩ := rep_tup.mp rx
    refine .inl (.inr ⟨a, vs, e, l, fun z => ?_, fun _ p hp => k _ _ _ (same_new hp) (new_tup hp (cutV_rep lo hi r)) o⟩)
    rename_i da
    have e3 : cutD da lo hi = da := by
      unfold cutD
      rw [r.length] at z
      rw [z.1, z.2]
      simp
    rw [e3] at o
    exact k _ _ H (Same.refl H) (rep_tup.mpr ⟨a, vs, rfl, l, r⟩) o
  · obtain ⟨a, e, l⟩ := rep_scr.mp rx
    refine .inl (.inl ⟨a, _, e, l.sq, fun p hp => k _ _ _ (same_new hp) (new_lst hp dm ?_) o⟩)
    rename_i ns
    obtain ⟨ms, e1, e2⟩ := cutI ns lo hi
    rw [e2, e1]
    exact RepL.ints
  · exact o.elim
theorem de_sl {te : TD} {tl th : TDO} {lo hi : Option Expr} {p2 : Pos} (he : DE X ct W e te) (hl : DO X ct W lo tl) (hh : DO X ct W hi th) : DE X ct W (.Subscript e (.Slice lo hi none p2) pos) (dSl te tl th) :=
  PE.imp (pe_slice od_sl he hl hh) fun σ H Q ⟨O, f, dσ, QD, QE, hs, h, k, kx⟩ => by
    refine ⟨O, f, dσ, _, QE, hs, h, fun x dx H1 e1 rx q1 => ?_, kx⟩
    refine ⟨O, f, dσ, _, QE, hs.same e1, q1, fun l H2 e2 q2 => ?_, kx.same e1⟩
    refine ⟨O, f, dσ, _, QE, (hs.same e1).same e2, q2, fun u H3 e3 q3 => ?_, (kx.same e1).same e2⟩
    exact ⟨O, dx, QD, (((hs.same e1).same e2).same e3).dom, (rx.same e2).same e3, q3, fun v d H4 e4 r q4 => k v d H4 (e1.trans (e2.trans (e3.trans e4))) r q4⟩
def tVal (t : TD) : TDT := fun s Q E => t s (fun x => match x with
  | .bl b => Q b
  | _ => False) E
/-- a value's truth -/
def truD : D → (Bool → Prop) → Prop
  | .non, Q => Q false
  | .bl b, Q => Q b
  | .int i, Q => Q (i != 0)
  | .str y, Q => y.length ≤ sizeLine ∧ Q (!decide (y.length = 0))
  | .lst xs, Q => Q (!xs.isEmpty)
  | .tup xs, Q => Q (!xs.isEmpty)
  | .scr xs, Q => Q (!xs.isEmpty)
  | _, _ => False
def tTru (t : TD) : TDT := fun s Q E => t s (fun x => truD x Q) E
def tNotD (t : TDT) : TDT := fun s Q E => t s (fun b => Q (!b)) E
def tAndD (t u : TDT) : TDT := fun s Q E => t s (fun b => match b with
  | true => u s Q E
  | false => Q false) E
def tOrD (t u : TDT) : TDT := fun s Q E => t s (fun b => match b with
  | true => Q true
  | false => u s Q E) E
def dNot (t : TD) : TD := fun s Q E => t s (fun x => match x with
  | .bl b => Q (.bl (!b))
  | _ => False) E
def dAnd (t u : TD) : TD := fun s Q E => t s (fun x => match x with
  | .bl true => u s Q E
  | .bl false => Q (.bl false)
  | _ => False) E
def dIf (t : TDT) (ta tb : TD) : TD := fun s Q E => t s (fun b => match b with
  | true => ta s Q E
  | false => tb s Q E) E
section
variable {tt tu : TDT} {rest : List Expr}
theorem dt_cmp {op : CmpOp} {o : O2} (ho : OpR X (compareOp op) (R2D X.K ct o)) (ha : DE X ct W a ta) (hb : DE X ct W b tb) (hm : behindInMarks op b = false := by first | exact nomark _ | rfl) : DT X ct W (.Compare a [op] [b] pos) (tVal (dBin o ta tb)) :=
  PT.imp (pt_cmpR ho ha hb hm) fun σ H Q ⟨O, f, dσ, QD, QE, hs, h, k, kx⟩ => by
    refine lift_bin (o' := o) (fun _ _ _ _ h => h) σ H _ ⟨O, f, dσ, _, QE, hs, h, fun v d H1 e1 r q => ?_, kx⟩
    revert q r
    cases d with
    | bl b => exact fun r q => ⟨b, rep_bl.mp r, k _ _ e1 q⟩
    | _ => exact fun _ q => q.elim
theorem isEmpty_rep {K : PySem.W.Frag} {H : Hp} {O : Addr → Prop} {ds : List D} {vs : List V} (r : RepL K ct H O ds vs) : vs.isEmpty = ds.isEmpty := by
  cases ds with
  | nil => simp only [RepL] at r; subst r; rfl
  | cons d ds =>
    obtain ⟨v, q, e, _⟩ := r.cons_inv
    subst e
    rfl
theorem dt_tru (h : DE X ct W e td) (he : ∀ whole, isTrue e X.env whole = (do let v ← whole; standAt e.pos; holding [v] (truthy v)) := by intro _; rfl) : DT X ct W e (tTru td) :=
  PT.imp (pt_truth h he) fun σ H Q ⟨O, f, dσ, QD, QE, hs, h, k, kx⟩ => by
    refine ⟨O, f, dσ, _, QE, hs, h, fun v d H1 e1 r q => ?_, kx⟩
    revert q r
    cases d with
    | non => intro r q; rw [rep_non.mp r]; exact ⟨_, rfl, k _ _ e1 q⟩
    | bl b => intro r q; rw [rep_bl.mp r]; exact ⟨_, rfl, k _ _ e1 q⟩
    | int b => intro r q; rw [rep_int.mp r]; exact ⟨_, rfl, k _ _ e1 q⟩
    | str b =>
      intro r q
      rw [rep_str.mp r]
      refine ⟨!decide (b.length = 0), ⟨q.1, ?_⟩, k _ _ e1 q.2⟩
      by_cases z : b.length = 0
      · rw [z]; rfl
      · have z2 : ((b.length : Int) != 0) = true := by simp [z]
        rw [z2, decide_eq_false z] <;> rfl
    | lst xs =>
      intro r q
      obtain ⟨p, vs, e, n, l, rr⟩ := rep_lst.mp r
      rw [e]
      exact ⟨_, .inl ⟨vs, SqL.of l, by rw [isEmpty_rep rr]⟩, k _ _ e1 q⟩
    | tup xs =>
      intro r q
      obtain ⟨p, vs, e, l, rr⟩ := rep_tup.mp r
      rw [e]
      exact ⟨_, .inr (.inl ⟨vs, l, by rw [isEmpty_rep rr]⟩), k _ _ e1 q⟩
    | scr xs =>
      intro r q
      obtain ⟨p, e, l⟩ := rep_scr.mp r
      rw [e]
      refine ⟨_, .inl ⟨_, l.sq, ?_⟩, k _ _ e1 q⟩
      cases xs <;> rfl
    | _ => exact fun _ q => q.elim
theorem dt_not (h : DT X ct W a tt) : DT X ct W (.UnaryOp .Not a pos) (tNotD tt) := PT.imp (pt_not h) fun σ H Q ⟨O, f, dσ, QD, QE, hs, h, k, kx⟩ => by
  exact ⟨O, f, dσ, _, QE, hs, h, fun b H1 e1 q => k _ _ e1 q, kx⟩
theorem dw_and1 (h : DT X ct W a tt) : DW X ct W (.BoolOp .And [a] pos) tt := pw_and1 h
theorem dw_or1 (h : DT X ct W a tt) : DW X ct W (.BoolOp .Or [a] pos) tt := pw_or1 h
theorem dw_and (ha : DT X ct W a tt) (hb : DW X ct W (.BoolOp .And (b :: rest) pos) tu) : DW X ct W (.BoolOp .And (a :: b :: rest) pos) (tAndD tt tu) := PW.imp (pw_and ha hb) fun σ H Q ⟨O, f, dσ, QD, QE, hs, h, k, kx⟩ => by
  refine ⟨O, f, dσ, _, QE, hs, h, fun c H1 e1 q => ?_, kx⟩
  cases c with
  | true =>
    rw [if_pos rfl]
    exact ⟨O, f, dσ, _, QE, hs.same e1, q, fun b H2 e2 q2 => k _ _ (e1.trans e2) q2, kx.same e1⟩
  | false =>
    rw [if_neg Bool.false_ne_true]
    exact k _ _ e1 q
theorem dw_or (ha : DT X ct W a tt) (hb : DW X ct W (.BoolOp .Or (b :: rest) pos) tu) : DW X ct W (.BoolOp .Or (a :: b :: rest) pos) (tOrD tt tu) := PW.imp (pw_or ha hb) fun σ H Q ⟨O, f, dσ, QD, QE, hs, h, k, kx⟩ => by
  refine ⟨O, f, dσ, _, QE, hs, h, fun c H1 e1 q => ?_, kx⟩
  cases c with
  | true =>
    rw [if_pos rfl]
    exact k _ _ e1 q
  | false =>
    rw [if_neg Bool.false_ne_true]
    exact ⟨O, f, dσ, _, QE, hs.same e1, q, fun b H2 e2 q2 => k _ _ (e1.trans e2) q2, kx.same e1⟩
theorem dt_w (h : DW X ct W a tt) : DT X ct W a tt := PW.pt h
theorem de_one {op : BoolOp} (h : DE X ct W a td) : DE X ct W (.BoolOp op [a] pos) td := pe_one h
theorem de_and (ha : DE X ct W a ta) (hb : DE X ct W (.BoolOp .And (b :: rest) pos) tb) : DE X ct W (.BoolOp .And (a :: b :: rest) pos) (dAnd ta tb) := PE.imp (pe_and ha hb) fun σ H Q ⟨O, f, dσ, QD, QE, hs, h, k, kx⟩ => by
  refine ⟨O, f, dσ, _, QE, hs, h, fun v d H1 e1 r q => ?_, kx⟩
  revert q r
  cases d with
  | bl c =>
    cases c with
    | true => exact fun r q => ⟨true, rep_bl.mp r, by rw [if_pos rfl]; exact ⟨O, f, dσ, _, QE, hs.same e1, q, fun v d H2 e2 r2 q2 => k _ _ _ (e1.trans e2) r2 q2, kx.same e1⟩⟩
    | false => exact fun r q => ⟨false, rep_bl.mp r, by rw [if_neg Bool.false_ne_true]; exact k _ _ _ e1 (rep_bl.mpr rfl) q⟩
  | _ => exact fun _ q => q.elim
theorem de_not (ha : DE X ct W a ta) : DE X ct W (.UnaryOp .Not a pos) (dNot ta) := PE.imp (pe_not ha) fun σ H Q ⟨O, f, dσ, QD, QE, hs, h, k, kx⟩ => by
  refine ⟨O, f, dσ, _, QE, hs, h, fun v d H1 e1 r q => ?_, kx⟩
  revert q r
  cases d with
  | bl c => exact fun r q => ⟨c, rep_bl.mp r, k _ _ _ e1 (rep_bl.mpr rfl) q⟩
  | _ => exact fun _ q => q.elim
theorem de_if (hc : DT X ct W c tt) (ha : DE X ct W a ta) (hb : DE X ct W b tb) : DE X ct W (.IfExp c a b pos) (dIf tt ta tb) := PE.imp (pe_ifExp hc ha hb) fun σ H Q ⟨O, f, dσ, QD, QE, hs, h, k, kx⟩ => by
  refine ⟨O, f, dσ, _, QE, hs, h, fun c H1 e1 q => ?_, kx⟩
  cases c with
  | true =>
    rw [if_pos rfl]
    exact ⟨O, f, dσ, _, QE, hs.same e1, q, fun v d H2 e2 r2 q2 => k _ _ _ (e1.trans e2) r2 q2, kx.same e1⟩
  | false =>
    rw [if_neg Bool.false_ne_true]
    exact ⟨O, f, dσ, _, QE, hs.same e1, q, fun v d H2 e2 r2 q2 => k _ _ _ (e1.trans e2) r2 q2, kx.same e1⟩
end
end
end Dl
set_option Elab.async false
set_option linter.all false
set_option maxRecDepth 100000
set_option maxHeartbeats 4000000
namespace Dl
open PySem PySem.Spec L2
structure DEnds where
  nx : List Sl → Prop
  rt : D → Prop
  /-- a list that was just made is handed back -/
  rn : List D → Prop
  bk : List Sl → Prop
  cn : List Sl → Prop
  ex : Nat → D → List Sl → Prop
abbrev TDS := DEnds → List Sl → Prop
def Own (O0 : Addr → Prop) (f : Nat → Addr) (dσ : List Sl) (a : Addr) : Prop := O0 a ∨ ∃ i s, dσ[i]? = some s ∧ isOwn s = true ∧ f i = a
structure StS (K : PySem.W.Frag) (ct : CT) (O0 : Addr → Prop) (H0 H : Hp) (f : Nat → Addr) (dσ : List Sl) (σ : St) : Prop where
  e : StE K ct H (Own O0 f dσ) f dσ σ
  same : Same H0 H
  fresh : ∀ i s, dσ[i]? = some s → isOwn s = true → H0 (f i) = none
  inj : ∀ i j s t, dσ[i]? = some s → isOwn s = true → dσ[j]? = some t → isOwn t = true → f i = f j → i = j
  dom0 : ∀ a, O0 a → ∃ o, H0 a = some o
structure EndsOk (K : PySem.W.Frag) (ct : CT) (W : WX) (O0 : Addr → Prop) (H0 : Hp) (E : Ends) (DD : DEnds) : Prop where
  nx : ∀ σ H f dσ, StS K ct O0 H0 H f dσ σ → DD.nx dσ → E.nx σ H
  bk : ∀ σ H f dσ, StS K ct O0 H0 H f dσ σ → DD.bk dσ → E.bk σ H
  cn : ∀ σ H f dσ, StS K ct O0 H0 H f dσ σ → DD.cn dσ → E.ct σ H
  rt : ∀ v d H, Same H0 H → Rep K ct H O0 d v → DD.rt d → E.rt v H
  rn : ∀ p vs ds H, H0 p = none → Same H0 H → H p = some (.lst vs) → RepL K ct H (fun b => O0 b ∨ b = p) ds vs → DD.rn ds → E.rt (.ref p) H
  ex : ∀ c x cls dd σ H f dσ, StS K ct O0 H0 H f dσ σ → ExcAt K ct H (Own O0 f dσ) c x cls dd → DD.ex c x dσ → W cls dd σ H
def liftS (K : PySem.W.Frag) (ct : CT) (W : WX) (ts : TDS) : TS := fun E σ H => ∃ O0 H0 f dσ DD, StS K ct O0 H0 H f dσ σ ∧ ts DD dσ ∧ EndsOk K ct W O0 H0 E DD
def DS (X : Cx) (ct : CT) (W : WX) (st : Stmt) (ts : TDS) : Prop := PS X st (liftS X.K ct W ts)
def DSs (X : Cx) (ct : CT) (W : WX) (st : List Stmt) (ts : TDS) : Prop := PSs X st (liftS X.K ct W ts)
def xq (DD : DEnds) (s : List Sl) : QX := fun c x => DD.ex c x s
section
variable {K : PySem.W.Frag} {ct : CT} {W : WX} {O0 O O' : Addr → Prop} {H0 H H' : Hp} {f : Nat → Addr} {dσ : List Sl} {σ : St} {E : Ends} {DD : DEnds}
theorem StS.sm (h : StS K ct O0 H0 H f dσ σ) (c : Same H H') : StS K ct O0 H0 H' f dσ σ := ⟨h.e.same c, h.same.trans c, h.fresh, h.inj, h.dom0⟩
theorem Own.base {a : Addr} (h : O0 a) : Own O0 f dσ a := .inl h
/-- an expression of a statement -/
theorem StS.ke (h : StS K ct O0 H0 H f dσ σ) (e : EndsOk K ct W O0 H0 E DD) : KE K ct W H (Own O0 f dσ) σ (xq DD dσ) := fun c x cls dd H' s a q => e.ex c x cls dd σ H' f dσ (h.sm s) a q
theorem StS.ex (h : StS K ct O0 H0 H f dσ σ) (e : EndsOk K ct W O0 H0 E DD) {td : TD} {QD : D → Prop} {Q : VK} (t : td dσ QD (xq DD dσ)) (k : ∀ v d H', Same H H' → Rep K ct H' (Own O0 f dσ) d v → QD d → Q v H') : liftE K ct W td σ H Q :=
  ⟨_, f, dσ, QD, _, h.e, t, k, h.ke e⟩
theorem StS.tt (h : StS K ct O0 H0 H f dσ σ) (e : EndsOk K ct W O0 H0 E DD) {td : TDT} {QD : Bool → Prop} {Q : Bool → Hp → Prop} (t : td dσ QD (xq DD dσ)) (k : ∀ b H', Same H H' → QD b → Q b H') : liftT K ct W td σ H Q :=
  ⟨_, f, dσ, QD, _, h.e, t, k, h.ke e⟩
theorem StS.aa (h : StS K ct O0 H0 H f dσ σ) (e : EndsOk K ct W O0 H0 E DD) {td : TDA} {QD : List D → Prop} {Q : List V → Hp → Prop} (t : td dσ QD (xq DD dσ)) (k : ∀ vs ds H', Same H H' → RepL K ct H' (Own O0 f dσ) ds vs → QD ds → Q vs H') : liftA K ct W td σ H Q :=
  ⟨_, f, dσ, QD, _, h.e, t, k, h.ke e⟩
theorem EndsOk.sub (e : EndsOk K ct W O0 H0 E DD) {nx : List Sl → Prop} {nx' : St → Hp → Prop} (h : ∀ σ H f dσ, StS K ct O0 H0 H f dσ σ → nx dσ → nx' σ H) : EndsOk K ct W O0 H0 { E with nx := nx' } { DD with nx := nx } := ⟨h, e.bk, e.cn, e.rt, e.rn, e.ex⟩
theorem getS {α : Type} {l : List α} {i j : Nat} {a x : α} (h : (l.set i a)[j]? = some x) : (j = i ∧ x = a ∧ i < l.length) ∨ (j ≠ i ∧ l[j]? = some x) := by
  by_cases e : i = j
  · subst e
    by_cases hl : i < l.length
    · rw [List.getElem?_set_self hl] at h
      exact .inl ⟨rfl, (Option.some.inj h).symm, hl⟩
    · rw [List.getElem?_eq_none (by simpa using hl)] at h
      cases h
  · rw [List.getElem?_set_ne e] at h
    exact .inr ⟨fun z => e z.symm, h⟩
theorem own_set {i : Nat} {s : Sl} (hs : isOwn s = false) {a : Addr} (h : Own O0 f (dσ.set i s) a) : Own O0 f dσ a := by
  rcases h with h | ⟨j, t, e, o, ea⟩
  · exact .inl h
  · rcases getS e with ⟨_, e2, _⟩ | ⟨_, e2⟩
    · rw [e2, hs] at o
      cases o
    · exact .inr ⟨j, t, e2, o, ea⟩
theorem SlOk.less {a : Addr} {s : Sl} {o : Option V} (l : ∀ b, O' b → O b) (hown : isOwn s = true → O' a) (h : SlOk K ct H O a s o) : SlOk K ct H O' a s o := by
  cases s with
  | un => trivial
  | v d =>
    obtain ⟨v, e, r⟩ := h
    exact ⟨v, e, r.less l⟩
  | own xs =>
    obtain ⟨e, n, vs, z, r⟩ := h
    exact ⟨e, hown rfl, vs, z, r.less l⟩
  | ini c fs =>
    obtain ⟨e, n, ea, vs, z, r⟩ := h
    exact ⟨e, hown rfl, ea, vs, z, r.less l⟩
  | exc k x => exact ⟨h.1, h.2.less l⟩
  | dic ks xs =>
    obtain ⟨e, n, vs, z, hl, r⟩ := h
    exact ⟨e, hown rfl, vs, z, hl, r.less l⟩
/-- a slot gets a plain value, or is forgotten -/
theorem StS.set_s (h : StS K ct O0 H0 H f dσ σ) {i : Nat} {s : Sl} {x : Option V} (hs : isOwn s = false) (r : SlOk K ct H (Own O0 f dσ) (f i) s x) : StS K ct O0 H0 H f (dσ.set i s) (σ.set i x) where
  e := {
    len := by rw [List.length_set, List.length_set]; exact h.e.len
    at_ := fun j t e => by
      have l : ∀ b, Own O0 f (dσ.set i s) b → Own O0 f dσ b := fun b z => own_set hs z
      rcases getS e with ⟨e1, e2, e3⟩ | ⟨e1, e2⟩
      · subst e1
        subst e2
        refine ⟨x, List.getElem?_set_self (by rw [← h.e.len]; exact e3), r.less l fun z => ?_⟩
        rw [hs] at z
        cases z
      · obtain ⟨o, a, b⟩ := h.e.at_ j t e2
        refine ⟨o, by rw [List.getElem?_set_ne (Ne.symm e1)]; exact a, b.less l fun z => .inr ⟨j, t, e, z, rfl⟩⟩
    dom := fun a z => h.e.dom a (own_set hs z) }
  same := h.same
  fresh := fun j t e o => by
    rcases getS e with ⟨_, e2, _⟩ | ⟨_, e2⟩
    · rw [e2, hs] at o
      cases o
    · exact h.fresh j t e2 o
  inj := fun j k s1 t1 e1 o1 e2 o2 ef => by
    rcases getS e1 with ⟨_, z, _⟩ | ⟨_, z1⟩
    · rw [z, hs] at o1
      cases o1
    · rcases getS e2 with ⟨_, z, _⟩ | ⟨_, z2⟩
      · rw [z, hs] at o2
        cases o2
      · exact h.inj j k s1 t1 z1 o1 z2 o2 ef
  dom0 := h.dom0
theorem StS.set_v (h : StS K ct O0 H0 H f dσ σ) {i : Nat} {d : D} {x : V} (r : Rep K ct H (Own O0 f dσ) d x) : StS K ct O0 H0 H f (dσ.set i (.v d)) (σ.set i (some x)) := h.set_s rfl ⟨x, rfl, r⟩
theorem StS.set_un (h : StS K ct O0 H0 H f dσ σ) {i : Nat} {x : Option V} : StS K ct O0 H0 H f (dσ.set i .un) (σ.set i x) := h.set_s rfl trivial
def putA (f : Nat → Addr) (i : Nat) (p : Addr) : Nat → Addr := fun j => if j = i then p else f j
theorem putA_same {i : Nat} {p : Addr} : putA f i p i = p := if_pos rfl
theorem putA_ne {i j : Nat} {p : Addr} (h : j ≠ i) : putA f i p j = f j := if_neg h
/-- a slot gets a new list of its own -/
theorem StS.set_own (h : StS K ct O0 H0 H f dσ σ) {i : Nat} {ds : List D} {vs : List V} {p : Addr} (hp : H p = none) (r : RepL K ct H (Own O0 f dσ) ds vs) : StS K ct O0 H0 (upd H p (.lst vs)) (putA f i p) (dσ.set i (.own ds)) (σ.set i (some (.ref p))) := by
  have l : ∀ b, Own O0 (putA f i p) (dσ.set i (.own ds)) b → Own O0 f dσ b ∨ b = p := fun b z => by
    rcases z with z | ⟨j, t, e, o, ea⟩
    · exact .inl (.inl z)
    · rcases getS e with ⟨e1, _, _⟩ | ⟨e1, e2⟩
      · rw [← ea, e1, putA_same]
        exact .inr rfl
      · rw [putA_ne e1] at ea
        exact .inl (.inr ⟨j, t, e2, o, ea⟩)
  have ne : ∀ {b : Addr} {o : HO}, H b = some o → b ≠ p := fun e => ne_of_none e hp
  have nf : ∀ j t, dσ[j]? = some t → isOwn t = true → f j ≠ p := fun j t e o z => by
    obtain ⟨u, q⟩ := h.e.dom (f j) (.inr ⟨j, t, e, o, rfl⟩)
    exact ne q z
  refine ⟨⟨by rw [List.length_set, List.length_set]; exact h.e.len, fun j t e => ?_, fun a z => ?_⟩, h.same.trans (same_new hp), fun j t e o => ?_, fun j k s1 t1 e1 o1 e2 o2 ef => ?_, h.dom0⟩
  · rcases getS e with ⟨e1, e2, e3⟩ | ⟨e1, e2⟩
    · subst e1
      subst e2
      refine ⟨_, List.getElem?_set_self (by rw [← h.e.len]; exact e3), ?_, .inr ⟨_, _, e, rfl, rfl⟩, vs, ?_, (r.fresh hp l).same (same_new hp)⟩
      · rw [putA_same]
      · rw [putA_same]
        exact upd_same
    · obtain ⟨o, a, b⟩ := h.e.at_ j t e2
      refine ⟨o, by rw [List.getElem?_set_ne (Ne.symm e1)]; exact a, ?_⟩
      rw [putA_ne e1]
      cases t with
      | un => trivial
      | v d =>
        obtain ⟨v, e, r⟩ := b
        exact ⟨v, e, (r.fresh hp l).same (same_new hp)⟩
      | own xs =>
        obtain ⟨e4, n, us, z, r⟩ := b
        exact ⟨e4, .inr ⟨j, _, e, rfl, putA_ne e1⟩, us, same_new hp _ _ z, (r.fresh hp l).same (same_new hp)⟩
      | ini c fs =>
        obtain ⟨e4, n, ea, us, z, r⟩ := b
        exact ⟨e4, .inr ⟨j, _, e, rfl, putA_ne e1⟩, ea, us, same_new hp _ _ z, (r.fresh hp l).same (same_new hp)⟩
      | exc k x => exact ⟨b.1, (b.2.fresh hp l).same (same_new hp)⟩
      | dic ks xs =>
        obtain ⟨e4, n, us, z, hl, r⟩ := b
        exact ⟨e4, .inr ⟨j, _, e, rfl, putA_ne e1⟩, us, same_new hp _ _ z, hl, (r.fresh hp l).same (same_new hp)⟩
  · rcases l a z with z | z
    · obtain ⟨o, e⟩ := h.e.dom a z
      exact ⟨o, same_new hp _ _ e⟩
    · rw [z]
      exact ⟨_, upd_same⟩
  · rcases getS e with ⟨e1, _, _⟩ | ⟨e1, e2⟩
    · rw [e1, putA_same]
      cases q : H0 p with
      | none => rfl
      | some u =>
        rw [h.same _ _ q] at hp
        cases hp
    · rw [putA_ne e1]
      exact h.fresh j t e2 o
  · rcases getS e1 with ⟨z1, _, _⟩ | ⟨z1, y1⟩
    · rcases getS e2 with ⟨z2, _, _⟩ | ⟨z2, y2⟩
      · rw [z1, z2]
      · rw [z1, putA_same, putA_ne z2] at ef
        exact absurd ef.symm (nf k t1 y2 o2)
    · rcases getS e2 with ⟨z2, _, _⟩ | ⟨z2, y2⟩
      · rw [z2, putA_same, putA_ne z1] at ef
        exact absurd ef (nf j s1 y1 o1)
      · rw [putA_ne z1, putA_ne z2] at ef
        exact h.inj j k s1 t1 y1 o1 y2 o2 ef
/-- a list of one's own changes -/
theorem StS.upd_own (h : StS K ct O0 H0 H f dσ σ) {i : Nat} {xs ys : List D} {us : List V} (hi : dσ[i]? = some (.own xs)) (r : RepL K ct H (Own O0 f dσ) ys us) : StS K ct O0 H0 (upd H (f i) (.lst us)) f (dσ.set i (.own ys)) σ := by
  have il : i < dσ.length := (List.getElem?_eq_some_iff.mp hi).1
  obtain ⟨o, ho, e1, n1, vs, e2, r2⟩ := h.e.at_ i _ hi
  subst e1
  have l : ∀ b, Own O0 f (dσ.set i (.own ys)) b → Own O0 f dσ b := fun b z => by
    rcases z with z | ⟨j, t, e, o, ea⟩
    · exact .inl z
    · rcases getS e with ⟨e1, _, _⟩ | ⟨e1, e2⟩
      · rw [← ea, e1]
        exact n1
      · exact .inr ⟨j, t, e2, o, ea⟩
  have c : Chg (Own O0 f dσ) H (upd H (f i) (.lst us)) := fun b o e => by
    by_cases z : b = f i
    · subst z
      rw [e2] at e
      cases e
      exact .inr ⟨n1, trivial⟩
    · exact .inl (by rw [upd_ne z]; exact e)
  refine ⟨⟨by rw [List.length_set]; exact h.e.len, fun j t e => ?_, fun a z => ?_⟩, fun b o e => ?_, fun j t e o => ?_, fun j k s1 t1 e1 o1 e2 o2 ef => ?_, h.dom0⟩
  · rcases getS e with ⟨e3, e4, _⟩ | ⟨e3, e4⟩
    · subst e3
      subst e4
      exact ⟨_, ho, rfl, .inr ⟨_, _, e, rfl, rfl⟩, us, upd_same, (r.chg c).less l⟩
    · obtain ⟨o, a, b⟩ := h.e.at_ j t e4
      refine ⟨o, a, ?_⟩
      have nj : isOwn t = true → f j ≠ f i := fun ot z => e3 (h.inj j i t _ e4 ot hi rfl z)
      cases t with
      | un => trivial
      | v d =>
        obtain ⟨v, e, r⟩ := b
        exact ⟨v, e, (r.chg c).less l⟩
      | own xs =>
        obtain ⟨e5, n, us2, z, r⟩ := b
        exact ⟨e5, .inr ⟨j, _, e, rfl, rfl⟩, us2, by rw [upd_ne (nj rfl)]; exact z, (r.chg c).less l⟩
      | ini c2 fs =>
        obtain ⟨e5, n, ea, us2, z, r⟩ := b
        exact ⟨e5, .inr ⟨j, _, e, rfl, rfl⟩, ea, us2, by rw [upd_ne (nj rfl)]; exact z, (r.chg c).less l⟩
      | exc k x => exact ⟨b.1, (b.2.chg c).less l⟩
      | dic ks xs =>
        obtain ⟨e5, n, us2, z, hl, r⟩ := b
        exact ⟨e5, .inr ⟨j, _, e, rfl, rfl⟩, us2, by rw [upd_ne (nj rfl)]; exact z, hl, (r.chg c).less l⟩
  · obtain ⟨u, q⟩ := h.e.dom a (l a z)
    rcases c a u q with q | _
    · exact ⟨u, q⟩
    · by_cases z2 : a = f i
      · rw [z2]
        exact ⟨_, upd_same⟩
      · exact ⟨u, by rw [upd_ne z2]; exact q⟩
  · have ne : b ≠ f i := fun z => by
      rw [z, h.fresh i _ hi rfl] at e
      cases e
    rw [upd_ne ne]
    exact h.same b o e
  · rcases getS e with ⟨e3, _, _⟩ | ⟨_, e4⟩
    · rw [e3]
      exact h.fresh i _ hi rfl
    · exact h.fresh j t e4 o
  · rcases getS e1 with ⟨z1, _, _⟩ | ⟨z1, y1⟩
    · rcases getS e2 with ⟨z2, _, _⟩ | ⟨z2, y2⟩
      · rw [z1, z2]
      · rw [z1] at ef ⊢
        exact h.inj i k _ t1 hi rfl y2 o2 ef
    · rcases getS e2 with ⟨z2, _, _⟩ | ⟨z2, y2⟩
      · rw [z2] at ef ⊢
        exact h.inj j i s1 _ y1 o1 hi rfl ef
      · exact h.inj j k s1 t1 y1 o1 y2 o2 ef
end
def sNil : TDS := fun DD s => DD.nx s
def sSeq (t u : TDS) : TDS := fun DD s => t { DD with nx := u DD } s
def sAsg (i : Nat) (t : TD) : TDS := fun DD s => t s (fun d => DD.nx (s.set i (.v d))) (xq DD s)
def sOwn (i : Nat) (t : TDA) : TDS := fun DD s => t s (fun ds => ds.length ≤ sizeLine ∧ DD.nx (s.set i (.own ds))) (xq DD s)
def sDrop (t : TD) : TDS := fun DD s => t s (fun _ => DD.nx s) (xq DD s)
def sApp (i : Nat) (t : TD) : TDS := fun DD s => match s[i]? with
  | some (.own xs) => t s (fun d => xs.length < sizeLine ∧ DD.nx (s.set i (.own (xs ++ [d])))) (xq DD s)
  | _ => False
def sRet (t : TD) : TDS := fun DD s => t s DD.rt (xq DD s)
def sRetL (t : TDA) : TDS := fun DD s => t s (fun ds => ds.length ≤ sizeLine ∧ DD.rn ds) (xq DD s)
def sRetOwn (i : Nat) : TDS := fun DD s => match s[i]? with
  | some (.own xs) => DD.rn xs
  | _ => False
def sIf (c : TDT) (t u : TDS) : TDS := fun DD s => c s (fun b => match b with
  | true => t DD s
  | false => u DD s) (xq DD s)
section
variable {X : Cx} {ct : CT} {W : WX} {e a b c : Expr} {es : List Expr} {st : Stmt} {sts : List Stmt} {td ta tb tc : TD} {tda : TDA} {tt : TDT} {ts tu : TDS} {pos pos' : Pos}
theorem ds_nil : DSs X ct W [] sNil := PSs.imp pss_nil fun E σ H ⟨O0, H0, f, dσ, DD, h, t, e⟩ => e.nx _ _ _ _ h t
theorem ds_cons (h1 : DS X ct W st ts) (h2 : DSs X ct W sts tu) : DSs X ct W (st :: sts) (sSeq ts tu) := PSs.imp (pss_cons h1 h2) fun E σ H ⟨O0, H0, f, dσ, DD, h, t, e⟩ =>
  ⟨O0, H0, f, dσ, _, h, t, e.sub fun σ' H' f' dσ' h' t' => ⟨O0, H0, f', dσ', DD, h', t', e⟩⟩
theorem ds_asg {i : Nat} {x : Str} (hN : X.N.Nodup) (hi : X.N[i]? = some x) (hx : Loc X.env.scope x) (he : DE X ct W e td) (hs : swapsWith e (some (.Name x pos')) pos.line X.env = pure false := by rfl)
    (hf : X.fn x = true ∨ X.env.scope.names.lookup x = some .local := by first | exact .inl rfl | exact .inr rfl | assumption) : DS X ct W (.Assign [.Name x pos'] e pos) (sAsg i td) :=
  PS.imp (ps_set hN hi hx he hs hf) fun E σ H ⟨O0, H0, f, dσ, DD, h, t, e⟩ => h.ex e t fun v d H' s r q => e.nx _ _ _ _ ((h.sm s).set_v r) q
theorem ds_own {i : Nat} {x : Str} {p2 : Pos} (hN : X.N.Nodup) (hi : X.N[i]? = some x) (hx : Loc X.env.scope x) (he : DA X ct W es tda) (hs : swapsWith (.List es p2) (some (.Name x pos')) pos.line X.env = pure false := by rfl)
    (hf : X.fn x = true ∨ X.env.scope.names.lookup x = some .local := by first | exact .inl rfl | exact .inr rfl | assumption) : DS X ct W (.Assign [.Name x pos'] (.List es p2) pos) (sOwn i tda) :=
  PS.imp (ps_set hN hi hx (pe_lst he) hs hf) fun E σ H ⟨O0, H0, f, dσ, DD, h, t, e⟩ => h.aa e t fun vs ds H' s r q => ⟨by rw [r.length]; exact q.1, fun p hp => e.nx _ _ _ _ ((h.sm s).set_own hp r) q.2⟩
theorem ds_drop (he : DE X ct W e td) (hs : swapsWith e none pos.line X.env = pure false := by rfl) : DS X ct W (.Expr e pos) (sDrop td) := PS.imp (ps_expr he hs) fun E σ H ⟨O0, H0, f, dσ, DD, h, t, e⟩ => h.ex e t fun v d H' s r q => e.nx _ _ _ _ (h.sm s) q
theorem ds_ret (he : DE X ct W e td) : DS X ct W (.Return (some e) pos) (sRet td) := PS.imp (ps_ret he) fun E σ H ⟨O0, H0, f, dσ, DD, h, t, e⟩ => h.ex e t fun v d H' s r q => e.rt _ _ _ (h.same.trans s) (r.less fun b z => .inl z) q
theorem ds_retOwn {i : Nat} (he : PE X e (tVar i)) : DS X ct W (.Return (some e) pos) (sRetOwn i) := PS.imp (ps_ret he) fun E σ H ⟨O0, H0, f, dσ, DD, h, t, e⟩ => by
  unfold sRetOwn at t
  split at t
  · rename_i xs hi
    obtain ⟨o, ho, e1, n1, vs, e2, r2⟩ := h.e.at_ i _ hi
    subst e1
    refine ⟨_, ho, e.rn _ vs _ _ (h.fresh i _ hi rfl) h.same e2 (r2.less fun b z => ?_) t⟩
    rcases z with z | z
    · exact .inl z
    · rw [z]
      exact n1
  · exact t.elim
theorem ds_retL {p2 : Pos} (he : DA X ct W es tda) : DS X ct W (.Return (some (.List es p2)) pos) (sRetL tda) := PS.imp (ps_ret (pe_lst he)) fun E σ H ⟨O0, H0, f, dσ, DD, h, t, e⟩ => h.aa e t fun vs ds H' s r q => ⟨by rw [r.length]; exact q.1, fun p hp =>
  e.rn p vs ds _ ((h.same.trans s).free hp) (h.same.trans (s.trans (same_new hp))) upd_same ((RepL.fresh hp (fun b z => z) (r.less fun b z => .inl z)).same (same_new hp)) q.2⟩
theorem ds_app {i : Nat} {p1 p2 : Pos} (hp : PE X (.Call (.Attribute a "append" p1) [e] [] p2) (tBM X.K "list" rAppend (tVar i) (tCons (liftE X.K ct W td) tNil)))
    (hs : swapsWith (.Call (.Attribute a "append" p1) [e] [] p2) none pos.line X.env = pure false := by rfl) : DS X ct W (.Expr (.Call (.Attribute a "append" p1) [e] [] p2) pos) (sApp i td) :=
  PS.imp (ps_expr hp hs) fun E σ H ⟨O0, H0, f, dσ, DD, h, t, e⟩ => by
    unfold sApp at t
    split at t
    · rename_i xs hi
      obtain ⟨o, ho, e1, n1, vs, e2, r2⟩ := h.e.at_ i _ hi
      subst e1
      refine ⟨_, ho, .inl ⟨rfl, _, SqL.of e2⟩, h.ex e t fun v d H' s r q => ⟨_, vs, v, rfl, rfl, s _ _ e2, by rw [r2.length]; exact q.1, ?_⟩⟩
      exact e.nx _ _ _ _ ((h.sm s).upd_own hi ((r2.same s).app (RepL.cons r RepL.nil))) q.2
    · exact t.elim
theorem ds_if (hc : DT X ct W c tt) (h1 : DSs X ct W sts ts) {sts2 : List Stmt} (h2 : DSs X ct W sts2 tu) : DS X ct W (.If c sts sts2 pos) (sIf tt ts tu) := PS.imp (ps_if hc h1 h2) fun E σ H ⟨O0, H0, f, dσ, DD, h, t, e⟩ => by
  refine h.tt e t fun b H' s q => ?_
  cases b with
  | true =>
    rw [if_pos rfl]
    exact ⟨O0, H0, f, dσ, DD, h.sm s, q, e⟩
  | false =>
    rw [if_neg Bool.false_ne_true]
    exact ⟨O0, H0, f, dσ, DD, h.sm s, q, e⟩
end
end Dl
set_option Elab.async false
set_option linter.all false
set_option maxRecDepth 100000
set_option maxHeartbeats 4000000
namespace Dl
open PySem PySem.Spec L2
/-- Hb: H without some of what may change -/
def Cut (O : Addr → Prop) (H Hb : Hp) : Prop := Same Hb H ∧ Chg O H Hb
theorem Cut.refl {O : Addr → Prop} {H : Hp} : Cut O H H := ⟨Same.refl H, Chg.of (Same.refl H)⟩
structure ItOk (K : PySem.W.Frag) (ct : CT) (O : Addr → Prop) (Hb : Hp) (J : It) (ds : List D) : Prop where
  go : ∀ i H, Same Hb H → i < ds.length → J.go i H
  yld : ∀ i H x H', Same Hb H → i < ds.length → J.yld i H x H' → Same H H' ∧ ∃ d, ds[i]? = some d ∧ ∀ O', (∀ b, O' b → O b ∨ Hb b = none) → Rep K ct H' O' d x
  stop : ∀ H, Same Hb H → J.stop ds.length H
abbrev TDI := List Sl → (List D → Prop) → QX → Prop
def liftI (K : PySem.W.Frag) (ct : CT) (W : WX) (ti : TDI) : TI := fun σ H R => ∃ O f dσ QD QE, StE K ct H O f dσ σ ∧ ti dσ QD QE ∧ (∀ J ds H', Same H H' → (∀ Hb, Cut O H' Hb → ItOk K ct O Hb J ds) → QD ds → R J H') ∧ KE K ct W H O σ QE
def DI (X : Cx) (ct : CT) (W : WX) (tg e : Expr) (ti : TDI) : Prop := PI X tg e (liftI X.K ct W ti)
theorem PI.imp {X : Cx} {tg e : Expr} {t t' : TI} (h : PI X tg e t) (c : ∀ σ H Q, t' σ H Q → t σ H Q) : PI X tg e t' := ⟨fun pins s σ H Q I q => h.run pins s σ H Q I (c _ _ _ q)⟩
section
variable {K : PySem.W.Frag} {ct : CT} {W : WX} {O : Addr → Prop} {H H' Hb : Hp} {f : Nat → Addr} {dσ : List Sl} {σ : St}
theorem Rep.out {d : D} {v : V} {O' : Addr → Prop} (h : Rep K ct Hb O d v) (s : Same Hb H) (c : ∀ b, O' b → O b ∨ Hb b = none) : Rep K ct H O' d v :=
  (Rep.to (fun b n ⟨o, e⟩ z => by
    rcases c b z with z | z
    · exact n z
    · rw [z] at e
      cases e) h).same s
theorem it_list {a : Addr} {vs : List V} {ds : List D} (c : Cut O H Hb) (n : ¬ O a) (l : H a = some (.lst vs)) (r : RepL K ct H O ds vs) : ItOk K ct O Hb (Itl K a) ds := by
  have lb : Hb a = some (.lst vs) := by
    rcases c.2 a _ l with z | ⟨z, _⟩
    · exact z
    · exact absurd z n
  have rb : RepL K ct Hb O ds vs := r.chg c.2
  refine ⟨fun i H1 s hi => ?_, fun i H1 x H2 s hi y => ?_, fun H1 s => ⟨vs, SqL.of (s _ _ lb), by rw [r.length] <;> exact Nat.le_refl _⟩⟩
  · have hv : i < vs.length := by rw [r.length]; exact hi
    exact ⟨vs, vs[i], SqL.of (s _ _ lb), List.getElem?_eq_getElem hv⟩
  · obtain ⟨e, z⟩ := y
    subst e
    obtain ⟨d, ed, rd⟩ := rb.getV (z vs (SqL.of (s _ _ lb)))
    exact ⟨Same.refl _, d, ed, fun O' c => rd.out s c⟩
theorem it_tup {a : Addr} {vs : List V} {ds : List D} (c : Cut O H Hb) (l : SqT K H a vs) (r : RepL K ct H O ds vs) : ItOk K ct O Hb (Itt K a) ds := by
  have lb : SqT K Hb a vs := c.2.sqt l
  have rb : RepL K ct Hb O ds vs := r.chg c.2
  have up : ∀ H1, Same Hb H1 → SqT K H1 a vs := fun H1 s => (Chg.of (O := O) s).sqt lb
  refine ⟨fun i H1 s hi => ?_, fun i H1 x H2 s hi y => ?_, fun H1 s => ⟨vs, up _ s, by rw [r.length] <;> exact Nat.le_refl _⟩⟩
  · have hv : i < vs.length := by rw [r.length]; exact hi
    exact ⟨vs, vs[i], up _ s, List.getElem?_eq_getElem hv⟩
  · obtain ⟨e, z⟩ := y
    subst e
    obtain ⟨d, ed, rd⟩ := rb.getV (z vs (up _ s))
    exact ⟨Same.refl _, d, ed, fun O' c => rd.out s c⟩
def chrs (x : Str) : List D := x.cps.toList.map fun c => D.str ⟨#[c]⟩
theorem it_str {x : Str} : ItOk K ct O Hb (Its x) (chrs x) := by
  have hl : (chrs x).length = x.cps.size := by
    unfold chrs
    rw [List.length_map, Array.length_toList]
  refine ⟨fun i H1 s hi => by rw [hl] at hi; exact hi, fun i H1 y H2 s hi z => ?_, fun H1 s => by rw [hl]; exact Nat.le_refl _⟩
  obtain ⟨e, c, hc, ev⟩ := z
  subst e
  refine ⟨Same.refl _, .str ⟨#[c]⟩, ?_, fun O' _ => rep_str.mpr ev⟩
  unfold chrs
  rw [List.getElem?_map, Array.getElem?_toList, hc]
  rfl
def intsD (lo : Int) (n : Nat) : List D := (List.range n).map fun i => D.int (lo + (i : Nat))
theorem it_rng {lo : Int} {n : Nat} : ItOk K ct O Hb (Itr lo n) (intsD lo n) := by
  have hl : (intsD lo n).length = n := by
    unfold intsD
    rw [List.length_map, List.length_range]
  refine ⟨fun i H1 s hi => by rw [hl] at hi; exact hi, fun i H1 y H2 s hi z => ?_, fun H1 s => by rw [hl]; exact Nat.le_refl _⟩
  obtain ⟨e, ev⟩ := z
  subst e
  rw [hl] at hi
  refine ⟨Same.refl _, .int (lo + (i : Nat)), ?_, fun O' _ => rep_int.mpr ev⟩
  unfold intsD
  rw [List.getElem?_map, List.getElem?_range hi]
  rfl
def intsC (lo c : Int) (n : Nat) : List D := (List.range n).map fun i => D.int (lo + (i : Nat) * c)
/-- a list's items with their numbers -/
def numbered (i : Nat) : List D → List D
  | [] => []
  | d :: ds => .tup [.int i, d] :: numbered (i + 1) ds
theorem numbered_len : ∀ (ds : List D) (i : Nat), (numbered i ds).length = ds.length
  | [], _ => rfl
  | _ :: ds, i => congrArg Nat.succ (numbered_len ds (i + 1))
theorem numbered_get : ∀ (ds : List D) (i j : Nat), (numbered i ds)[j]? = (ds[j]?).map fun d => .tup [.int ((i + j : Nat) : Int), d]
  | [], _, _ => by simp [numbered]
  | d :: ds, i, 0 => by simp [numbered]
  | d :: ds, i, j + 1 => by
    have z := numbered_get ds (i + 1) j
    have e : i + 1 + j = i + (j + 1) := by omega
    rw [e] at z
    simpa [numbered] using z
end
inductive Tg where
  | nm (i : Nat) | tp (is : List Nat) | tq (i : Nat) (is : List Nat)
def setM : List Nat → List D → List Sl → List Sl
  | i :: is, d :: ds, s => setM is ds (s.set i (.v d))
  | _, _, s => s
def setT : Tg → D → List Sl → (List Sl → Prop) → Prop
  | .nm i, d, s, Q => Q (s.set i (.v d))
  | .tp is, .tup ds, s, Q => ds.length = is.length ∧ Q (setM is ds s)
  | .tq i is, .tup [d, .tup es], s, Q => es.length = is.length ∧ Q (setM is es (s.set i (.v d)))
  | _, _, _, _ => False
def gsN : List Nat → TGs
  | [] => gNil
  | i :: is => gCons (gName i) (gsN is)
def gT (K : PySem.W.Frag) : Tg → TG
  | .nm i => gName i
  | .tp is => gTup K is.length (gsN is)
  | .tq i is => gTup K 2 (gCons (gName i) (gCons (gTup K is.length (gsN is)) gNil))
section
variable {K : PySem.W.Frag} {ct : CT} {W : WX} {O0 : Addr → Prop} {H0 H H' Hb : Hp} {f : Nat → Addr} {dσ : List Sl} {σ : St} {E : Ends} {DD : DEnds}
theorem gsN_ok : ∀ {is : List Nat} {ds : List D} {vs : List V} {dσ : List Sl} {σ : St} {Q : St → Hp → Prop}, StS K ct O0 H0 H f dσ σ → (∀ dσ' b, Own O0 f dσ' b → Own O0 f dσ b → True) → RepL K ct H (Own O0 f dσ) ds vs → ds.length = is.length →
    (∀ σ', StS K ct O0 H0 H f (setM is ds dσ) σ' → Q σ' H) → gsN is vs σ H Q
  | [], ds, vs, dσ, σ, Q, h, _, r, e, k => by
    have e1 : ds = [] := List.eq_nil_of_length_eq_zero e
    subst e1
    simp only [RepL] at r
    exact ⟨r, k σ h⟩
  | i :: is, [], vs, dσ, σ, Q, h, _, r, e, k => by cases e
  | i :: is, d :: ds, vs, dσ, σ, Q, h, _, r, e, k => by
    obtain ⟨v, q, ev, h1, h2⟩ := r.cons_inv
    subst ev
    refine ⟨v, q, rfl, ?_⟩
    exact gsN_ok (dσ := dσ.set i (.v d)) (h.set_v h1) (fun _ _ _ _ => trivial) (h2.less fun b z => own_set rfl z) (Nat.succ.inj e) k
theorem setT_tq {i : Nat} {is : List Nat} {d : D} {s : List Sl} {QQ : List Sl → Prop} (t : setT (.tq i is) d s QQ) : ∃ d1 es, d = .tup [d1, .tup es] ∧ es.length = is.length ∧ QQ (setM is es (s.set i (.v d1))) := by
  cases d with
  | tup ds =>
    rcases ds with _ | ⟨d1, _ | ⟨d2, _ | ⟨d3, r⟩⟩⟩
    · exact t.elim
    · exact t.elim
    · cases d2 <;> first | exact ⟨_, _, rfl, t.1, t.2⟩ | exact t.elim
    · cases d2 <;> exact t.elim
  | _ => exact t.elim
theorem RepL.two {O : Addr → Prop} {d e : D} {vs : List V} (r : RepL K ct H O [d, e] vs) : ∃ v u, vs = [v, u] ∧ Rep K ct H O d v ∧ Rep K ct H O e u := by
  obtain ⟨v, q, rfl, h1, h2⟩ := r.cons_inv
  obtain ⟨u, q2, rfl, h3, h4⟩ := h2.cons_inv
  simp only [RepL] at h4
  subst h4
  exact ⟨v, u, rfl, h1, h3⟩
theorem gT_ok {tg : Tg} {d : D} {x : V} {Q : St → Hp → Prop} {QQ : List Sl → Prop} (h : StS K ct O0 H0 H f dσ σ) (r : Rep K ct H (Own O0 f dσ) d x) (t : setT tg d dσ QQ) (k : ∀ dσ' σ', StS K ct O0 H0 H f dσ' σ' → QQ dσ' → Q σ' H) : gT K tg x σ H Q := by
  cases tg with
  | nm i => exact k _ _ (h.set_v r) t
  | tp is =>
    cases d with
    | tup ds =>
      obtain ⟨e, q⟩ := t
      obtain ⟨a, vs, ea, l, rl⟩ := rep_tup.mp r
      exact ⟨a, vs, ea, l, by rw [rl.length, e], gsN_ok h (fun _ _ _ _ => trivial) rl e fun σ' h' => k _ _ h' q⟩
    | _ => exact t.elim
  | tq i is =>
    obtain ⟨d1, es, rfl, e, q⟩ := setT_tq t
    obtain ⟨a, vs, ea, l, rl⟩ := rep_tup.mp r
    obtain ⟨v1, v2, rfl, r1, r2⟩ := rl.two
    obtain ⟨b, us, eb, lb, rb⟩ := rep_tup.mp r2
    refine ⟨a, _, ea, l, rfl, v1, _, rfl, v2, _, rfl, ?_⟩
    exact ⟨b, us, eb, lb, by rw [rb.length, e], gsN_ok (h.set_v r1) (fun _ _ _ _ => trivial) (rb.less fun b z => own_set rfl z) e fun σ' h' => ⟨rfl, k _ _ h' q⟩⟩
open Classical in
noncomputable def cutH (H : Hp) (P : Addr → Prop) : Hp := fun b => if P b then none else H b
def ownP (f : Nat → Addr) (dσ : List Sl) (a : Addr) : Prop := ∃ i s, dσ[i]? = some s ∧ isOwn s = true ∧ f i = a
theorem cut_some {P : Addr → Prop} {b : Addr} {o : HO} (h : cutH H P b = some o) : H b = some o ∧ ¬ P b := by
  unfold cutH at h
  by_cases z : P b
  · rw [if_pos z] at h
    cases h
  · rw [if_neg z] at h
    exact ⟨h, z⟩
theorem cut_ne {P : Addr → Prop} {b : Addr} (n : ¬ P b) : cutH H P b = H b := by
  unfold cutH
  rw [if_neg n]
theorem cut_eq {P : Addr → Prop} {b : Addr} (n : P b) : cutH H P b = none := by
  unfold cutH
  rw [if_pos n]
theorem StS.cut (h : StS K ct O0 H0 H f dσ σ) : Cut (Own O0 f dσ) H (cutH H (ownP f dσ)) ∧ StS K ct O0 (cutH H (ownP f dσ)) H f dσ σ ∧ Same H0 (cutH H (ownP f dσ)) := by
  have nown : ∀ b o, H0 b = some o → ¬ ownP f dσ b := fun b o e ⟨i, s, e1, o1, ef⟩ => by
    have z := h.fresh i s e1 o1
    rw [ef, e] at z
    cases z
  have sm : Same H0 (cutH H (ownP f dσ)) := fun b o e => by
    rw [cut_ne (nown b o e)]
    exact h.same b o e
  refine ⟨⟨fun b o e => (cut_some e).1, fun b o e => ?_⟩, ⟨h.e, fun b o e => (cut_some e).1, fun i s e o => cut_eq ⟨i, s, e, o, rfl⟩, h.inj, fun a z => ?_⟩, sm⟩
  · by_cases z : ownP f dσ b
    · obtain ⟨i, s, e1, o1, ef⟩ := z
      refine .inr ⟨.inr ⟨i, s, e1, o1, ef⟩, ?_⟩
      obtain ⟨u, _, q⟩ := h.e.at_ i s e1
      cases s with
      | own xs =>
        obtain ⟨_, _, vs, l, _⟩ := q
        rw [ef, e] at l
        cases l
        trivial
      | ini c fs =>
        obtain ⟨_, _, _, vs, l, _⟩ := q
        rw [ef, e] at l
        cases l
        trivial
      | dic ks xs =>
        obtain ⟨_, _, vs, l, _⟩ := q
        rw [ef, e] at l
        cases l
        trivial
      | _ => cases o1
    · exact .inl (by rw [cut_ne z]; exact e)
  · obtain ⟨o, e⟩ := h.dom0 a z
    exact ⟨o, sm a o e⟩
theorem StS.rebase (s : Same H0 Hb) (dom0 : ∀ a, O0 a → ∃ o, H0 a = some o) (h : StS K ct O0 Hb H f dσ σ) : StS K ct O0 H0 H f dσ σ := ⟨h.e, s.trans h.same, fun i t e o => s.free (h.fresh i t e o), h.inj, dom0⟩
theorem EndsOk.rebase (s : Same H0 Hb) (dom0 : ∀ a, O0 a → ∃ o, H0 a = some o) (e : EndsOk K ct W O0 H0 E DD) : EndsOk K ct W O0 Hb E DD :=
  ⟨fun σ H f dσ h q => e.nx σ H f dσ (h.rebase s dom0) q, fun σ H f dσ h q => e.bk σ H f dσ (h.rebase s dom0) q, fun σ H f dσ h q => e.cn σ H f dσ (h.rebase s dom0) q, fun v d H z r q => e.rt v d H (s.trans z) r q, fun p vs ds H hp z l r q => e.rn p vs ds H (s.free hp) (s.trans z) l r q,
    fun c x cls dd σ H f dσ h a q => e.ex c x cls dd σ H f dσ (h.rebase s dom0) a q⟩
end
def forR (tg : Tg) (body : TDS) : List D → TDS
  | [], DD, s => DD.nx s
  | d :: ds, DD, s => setT tg d s fun s1 => body { DD with nx := forR tg body ds DD, cn := forR tg body ds DD, bk := DD.nx } s1
def sFor (ti : TDI) (tg : Tg) (body : TDS) : TDS := fun DD s => ti s (fun ds => forR tg body ds DD s) (xq DD s)
section
variable {X : Cx} {ct : CT} {W : WX} {e te : Expr} {sts : List Stmt} {ti : TDI} {tg : Tg} {tb : TDS} {pos : Pos}
theorem for_lift : ∀ E σ H, liftS X.K ct W (sFor ti tg tb) E σ H → tFor (liftI X.K ct W ti) (gT X.K tg) (liftS X.K ct W tb) E σ H := fun E σ H ⟨O0, H0, f, dσ, DD, h, t, en⟩ => by
  refine ⟨_, f, dσ, _, _, h.e, t, fun J ds H1 s1 it q => ?_, h.ke en⟩
  have h1 := h.sm s1
  obtain ⟨hc1, hc2, hc3⟩ := h1.cut
  have I := it _ hc1
  have en1 := en.rebase hc3 h.dom0
  refine ⟨fun i m σ' H' => m = ds.length - i ∧ i ≤ ds.length ∧ ∃ f' dσ', StS X.K ct O0 (cutH H1 (ownP f dσ)) H' f' dσ' σ' ∧ forR tg tb (ds.drop i) DD dσ', ⟨ds.length, rfl, Nat.zero_le _, f, dσ, hc2, q⟩, ?_⟩
  rintro i m σ' H' ⟨rfl, hi', f', dσ', h', q'⟩
  by_cases hlt : i < ds.length
  · rw [List.drop_eq_getElem_cons hlt] at q'
    refine .inr ⟨I.go i H' h'.same hlt, fun σ2 H2 => ∃ f2 dσ2, StS X.K ct O0 (cutH H1 (ownP f dσ)) H2 f2 dσ2 σ2 ∧ forR tg tb (ds.drop (i + 1)) DD dσ2, fun σ2 H2 ⟨f2, dσ2, h2, q2⟩ => ⟨ds.length - (i + 1), by omega, rfl, hlt, f2, dσ2, h2, q2⟩, fun x H2 y => ?_⟩
    obtain ⟨s2, d, ed, rd⟩ := I.yld i H' x H2 h'.same hlt y
    rw [List.getElem?_eq_getElem hlt] at ed
    cases ed
    have r2 : Rep X.K ct H2 (Own O0 f' dσ') ds[i] x := rd _ fun b z => by
      rcases z with z | ⟨j, t, e1, o1, ef⟩
      · exact .inl (.inl z)
      · rw [← ef]
        exact .inr (h'.fresh j t e1 o1)
    refine gT_ok (h'.sm s2) r2 q' fun dσ3 σ3 h3 q3 => ?_
    refine ⟨O0, _, f', dσ3, _, h3, q3, ⟨fun σ4 H4 f4 dσ4 h4 q4 => ⟨f4, dσ4, h4, q4⟩, fun σ4 H4 f4 dσ4 h4 q4 => en1.nx σ4 H4 f4 dσ4 h4 q4, fun σ4 H4 f4 dσ4 h4 q4 => ⟨f4, dσ4, h4, q4⟩, en1.rt, en1.rn, en1.ex⟩⟩
  · have ei : i = ds.length := by omega
    subst ei
    rw [List.drop_length] at q'
    exact .inl ⟨I.stop H' h'.same, en1.nx _ _ _ _ h' q'⟩
theorem ds_for (hp : PassesOwn (model X.prog X.w) X.A X.env X.xe) (hc : X.calm = true) (hi : DI X ct W te e ti) (hg : PG X te (gT X.K tg)) (hb : DSs X ct W sts tb) (hs : ∀ x, foldedSetIterable e X.env x = pure x := by intro _; rfl) :
    DS X ct W (.For te e sts [] pos) (sFor ti tg tb) := PS.imp (ps_for hp hc hi hg hb hs) for_lift
end
section
variable {X : Cx} {ct : CT} {W : WX} {e c a b : Expr} {es : List Expr} {sts : List Stmt} {ta : TD} {tda : TDA} {tt : TDT} {tb : TDS} {pos : Pos} {tg : Expr} {te0 : TE}
/-- a list, a tuple, a text -/
def itD : D → (List D → Prop) → Prop
  | .lst xs, Q => Q xs
  | .tup xs, Q => Q xs
  | .str x, Q => Q (chrs x)
  | .scr ns, Q => Q (ns.map D.int)
  | _, _ => False
def iVal (t : TD) : TDI := fun s Q E => t s (fun d => itD d Q) E
def iR1 (t : TDA) : TDI := fun s Q E => t s (fun ds => match ds with
  | [.int n] => -(2 ^ 62) ≤ n ∧ n < 2 ^ 62 ∧ Q (intsD 0 n.toNat)
  | _ => False) E
theorem pi_any (he : PE X e te0) : PI X tg e (fun σ H R => te0 σ H fun v H1 => (∃ a xs, v = .ref a ∧ SqL X.K H1 a xs ∧ R (Itl X.K a) H1) ∨ (∃ a xs, v = .ref a ∧ SqT X.K H1 a xs ∧ R (Itt X.K a) H1) ∨ ∃ x, v = .str x ∧ R (Its x) H1) := by
  constructor
  intro pins s σ H R I h
  refine thn (he.run pins s σ H _ I h) ?_
  rintro v s1 ⟨y, H1, I1, r1, q | q | q⟩
  · obtain ⟨a, xs, ea, hq, q⟩ := q
    subst ea
    cases r1
    obtain ⟨its, rv, p, hz⟩ := I1.list hq
    exact PySem.wpAny_pyIter_list p.isList (pi_one (tk := s1.toks) I1 _ (turn_list a _) ⟨_, Heap.get?_push_size _ rfl, rfl, rfl⟩ q)
  · obtain ⟨a, xs, ea, hq, q⟩ := q
    subst ea
    cases r1
    obtain ⟨its, rv, p, hz⟩ := I1.tuple hq
    exact PySem.wpAny_pyIter_tuple (show s1.heap.IsTuple a its.toArray from p) (pi_one (tk := s1.toks) I1 _ (turn_tuple a _) ⟨_, Heap.get?_push_size _ rfl, rfl, rfl⟩ q)
  · obtain ⟨x, ea, q⟩ := q
    subst ea
    obtain ⟨t, rfl⟩ := r1
    cases ha : x.cps.all (· < 128) with
    | false => exact PySem.wpAny_pyIter_wide ha (pi_one (tk := s1.toks) I1 _ (turn_str _ x t "str_iterator" (.inr rfl)) ⟨_, Heap.get?_push_size _ rfl, rfl, rfl⟩ q)
    | true => exact PySem.wpAny_pyIter_ascii ha (pi_one (tk := s1.toks) I1 _ (turn_str _ x t "str_ascii_iterator" (.inl rfl)) ⟨_, Heap.get?_push_size _ rfl, rfl, rfl⟩ q)
theorem scr_rep {K : PySem.W.Frag} {H : Hp} {O : Addr → Prop} {a : Addr} {ns : List Int} (l : LAt K H O a (ns.map V.int)) : ∀ Hb, Cut O H Hb → ItOk K ct O Hb (Itl K a) (ns.map D.int) := fun Hb c => by
  have lb : LAt K Hb O a (ns.map V.int) := c.2.lat l
  have up : ∀ H1, Same Hb H1 → SqL K H1 a (ns.map V.int) := fun H1 s => ((Chg.of (O := O) s).lat lb).sq
  refine ⟨fun i H1 s hi => ?_, fun i H1 x H2 s hi y => ?_, fun H1 s => ⟨_, up _ s, by rw [List.length_map, List.length_map] <;> exact Nat.le_refl _⟩⟩
  · rw [List.length_map] at hi
    exact ⟨_, .int ns[i], up _ s, by rw [List.getElem?_map, List.getElem?_eq_getElem hi] <;> rfl⟩
  · obtain ⟨e, z⟩ := y
    subst e
    rw [List.length_map] at hi
    have z2 := z _ (up _ s)
    rw [List.getElem?_map, List.getElem?_eq_getElem hi] at z2
    refine ⟨Same.refl _, .int ns[i], by rw [List.getElem?_map, List.getElem?_eq_getElem hi] <;> rfl, fun O' _ => rep_int.mpr (Option.some.inj z2).symm⟩
theorem di_val (he : DE X ct W e ta) : DI X ct W tg e (iVal ta) := PI.imp (pi_any he) fun σ H R ⟨O, f, dσ, QD, QE, hs, h, k, kx⟩ => by
  refine ⟨O, f, dσ, _, QE, hs, h, fun v d H1 e1 r q => ?_, kx⟩
  cases d with
  | lst xs =>
    obtain ⟨a, vs, ea, n, l, rl⟩ := rep_lst.mp r
    exact .inl ⟨a, vs, ea, SqL.of l, k _ _ _ e1 (fun Hb c => it_list c n l rl) q⟩
  | tup xs =>
    obtain ⟨a, vs, ea, l, rl⟩ := rep_tup.mp r
    exact .inr (.inl ⟨a, vs, ea, l, k _ _ _ e1 (fun Hb c => it_tup c l rl) q⟩)
  | str x => exact .inr (.inr ⟨x, rep_str.mp r, k _ _ _ e1 (fun Hb c => it_str) q⟩)
  | scr ns =>
    obtain ⟨a, ea, l⟩ := rep_scr.mp r
    exact .inl ⟨a, _, ea, l.sq, k _ _ _ e1 (scr_rep l) q⟩
  | _ => exact q.elim
theorem di_r1 {p : Pos} (hg : Gl X "range") (hm : X.mg "range" = none) (ha : DA X ct W [a] tda) (hs : starEach [a] X.env = [(false, eval a X.env)] := by rfl) : DI X ct W tg (.Call (.Name "range" p) [a] [] pos) (iR1 tda) :=
  PI.imp (pi_range1 hg hm ha hs) fun σ H R ⟨O, f, dσ, QD, QE, hs, h, k, kx⟩ => by
    refine ⟨O, f, dσ, _, QE, hs, h, fun vs ds H1 e1 r q => ?_, kx⟩
    split at q
    · rename_i n
      have ev := RepL.ints_inv (ns := [n]) r
      exact ⟨n, ev, q.1, q.2.1, k _ _ _ e1 (fun Hb c => it_rng) q.2.2⟩
    · exact q.elim
end
def compR (tg : Tg) (tt : TDT) (te : TD) (s : List Sl) : List D → (List D → Prop) → Prop
  | [], Q => Q []
  | d :: ds, Q => setT tg d s fun s1 => tt s1 (fun b => match b with
    | true => te s1 (fun y => compR tg tt te s ds fun ys => Q (y :: ys)) fun _ _ => False
    | false => compR tg tt te s ds Q) fun _ _ => False
def wipeD (s : List Sl) : List Nat → List Sl
  | [] => s
  | v :: vs => (wipeD s vs).set v .un
def dLc (ti : TDI) (tg : Tg) (tt : TDT) (te : TD) (vs : List Nat) : TD := fun s Q E => ti s (fun ds => ds.length ≤ sizeLine ∧ compR tg tt te (wipeD s vs) ds fun ys => Q (.lst ys)) E
def tYesD : TDT := fun _ Q _ => Q true
def W0 : WX := fun _ _ _ _ => False
def tgIn : Tg → List Nat → Bool
  | .nm i, vs => vs.contains i
  | .tp is, vs => is.all fun i => vs.contains i
  | .tq i is, vs => vs.contains i && is.all fun i => vs.contains i
end Dl
set_option Elab.async false
set_option linter.all false
set_option maxRecDepth 100000
set_option maxHeartbeats 4000000
namespace Dl
open PySem PySem.Spec L2
section
variable {K : PySem.W.Frag} {ct : CT} {W : WX} {O O' : Addr → Prop} {H H' : Hp} {f : Nat → Addr} {dσ : List Sl} {σ : St}
theorem StE.set_s (h : StE K ct H O f dσ σ) {i : Nat} {s : Sl} {x : Option V} (r : SlOk K ct H O (f i) s x) : StE K ct H O f (dσ.set i s) (σ.set i x) where
  len := by rw [List.length_set, List.length_set]; exact h.len
  at_ := fun j t e => by
    rcases getS e with ⟨e1, e2, e3⟩ | ⟨e1, e2⟩
    · subst e1
      subst e2
      exact ⟨x, List.getElem?_set_self (by rw [← h.len]; exact e3), r⟩
    · obtain ⟨o, a, b⟩ := h.at_ j t e2
      exact ⟨o, by rw [List.getElem?_set_ne (Ne.symm e1)]; exact a, b⟩
  dom := h.dom
theorem StE.set_v (h : StE K ct H O f dσ σ) {i : Nat} {d : D} {x : V} (r : Rep K ct H O d x) : StE K ct H O f (dσ.set i (.v d)) (σ.set i (some x)) := h.set_s ⟨x, rfl, r⟩
theorem StE.wipe (h : StE K ct H O f dσ σ) : ∀ vs, StE K ct H O f (wipeD dσ vs) (L2.wipe σ vs)
  | [] => h
  | v :: vs => (StE.wipe h vs).set_s (s := .un) (x := none) trivial
theorem wipe_get (σ : St) (j : Nat) : ∀ vs : List Nat, (L2.wipe σ vs)[j]? = if j ∈ vs then (if j < σ.length then some none else none) else σ[j]?
  | [] => by simp [L2.wipe]
  | v :: vs => by
    unfold L2.wipe
    by_cases e : v = j
    · subst e
      rw [if_pos (List.mem_cons_self ..)]
      by_cases hl : v < σ.length
      · rw [if_pos hl, List.getElem?_set_self (by rw [L2.wipe_length]; exact hl)]
      · rw [if_neg hl, List.getElem?_eq_none (by rw [List.length_set, L2.wipe_length]; omega)]
    · rw [List.getElem?_set_ne e, wipe_get σ j vs]
      have e2 : (j ∈ v :: vs) ↔ j ∈ vs := by
        rw [List.mem_cons]
        exact ⟨fun z => z.elim (fun z => absurd z.symm e) id, .inr⟩
      simp only [e2]
theorem wipe_set {σ : St} {i : Nat} {x : Option V} {vs : List Nat} (h : i ∈ vs) : L2.wipe (σ.set i x) vs = L2.wipe σ vs := by
  apply List.ext_getElem?
  intro j
  rw [wipe_get, wipe_get, List.length_set]
  by_cases z : j ∈ vs
  · rw [if_pos z, if_pos z]
  · rw [if_neg z, if_neg z, List.getElem?_set_ne fun e => z (by rw [← e]; exact h)]
theorem wipe_wipe {σ : St} {vs : List Nat} : L2.wipe (L2.wipe σ vs) vs = L2.wipe σ vs := by
  apply List.ext_getElem?
  intro j
  rw [wipe_get, wipe_get]
  by_cases z : j ∈ vs
  · rw [if_pos z, if_pos z, L2.wipe_length]
  · rw [if_neg z, if_neg z]
theorem gsN_okE {vs : List Nat} {ρ : St} : ∀ {is : List Nat} {ds : List D} {xs : List V} {dσ : List Sl} {σ : St} {Q : St → Hp → Prop}, (∀ i ∈ is, i ∈ vs) → StE K ct H O f dσ σ → L2.wipe σ vs = ρ → RepL K ct H O ds xs → ds.length = is.length →
    (∀ σ', StE K ct H O f (setM is ds dσ) σ' → L2.wipe σ' vs = ρ → Q σ' H) → gsN is xs σ H Q
  | [], ds, xs, dσ, σ, Q, hv, h, hw, r, e, k => by
    have e1 : ds = [] := List.eq_nil_of_length_eq_zero e
    subst e1
    simp only [RepL] at r
    exact ⟨r, k σ h hw⟩
  | i :: is, [], xs, dσ, σ, Q, hv, h, hw, r, e, k => by cases e
  | i :: is, d :: ds, xs, dσ, σ, Q, hv, h, hw, r, e, k => by
    obtain ⟨v, q, ev, h1, h2⟩ := r.cons_inv
    subst ev
    refine ⟨v, q, rfl, ?_⟩
    exact gsN_okE (dσ := dσ.set i (.v d)) (fun j hj => hv j (List.mem_cons_of_mem _ hj)) (h.set_v h1) (by rw [wipe_set (hv i (List.mem_cons_self ..))]; exact hw) h2 (Nat.succ.inj e) k
theorem gT_okE {tg : Tg} {d : D} {x : V} {vs : List Nat} {Q : St → Hp → Prop} {QQ : List Sl → Prop} (hv : tgIn tg vs = true) (h : StE K ct H O f dσ σ) (hw : L2.wipe σ vs = σ) (r : Rep K ct H O d x) (t : setT tg d dσ QQ)
    (k : ∀ dσ' σ', StE K ct H O f dσ' σ' → L2.wipe σ' vs = σ → QQ dσ' → Q σ' H) : gT K tg x σ H Q := by
  cases tg with
  | nm i =>
    have hi : i ∈ vs := by simpa [tgIn] using hv
    exact k _ _ (h.set_v r) (by rw [wipe_set hi]; exact hw) t
  | tp is =>
    cases d with
    | tup ds =>
      obtain ⟨e, q⟩ := t
      obtain ⟨a, us, ea, l, rl⟩ := rep_tup.mp r
      have hi : ∀ i ∈ is, i ∈ vs := fun i z => by
        have q := List.all_eq_true.mp hv i z
        simpa using q
      exact ⟨a, us, ea, l, by rw [rl.length, e], gsN_okE hi h hw rl e fun σ' h' w' => k _ _ h' w' q⟩
    | _ => exact t.elim
  | tq i is =>
    obtain ⟨d1, es, rfl, e, q⟩ := setT_tq t
    obtain ⟨a, vs2, ea, l, rl⟩ := rep_tup.mp r
    obtain ⟨v1, v2, rfl, r1, r2⟩ := rl.two
    obtain ⟨b, us, eb, lb, rb⟩ := rep_tup.mp r2
    have hv2 : i ∈ vs ∧ ∀ j ∈ is, j ∈ vs := by
      simp only [tgIn, Bool.and_eq_true] at hv
      refine ⟨by simpa using hv.1, fun j z => ?_⟩
      have q := List.all_eq_true.mp hv.2 j z
      simpa using q
    refine ⟨a, _, ea, l, rfl, v1, _, rfl, v2, _, rfl, ?_⟩
    exact ⟨b, us, eb, lb, by rw [rb.length, e], gsN_okE (dσ := dσ.set i (.v d1)) hv2.2 (h.set_v r1) (by rw [wipe_set hv2.1]; exact hw) rb e fun σ' h' w' => ⟨rfl, k _ _ h' w' q⟩⟩
end
theorem PTs.imp {X : Cx} {es : List Expr} {t t' : TT} (h : PTs X es t) (c : ∀ σ H Q, t' σ H Q → t σ H Q) : PTs X es t' := ⟨fun pins s σ H Q I q => h.run pins s σ H Q I (c _ _ _ q)⟩
def DTs (X : Cx) (ct : CT) (W : WX) (es : List Expr) (tt : TDT) : Prop := PTs X es (liftT X.K ct W tt)
section
variable {X : Cx} {ct : CT} {W : WX} {e c a b elt te : Expr} {es ifs : List Expr} {td : TD} {tt : TDT} {ti : TDI} {tg : Tg} {pos : Pos} {scope : Scope} {own : List (Str × Nat)}
theorem dts_nil : DTs X ct W [] tYesD := PTs.imp pts_nil fun σ H Q ⟨O, f, dσ, QD, QE, hs, h, k, kx⟩ => k _ H (Same.refl H) h
theorem de_lc (hc : X.calm = true) (hN : X.N.Nodup) (hi : DI X ct W te e ti) (ok : BlkOk X.N X.env.scope scope own)
    (hg : ∀ (s : Shared) (H : Hp) (C : Addr) (cl : List (Str × Addr)) (fp : List Addr), PG (X.blk s H scope (compEnvC scope cl C X.env) fp) te (gT X.K tg)) (ht : ∀ (s : Shared) (H : Hp) (C : Addr) (cl : List (Str × Addr)) (fp : List Addr), DTs (X.blk s H scope (compEnvC scope cl C X.env) fp) ct W0 ifs tt)
    (he : ∀ (s : Shared) (H : Hp) (C : Addr) (cl : List (Str × Addr)) (fp : List Addr), DE (X.blk s H scope (compEnvC scope cl C X.env) fp) ct W0 elt td) (hin : tgIn tg (own.map (·.2)) = true) (hs : ∀ x, foldedSetIterable e X.env x = pure x := by intro _; rfl) :
    DE X ct W (.ListComp elt [⟨te, e, ifs, 0⟩] scope pos) (dLc ti tg tt td (own.map (·.2))) := PE.imp (pe_lc (tt := liftT X.K ct W0 tt) (te := liftE X.K ct W0 td) hc hN hi ok hg ht he hs) fun σ H Q ⟨O, f, dσ, QD, QE, hs, h, k, kx⟩ => by
  refine ⟨O, f, dσ, _, QE, hs, h, fun J ds H1 e1 it ⟨hl, q⟩ p hp => ?_, kx⟩
  have I := it H1 Cut.refl
  have h1 := hs.same e1
  have hO : ¬ O p := fun z => by
    obtain ⟨u, g⟩ := h1.dom p z
    rw [hp] at g
    cases g
  refine ⟨fun i m H' => m = ds.length - i ∧ i ≤ ds.length ∧ Same H1 H' ∧ ∃ acc accD, H' p = some (.lst acc) ∧ RepL X.K ct H' (fun b => O b ∨ b = p) accD acc ∧ accD.length ≤ i ∧ compR tg tt td (wipeD dσ (own.map (·.2))) (ds.drop i) (fun ys => QD (.lst (accD ++ ys))),
    ⟨ds.length, rfl, Nat.zero_le _, same_new hp, [], [], upd_same, RepL.nil, Nat.le_refl _, q⟩, ?_⟩
  rintro i m H' ⟨rfl, hi', s1, acc, accD, ea, ra, la, q'⟩
  by_cases hlt : i < ds.length
  · rw [List.drop_eq_getElem_cons hlt] at q'
    refine .inr ⟨I.go i H' s1 hlt, fun H2 => Same H1 H2 ∧ ∃ acc accD, H2 p = some (.lst acc) ∧ RepL X.K ct H2 (fun b => O b ∨ b = p) accD acc ∧ accD.length ≤ i + 1 ∧ compR tg tt td (wipeD dσ (own.map (·.2))) (ds.drop (i + 1)) (fun ys => QD (.lst (accD ++ ys))),
      fun H2 z => ⟨ds.length - (i + 1), by omega, rfl, hlt, z⟩, fun x H2 y => ?_⟩
    obtain ⟨s2, d, ed, rd⟩ := I.yld i H' x H2 s1 hlt y
    rw [List.getElem?_eq_getElem hlt] at ed
    cases ed
    have r2 : Rep X.K ct H2 (fun b => O b ∨ b = p) ds[i] x := rd _ fun b z => z.elim .inl fun z => .inr (by rw [z]; exact hp)
    -- the frame at H2
    have hE : ∀ {H3 : Hp}, Same H1 H3 → (∃ xs, H3 p = some (.lst xs)) → StE X.K ct H3 (fun b => O b ∨ b = p) f (wipeD dσ (own.map (·.2))) (L2.wipe σ (own.map (·.2))) := fun {H3} s3 ⟨xs, ex⟩ => by
      have z := h1.wipe (own.map (·.2))
      refine ⟨z.len, fun j t e => ?_, fun a ha => ?_⟩
      · obtain ⟨u, g1, g2⟩ := z.at_ j t e
        refine ⟨u, g1, ?_⟩
        cases t with
        | un => trivial
        | v d =>
          obtain ⟨v, e, r⟩ := g2
          exact ⟨v, e, (r.fresh hp fun b z => z).same s3⟩
        | own xs =>
          obtain ⟨e, n, vs, z, r⟩ := g2
          exact ⟨e, .inl n, vs, s3 _ _ z, (r.fresh hp fun b z => z).same s3⟩
        | ini c fs =>
          obtain ⟨e, n, ea, vs, z, r⟩ := g2
          exact ⟨e, .inl n, ea, vs, s3 _ _ z, (r.fresh hp fun b z => z).same s3⟩
        | exc k x => exact ⟨g2.1, (g2.2.fresh hp fun b z => z).same s3⟩
        | dic ks xs =>
          obtain ⟨e, n, vs, z, hl, r⟩ := g2
          exact ⟨e, .inl n, vs, s3 _ _ z, hl, (r.fresh hp fun b z => z).same s3⟩
      · rcases ha with ha | ha
        · obtain ⟨u, g⟩ := z.dom a ha
          exact ⟨u, s3 _ _ g⟩
        · rw [ha]
          exact ⟨_, ex⟩
    refine gT_okE hin (hE (s1.trans s2) ⟨acc, s2 _ _ ea⟩) wipe_wipe r2 q' fun dσ3 σ3 h3 w3 q3 => ⟨w3, ?_⟩
    refine ⟨_, f, dσ3, _, _, h3, q3, fun bb H4 s4 q4 => ?_, fun c x cls dd H5 _ _ z => z.elim⟩
    cases bb with
    | true =>
      rw [if_pos rfl]
      refine ⟨_, f, dσ3, _, _, h3.same s4, q4, fun v d H5 s5 r5 q5 => ⟨acc, s5 _ _ (s4 _ _ (s2 _ _ ea)), ?_, ?_, ?_⟩, fun c x cls dd H5 _ _ z => z.elim⟩
      · rw [ra.length]
        omega
      · intro b o e
        have ne : b ≠ p := fun z => by
          rw [z, hp] at e
          cases e
        rw [upd_ne ne]
        exact s5 _ _ (s4 _ _ (s2 _ _ (s1 b o e)))
      · have c : Chg (fun b => O b ∨ b = p) H5 (upd H5 p (.lst (acc ++ [v]))) := fun b o e => by
          by_cases z : b = p
          · subst z
            rw [s5 _ _ (s4 _ _ (s2 _ _ ea))] at e
            cases e
            exact .inr ⟨.inr rfl, trivial⟩
          · exact .inl (by rw [upd_ne z]; exact e)
        refine ⟨acc ++ [v], accD ++ [d], upd_same, (((ra.same (s2.trans (s4.trans s5))).app (RepL.cons r5 RepL.nil)).chg c), ?_, ?_⟩
        · rw [List.length_append]
          show accD.length + 1 ≤ i + 1
          omega
        · simp only [List.append_assoc, List.singleton_append]
          exact q5
    | false =>
      rw [if_neg Bool.false_ne_true]
      exact ⟨s1.trans (s2.trans s4), acc, accD, s4 _ _ (s2 _ _ ea), ra.same (s2.trans s4), Nat.le_succ_of_le la, q4⟩
  · have ei : i = ds.length := by omega
    subst ei
    rw [List.drop_length] at q'
    refine .inl ⟨I.stop H' s1, k _ (.lst accD) H' (e1.trans s1) (rep_lst.mpr ⟨p, acc, rfl, hO, ea, ra.less fun b z => .inl z⟩) ?_⟩
    have z : QD (.lst (accD ++ [])) := q'
    rw [List.append_nil] at z
    exact z
end
end Dl
set_option Elab.async false
set_option linter.all false
set_option maxRecDepth 100000
set_option maxHeartbeats 4000000
namespace Dl
open PySem PySem.Spec L2
abbrev Wf := List D → (D → Prop) → QX → Prop
def spD (K : PySem.W.Frag) (ct : CT) (wf : Wf) : Sp := fun vs H Q E => ∃ O ds QR QE, Dom H O ∧ RepL K ct H O ds vs ∧ wf ds QR QE ∧ (∀ v d H', Same H H' → Rep K ct H' O d v → QR d → Q v H') ∧
  ∀ c x cls dd H', Same H H' → ExcAt K ct H' O c x cls dd → QE c x → E cls dd H'
/-- __init__ of the class number c: what the object's attributes are behind it -/
abbrev Wi := List D → (List (Str × D) → Prop) → QX → Prop
def spI (K : PySem.W.Frag) (ct : CT) (c : Nat) (wi : Wi) : Sp := fun vs H Q E => ∃ O ds QR QE a dx us, vs = .ref a :: us ∧ H a = some (.ins (ct.addr c) dx []) ∧ (∀ b, O b → ∃ o, b ≠ a ∧ H b = some o) ∧ RepL K ct H (fun b => O b ∨ b = a) ds us ∧ wi ds QR QE ∧
  (∀ fs ws H', (∀ b o, b ≠ a → H b = some o → H' b = some o) → H' a = some (.ins (ct.addr c) dx ((fs.map (·.1)).zip ws)) → RepL K ct H' (fun b => O b ∨ b = a) (fs.map (·.2)) ws → QR fs → Q .non H') ∧
  ∀ k x cls dd H', (∀ b o, b ≠ a → H b = some o → H' b = some o) → ExcAt K ct H' O k x cls dd → QE k x → E cls dd H'
section
variable {X : Cx} {k : Nat} {f C : Addr} {fd : FuncData} {ps : List Str} {sp : Sp} {dvs : List V} {ds : List Value} {W : WX} {x m : Str} {p pos apos : Pos} {e o : Expr} {es : List Expr} {ta : TE} {t : TA}
/-- C(e, ..) -/
theorem run_mk {pins : List (Addr × Obj)} {σ : St} {H : Hp} {s : Shared} {Q : VK} {us : List Value} {vs : List V} (M : Mk X.K C f) (F : FnOk X.prog X.w X.K X.mg X.base (L2.CX X.prog X.w) k f fd ps sp) (hr : Room (k + 1) X.A) (hb : Binds X.K fd ps ds) (hd : Vals dvs ds)
    (tk : Takes X W) (I : Inv X pins σ H s) (r : Vals vs us)
    (h : ∀ x dx, H x = none → H dx = none → dx ≠ x → sp (.ref x :: (vs ++ dvs)) (upd (upd H dx (.own x)) x (.ins C dx [])) (fun v H2 => v = .non ∧ Q (.ref x) H2) (WE W σ)) :
    wpAny (model X.prog X.w) X.A (call (.ref C) us) (EP X pins σ Q) X.xe s := by
  have q0 := h (s.heap.objs.size + 1) s.heap.objs.size (I.hok.fresh (Nat.le_succ _)) (I.hok.fresh (Nat.le_refl _)) (Nat.ne_of_lt (Nat.lt_succ_self _))
  have J := Inv.made (C := C) I
  have rr : Vals (V.ref (s.heap.objs.size + 1) :: (vs ++ dvs)) (Value.ref (s.heap.objs.size + 1) :: (us ++ ds)) := .cons rfl (r.append hd)
  have hl : (Value.ref (s.heap.objs.size + 1) :: us ++ ds).length = ps.length := rr.length.symm.trans (F.len _ _ _ _ q0)
  have run := F.run _ X.stack _ _ ⟨Value.ref (s.heap.objs.size + 1) :: us, []⟩ (Value.ref (s.heap.objs.size + 1) :: (us ++ ds)) _ _ (WE W σ) (hr.make C us []) (J.env0.make C us []) (hb _ (Value.ref (s.heap.objs.size + 1) :: us) J.kIn hl) rr q0
  refine wpAny_call (make_map (f := f) I.kIn M.makes M.init (beq_iff_eq.mp M.fn) (codeAny_mono run fun r s' z => ?_))
  cases r with
  | error e => exact passAt tk σ pins _ _ e s' J z
  | ok fl => cases fl with
    | ret u =>
      obtain ⟨v, H', I3, rv, ev, q3⟩ := J.after z
      subst ev
      exact ⟨rv, V.ref (s.heap.objs.size + 1), H', I3, rfl, q3⟩
    | _ => exact z
theorem pe_mk (M : Mk X.K C f) (F : FnOk X.prog X.w X.K X.mg X.base (L2.CX X.prog X.w) k f fd ps sp) (hr : Room (k + 1) X.A) (hg : Gl X x) (hm : X.mg x = some (.ref C)) (hb : Binds X.K fd ps ds) (hd : Vals dvs ds) (tk : Takes X W)
    (ha : PA X (e :: es) t) (hdb : (x == ("__debug__" : Str)) = false) (he : starEach (e :: es) X.env = (false, eval e X.env) :: starEach es X.env) (hpl : (backTo pos (starEach es X.env)).any (·.1) = false) :
    PE X (.Call (.Name x p) (e :: es) [] pos) (fun σ H Q => tMake C sp dvs (WE W σ) t σ H Q) := by
  constructor
  intro pins s σ H Q I h
  refine wpAny_Call_Name_kw (ld_glob I hg hm ?_ hdb)
  refine PySem.W.callWith_K (h₀ := X.base) I.ok.mod.kin M.kp (thn (ha.run pos pins s σ H _ I h) ?_) he hpl
  rintro us s1 ⟨vs, H1, I1, r, q⟩
  exact ⟨I1.kIn, run_mk M F hr hb hd tk I1 r q⟩
theorem pe_mk0 (M : Mk X.K C f) (F : FnOk X.prog X.w X.K X.mg X.base (L2.CX X.prog X.w) k f fd ps sp) (hr : Room (k + 1) X.A) (hg : Gl X x) (hm : X.mg x = some (.ref C)) (hb : Binds X.K fd ps ds) (hd : Vals dvs ds) (tk : Takes X W)
    (hdb : (x == ("__debug__" : Str)) = false) : PE X (.Call (.Name x p) [] [] pos) (fun σ H Q => tMake C sp dvs (WE W σ) tNil σ H Q) := by
  constructor
  intro pins s σ H Q I h
  refine wpAny_Call_Name_kw (ld_glob I hg hm ?_ hdb)
  exact PySem.W.callWith_K0 I.kIn M.kp (run_mk (us := []) M F hr hb hd tk I .nil h)
end
end Dl
set_option Elab.async false
set_option linter.all false
set_option maxRecDepth 100000
set_option maxHeartbeats 4000000
namespace Dl
open PySem PySem.Spec L2
def dCall (wf : Wf) (dfl : List D) (ta : TDA) : TD := fun s Q E => ta s (fun ds => wf (ds ++ dfl) Q E) E
def dMake (c : Nat) (nm : List Str) (wi : Wi) (dfl : List D) (ta : TDA) : TD := fun s Q E => ta s (fun ds => wi (ds ++ dfl) (fun fs => fs.map (·.1) = nm ∧ Q (.obj c (fs.map (·.2)))) E) E
/-- an attribute: its place in the objects of a class -/
def dFld (ix : Nat → Option Nat) (to : TD) : TD := fun s Q E => to s (fun x => match x with
  | .obj c fs => match ix c with
    | some k => ∃ d, fs[k]? = some d ∧ Q d
    | none => False
  | _ => False) E
/-- constants -/
def Konst (K : PySem.W.Frag) (ct : CT) (ds : List D) (vs : List V) : Prop := ∀ H O, RepL K ct H O ds vs
theorem Konst.nil {K : PySem.W.Frag} {ct : CT} : Konst K ct [] [] := fun _ _ => RepL.nil
section
variable {K : PySem.W.Frag} {ct : CT} {H : Hp} {O : Addr → Prop}
theorem lookup_zip : ∀ {nm : List Str} {vs : List V} {k : Nat} {x : Str}, (nm.findIdx? fun y => x == y) = some k → vs.length = nm.length → (nm.zip vs).lookup x = vs[k]?
  | [], _, _, _, h, _ => by simp at h
  | y :: nm, [], _, _, _, hl => by cases hl
  | y :: nm, v :: vs, k, x, h, hl => by
    rw [List.findIdx?_cons] at h
    cases e : (x == y) with
    | true =>
      rw [e] at h
      have hk : 0 = k := Option.some.inj h
      subst hk
      simp [List.lookup, e]
    | false =>
      rw [e] at h
      simp only [Bool.false_eq_true, if_false, Option.map_eq_some_iff] at h
      obtain ⟨j, hj, ek⟩ := h
      subst ek
      have z := lookup_zip (vs := vs) hj (Nat.succ.inj hl)
      simp only [List.zip_cons_cons, List.lookup, e, List.getElem?_cons_succ]
      exact z
end
section
variable {X : Cx} {ct : CT} {W : WX} {e o a b : Expr} {es : List Expr} {td to : TD} {tda : TDA} {pos apos p : Pos} {x m : Str} {k c : Nat} {fd : FuncData} {ps nm : List Str} {dvs : List V} {ds : List Value} {dfl : List D} {wf : Wf} {wi : Wi} {tbl : Nat → Option Wf}
theorem sp_call {H : Hp} {Q : VK} {E : XK} {O : Addr → Prop} {ds : List D} {vs : List V} {QD : D → Prop} {QE : QX} (dm : Dom H O) (r : RepL X.K ct H O ds vs) (hk : Konst X.K ct dfl dvs) (q : wf (ds ++ dfl) QD QE)
    (k : ∀ v d H', Same H H' → Rep X.K ct H' O d v → QD d → Q v H') (kx : ∀ c x cls dd H', Same H H' → ExcAt X.K ct H' O c x cls dd → QE c x → E cls dd H') : spD X.K ct wf (vs ++ dvs) H Q E :=
  ⟨O, ds ++ dfl, QD, QE, dm, r.app (hk H O), q, k, kx⟩
theorem de_call {f : Addr} (F : FnOk X.prog X.w X.K X.mg X.base (L2.CX X.prog X.w) k f fd ps (spD X.K ct wf)) (hr : Room k X.A) (hm : X.mg x = some (.ref f)) (hkp : PySem.W.keepIn X.K (.ref f) = true) (hb : Binds X.K fd ps ds) (hd : Vals dvs ds) (hc : Konst X.K ct dfl dvs) (tk : Takes X W)
    (ha : DA X ct W (e :: es) tda) (hg : Gl X x := by rfl) (hdb : (x == ("__debug__" : Str)) = false := by decide) (he : starEach (e :: es) X.env = (false, eval e X.env) :: starEach es X.env := by rfl) (hpl : (backTo pos (starEach es X.env)).any (·.1) = false := by rfl) :
    DE X ct W (.Call (.Name x p) (e :: es) [] pos) (dCall wf dfl tda) := PE.imp (pe_callSD F hr hg hm hkp hb hd (passAt tk) ha hdb he hpl) fun σ H Q ⟨O, f, dσ, QD, QE, hs, h, k, kx⟩ => by
  refine ⟨O, f, dσ, _, QE, hs, h, fun vs ds H1 e1 r q => ?_, kx⟩
  exact sp_call (hs.same e1).dom r hc q (fun v d H2 e2 => k v d H2 (e1.trans e2)) fun c x cls dd H2 e2 => kx c x cls dd H2 (e1.trans e2)
end
end Dl
set_option Elab.async false
set_option linter.all false
set_option maxRecDepth 100000
set_option maxHeartbeats 4000000
namespace Dl
open PySem PySem.Spec L2
/-- an attribute of the objects of the class number c stands at place k -/
structure FldAt (X : Cx) (ct : CT) (f : Str) (c k : Nat) : Prop where
  cl : Cls X.K (ct.addr c)
  no : NoAttr X.K (ct.addr c) f
  ix : ((ct.names c).findIdx? fun y => f == y) = some k
section
variable {X : Cx} {ct : CT} {W : WX} {e o a b : Expr} {es : List Expr} {td to : TD} {tda : TDA} {pos pos' apos p : Pos} {x m f : Str} {k c : Nat} {fd : FuncData} {ps nm : List Str} {dvs : List V} {ds : List Value} {dfl : List D} {wf : Wf} {wi : Wi} {tbl : Nat → Option Wf} {ix : Nat → Option Nat}
theorem de_fld (he : DE X ct W e to) (hx : ∀ n k, ix n = some k → FldAt X ct f n k) (hb : attributeBase e f X.env (eval e X.env) = eval e X.env := by rfl) : DE X ct W (.Attribute e f pos) (dFld ix to) :=
  PE.imp (pe_fld he hb) fun σ H Q ⟨O, g, dσ, QD, QE, hs, h, k, kx⟩ => by
    refine ⟨O, g, dσ, _, QE, hs, h, fun v d H1 e1 r q => ?_, kx⟩
    cases d with
    | obj n fs =>
      have q2 : (match ix n with
        | some k => ∃ d, fs[k]? = some d ∧ QD d
        | none => False) := q
      split at q2
      · rename_i j hj
        obtain ⟨d, ed, q2⟩ := q2
        obtain ⟨a, dx, vs, ea, na, l, hl, rl⟩ := rep_obj.mp r
        obtain ⟨cl, no, hix⟩ := hx n j hj
        obtain ⟨v, ev, rv⟩ := rl.get ed
        exact ⟨a, _, dx, _, v, ea, l, cl, no, by rw [lookup_zip hix hl]; exact ev, k _ _ _ e1 rv q2⟩
      · exact q2.elim
    | _ => exact q.elim
/-- C(e, ..) -/
theorem mk_call {O : Addr → Prop} {H : Hp} {Q : VK} {E : XK} {ds : List D} {vs : List V} {QD : D → Prop} {QE : QX} (hn : ct.names c = nm) (dm : Dom H O) (r : RepL X.K ct H O ds vs) (hk : Konst X.K ct dfl dvs) (q : wi (ds ++ dfl) (fun fs => fs.map (·.1) = nm ∧ QD (.obj c (fs.map (·.2)))) QE)
    (k : ∀ v d H', Same H H' → Rep X.K ct H' O d v → QD d → Q v H') (kx : ∀ n x cls dd H', Same H H' → ExcAt X.K ct H' O n x cls dd → QE n x → E cls dd H') :
    ∀ x dx, H x = none → H dx = none → dx ≠ x → spI X.K ct c wi (.ref x :: (vs ++ dvs)) (upd (upd H dx (.own x)) x (.ins (ct.addr c) dx [])) (fun v H2 => v = .non ∧ Q (.ref x) H2) E := fun x dx hx hdx ne => by
  have s1 : Same H (upd (upd H dx (.own x)) x (.ins (ct.addr c) dx [])) := fun b o e => by
    rw [upd_ne (ne_of_none e hx), upd_ne (ne_of_none e hdx)]
    exact e
  have back : ∀ H', (∀ b o, b ≠ x → (upd (upd H dx (.own x)) x (.ins (ct.addr c) dx [])) b = some o → H' b = some o) → Same H H' := fun H' h b o e => h b o (ne_of_none e hx) (s1 b o e)
  refine ⟨O, ds ++ dfl, _, QE, x, dx, vs ++ dvs, rfl, upd_same, fun b z => ?_, ?_, q, fun fs ws H' h1 h2 h3 ⟨h4, h5⟩ => ⟨rfl, ?_⟩, fun n y cls dd H' h1 h2 h3 => kx n y cls dd H' (back H' h1) h2 h3⟩
  · obtain ⟨o, e⟩ := dm b z
    exact ⟨o, ne_of_none e hx, s1 b o e⟩
  · exact (RepL.fresh hx (fun b z => z) (r.app (hk H O))).same s1
  · refine k _ (.obj c (fs.map (·.2))) H' (back H' h1) (rep_obj.mpr ⟨x, dx, ws, rfl, fun z => ?_, ?_, ?_, h3.less fun b z => .inl z⟩) h5
    · obtain ⟨o, e⟩ := dm x z
      rw [hx] at e
      cases e
    · rw [hn, ← h4]
      exact h2
    · rw [hn, ← h4, h3.length, List.length_map, List.length_map]
theorem de_make {fI : Addr} (hn : ct.names c = nm) (M : Mk X.K (ct.addr c) fI) (F : FnOk X.prog X.w X.K X.mg X.base (L2.CX X.prog X.w) k fI fd ps (spI X.K ct c wi)) (hr : Room (k + 1) X.A) (hm : X.mg x = some (.ref (ct.addr c))) (hb : Binds X.K fd ps ds) (hd : Vals dvs ds) (hc : Konst X.K ct dfl dvs) (tk : Takes X W)
    (ha : DA X ct W (e :: es) tda) (hg : Gl X x := by rfl) (hdb : (x == ("__debug__" : Str)) = false := by decide) (he : starEach (e :: es) X.env = (false, eval e X.env) :: starEach es X.env := by rfl) (hpl : (backTo pos (starEach es X.env)).any (·.1) = false := by rfl) :
    DE X ct W (.Call (.Name x p) (e :: es) [] pos) (dMake c nm wi dfl tda) := PE.imp (pe_mk M F hr hg hm hb hd tk ha hdb he hpl) fun σ H Q ⟨O, g, dσ, QD, QE, hs, h, k, kx⟩ => by
  refine ⟨O, g, dσ, _, QE, hs, h, fun vs ds H1 e1 r q => ?_, kx⟩
  exact mk_call hn (hs.same e1).dom r hc q (fun v d H2 e2 => k v d H2 (e1.trans e2)) fun c x cls dd H2 e2 => kx c x cls dd H2 (e1.trans e2)
theorem de_make0 {fI : Addr} (hn : ct.names c = nm) (M : Mk X.K (ct.addr c) fI) (F : FnOk X.prog X.w X.K X.mg X.base (L2.CX X.prog X.w) k fI fd ps (spI X.K ct c wi)) (hr : Room (k + 1) X.A) (hm : X.mg x = some (.ref (ct.addr c))) (hb : Binds X.K fd ps ds) (hd : Vals dvs ds) (hc : Konst X.K ct dfl dvs) (tk : Takes X W)
    (hg : Gl X x := by rfl) (hdb : (x == ("__debug__" : Str)) = false := by decide) : DE X ct W (.Call (.Name x p) [] [] pos) (dMake c nm wi dfl aNil) := PE.imp (pe_mk0 M F hr hg hm hb hd tk hdb) fun σ H Q ⟨O, g, dσ, QD, QE, hs, h, k, kx⟩ =>
  mk_call (ds := []) (vs := []) hn hs.dom RepL.nil hc h k kx
end
def sFldI (i : Nat) (f : Str) (t : TD) : TDS := fun DD s => match s[i]? with
  | some (.ini c fs) => t s (fun d => (fs.any fun q => q.1 == f) = false ∧ fs.length < 900 ∧ DD.nx (s.set i (.ini c (fs ++ [(f, d)])))) (xq DD s)
  | _ => False
section
variable {K : PySem.W.Frag} {ct : CT} {W : WX} {O0 : Addr → Prop} {H0 H H' : Hp} {f : Nat → Addr} {dσ : List Sl} {σ : St}
theorem putF_new (g : Str) (v : V) : ∀ (nm : List Str) (ws : List V), (nm.any fun y => y == g) = false → ws.length = nm.length → putF g v (nm.zip ws) = (nm ++ [g]).zip (ws ++ [v])
  | [], [], _, _ => rfl
  | [], _ :: _, _, h => by cases h
  | _ :: _, [], _, h => by cases h
  | y :: nm, w :: ws, h, hl => by
    simp only [List.any_cons, Bool.or_eq_false_iff] at h
    have ne : ¬ y = g := fun z => by
      have := h.1
      rw [z] at this
      simp at this
    show (if y = g then (y, v) :: nm.zip ws else (y, w) :: putF g v (nm.zip ws)) = _
    rw [if_neg ne, putF_new g v nm ws h.2 (Nat.succ.inj hl)]
    rfl
/-- the object that is being made changes -/
theorem StS.upd_ini (h : StS K ct O0 H0 H f dσ σ) {i c : Nat} {fs gs : List (Str × D)} {ws us : List V} (hi : dσ[i]? = some (.ini c fs)) (he : H (f i) = some (.ins (ct.addr c) ct.gh.sdx ((fs.map (·.1)).zip ws))) (r : RepL K ct H (Own O0 f dσ) (gs.map (·.2)) us) :
    StS K ct O0 H0 (upd H (f i) (.ins (ct.addr c) ct.gh.sdx ((gs.map (·.1)).zip us))) f (dσ.set i (.ini c gs)) σ := by
  have il : i < dσ.length := (List.getElem?_eq_some_iff.mp hi).1
  obtain ⟨o, ho, e1, n1, es, _⟩ := h.e.at_ i _ hi
  subst e1
  have l : ∀ b, Own O0 f (dσ.set i (.ini c gs)) b → Own O0 f dσ b := fun b z => by
    rcases z with z | ⟨j, t, e, o, ea⟩
    · exact .inl z
    · rcases getS e with ⟨e1, _, _⟩ | ⟨e1, e2⟩
      · rw [← ea, e1]
        exact n1
      · exact .inr ⟨j, t, e2, o, ea⟩
  have g : Chg (Own O0 f dσ) H (upd H (f i) (.ins (ct.addr c) ct.gh.sdx ((gs.map (·.1)).zip us))) := fun b o e => by
    by_cases z : b = f i
    · subst z
      rw [he] at e
      cases e
      exact .inr ⟨n1, trivial⟩
    · exact .inl (by rw [upd_ne z]; exact e)
  refine ⟨⟨by rw [List.length_set]; exact h.e.len, fun j t e => ?_, fun a z => ?_⟩, fun b o e => ?_, fun j t e o => ?_, fun j k s1 t1 e1 o1 e2 o2 ef => ?_, h.dom0⟩
  · rcases getS e with ⟨e3, e4, _⟩ | ⟨e3, e4⟩
    · subst e3
      subst e4
      exact ⟨_, ho, rfl, .inr ⟨_, _, e, rfl, rfl⟩, es, us, upd_same, (r.chg g).less l⟩
    · obtain ⟨o, a, b⟩ := h.e.at_ j t e4
      refine ⟨o, a, ?_⟩
      have nj : isOwn t = true → f j ≠ f i := fun ot z => e3 (h.inj j i t _ e4 ot hi rfl z)
      cases t with
      | un => trivial
      | v d =>
        obtain ⟨v, e, r⟩ := b
        exact ⟨v, e, (r.chg g).less l⟩
      | own xs =>
        obtain ⟨e5, n, us2, z, r⟩ := b
        exact ⟨e5, .inr ⟨j, _, e, rfl, rfl⟩, us2, by rw [upd_ne (nj rfl)]; exact z, (r.chg g).less l⟩
      | ini c2 fs =>
        obtain ⟨e5, n, ea, us2, z, r⟩ := b
        exact ⟨e5, .inr ⟨j, _, e, rfl, rfl⟩, ea, us2, by rw [upd_ne (nj rfl)]; exact z, (r.chg g).less l⟩
      | exc k x => exact ⟨b.1, (b.2.chg g).less l⟩
      | dic ks xs =>
        obtain ⟨e5, n, us2, z, hl, r⟩ := b
        exact ⟨e5, .inr ⟨j, _, e, rfl, rfl⟩, us2, by rw [upd_ne (nj rfl)]; exact z, hl, (r.chg g).less l⟩
  · obtain ⟨u, q⟩ := h.e.dom a (l a z)
    by_cases z2 : a = f i
    · rw [z2]
      exact ⟨_, upd_same⟩
    · exact ⟨u, by rw [upd_ne z2]; exact q⟩
  · have ne : b ≠ f i := fun z => by
      rw [z, h.fresh i _ hi rfl] at e
      cases e
    rw [upd_ne ne]
    exact h.same b o e
  · rcases getS e with ⟨e3, _, _⟩ | ⟨_, e4⟩
    · rw [e3]
      exact h.fresh i _ hi rfl
    · exact h.fresh j t e4 o
  · rcases getS e1 with ⟨z1, _, _⟩ | ⟨z1, y1⟩
    · rcases getS e2 with ⟨z2, _, _⟩ | ⟨z2, y2⟩
      · rw [z1, z2]
      · rw [z1] at ef ⊢
        exact h.inj i k _ t1 hi rfl y2 o2 ef
    · rcases getS e2 with ⟨z2, _, _⟩ | ⟨z2, y2⟩
      · rw [z2] at ef ⊢
        exact h.inj j i s1 _ y1 o1 hi rfl ef
      · exact h.inj j k s1 t1 y1 o1 y2 o2 ef
end
section
variable {X : Cx} {ct : CT} {W : WX} {e o : Expr} {td : TD} {pos pos' : Pos} {f : Str} {i c : Nat}
theorem ds_fld (ho : PE X o (tVar i)) (he : DE X ct W e td) (cl : ∀ k, k = c → Cls X.K (ct.addr k) ∧ NoAttr X.K (ct.addr k) f) (hs : swapsWith e (some (.Attribute o f pos')) pos.line X.env = pure false := by rfl) :
    DS X ct W (.Assign [.Attribute o f pos'] e pos) (fun DD s => (∃ fs, s[i]? = some (.ini c fs)) ∧ sFldI i f td DD s) := PS.imp (ps_fld ho he hs) fun E σ H ⟨O0, H0, g, dσ, DD, h, ⟨⟨fs, hi⟩, t⟩, en⟩ => by
  have t2 : td dσ (fun d => (fs.any fun q => q.1 == f) = false ∧ fs.length < 900 ∧ DD.nx (dσ.set i (.ini c (fs ++ [(f, d)])))) (xq DD dσ) := by
    unfold sFldI at t
    rw [hi] at t
    exact t
  obtain ⟨u, ho', e1, n1, es, ws, e2, r2⟩ := h.e.at_ i _ hi
  subst e1
  refine h.ex en t2 fun v d H1 s1 r ⟨q1, q2, q3⟩ => ⟨_, ho', g i, _, _, _, rfl, s1 _ _ e2, (cl c rfl).1, (cl c rfl).2, ?_, ?_⟩
  · have := r2.length
    rw [List.length_zip, List.length_map]
    omega
  · have hl : ws.length = (fs.map (·.1)).length := by rw [r2.length, List.length_map, List.length_map]
    have ez : putF f v ((fs.map (·.1)).zip ws) = ((fs ++ [(f, d)]).map (·.1)).zip (ws ++ [v]) := by
      rw [putF_new f v _ ws (by rw [List.any_map]; exact q1) hl, List.map_append]
      rfl
    rw [ez]
    refine en.nx _ _ _ _ ((h.sm s1).upd_ini hi (s1 _ _ e2) ?_) q3
    rw [List.map_append]
    exact (r2.same s1).app (RepL.cons r RepL.nil)
end
end Dl
set_option Elab.async false
set_option linter.all false
set_option maxRecDepth 100000
set_option maxHeartbeats 4000000
namespace Dl
open PySem PySem.Spec L2
def startD (n : Nat) (ds : List D) : List Sl := ds.map Sl.v ++ List.replicate (n - ds.length) Sl.un
def retE (Q : D → Prop) (E : QX) : DEnds := { nx := fun _ => Q .non, rt := Q, rn := fun ds => Q (.lst ds), bk := fun _ => False, cn := fun _ => False, ex := fun c x _ => E c x }
/-- n parameters, m names in all -/
def wfOf (n m : Nat) (ts : TDS) : Wf := fun ds Q E => ds.length = n ∧ ts (retE Q E) (startD m ds)
def iniE (c : Nat) (Q : List (Str × D) → Prop) (E : QX) : DEnds := { nx := fun s => ∃ fs, s[0]? = some (.ini c fs) ∧ Q fs, rt := fun _ => False, rn := fun _ => False, bk := fun _ => False, cn := fun _ => False, ex := fun c x _ => E c x }
/-- an __init__ of the class number c: n parameters besides self -/
def wiOf (c n m : Nat) (ts : TDS) : Wi := fun ds Q E => ds.length = n ∧ ts (iniE c Q E) (.ini c [] :: startD m ds)
abbrev Wn := List D → (List D → Prop) → QX → Prop
def newE (Q : List D → Prop) (E : QX) : DEnds := { nx := fun _ => False, rt := fun _ => False, rn := Q, bk := fun _ => False, cn := fun _ => False, ex := fun c x _ => E c x }
def wnOf (n m : Nat) (ts : TDS) : Wn := fun ds Q E => ds.length = n ∧ ts (newE Q E) (startD m ds)
def spN (K : PySem.W.Frag) (ct : CT) (wn : Wn) : Sp := fun vs H Q E => ∃ O ds QR QE, Dom H O ∧ RepL K ct H O ds vs ∧ wn ds QR QE ∧ (∀ p us ds' H', H p = none → Same H H' → H' p = some (.lst us) → RepL K ct H' (fun b => O b ∨ b = p) ds' us → QR ds' → Q (.ref p) H') ∧
  ∀ c x cls dd H', Same H H' → ExcAt K ct H' O c x cls dd → QE c x → E cls dd H'
def WOf (E : XK) : WX := fun cls d _ H' => E cls d H'
section
variable {P : Program} {w : World} {K : PySem.W.Frag} {ct : CT} {mg : Str → Option Value} {base : Heap} {x qual : Str} {params : Arguments} {body : List Stmt} {scope : Scope} {dvs : List V} {kws : List (Str × V)} {f : Addr} {fd : FuncData} {N ps : List Str} {k n m c : Nat} {ts : TDS} {wf : Wf} {wi : Wi}
theorem start_get {vs : List V} {i : Nat} {v : V} (h : vs[i]? = some v) : (L2.start N vs)[i]? = some (some v) := by
  unfold L2.start
  have hi : i < vs.length := (List.getElem?_eq_some_iff.mp h).1
  rw [List.getElem?_append_left (by simpa using hi), List.getElem?_map, h]
  rfl
theorem startD_get {ds : List D} {i : Nat} {s : Sl} (h : (startD m ds)[i]? = some s) : (∃ d, ds[i]? = some d ∧ s = .v d) ∨ (s = .un ∧ ds.length ≤ i ∧ i < ds.length + (m - ds.length)) := by
  unfold startD at h
  by_cases hi : i < ds.length
  · rw [List.getElem?_append_left (by simpa using hi), List.getElem?_map] at h
    cases e : ds[i]? with
    | none =>
      rw [e] at h
      cases h
    | some d =>
      rw [e] at h
      exact .inl ⟨d, rfl, (Option.some.inj h).symm⟩
  · rw [List.getElem?_append_right (by simpa using hi), List.getElem?_replicate] at h
    split at h
    · rename_i h2
      rw [List.length_map] at h2
      exact .inr ⟨(Option.some.inj h).symm, by omega, by omega⟩
    · cases h
theorem start_len {vs : List V} : (L2.start N vs).length = vs.length + (N.length - vs.length) := by
  unfold L2.start
  rw [List.length_append, List.length_map, List.length_replicate]
theorem startD_len {ds : List D} : (startD m ds).length = ds.length + (m - ds.length) := by
  unfold startD
  rw [List.length_append, List.length_map, List.length_replicate]
theorem startD_own {ds : List D} {i : Nat} {s : Sl} (h : (startD m ds)[i]? = some s) : isOwn s = false := by
  rcases startD_get h with ⟨d, _, e⟩ | ⟨e, _⟩
  · rw [e] <;> rfl
  · rw [e] <;> rfl
theorem StS.start {H : Hp} {O : Addr → Prop} {ds : List D} {vs : List V} {f : Nat → Addr} (dm : Dom H O) (r : RepL K ct H O ds vs) : StS K ct O H H f (startD N.length ds) (L2.start N vs) := by
  have own : ∀ a, Own O f (startD N.length ds) a → O a := fun a z => by
    rcases z with z | ⟨i, s, e, o, _⟩
    · exact z
    · rw [startD_own e] at o
      cases o
  refine ⟨⟨by rw [startD_len, start_len, r.length], fun i s e => ?_, fun a z => dm a (own a z)⟩, Same.refl H, fun i s e o => ?_, fun i j s t e o => ?_, dm⟩
  · rcases startD_get e with ⟨d, e1, e2⟩ | ⟨e1, h1, h2⟩
    · subst e2
      obtain ⟨v, ev, rv⟩ := r.get e1
      exact ⟨_, start_get ev, v, rfl, rv.less own⟩
    · subst e1
      have hl : i < (L2.start N vs).length := by
        rw [start_len, r.length]
        exact h2
      exact ⟨_, List.getElem?_eq_getElem hl, trivial⟩
  · rw [startD_own e] at o
    cases o
  · rw [startD_own e] at o
    cases o
/-- THE RULE for a def: its body, once -/
theorem fn_d (F : FunD K x qual params body scope dvs kws f fd) (S : FnScope N ps scope) (hn : ps.length = n) (hm : N.length = m)
    (hb : ∀ (cdv : Value) (A : Around) (outer : List Env) (s : Shared) (H : Hp) (E : XK), Room k (A.deeper (PyProof.Rows.envOfC qual scope s.heap.objs.size f cdv)) → DSs (cxOf (L2.CX P w) P w K mg base N qual scope f cdv A outer s H E) ct (WOf E) body ts) :
    FnOk P w K mg base (L2.CX P w) (k + 1) f fd ps (spD K ct (wfOf n m ts)) := by
  refine F.ok S (fun vs H Q E h => ?_) (fun cdv A outer s H vs Q E hr h => ⟨_, hb cdv A outer s H E hr, ?_⟩)
  · obtain ⟨O, ds, QR, QE, dm, r, ⟨h1, _⟩, _⟩ := h
    rw [r.length, h1, hn]
  · obtain ⟨O, ds, QR, QE, dm, r, ⟨h1, q⟩, k1, k2⟩ := h
    subst hm
    refine ⟨O, H, fun _ => 0, _, _, StS.start dm r, q, ⟨fun σ H' f dσ h z => k1 _ _ _ h.same (rep_non.mpr rfl) z, fun σ H' f dσ h z => z.elim, fun σ H' f dσ h z => z.elim, fun v d H' s r z => k1 v d H' s r z, fun p vs ds H' hp s l r z => k1 _ (.lst ds) H' s (rep_lst.mpr ⟨p, vs, rfl, (fun y => by
      obtain ⟨o, e⟩ := dm p y
      rw [hp] at e
      cases e), l, r.less fun b z => .inl z⟩) z, fun c x cls dd σ H' f dσ h a z => k2 c x cls dd H' h.same (a.less fun b z => .inl z) z⟩⟩
/-- .. that hands back a list that it has made -/
theorem fn_n (F : FunD K x qual params body scope dvs kws f fd) (S : FnScope N ps scope) (hn : ps.length = n) (hm : N.length = m)
    (hb : ∀ (cdv : Value) (A : Around) (outer : List Env) (s : Shared) (H : Hp) (E : XK), Room k (A.deeper (PyProof.Rows.envOfC qual scope s.heap.objs.size f cdv)) → DSs (cxOf (L2.CX P w) P w K mg base N qual scope f cdv A outer s H E) ct (WOf E) body ts) :
    FnOk P w K mg base (L2.CX P w) (k + 1) f fd ps (spN K ct (wnOf n m ts)) := by
  refine F.ok S (fun vs H Q E h => ?_) (fun cdv A outer s H vs Q E hr h => ⟨_, hb cdv A outer s H E hr, ?_⟩)
  · obtain ⟨O, ds, QR, QE, dm, r, ⟨h1, _⟩, _⟩ := h
    rw [r.length, h1, hn]
  · obtain ⟨O, ds, QR, QE, dm, r, ⟨h1, q⟩, k1, k2⟩ := h
    subst hm
    exact ⟨O, H, fun _ => 0, _, _, StS.start dm r, q, ⟨fun σ H' f dσ h z => z.elim, fun σ H' f dσ h z => z.elim, fun σ H' f dσ h z => z.elim, fun v d H' s r z => z.elim, fun p vs ds H' hp s l r z => k1 p vs ds H' hp s l r z, fun c x cls dd σ H' f dσ h a z => k2 c x cls dd H' h.same (a.less fun b z => .inl z) z⟩⟩
/-- .. for an __init__ -/
theorem fn_i (F : FunD K x qual params body scope dvs kws f fd) (S : FnScope N ps scope) (hn : ps.length = n + 1) (hm : N.length = m + 1)
    (hb : ∀ (g : Gh) (cdv : Value) (A : Around) (outer : List Env) (s : Shared) (H : Hp) (E : XK), Room k (A.deeper (PyProof.Rows.envOfC qual scope s.heap.objs.size f cdv)) → DSs (cxOf (L2.CX P w) P w K mg base N qual scope f cdv A outer s H E) (ct.w g) (WOf E) body ts) :
    FnOk P w K mg base (L2.CX P w) (k + 1) f fd ps (spI K ct c (wiOf c n m ts)) := by
  refine F.ok S (fun vs H Q E h => ?_) (fun cdv A outer s H vs Q E hr h => ?_)
  · obtain ⟨O, ds, QR, QE, a, dx, us, rfl, _, _, r, ⟨h1, _⟩, _⟩ := h
    show us.length + 1 = ps.length
    rw [r.length, h1, hn]
  · obtain ⟨O, ds, QR, QE, a, dx, us, rfl, ha, dm, r, ⟨h1, q⟩, k1, k2⟩ := h
    refine ⟨_, hb { slf := a, sdx := dx } cdv A outer s H E hr, ?_⟩
    have cb : ∀ {H' : Hp}, Same (del H a) H' → ∀ b o, b ≠ a → H b = some o → H' b = some o := fun s b o n e => s b o (by rw [del_ne n]; exact e)
    have s0 : Same (del H a) H := fun b o e => by
      by_cases z : b = a
      · rw [z, del_same] at e
        cases e
      · rw [del_ne z] at e
        exact e
    have own1 : ∀ {b : Addr}, Own O (fun _ => a) (.ini c [] :: startD m ds) b → O b ∨ b = a := fun z => by
      rcases z with z | ⟨i, s, _, _, z⟩
      · exact .inl z
      · exact .inr z.symm
    have own2 : ∀ {b : Addr}, O b ∨ b = a → Own O (fun _ => a) (.ini c [] :: startD m ds) b := fun z => by
      rcases z with z | z
      · exact .inl z
      · exact .inr ⟨0, _, rfl, rfl, z.symm⟩
    have get0 : ∀ {i : Nat} {s : Sl}, (Sl.ini c [] :: startD m ds)[i]? = some s → (i = 0 ∧ s = .ini c []) ∨ ∃ j, i = j + 1 ∧ (startD m ds)[j]? = some s := fun {i s} e => by
      cases i with
      | zero => exact .inl ⟨rfl, (Option.some.inj e).symm⟩
      | succ j => exact .inr ⟨j, rfl, by simpa using e⟩
    have N1 : ∃ x0 N', N = x0 :: N' := by
      cases N with
      | nil => cases hm
      | cons x0 N' => exact ⟨x0, N', rfl⟩
    obtain ⟨x0, N', rfl⟩ := N1
    have hm' : N'.length = m := Nat.succ.inj hm
    subst hm'
    have est : L2.start (x0 :: N') (.ref a :: us) = some (.ref a) :: L2.start N' us := by
      unfold L2.start
      simp
    rw [est]
    have st : StS K (ct.w { slf := a, sdx := dx }) O (del H a) H (fun _ => a) (.ini c [] :: startD N'.length ds) (some (.ref a) :: L2.start N' us) := by
      refine ⟨⟨?_, fun i s e => ?_, fun b z => ?_⟩, s0, fun i s e o => del_same, fun i j s t e o e2 o2 _ => ?_, fun b z => ?_⟩
      · show (startD N'.length ds).length + 1 = (L2.start N' us).length + 1
        rw [startD_len, start_len, r.length]
      · rcases get0 e with ⟨e1, e2⟩ | ⟨j, e1, e2⟩
        · subst e1
          subst e2
          exact ⟨_, rfl, rfl, own2 (.inr rfl), rfl, [], ha, RepL.nil⟩
        · subst e1
          rcases startD_get e2 with ⟨d, e3, e4⟩ | ⟨e3, h2, h3⟩
          · subst e4
            obtain ⟨v, ev, rv⟩ := r.get e3
            exact ⟨some v, by simpa using start_get ev, v, rfl, Rep.w.mpr (rv.less fun b z => own1 z)⟩
          · subst e3
            have hl : j < (L2.start N' us).length := by
              rw [start_len, r.length]
              exact h3
            exact ⟨_, by rw [List.getElem?_cons_succ]; exact List.getElem?_eq_getElem hl, trivial⟩
      · rcases own1 z with z | z
        · obtain ⟨o, _, e⟩ := dm b z
          exact ⟨o, e⟩
        · rw [z]
          exact ⟨_, ha⟩
      · have z1 : i = 0 := by
          rcases get0 e with ⟨z, _⟩ | ⟨j', _, z⟩
          · exact z
          · rw [startD_own z] at o
            cases o
        have z2 : j = 0 := by
          rcases get0 e2 with ⟨z, _⟩ | ⟨j', _, z⟩
          · exact z
          · rw [startD_own z] at o2
            cases o2
        rw [z1, z2]
      · obtain ⟨o, n, e⟩ := dm b z
        exact ⟨o, by rw [del_ne n]; exact e⟩
    refine ⟨O, _, fun _ => a, _, _, st, q, ⟨fun σ H' f' dσ h z => ?_, fun σ H' f dσ h z => z.elim, fun σ H' f dσ h z => z.elim, fun v d H' s r z => z.elim, fun p vs ds H' hp s l r z => z.elim, fun c x cls dd σ H' f dσ h b z => k2 c x cls dd H' (cb h.same) ((ExcAt.w.mp b).less fun b z => .inl z) z⟩⟩
    obtain ⟨fs, e0, z⟩ := z
    obtain ⟨u, eu, e1, n1, es, ws, e2, r2⟩ := h.e.at_ 0 _ e0
    rw [es] at e2
    refine k1 fs ws H' (cb h.same) e2 (RepL.w.mp (r2.less fun b y => ?_)) z
    rcases y with y | y
    · exact .inl y
    · exact .inr ⟨0, _, e0, rfl, es.trans y.symm⟩
end
end Dl
set_option Elab.async false
set_option linter.all false
set_option maxRecDepth 100000
set_option maxHeartbeats 4000000
namespace Dl
open PySem PySem.Spec L2
theorem oexB_ok {K : PySem.W.Frag} {C : Addr} (h : oexB K C = true) : OexC K C := by
  unfold oexB at h
  rw [Bool.and_eq_true_iff, Bool.and_eq_true_iff, Bool.and_eq_true_iff, Bool.and_eq_true_iff] at h
  obtain ⟨h0, h1, h2, h3, h4⟩ := h
  refine ⟨?_, of_decide_eq_true h1, of_decide_eq_true h2, of_decide_eq_true h3, h4⟩
  split at h0
  · rename_i t dd cd sl ho
    rw [Bool.and_eq_true_iff] at h0
    obtain ⟨ht, h0⟩ := h0
    split at h0
    · rename_i C' bm k0 k1 k2 k3 n k5 hm hs
      simp only [Bool.and_eq_true, beq_iff_eq, Bool.not_eq_true'] at h0 ht
      obtain ⟨rfl, rfl, hdel, hdic, hv⟩ := h0
      subst ht
      obtain ⟨nm, bs, mro, ns, qn, hd, sn, sub, ab, col, del⟩ := cd
      dsimp only at hm hdel hdic
      subst hm hdel hdic
      have hsl : sl = #[k0, k1, k2, k3, some (.builtin "ValueError.__new__"), k5] := by
        obtain ⟨l⟩ := sl
        simp only at hs
        rw [hs]
      subst hsl
      exact ⟨nm, qn, ns, bs, bm, sn, sub, ab, col, dd, k0, k1, k2, k3, k5, ho, hv⟩
    · cases h0
  · cases h0
/-- what __init__(self, v) of an own error does: self.f = v -/
def spX (f : Str) (C : Addr) : Sp := fun vs H Q _ => ∃ a v, vs = [.ref a, v] ∧ H a = some (exo a C none) ∧ ∀ dx, H dx = none → dx ≠ a → Q .non (upd (upd H dx (exd dx [(f, v)])) a (exo a C (some dx)))
section
variable {P : Program} {w : World} {K : PySem.W.Frag} {mg : Str → Option Value} {base : Heap} {x qual g : Str} {params : Arguments} {body : List Stmt} {scope : Scope} {dvs : List V} {kws : List (Str × V)} {fa C : Addr} {fd : FuncData} {n0 n1 : Str} {p1 p2 p3 p4 : Pos}
theorem fn_x (F : FunD K x qual params body scope dvs kws fa fd) (S : FnScope [n0, n1] [n0, n1] scope) (hb : body = [.Assign [.Attribute (.Name n0 p1) g p2] (.Name n1 p3) p4]) (T : OexC K C) (hno : PySem.W.findIn K (.ref C) g = some none)
    (v0 : Vis scope n0) (v1 : Vis scope n1) (d0 : (n0 == ("__debug__" : Str)) = false) (d1 : (n1 == ("__debug__" : Str)) = false) (c0 : (n0 == ("__classdict__" : Str)) = false) (c1 : (n1 == ("__classdict__" : Str)) = false)
    (hs : ∀ env : Env, swapsWith (.Name n1 p3) (some (.Attribute (.Name n0 p1) g p2)) p4.line env = pure false) : FnOk P w K mg base (L2.CX P w) 1 fa fd [n0, n1] (spX g C) := by
  refine F.ok (k := 0) S (fun vs H Q E h => ?_) (fun cdv A outer s H vs Q E hr h => ?_)
  · obtain ⟨a, v, rfl, _⟩ := h
    rfl
  · obtain ⟨a, v, rfl, ha, q⟩ := h
    subst hb
    refine ⟨_, pss_one (ps_ost (pe_var (i := 0) rfl v0 d0 c0) (pe_var (i := 1) rfl v1 d1 c1) (hs _)), ?_⟩
    exact ⟨_, rfl, _, rfl, a, C, rfl, T, hno, .inl ⟨ha, fun dx hd ne => q dx hd ne⟩⟩
end
def sRaise (c : Nat) (t : TD) : TDS := fun DD s => t s (fun d => DD.ex c d s) (xq DD s)
/-- no error is held, no object is being made -/
def plainB : List Sl → Bool
  | [] => true
  | .ini _ _ :: _ => false
  | .exc _ _ :: _ => false
  | _ :: r => plainB r
def suiteE (DD : DEnds) (i : Nat) : DEnds := { nx := fun s => plainB (s.set i .un) = true ∧ DD.nx (s.set i .un), rt := DD.rt, rn := DD.rn, bk := fun s => plainB (s.set i .un) = true ∧ DD.bk (s.set i .un), cn := fun s => plainB (s.set i .un) = true ∧ DD.cn (s.set i .un), ex := fun _ _ _ => False }
/-- cat: which classes the clause catches -/
def sTry (cat : Nat → Option Bool) (i : Nat) (tb tu : TDS) : TDS := fun DD s => tb { DD with ex := fun c x s' => match cat c with
  | some true => plainB (s'.set i .un) = true ∧ tu (suiteE DD i) (s'.set i (.exc c x))
  | some false => DD.ex c x s'
  | none => False } s
def dXf (i : Nat) (cs : Nat → Bool) : TD := fun s Q _ => match s[i]? with
  | some (.exc c x) => cs c = true ∧ Q x
  | _ => False
section
variable {X : Cx} {ct : CT} {W : WX} {e o : Expr} {es : List Expr} {td : TD} {tda : TDA} {pos pos' p np : Pos} {f x n : Str} {i c k : Nat} {fd : FuncData} {ps : List Str} {body suite : List Stmt} {b0 : Stmt} {tb tu : TDS}
theorem ds_raise {fI : Addr} (hc : X.calm = true) (tk : Takes X W) (T : OexC X.K (ct.addr c)) (iC : PySem.W.findIn X.K (.ref (ct.addr c)) "__init__" = some (some (.ref fI))) (tI : PySem.W.typeIn X.K (.ref fI) = some (.type "function")) (hn : ct.names c = [f])
    (F1 : FnOk X.prog X.w X.K X.mg X.base (L2.CX X.prog X.w) k fI fd ps (spX f (ct.addr c))) (hr : Room (k + 1) X.A) (hb : Binds X.K fd ps []) (hm : X.mg x = some (.ref (ct.addr c))) (he : DE X ct W e td) (hg : Gl X x := by rfl) (hdb : (x == ("__debug__" : Str)) = false := by decide)
    (hs : starEach [e] X.env = (false, eval e X.env) :: starEach [] X.env := by rfl) (hpl : (backTo pos (starEach [] X.env)).any (·.1) = false := by rfl) :
    DS X ct W (.Raise (some (.Call (.Name x p) [e] [] pos)) none pos') (sRaise c td) := PS.imp (ps_raise hc tk (pmk_oex (dvs := []) T iC tI F1 hr hb .nil passL hg hm (pa_cons he pa_nil hs) hdb hs hpl)) fun E σ H ⟨O0, H0, g, dσ, DD, h, t, en⟩ => by
  refine h.ex en t fun v d H1 s1 r q => ⟨(by show 1 ≤ 1000; decide), fun a ha => ⟨a, v, rfl, upd_same, fun dx hd ne => ⟨rfl, dx, [(f, v)], upd_same, ?_, ?_, ?_⟩⟩⟩
  · rw [upd_ne ne, upd_same]
  · rw [upd_ne ne] at hd
    exact hd
  · rw [upd_ne ne] at hd
    have s2 : Same H1 (upd (del (upd (upd (upd H1 a (exo a (ct.addr c) none)) dx (exd dx [(f, v)])) a (exo a (ct.addr c) (some dx))) a) dx (.xd [(f, v)])) := fun b o eb => by
      rw [upd_ne (ne_of_none eb hd), del_ne (ne_of_none eb ha), upd_ne (ne_of_none eb ha), upd_ne (ne_of_none eb hd), upd_ne (ne_of_none eb ha)]
      exact eb
    refine en.ex c d _ _ σ _ g dσ (h.sm (s1.trans s2)) ⟨rfl, dx, v, rfl, ?_, r.same s2⟩ q
    rw [upd_same, hn]
    rfl
theorem plain_no : ∀ {dσ : List Sl} {i : Nat} {s : Sl}, plainB dσ = true → dσ[i]? = some s → (∀ c fs, s ≠ .ini c fs) ∧ ∀ c x, s ≠ .exc c x
  | [], _, _, _, e => by simp at e
  | t :: r, 0, s, h, e => by
    have e' : t = s := by simpa using e
    subst e'
    constructor
    · rintro c fs rfl
      cases h
    · rintro c x rfl
      cases h
  | t :: r, i + 1, s, h, e => by
    have h' : plainB r = true := by
      cases t <;> first | exact h | cases h
    exact plain_no (i := i) h' (by simpa using e)
theorem StS.gh {K : PySem.W.Frag} {ct ct' : CT} {W : WX} {O0 : Addr → Prop} {H0 H : Hp} {g : Nat → Addr} {dσ : List Sl} {σ : St} (hp : plainB dσ = true) (hr : ∀ d v O, Rep K ct H O d v → Rep K ct' H O d v) (hrl : ∀ d v O, RepL K ct H O d v → RepL K ct' H O d v) (h : StS K ct O0 H0 H g dσ σ) : StS K ct' O0 H0 H g dσ σ := by
  refine ⟨⟨h.e.len, fun i s e => ?_, h.e.dom⟩, h.same, h.fresh, h.inj, h.dom0⟩
  obtain ⟨o, a, b⟩ := h.e.at_ i s e
  obtain ⟨n1, n2⟩ := plain_no hp e
  refine ⟨o, a, ?_⟩
  cases s with
  | un => trivial
  | v d =>
    obtain ⟨v, e, r⟩ := b
    exact ⟨v, e, hr _ _ _ r⟩
  | own xs =>
    obtain ⟨e, n, vs, z, r⟩ := b
    exact ⟨e, n, vs, z, hrl _ _ _ r⟩
  | ini c fs => exact absurd rfl (n1 c fs)
  | dic ks xs =>
    obtain ⟨e, n, vs, z, hl, r⟩ := b
    exact ⟨e, n, vs, z, hl, hrl _ _ _ r⟩
  | exc c x => exact absurd rfl (n2 c x)
/-- try: .. except x as n: suite -/
theorem ds_try (cat : Nat → Option Bool) (hs : X.stack = X.env :: X.outer) (hf : X.env.frame = some X.env.locals) (hN : X.N.Nodup) (hi : X.N[i]? = some n) (hln : X.env.kindOf n = some .local) (hc : Names X x (.ref (ct.addr c))) (tk : Takes X W)
    (hcat : ∀ c' b, cat c' = some b → PySem.W.exmOne X.K (.ref (ct.addr c')) (.ref (ct.addr c)) = some b)
    (hb : ∀ (W : WX) (pn : List (Addr × Obj)) (xe : Value → Shared → Prop), Takes (X.tr pn xe) W → PassesOwn (model X.prog X.w) X.A X.env xe → DSs (X.tr pn xe) ct W body tb)
    (hsu : ∀ (gh : Gh) (oe : Obj) (pn : List (Addr × Obj)), Zc gh.exC gh.exD oe → (∃ vs, oe.data = .fields vs) → DSs (X.suite gh.exA ((gh.exA, oe) :: pn)) (ct.w gh) W0 (b0 :: suite) tu) :
    DS X ct W (.Try body [.ExceptHandler (some (.Name x np)) (some n) (b0 :: suite) pos'] [] [] pos) (sTry cat i tb tu) :=
  PS.imp (ps_try_as (tb := fun W => liftS X.K ct W tb) (ts := fun a cls d => liftS X.K (ct.w { exA := a, exC := cls, exD := d }) W0 tu) hs hf hN hi hln hc tk hb (fun a oe cls d pn hz hv => hsu { exA := a, exC := cls, exD := d } oe pn hz hv)) fun E σ H ⟨O0, H0, g, dσ, DD, h, t, en⟩ => by
    refine ⟨O0, H0, g, dσ, _, h, t, ⟨en.nx, en.bk, en.cn, en.rt, en.rn, fun c' y cls dd σ' H' f' dσ' h' a' q => ?_⟩⟩
    have q2 : (match cat c' with
      | some true => plainB (dσ'.set i .un) = true ∧ tu (suiteE DD i) (dσ'.set i (.exc c' y))
      | some false => DD.ex c' y dσ'
      | none => False) := q
    have ec : cls = .ref (ct.addr c') := a'.1
    subst ec
    cases hk : cat c' with
    | none =>
      rw [hk] at q2
      exact q2.elim
    | some b =>
      refine ⟨b, hcat c' b hk, fun eb a ha => ?_, fun eb => ?_⟩
      · subst eb
        rw [hk] at q2
        obtain ⟨hp, q3⟩ := q2
        have h1 : StS X.K (ct.w { exA := a, exC := .ref (ct.addr c'), exD := dd }) O0 H0 H' f' (dσ'.set i .un) (σ'.set i (some (.ref a))) := StS.gh (W := W) hp (fun _ _ _ r => Rep.w.mpr r) (fun _ _ _ r => RepL.w.mpr r) h'.set_un
        have h2 : StS X.K (ct.w { exA := a, exC := .ref (ct.addr c'), exD := dd }) O0 H0 H' f' ((dσ'.set i .un).set i (.exc c' y)) ((σ'.set i (some (.ref a))).set i (some (.ref a))) := h1.set_s rfl ⟨rfl, (ExcAt.w.mpr a').less fun b z => ?_⟩
        · rw [List.set_set, List.set_set] at h2
          have back : ∀ {σ2 : St} {H2 : Hp} {f2 : Nat → Addr} {dσ2 : List Sl}, StS X.K (ct.w { exA := a, exC := .ref (ct.addr c'), exD := dd }) O0 H0 H2 f2 dσ2 σ2 → plainB (dσ2.set i .un) = true → StS X.K ct O0 H0 H2 f2 (dσ2.set i .un) (σ2.set i none) := fun h3 hp3 =>
            StS.gh (W := W) hp3 (fun _ _ _ r => Rep.w.mp r) (fun _ _ _ r => RepL.w.mp r) h3.set_un
          exact ⟨O0, H0, f', _, _, h2, q3, ⟨fun σ2 H2 f2 dσ2 h3 z => en.nx _ _ _ _ (back h3 z.1) z.2, fun σ2 H2 f2 dσ2 h3 z => en.bk _ _ _ _ (back h3 z.1) z.2, fun σ2 H2 f2 dσ2 h3 z => en.cn _ _ _ _ (back h3 z.1) z.2,
            fun v d H2 s r z => en.rt v d H2 s (Rep.w.mp r) z, fun p vs ds H2 hp s l r z => en.rn p vs ds H2 hp s l (RepL.w.mp r) z, fun _ _ _ _ _ _ _ _ _ _ z => z.elim⟩⟩
        · rcases z with z | ⟨j, s, e, o, ej⟩
          · exact .inl z
          · rcases getS e with ⟨_, e2, _⟩ | ⟨_, e2⟩
            · rw [e2] at o
              cases o
            · exact .inr ⟨j, s, e2, o, ej⟩
      · subst eb
        rw [hk] at q2
        exact en.ex c' y _ dd σ' H' f' dσ' h' a' q2
end
end Dl
set_option Elab.async false
set_option linter.all false
set_option maxRecDepth 100000
set_option maxHeartbeats 4000000
namespace Dl
open PySem PySem.Spec L2
def dB (c : List D → (D → Prop) → Prop) (ta : TDA) : TD := fun s Q E => ta s (fun ds => c ds Q) E
section
variable {X : Cx} {ct : CT} {W : WX} {e o a b : Expr} {es : List Expr} {td to : TD} {tda : TDA} {pos apos p : Pos} {x m : Str} {c : List D → (D → Prop) → Prop}
theorem de_B {id : String} (hc : CallR X (.builtin id) (RCD X.K ct c)) (hm : X.mg x = none) (ha : DA X ct W (e :: es) tda) (hv : bootBuiltins x = some (.builtin id) := by decide +kernel) (hg : Gl X x := by rfl) (hn : x ≠ "__name__" := by decide) (hdb : (x == ("__debug__" : Str)) = false := by decide)
    (he : starEach (e :: es) X.env = (false, eval e X.env) :: starEach es X.env := by rfl) (hpl : (backTo pos (starEach es X.env)).any (·.1) = false := by rfl) : DE X ct W (.Call (.Name x p) (e :: es) [] pos) (dB c tda) :=
  PE.imp (pe_callB hc hg hm hv ha hn hdb he hpl) fun σ H Q ⟨O, f, dσ, QD, QE, hs, h, k, kx⟩ => by
    refine ⟨O, f, dσ, _, QE, hs, h, fun vs ds H1 e1 r q => ?_, kx⟩
    exact ⟨O, ds, QD, (hs.same e1).dom, r, q, fun v d H2 e2 => k v d H2 (e1.trans e2)⟩
theorem de_T {T : String} (hc : CallR X (.type T) (RCD X.K ct c)) (hm : X.mg x = none) (ha : DA X ct W (e :: es) tda) (hv : bootBuiltins x = some (.type T) := by decide +kernel) (hg : Gl X x := by rfl) (hn : x ≠ "__name__" := by decide) (hdb : (x == ("__debug__" : Str)) = false := by decide)
    (he : starEach (e :: es) X.env = (false, eval e X.env) :: starEach es X.env := by rfl) (hpl : (backTo pos (starEach es X.env)).any (·.1) = false := by rfl) : DE X ct W (.Call (.Name x p) (e :: es) [] pos) (dB c tda) :=
  PE.imp (pe_callTy hc hg hm hv ha hn hdb he hpl) fun σ H Q ⟨O, f, dσ, QD, QE, hs, h, k, kx⟩ => by
    refine ⟨O, f, dσ, _, QE, hs, h, fun vs ds H1 e1 r q => ?_, kx⟩
    exact ⟨O, ds, QD, (hs.same e1).dom, r, q, fun v d H2 e2 => k v d H2 (e1.trans e2)⟩
theorem rep1 {H : Hp} {O : Addr → Prop} {K : PySem.W.Frag} {d : D} {vs : List V} (r : RepL K ct H O [d] vs) : ∃ v, vs = [v] ∧ Rep K ct H O d v := by
  obtain ⟨v, q, e, h1, h2⟩ := r.cons_inv
  simp only [RepL] at h2
  subst h2
  exact ⟨v, e, h1⟩
theorem rep2 {H : Hp} {O : Addr → Prop} {K : PySem.W.Frag} {d e : D} {vs : List V} (r : RepL K ct H O [d, e] vs) : ∃ v u, vs = [v, u] ∧ Rep K ct H O d v ∧ Rep K ct H O e u := by
  obtain ⟨v, q, e, h1, h2⟩ := r.cons_inv
  obtain ⟨u, e2, h3⟩ := rep1 h2
  subst e2
  exact ⟨v, u, e, h1, h3⟩
def bLen : List D → (D → Prop) → Prop
  | [.str z], Q => z.length ≤ sizeLine ∧ Q (.int z.length)
  | [.lst xs], Q => Q (.int xs.length)
  | [.tup xs], Q => Q (.int xs.length)
  | [.scr xs], Q => Q (.int xs.length)
  | _, _ => False
theorem cd_len : CallR X (.builtin "len") (RCD X.K ct bLen) := by
  intro pins s σ H vs us Q I rv ⟨O, ds, QD, dm, r, o, k⟩
  unfold bLen at o
  split at o
  · obtain ⟨v, e, h1⟩ := rep1 r
    subst e
    exact call_len_str pins s σ H _ us Q I rv ⟨_, by rw [rep_str.mp h1], o.1, k _ _ H (Same.refl H) (rep_int.mpr rfl) o.2⟩
  · obtain ⟨v, e, h1⟩ := rep1 r
    obtain ⟨p, ys, e2, n, l, rl⟩ := rep_lst.mp h1
    subst e e2
    exact call_len_seq pins s σ H _ us Q I rv ⟨p, ys, rfl, .inl (SqL.of l), k _ _ H (Same.refl H) (rep_int.mpr (by rw [rl.length])) o⟩
  · obtain ⟨v, e, h1⟩ := rep1 r
    obtain ⟨p, ys, e2, l, rl⟩ := rep_tup.mp h1
    subst e e2
    exact call_len_seq pins s σ H _ us Q I rv ⟨p, ys, rfl, .inr l, k _ _ H (Same.refl H) (rep_int.mpr (by rw [rl.length])) o⟩
  · obtain ⟨v, e, h1⟩ := rep1 r
    obtain ⟨p, e2, l⟩ := rep_scr.mp h1
    subst e e2
    exact call_len_seq pins s σ H _ us Q I rv ⟨p, _, rfl, .inl l.sq, k _ _ H (Same.refl H) (rep_int.mpr (by rw [List.length_map])) o⟩
  · exact o.elim
def bTuple : List D → (D → Prop) → Prop
  | [.lst xs], Q => Q (.tup xs)
  | [.tup xs], Q => Q (.tup xs)
  | _, _ => False
theorem cd_tuple : CallR X (.type "tuple") (RCD X.K ct bTuple) := by
  intro pins s σ H vs us Q I rv ⟨O, ds, QD, dm, r, o, k⟩
  unfold bTuple at o
  split at o
  · obtain ⟨v, e, h1⟩ := rep1 r
    obtain ⟨p, ys, e2, n, l, rl⟩ := rep_lst.mp h1
    subst e e2
    exact call_tuple_of pins s σ H _ us Q I rv ⟨p, ys, rfl, .inl ⟨SqL.of l, fun l hl => k _ _ _ (same_new hl) (new_tup hl rl) o⟩⟩
  · obtain ⟨v, e, h1⟩ := rep1 r
    obtain ⟨p, ys, e2, l, rl⟩ := rep_tup.mp h1
    subst e e2
    exact call_tuple_of pins s σ H _ us Q I rv ⟨p, ys, rfl, .inr ⟨l, k _ _ H (Same.refl H) (rep_tup.mpr ⟨p, ys, rfl, l, rl⟩) o⟩⟩
  · exact o.elim
def bInt : List D → (D → Prop) → Prop
  | [.int i], Q => Q (.int i)
  | [.bl b], Q => Q (.int (if b then 1 else 0))
  | _, _ => False
theorem cd_int : CallR X (.type "int") (RCD X.K ct bInt) := by
  intro pins s σ H vs us Q I rv ⟨O, ds, QD, dm, r, o, k⟩
  unfold bInt at o
  split at o
  · obtain ⟨v, e, h1⟩ := rep1 r
    subst e
    exact call_int1 pins s σ H _ us Q I rv (.inl ⟨_, by rw [rep_int.mp h1], k _ _ H (Same.refl H) (rep_int.mpr rfl) o⟩)
  · obtain ⟨v, e, h1⟩ := rep1 r
    subst e
    exact call_int1 pins s σ H _ us Q I rv (.inr ⟨_, by rw [rep_bl.mp h1], k _ _ H (Same.refl H) (rep_int.mpr rfl) o⟩)
  · exact o.elim
def bAll (ds : List D) (Q : D → Prop) : Prop := ∃ bs : List Bool, ds = [.lst (bs.map D.bl)] ∧ Q (.bl (bs.all id))
theorem cd_all (hc : X.calm = true) : CallR X (.builtin "all") (RCD X.K ct bAll) := by
  intro pins s σ H vs us Q I rv ⟨O, ds, QD, dm, r, ⟨ns, ed, q⟩, k⟩
  subst ed
  obtain ⟨v, e, h1⟩ := rep1 r
  obtain ⟨p, ys, e2, n, l, rl⟩ := rep_lst.mp h1
  have e3 := RepL.bls_inv rl
  subst e e2 e3
  exact cr_all hc pins s σ H _ us Q I rv ⟨p, ns, rfl, SqL.of l, k _ _ H (Same.refl H) (rep_bl.mpr rfl) q⟩
def bMin : List D → (D → Prop) → Prop
  | [.int i, .int j], Q => Q (.int (if j < i then j else i))
  | _, _ => False
theorem cd_min (hc : X.calm = true) : CallR X (.builtin "min") (RCD X.K ct bMin) := by
  intro pins s σ H vs us Q I rv ⟨O, ds, QD, dm, r, o, k⟩
  unfold bMin at o
  split at o
  · obtain ⟨v, u, e, h1, h2⟩ := rep2 r
    subst e
    exact call_min2 hc pins s σ H _ us Q I rv ⟨_, _, by rw [rep_int.mp h1, rep_int.mp h2], k _ _ H (Same.refl H) (rep_int.mpr rfl) o⟩
  · exact o.elim
theorem de_M1 {id : String} {r : V → List V → Hp → VK → Prop} (slot : Slot "str" m id) (ty : typeOf (.builtin id) = pure (.type "method_descriptor")) (rule : MtR X id r) (c : Str → D → (D → Prop) → Prop)
    (hr : ∀ z y d H O QD Q, Dom H O → Rep X.K ct H O d y → c z d QD → (∀ v d H', Same H H' → Rep X.K ct H' O d v → QD d → Q v H') → r (.str z) [y] H Q)
    (ho : DE X ct W o to) (he : DE X ct W e td) (hs : starEach [e] X.env = [(false, eval e X.env)] := by rfl) (hbase : attributeBase o m X.env (eval o X.env) = eval o X.env := by rfl) (hline : (apos.endLine == pos.line) = true := by rfl) :
    DE X ct W (.Call (.Attribute o m apos) [e] [] pos) (fun s Q E => to s (fun x => match x with
      | .str z => td s (fun d => c z d Q) E
      | _ => False) E) := PE.imp (pe_m1 slot ty rule ho he hs hbase hline) fun σ H Q ⟨O, f, dσ, QD, QE, hs, h, k, kx⟩ => by
  refine ⟨O, f, dσ, _, QE, hs, h, fun v d H1 e1 rv q => ?_, kx⟩
  cases d with
  | str z =>
    refine ⟨⟨z, rep_str.mp rv⟩, O, f, dσ, _, QE, hs.same e1, q, fun y d H2 e2 ry q2 => ?_, kx.same e1⟩
    rw [rep_str.mp rv]
    exact hr z y d H2 O QD Q ((hs.same e1).same e2).dom ry q2 fun v d H3 e3 => k v d H3 (e1.trans (e2.trans e3))
  | _ => exact q.elim
def dM1 (c : Str → D → (D → Prop) → Prop) (to td : TD) : TD := fun s Q E => to s (fun x => match x with
      | .str z => td s (fun d => c z d Q) E
      | _ => False) E
def cJoin (z : Str) (d : D) (Q : D → Prop) : Prop := ∃ ys : List Str, (d = .lst (ys.map D.str) ∨ d = .tup (ys.map D.str)) ∧ (ys.map (·.length)).sum + ys.length * z.length ≤ 16777216 ∧ Q (.str (Txt.join z ys))
theorem de_join (ho : DE X ct W o to) (he : DE X ct W e td) (hs : starEach [e] X.env = [(false, eval e X.env)] := by rfl) (hbase : attributeBase o "join" X.env (eval o X.env) = eval o X.env := by rfl) (hline : (apos.endLine == pos.line) = true := by rfl) :
    DE X ct W (.Call (.Attribute o "join" apos) [e] [] pos) (dM1 cJoin to td) := de_M1 PySem.F.slot_str_join PySem.F.type_str_join mt_join cJoin (fun z y d H O QD Q dm ry ⟨ys, hd, hz, q⟩ k => by
    rcases hd with rfl | rfl
    · obtain ⟨p, us, e, n, l, rl⟩ := rep_lst.mp ry
      have e2 := RepL.strs_inv rl
      subst e e2
      exact ⟨z, p, ys, rfl, rfl, .inl (SqL.of l), hz, k _ _ H (Same.refl H) (rep_str.mpr rfl) q⟩
    · obtain ⟨p, us, e, l, rl⟩ := rep_tup.mp ry
      have e2 := RepL.strs_inv rl
      subst e e2
      exact ⟨z, p, ys, rfl, rfl, .inr l, hz, k _ _ H (Same.refl H) (rep_str.mpr rfl) q⟩) ho he hs hbase hline
def cSplit (z : Str) (d : D) (Q : D → Prop) : Prop := match d with
  | .str y => (y.length == 0) = false ∧ z.length + 2 ≤ sizeLine ∧ Q (.lst ((Txt.split z y).map D.str))
  | _ => False
theorem de_split (ho : DE X ct W o to) (he : DE X ct W e td) (hs : starEach [e] X.env = [(false, eval e X.env)] := by rfl) (hbase : attributeBase o "split" X.env (eval o X.env) = eval o X.env := by rfl) (hline : (apos.endLine == pos.line) = true := by rfl) :
    DE X ct W (.Call (.Attribute o "split" apos) [e] [] pos) (dM1 cSplit to td) := de_M1 PySem.F.slot_str_split PySem.F.type_str_split mt_split cSplit (fun z y d H O QD Q dm ry q k => by
    cases d with
    | str y => exact ⟨z, y, rfl, by rw [rep_str.mp ry], q.1, q.2.1, fun p hp => k _ _ _ (same_new hp) (new_lst hp dm RepL.strs) q.2.2⟩
    | _ => exact q.elim) ho he hs hbase hline
end
end Dl
set_option Elab.async false
set_option linter.all false
set_option maxRecDepth 100000
set_option maxHeartbeats 4000000
namespace Dl.G
open PySem PySem.SeqAt
open AutoSeq1 (wpAny_loadPart')
open MeetsSeq MeetsSeq2 MeetsSeq3 SeqRoads2
section
variable {prg : Program} {w : World} {A : Around} {R : Result → Shared → Prop}
/-- two lists of N us1 each, read anew at each turn; item i is equal where e says so -/
def ListB (prg : Program) (w : World) (A : Around) (E : Value → Shared → Prop) (l b : Addr) (N : Nat) (e : Nat → Bool) (I : Shared → Prop) : Prop :=
  ∀ s, I s → ∃ (us1 us2 : Array Value) (n n2 : Nat), s.heap.get? l = some { cls := .type "list", data := .seq us1 n } ∧ s.heap.get? b = some { cls := .type "list", data := .seq us2 n2 } ∧ us1.size = N ∧ us2.size = N ∧
    ∀ i (h1 : i < us1.size) (h2 : i < us2.size), wpAny (model prg w) A.in1 (eqBool us1[i] us2[i]) (fun r s' => r = e i ∧ I s') E s
theorem eq_loopB (l b : Addr) (N : Nat) (e : Nat → Bool) (I : Shared → Prop) (hl : ListB prg w A (fun e s' => R (.error e) s') l b N e I) (k : Nat) :
    ∀ i : Nat, N - i = k → i ≤ N → (∀ s, I s → R (.ok (.ret (.bool (((List.range N).drop i).all e)))) s) → ∀ s, I s →
      wpAny (model prg w) A.in1 (Builtin.«list.__eq__.loop» ⟨[.ref l, .ref b, rawInt i, rawInt 2], []⟩) (GQ.FinOf prg w A R) (fun e s' => R (.error e) s') s := by
  induction k with
  | zero =>
    intro i hk hi fin s h
    obtain ⟨us1, us2, n, n2, kl, kb, sa, sb, _⟩ := hl _ h
    have hi' : i = N := by omega
    have hRR := fin s h
    have hdr : (List.range N).drop i = [] := by simp; omega
    rw [hdr] at hRR
    obtain ⟨hq0, g, d, tk0, os0⟩ := s
    wp_walk using wpAny_loadPart' kl, wpAny_loadPart' kb
    have ge1 : us1[((i : Nat) : Int).toNat]? = none := by simp; omega
    have ge2 : us2[((i : Nat) : Int).toNat]? = none := by simp; omega
    rw [ge1, ge2]
    wp_walk using wpAny_loadPart' kl, wpAny_loadPart' kb
    show R (.ok (.ret (.bool (us1.size == us2.size)))) _
    rw [sa, sb]
    simpa using hRR
  | succ k ih =>
    intro i hk hi fin s h
    obtain ⟨us1, us2, n, n2, kl, kb, sa, sb, turn⟩ := hl _ h
    have lt1 : i < us1.size := by omega
    have lt2 : i < us2.size := by omega
    have htn := turn i lt1 lt2
    have hdr : (List.range N).drop i = i :: (List.range N).drop (i + 1) := by
      have : i < N := by omega
      simp [List.drop_eq_getElem_cons, this]
    obtain ⟨hq0, g, d, tk0, os0⟩ := s
    wp_walk using wpAny_loadPart' kl, wpAny_loadPart' kb
    have ge1 : us1[((i : Nat) : Int).toNat]? = some us1[i] := by simp [lt1]
    have ge2 : us2[((i : Nat) : Int).toNat]? = some us2[i] := by simp [lt2]
    have hcs : ((i : Int) + 1) = ((i + 1 : Nat) : Int) := by omega
    rw [ge1, ge2]
    refine wpAny_bind (wpAny_mono htn (fun r s2 h2 => ?_) fun _ _ x => x)
    obtain ⟨hr, h2⟩ := h2
    subst hr
    cases hee : e i with
    | true =>
      have again := ih (i + 1) (by omega) (by omega) (fun s h => by
        have z := fin s h
        rw [hdr, List.all_cons, hee, Bool.true_and] at z
        exact z) s2 h2
      obtain ⟨hq2, g2, d2, tk02, os02⟩ := s2
      wp_walk
      rw [hcs]
      exact ⟨plainId_quiet plain_eq_loop _, codeAny_builtin entry_eq_loop (by
        rw [Around.under_plainId plain_eq_loop _]
        exact again)⟩
    | false =>
      have hRR := fin s2 h2
      rw [hdr, List.all_cons, hee, Bool.false_and] at hRR
      obtain ⟨us1', us2', n', n2', kl', kb', sa', sb', _⟩ := hl _ h2
      have lt1' : i < us1'.size := by omega
      have lt2' : i < us2'.size := by omega
      have ge1' : us1'[((i : Nat) : Int).toNat]? = some us1'[i] := by simp [lt1']
      have ge2' : us2'[((i : Nat) : Int).toNat]? = some us2'[i] := by simp [lt2']
      obtain ⟨hq2, g2, d2, tk02, os02⟩ := s2
      wp_walk using wpAny_loadPart' kl', wpAny_loadPart' kb'
      rw [ge1', ge2']
      wp_walk
      exact hRR
theorem ne_loopB (l b : Addr) (N : Nat) (e : Nat → Bool) (I : Shared → Prop) (hl : ListB prg w A (fun e s' => R (.error e) s') l b N e I) (k : Nat) :
    ∀ i : Nat, N - i = k → i ≤ N → (∀ s, I s → R (.ok (.ret (.bool (!((List.range N).drop i).all e)))) s) → ∀ s, I s →
      wpAny (model prg w) A.in1 (Builtin.«list.__eq__.loop» ⟨[.ref l, .ref b, rawInt i, rawInt 3], []⟩) (GQ.FinOf prg w A R) (fun e s' => R (.error e) s') s := by
  induction k with
  | zero =>
    intro i hk hi fin s h
    obtain ⟨us1, us2, n, n2, kl, kb, sa, sb, _⟩ := hl _ h
    have hi' : i = N := by omega
    have hRR := fin s h
    have hdr : (List.range N).drop i = [] := by simp; omega
    rw [hdr] at hRR
    obtain ⟨hq0, g, d, tk0, os0⟩ := s
    wp_walk using wpAny_loadPart' kl, wpAny_loadPart' kb
    have ge1 : us1[((i : Nat) : Int).toNat]? = none := by simp; omega
    have ge2 : us2[((i : Nat) : Int).toNat]? = none := by simp; omega
    rw [ge1, ge2]
    wp_walk using wpAny_loadPart' kl, wpAny_loadPart' kb
    show R (.ok (.ret (.bool (us1.size != us2.size)))) _
    rw [sa, sb]
    simpa using hRR
  | succ k ih =>
    intro i hk hi fin s h
    obtain ⟨us1, us2, n, n2, kl, kb, sa, sb, turn⟩ := hl _ h
    have lt1 : i < us1.size := by omega
    have lt2 : i < us2.size := by omega
    have htn := turn i lt1 lt2
    have hdr : (List.range N).drop i = i :: (List.range N).drop (i + 1) := by
      have : i < N := by omega
      simp [List.drop_eq_getElem_cons, this]
    obtain ⟨hq0, g, d, tk0, os0⟩ := s
    wp_walk using wpAny_loadPart' kl, wpAny_loadPart' kb
    have ge1 : us1[((i : Nat) : Int).toNat]? = some us1[i] := by simp [lt1]
    have ge2 : us2[((i : Nat) : Int).toNat]? = some us2[i] := by simp [lt2]
    have hcs : ((i : Int) + 1) = ((i + 1 : Nat) : Int) := by omega
    rw [ge1, ge2]
    refine wpAny_bind (wpAny_mono htn (fun r s2 h2 => ?_) fun _ _ x => x)
    obtain ⟨hr, h2⟩ := h2
    subst hr
    cases hee : e i with
    | true =>
      have again := ih (i + 1) (by omega) (by omega) (fun s h => by
        have z := fin s h
        rw [hdr, List.all_cons, hee, Bool.true_and] at z
        exact z) s2 h2
      obtain ⟨hq2, g2, d2, tk02, os02⟩ := s2
      wp_walk
      rw [hcs]
      exact ⟨plainId_quiet plain_eq_loop _, codeAny_builtin entry_eq_loop (by
        rw [Around.under_plainId plain_eq_loop _]
        exact again)⟩
    | false =>
      have hRR := fin s2 h2
      rw [hdr, List.all_cons, hee, Bool.false_and] at hRR
      obtain ⟨us1', us2', n', n2', kl', kb', sa', sb', _⟩ := hl _ h2
      have lt1' : i < us1'.size := by omega
      have lt2' : i < us2'.size := by omega
      have ge1' : us1'[((i : Nat) : Int).toNat]? = some us1'[i] := by simp [lt1']
      have ge2' : us2'[((i : Nat) : Int).toNat]? = some us2'[i] := by simp [lt2']
      obtain ⟨hq2, g2, d2, tk02, os02⟩ := s2
      wp_walk using wpAny_loadPart' kl', wpAny_loadPart' kb'
      rw [ge1', ge2']
      wp_walk
      exact hRR
theorem list_eqB (l b : Addr) (N : Nat) (e : Nat → Bool) (I : Shared → Prop) (hl : ListB prg w A (fun e s' => R (.error e) s') l b N e I)
    (fin : ∀ s, I s → R (.ok (.ret (.bool ((List.range N).all e)))) s) {s : Shared} (h : I s) :
    wpAny (model prg w) A.in1 (Builtin.«list.__eq__» ⟨[.ref l, .ref b], []⟩) (GQ.FinOf prg w A R) (fun e s' => R (.error e) s') s := by
  obtain ⟨us1, us2, n, n2, kl, kb, sa, sb, _⟩ := hl _ h
  have again := eq_loopB (A := A) (R := R) l b N e I hl _ 0 rfl (Nat.zero_le _) (by simpa using fin) s h
  obtain ⟨hq0, g, d, tk0, os0⟩ := s
  have f3 := AutoSeq1.sub_list_list
  have hnn : ¬ (us1.size != us2.size) = true := by simp [sa, sb]
  wp_walk using wpAny_loadPart' kl, wpAny_loadPart' kb
  exact ⟨plainId_quiet plain_eq_loop _, codeAny_builtin entry_eq_loop (by
    rw [Around.under_plainId plain_eq_loop _]
    exact again)⟩
theorem list_neB (l b : Addr) (N : Nat) (e : Nat → Bool) (I : Shared → Prop) (hl : ListB prg w A (fun e s' => R (.error e) s') l b N e I)
    (fin : ∀ s, I s → R (.ok (.ret (.bool (!(List.range N).all e)))) s) {s : Shared} (h : I s) :
    wpAny (model prg w) A.in1 (Builtin.«list.__ne__» ⟨[.ref l, .ref b], []⟩) (GQ.FinOf prg w A R) (fun e s' => R (.error e) s') s := by
  obtain ⟨us1, us2, n, n2, kl, kb, sa, sb, _⟩ := hl _ h
  have again := ne_loopB (A := A) (R := R) l b N e I hl _ 0 rfl (Nat.zero_le _) (by simpa using fin) s h
  obtain ⟨hq0, g, d, tk0, os0⟩ := s
  have f3 := AutoSeq1.sub_list_list
  have hnn : ¬ (us1.size != us2.size) = true := by simp [sa, sb]
  wp_walk using wpAny_loadPart' kl, wpAny_loadPart' kb
  exact ⟨plainId_quiet plain_eq_loop _, codeAny_builtin entry_eq_loop (by
    rw [Around.under_plainId plain_eq_loop _]
    exact again)⟩
end
end Dl.G
set_option Elab.async false
set_option linter.all false
set_option maxRecDepth 100000
set_option maxHeartbeats 4000000
namespace Dl.G
open PySem PySem.SeqAt
open AutoSeq1 (wpAny_loadPart')
open MeetsSeq MeetsSeq2 MeetsSeq3 SeqRoads2
section
variable {prg : Program} {w : World} {A : Around} {R : Result → Shared → Prop}
theorem tuple_eqB (l b : Addr) (us1 us2 : Array Value) (n n2 : Nat) (dd dd2 : Option Addr) (sl sl2 : Array (Option Value)) (e : Nat → Bool) (I : Shared → Prop)
    (trn : ∀ i (h1 : i < us1.size) (h2 : i < us2.size) s, I s → wpAny (model prg w) A.in1 (eqBool us1[i] us2[i]) (fun r s' => r = e i ∧ I s') (fun e s' => R (.error e) s') s)
    (fn : ∀ s, I s → R (.ok (.ret (.bool ((List.range (min us1.size us2.size)).all e && us1.size == us2.size)))) s) {s : Shared} (kl : s.heap.get? l = some { cls := .type "tuple", dict := dd, data := .seq us1 n, slots := sl }) (kb : s.heap.get? b = some { cls := .type "tuple", dict := dd2, data := .seq us2 n2, slots := sl2 }) (h : I s) :
    wpAny (model prg w) A.in1 (Builtin.«tuple.__eq__» ⟨[.ref l, .ref b], []⟩) (GQ.FinOf prg w A R) (fun e s' => R (.error e) s') s := by
  have f2 := AutoSeq1.sub_tuple_tuple
  have hZip : (us1.toList.zip us2.toList).length = min us1.size us2.size := by simp
  have h0 := h
  obtain ⟨hq0, g, d, tk0, os0⟩ := s
  wp_walk using wpAny_loadPart' kl, wpAny_loadPart' kb, wpAny_forIn_list _ (fun rest b s' => b.1 = none ∧ I s' ∧ ∃ i, rest = (us1.toList.zip us2.toList).drop i ∧ ∀ s, I s → R (.ok (.ret (.bool (((List.range (min us1.size us2.size)).drop i).all e && us1.size == us2.size)))) s) _
  case turn =>
    rintro ⟨y, x⟩ rest b s' ⟨hee, hI, i, hz, hRR⟩
    have lt1 : i < (us1.toList.zip us2.toList).length := by
      rcases Nat.lt_or_ge i (us1.toList.zip us2.toList).length with h' | h'
      · exact h'
      · rw [List.drop_of_length_le h'] at hz; cases hz
    have hm : i < min us1.size us2.size := hZip ▸ lt1
    have h1 : i < us1.size := Nat.lt_of_lt_of_le hm (Nat.min_le_left _ _)
    have h2 : i < us2.size := Nat.lt_of_lt_of_le hm (Nat.min_le_right _ _)
    rw [List.drop_eq_getElem_cons lt1] at hz
    injection hz with hpq hre
    have hy : y = us1[i] := by have := congrArg Prod.fst hpq; simpa using this
    have hx : x = us2[i] := by have := congrArg Prod.snd hpq; simpa using this
    subst hy hx
    have hdr : (List.range (min us1.size us2.size)).drop i = i :: (List.range (min us1.size us2.size)).drop (i + 1) := by simp [List.drop_eq_getElem_cons, hm]
    rw [hdr] at hRR
    refine wpAny_bind (wpAny_mono (trn i h1 h2 s' hI) (fun r s2 q2 => ?_) fun _ _ x => x)
    obtain ⟨hr, q2⟩ := q2
    subst hr
    cases hy : e i with
    | true =>
      wp_walk
      exact ⟨rfl, q2, i + 1, hre, fun s h => by
        have z := hRR s h
        rw [List.all_cons, hy, Bool.true_and] at z
        exact z⟩
    | false =>
      have z := hRR s2 q2
      rw [List.all_cons, hy] at z
      wp_walk
      simpa using z
  case fin =>
    rintro ⟨b1, b2⟩ s' ⟨hee, hI, i, hz, hRR⟩
    simp only at hee
    subst hee
    have hgge : min us1.size us2.size ≤ i := by
      rcases Nat.lt_or_ge i (us1.toList.zip us2.toList).length with h' | h'
      · rw [List.drop_eq_getElem_cons h'] at hz; cases hz
      · exact hZip ▸ h'
    have z := hRR s' hI
    rw [List.drop_of_length_le (by simpa using hgge)] at z
    wp_walk
    simpa [Builtin.Tuple.tupleCompareSizes] using z
  case h =>
    exact ⟨rfl, h0, 0, rfl, by simpa using fn⟩
theorem tuple_neB (l b : Addr) (us1 us2 : Array Value) (n n2 : Nat) (dd dd2 : Option Addr) (sl sl2 : Array (Option Value)) (e : Nat → Bool) (I : Shared → Prop)
    (trn : ∀ i (h1 : i < us1.size) (h2 : i < us2.size) s, I s → wpAny (model prg w) A.in1 (eqBool us1[i] us2[i]) (fun r s' => r = e i ∧ I s') (fun e s' => R (.error e) s') s)
    (fn : ∀ s, I s → R (.ok (.ret (.bool (!((List.range (min us1.size us2.size)).all e && us1.size == us2.size))))) s) {s : Shared} (kl : s.heap.get? l = some { cls := .type "tuple", dict := dd, data := .seq us1 n, slots := sl }) (kb : s.heap.get? b = some { cls := .type "tuple", dict := dd2, data := .seq us2 n2, slots := sl2 }) (h : I s) :
    wpAny (model prg w) A.in1 (Builtin.«tuple.__ne__» ⟨[.ref l, .ref b], []⟩) (GQ.FinOf prg w A R) (fun e s' => R (.error e) s') s := by
  have f2 := AutoSeq1.sub_tuple_tuple
  have hZip : (us1.toList.zip us2.toList).length = min us1.size us2.size := by simp
  have h0 := h
  obtain ⟨hq0, g, d, tk0, os0⟩ := s
  wp_walk using wpAny_loadPart' kl, wpAny_loadPart' kb, wpAny_forIn_list _ (fun rest b s' => b.1 = none ∧ I s' ∧ ∃ i, rest = (us1.toList.zip us2.toList).drop i ∧ ∀ s, I s → R (.ok (.ret (.bool (!(((List.range (min us1.size us2.size)).drop i).all e && us1.size == us2.size))))) s) _
  case turn =>
    rintro ⟨y, x⟩ rest b s' ⟨hee, hI, i, hz, hRR⟩
    have lt1 : i < (us1.toList.zip us2.toList).length := by
      rcases Nat.lt_or_ge i (us1.toList.zip us2.toList).length with h' | h'
      · exact h'
      · rw [List.drop_of_length_le h'] at hz; cases hz
    have hm : i < min us1.size us2.size := hZip ▸ lt1
    have h1 : i < us1.size := Nat.lt_of_lt_of_le hm (Nat.min_le_left _ _)
    have h2 : i < us2.size := Nat.lt_of_lt_of_le hm (Nat.min_le_right _ _)
    rw [List.drop_eq_getElem_cons lt1] at hz
    injection hz with hpq hre
    have hy : y = us1[i] := by have := congrArg Prod.fst hpq; simpa using this
    have hx : x = us2[i] := by have := congrArg Prod.snd hpq; simpa using this
    subst hy hx
    have hdr : (List.range (min us1.size us2.size)).drop i = i :: (List.range (min us1.size us2.size)).drop (i + 1) := by simp [List.drop_eq_getElem_cons, hm]
    rw [hdr] at hRR
    refine wpAny_bind (wpAny_mono (trn i h1 h2 s' hI) (fun r s2 q2 => ?_) fun _ _ x => x)
    obtain ⟨hr, q2⟩ := q2
    subst hr
    cases hy : e i with
    | true =>
      wp_walk
      exact ⟨rfl, q2, i + 1, hre, fun s h => by
        have z := hRR s h
        rw [List.all_cons, hy, Bool.true_and] at z
        exact z⟩
    | false =>
      have z := hRR s2 q2
      rw [List.all_cons, hy] at z
      wp_walk
      simpa using z
  case fin =>
    rintro ⟨b1, b2⟩ s' ⟨hee, hI, i, hz, hRR⟩
    simp only at hee
    subst hee
    have hgge : min us1.size us2.size ≤ i := by
      rcases Nat.lt_or_ge i (us1.toList.zip us2.toList).length with h' | h'
      · rw [List.drop_eq_getElem_cons h'] at hz; cases hz
      · exact hZip ▸ h'
    have z := hRR s' hI
    rw [List.drop_of_length_le (by simpa using hgge)] at z
    wp_walk
    simpa [Builtin.Tuple.tupleCompareSizes, bne] using z
  case h =>
    exact ⟨rfl, h0, 0, rfl, by simpa using fn⟩
end
section
variable {prg : Program} {w : World} {A : Around} {E : Value → Shared → Prop} {s : Shared}
theorem rc_listB {l b : Addr} {N : Nat} {e : Nat → Bool} {Q : Value → Shared → Prop} (hu : A.units < cLine) (I : Shared → Prop) (hl : ListB prg w A E l b N e I)
    (fin : ∀ s, I s → Q (.bool ((List.range N).all e)) s) (h : I s) : wpAny (model prg w) A (richCompare .Eq (.ref l) (.ref b)) Q E s := by
  obtain ⟨us1, us2, n, n2, kl, kb, _, _, _⟩ := hl _ h
  refine wpAny_richCompare_same_room (op := .Eq) ⟨_, kl, rfl⟩ ⟨_, kb, rfl⟩ F.slot_list_eq (GQ.call_here F.slot_list_eq ⟨_, kl, rfl⟩ F.entry_list_eq (F.args_list_eq_2 _ _) ?_) hu
  exact list_eqB (R := wants (fun v s' => v ≠ .notImplemented ∧ Q v s') E) l b N e I hl (fun s' q => ⟨(fun x => nomatch x), fin s' q⟩) h
theorem rcn_listB {l b : Addr} {N : Nat} {e : Nat → Bool} {Q : Value → Shared → Prop} (hu : A.units < cLine) (I : Shared → Prop) (hl : ListB prg w A E l b N e I)
    (fin : ∀ s, I s → Q (.bool (!(List.range N).all e)) s) (h : I s) : wpAny (model prg w) A (richCompare .NotEq (.ref l) (.ref b)) Q E s := by
  obtain ⟨us1, us2, n, n2, kl, kb, _, _, _⟩ := hl _ h
  refine wpAny_richCompare_same_room (op := .NotEq) ⟨_, kl, rfl⟩ ⟨_, kb, rfl⟩ F.slot_list_ne (GQ.call_here F.slot_list_ne ⟨_, kl, rfl⟩ F.entry_list_ne (F.args_list_ne_2 _ _) ?_) hu
  exact list_neB (R := wants (fun v s' => v ≠ .notImplemented ∧ Q v s') E) l b N e I hl (fun s' q => ⟨(fun x => nomatch x), fin s' q⟩) h
theorem rc_tupB {l b : Addr} {us1 us2 : Array Value} {e : Nat → Bool} {Q : Value → Shared → Prop} (hu : A.units < cLine) (I : Shared → Prop)
    (hl : s.heap.IsTuple l us1) (hb : s.heap.IsTuple b us2)
    (turn : ∀ i (h1 : i < us1.size) (h2 : i < us2.size) s, I s → wpAny (model prg w) A.in1 (eqBool us1[i] us2[i]) (fun r s' => r = e i ∧ I s') E s)
    (fin : ∀ s, I s → Q (.bool ((List.range (min us1.size us2.size)).all e && us1.size == us2.size)) s) (h : I s) : wpAny (model prg w) A (richCompare .Eq (.ref l) (.ref b)) Q E s := by
  obtain ⟨⟨cls, dd, data, sl⟩, ho, hcs, n, hdr⟩ := id hl
  obtain ⟨⟨cls2, dd2, data2, sl2⟩, ho2, hc2, n2, hd2⟩ := id hb
  simp only at hcs hdr hc2 hd2
  subst hcs hdr hc2 hd2
  refine wpAny_richCompare_same_room (op := .Eq) ⟨_, ho, rfl⟩ ⟨_, ho2, rfl⟩ F.slot_tuple_eq (GQ.call_here F.slot_tuple_eq ⟨_, ho, rfl⟩ F.entry_tuple_eq (F.args_tuple_eq_2 _ _) ?_) hu
  exact tuple_eqB (R := wants (fun v s' => v ≠ .notImplemented ∧ Q v s') E) l b us1 us2 n n2 dd dd2 sl sl2 e I turn (fun s' q => ⟨(fun x => nomatch x), fin s' q⟩) ho ho2 h
theorem rcn_tupB {l b : Addr} {us1 us2 : Array Value} {e : Nat → Bool} {Q : Value → Shared → Prop} (hu : A.units < cLine) (I : Shared → Prop)
    (hl : s.heap.IsTuple l us1) (hb : s.heap.IsTuple b us2)
    (turn : ∀ i (h1 : i < us1.size) (h2 : i < us2.size) s, I s → wpAny (model prg w) A.in1 (eqBool us1[i] us2[i]) (fun r s' => r = e i ∧ I s') E s)
    (fin : ∀ s, I s → Q (.bool (!((List.range (min us1.size us2.size)).all e && us1.size == us2.size))) s) (h : I s) : wpAny (model prg w) A (richCompare .NotEq (.ref l) (.ref b)) Q E s := by
  obtain ⟨⟨cls, dd, data, sl⟩, ho, hcs, n, hdr⟩ := id hl
  obtain ⟨⟨cls2, dd2, data2, sl2⟩, ho2, hc2, n2, hd2⟩ := id hb
  simp only at hcs hdr hc2 hd2
  subst hcs hdr hc2 hd2
  refine wpAny_richCompare_same_room (op := .NotEq) ⟨_, ho, rfl⟩ ⟨_, ho2, rfl⟩ F.slot_tuple_ne (GQ.call_here F.slot_tuple_ne ⟨_, ho, rfl⟩ F.entry_tuple_ne (F.args_tuple_ne_2 _ _) ?_) hu
  exact tuple_neB (R := wants (fun v s' => v ≠ .notImplemented ∧ Q v s') E) l b us1 us2 n n2 dd dd2 sl sl2 e I turn (fun s' q => ⟨(fun x => nomatch x), fin s' q⟩) ho ho2 h
/-- == of two objects inside a builtin: the same object is equal to itself -/
theorem eqBool_refB {l b : Addr} {Q : Bool → Shared → Prop} (hs : l = b → Q true s) (h : l ≠ b → wpAny (model prg w) A (richCompare .Eq (.ref l) (.ref b)) (fun v s' => ∃ r, v = .bool r ∧ Q r s') E s) : wpAny (model prg w) A (eqBool (.ref l) (.ref b)) Q E s := by
  by_cases e : l = b
  · subst e
    exact SeqAt.EqAt.same (A := A) (s := s) (.ref l) prg w E Q (hs rfl)
  · exact GQ.eqBool_refG e (h e)
end
end Dl.G
set_option Elab.async false
set_option linter.all false
set_option maxRecDepth 100000
set_option maxHeartbeats 4000000
namespace Dl.G
open PySem PySem.Spec PySem.SeqAt
section
variable {prg : Program} {w : World} {A A₀ : Around} {E : Value → Shared → Prop} {s : Shared} {K : PySem.W.Frag} {x C f : Addr} {ox : Obj} {od : Option Obj} {b tb : Value}
/-- a class with an __eq__ of its own and the __ne__ of object -/
theorem ifBound_ne {M : Model} {args : List Value} {Q : Option Value → Shared → Prop} (X : K.In s.heap) (I : PySem.W.InstAt s.heap x ox C od) (hs : PySem.W.findIn K (.ref C) "__ne__" = some (some (.builtin "object.__ne__")))
    (h : wpAny M A (call (.builtin "object.__ne__") (.ref x :: args)) (fun v => Q (some v)) E s) : wpAny M A (callSpecialIfBound? (.ref x) "__ne__" args) Q E s := by
  simp only [callSpecialIfBound?, bindSpecialIfBound?]
  refine wpAny_holding (wpAny_bind (wpAny_bind (wpAny_bind (I.type.here ((PySem.W.looks_findIn X hs).here ?_)))))
  refine wpAny_bind (wpAny_askSetting (wpAny_ite ?_))
  have go : wpAny M A (call (.builtin "object.__ne__") ([.ref x] ++ args) >>= fun v => pure (some v)) Q E s := wpAny_bind (wpAny_mono h (fun v s' h' => wpAny_pure h') fun _ _ h' => h')
  split
  · exact wpAny_bind (wpAny_of_eq (F.cmp_object.ne.bind _) (wpAny_pure (by exact go)))
  · exact wpAny_tryCatch (wpAny_bind (wpAny_of_eq (F.cmp_object.ne.bind _) (wpAny_pure (by exact go))))
theorem entry_ne (hu : A.units < cLine) (X : K.In s.heap) (I : PySem.W.InstAt s.heap x ox C od) (hs : PySem.W.findIn K (.ref C) "__eq__" = some (some (.ref f))) (hf : PySem.W.isFn K (.ref f) = true) {Q : Fin → Shared → Prop}
    (h : wpAny (model prg w) A (call (.ref f) [.ref x, b]) (fun v s' => ∃ r, v = .bool r ∧ Q (.done (.ret (.bool (!r)))) s') E s) : wpAny (model prg w) A (Builtin.«object.__ne__» ⟨[.ref x, b], []⟩) Q E s := by
  unfold Builtin.«object.__ne__»
  repeat (first
    | with_reducible refine wpAny_cRoomFor hu ?_
    | (refine wpAny_bind (m := callSpecialIfBound? (.ref x) (Str.ofString "__eq__") [b])
        (PySem.W.ifBound_K X I hs hf (wpAny_mono h (fun r s' hr => by
          obtain ⟨b, rfl, hq⟩ := hr
          repeat (first | exact hq | exact wpAny_pure hq | exact wpAny_truthy_bool hq | (refine wpAny_bind (m := truthy (.bool _)) (wpAny_truthy_bool ?_)) | wp_step)) fun _ _ e => e)))
    | wp_step)
theorem ncmp_K {Q : Value → Shared → Prop} (hu : A.units + 1 < cLine) (X : K.In s.heap) (I : PySem.W.InstAt s.heap x ox C od) (hb : PySem.W.Looks (model prg w) s.heap (typeOf b) tb) (hn : PySem.W.notFirst K C tb = true) (hm : PySem.W.mroIn K C (.type "object") = some true)
    (hs : PySem.W.findIn K (.ref C) "__eq__" = some (some (.ref f))) (hnn : PySem.W.findIn K (.ref C) "__ne__" = some (some (.builtin "object.__ne__"))) (hf : PySem.W.isFn K (.ref f) = true)
    (h : wpAny (model prg w) A.in1 (call (.ref f) [.ref x, b]) (fun v s' => ∃ r, v = .bool r ∧ Q (.bool (!r)) s') E s) : wpAny (model prg w) A (richCompare .NotEq (.ref x) b) Q E s := by
  have one : wpAny (model prg w) A (tryCompare (.ref x) "__ne__" b) (fun r s' => ∃ v, r = some v ∧ Q v s') E s := by
    unfold tryCompare
    refine wpAny_bind (ifBound_ne X I hnn (wpAny_call (codeAny_call_builtin F.cmp_object.ne.plain F.cmpEntry_ne (PySem.W.check_slot F.cmpKind_ne F.cmpSplit_ne (I.type.andThen (PySem.W.looks_mroIn X hm)) (F.cmpArgs_ne _ _) (entry_ne (A := A.in1) hu X I hs hf (wpAny_mono h (fun v s' hv => ?_) fun _ _ e => e))))))
    obtain ⟨r, rfl, q⟩ := hv
    refine ⟨r, rfl, ?_⟩
    exact wpAny_pure ⟨_, rfl, q⟩
  unfold richCompare
  simp only [oneThing_ref]
  refine wpAny_holding (wpAny_bind (wpAny_cRoomFor (Nat.lt_of_succ_lt hu) ?_))
  refine wpAny_bind (I.type.here (wpAny_bind (hb.here ?_)))
  split
  · rename_i q
    have e : PySem.W.subIn K tb (.ref C) = some false := by
      rcases Bool.or_eq_true_iff.mp hn with e | e
      · rw [beq_iff_eq.mp e] at q; simp at q
      · exact beq_iff_eq.mp e
    refine wpAny_bind ((PySem.W.looks_subIn X e).here ?_)
    simp only [Bool.false_eq_true, if_false]
    refine wpAny_bind (wpAny_mono one (fun r s' z => ?_) fun _ _ e => e)
    obtain ⟨v, rfl, hq⟩ := z
    exact wpAny_pure hq
  · refine wpAny_bind (wpAny_pure ?_)
    simp only [Bool.false_eq_true, if_false]
    refine wpAny_bind (wpAny_mono one (fun r s' z => ?_) fun _ _ e => e)
    obtain ⟨v, rfl, hq⟩ := z
    exact wpAny_pure hq
end
end Dl.G
set_option Elab.async false
set_option linter.all false
set_option maxRecDepth 100000
set_option maxHeartbeats 4000000
namespace Dl
open PySem PySem.Spec L2
mutual
def eqD : D → D → Bool
  | .non, .non => true
  | .bl a, .bl b => a == b
  | .bl a, .int b => (if a then 1 else 0) == b
  | .int a, .bl b => a == (if b then 1 else 0)
  | .int a, .int b => a == b
  | .str a, .str b => a == b
  | .lst xs, .lst ys => eqDs xs ys
  | .tup xs, .tup ys => eqDs xs ys
  | .obj c fs, .obj c' gs => c == c' && eqDs fs gs
  | .tok j, .tok k => j == 7 && k == 7
  | _, _ => false
def eqDs : List D → List D → Bool
  | [], [] => true
  | x :: xs, y :: ys => eqD x y && eqDs xs ys
  | _, _ => false
end
/-- kinds -/
def flatD : D → Bool
  | .non => true
  | .bl _ => true
  | .int _ => true
  | .str _ => true
  | _ => false
def isLstD : D → Bool
  | .lst _ => true
  | _ => false
def isTupD : D → Bool
  | .tup _ => true
  | _ => false
/-- the classes with an == of their own: the room that it wants, what it does -/
abbrev EqT := Nat → Option (Nat × Wf)
/-- what may stand on the right of an own == -/
def ownRight (T : EqT) : D → Bool
  | .obj c _ => (T c).isSome
  | .tok k => k == 7
  | d => flatD d || isLstD d || isTupD d
mutual
/-- data through and through -/
def pureD (T : EqT) : D → Bool
  | .non => true
  | .bl _ => true
  | .int _ => true
  | .str _ => true
  | .lst xs => pureDs T xs
  | .tup xs => pureDs T xs
  | .obj c fs => (T c).isSome && pureDs T fs
  | .tok k => k == 7
  | _ => false
def pureDs (T : EqT) : List D → Bool
  | [] => true
  | x :: xs => pureD T x && pureDs T xs
end
mutual
/-- == is told of these, with so much room -/
def okE (T : EqT) : D → D → Nat → Prop
  | .lst xs, .lst ys, n => xs.length = ys.length → ∃ m, n = m + 1 ∧ okEs T xs ys m
  | .tup xs, .tup ys, n => ∃ m, n = m + 1 ∧ okEs T xs ys m
  | .obj c fs, y, n => ∃ k wf, T c = some (k, wf) ∧ k ≤ n ∧ ownRight T y = true ∧ (pureD T (.obj c fs) && pureD T y) = true ∧ wf [.obj c fs, y] (fun r => r = .bl (eqD (.obj c fs) y)) (fun _ _ => False)
  | .lst _, y, _ => (flatD y || isTupD y) = true
  | .tup _, y, _ => (flatD y || isLstD y) = true
  | .non, y, _ => (flatD y || isLstD y || isTupD y) = true
  | .bl _, y, _ => (flatD y || isLstD y || isTupD y) = true
  | .int _, y, _ => (flatD y || isLstD y || isTupD y) = true
  | .str _, y, _ => (flatD y || isLstD y || isTupD y) = true
  | .tok j, .tok k, _ => j = 7 ∧ k = 7
  | _, _, _ => False
def okEs (T : EqT) : List D → List D → Nat → Prop
  | x :: xs, y :: ys, n => okE T x y n ∧ okEs T xs ys n
  | _, _, _ => True
end
/-- the item-wise answer -/
theorem okEs_get {T : EqT} {n : Nat} : ∀ {xs ys : List D} {i : Nat} {x y : D}, okEs T xs ys n → xs[i]? = some x → ys[i]? = some y → okE T x y n
  | [], _, _, _, _, _, h, _ => by simp at h
  | _ :: _, [], _, _, _, _, _, h => by simp at h
  | a :: xs, b :: ys, 0, x, y, h, h1, h2 => by
    simp at h1 h2
    subst h1
    subst h2
    simp only [okEs] at h
    exact h.1
  | a :: xs, b :: ys, i + 1, x, y, h, h1, h2 => by
    simp only [okEs] at h
    exact okEs_get (i := i) h.2 (by simpa using h1) (by simpa using h2)
def eqAtI (xs ys : List D) (i : Nat) : Bool := match xs[i]?, ys[i]? with
  | some x, some y => eqD x y
  | _, _ => false
theorem all_range_succ (e : Nat → Bool) (n : Nat) : (List.range (n + 1)).all e = (e 0 && (List.range n).all fun i => e (i + 1)) := by
  rw [List.range_succ_eq_map, List.all_cons, List.all_map]
  rfl
theorem eqDs_all : ∀ {xs ys : List D}, ((List.range (min xs.length ys.length)).all (eqAtI xs ys) && xs.length == ys.length) = eqDs xs ys
  | [], [] => by simp [eqDs]
  | [], _ :: _ => by simp [eqDs]
  | _ :: _, [] => by simp [eqDs]
  | x :: xs, y :: ys => by
    have ih := eqDs_all (xs := xs) (ys := ys)
    simp only [List.length_cons, Nat.add_min_add_right, all_range_succ, eqDs]
    rw [← ih]
    have e0 : eqAtI (x :: xs) (y :: ys) 0 = eqD x y := rfl
    have e1 : (fun i => eqAtI (x :: xs) (y :: ys) (i + 1)) = eqAtI xs ys := by
      funext i
      simp [eqAtI]
    rw [e0, e1, Bool.and_assoc]
    congr 2
    simp
theorem eqDs_all' {xs ys : List D} (h : xs.length = ys.length) : (List.range xs.length).all (eqAtI xs ys) = eqDs xs ys := by
  rw [← eqDs_all, ← h, Nat.min_self]
  simp
theorem eqDs_len : ∀ {xs ys : List D}, xs.length ≠ ys.length → eqDs xs ys = false
  | [], [], h => absurd rfl h
  | [], _ :: _, _ => by simp [eqDs]
  | _ :: _, [], _ => by simp [eqDs]
  | x :: xs, y :: ys, h => by
    simp only [eqDs]
    rw [eqDs_len (xs := xs) (ys := ys) (fun z => h (by simp [z])), Bool.and_false]
/-- the classes stand apart -/
def ApartT (T : EqT) (ct : CT) : Prop := ∀ c c', (T c).isSome = true → (T c').isSome = true → ct.addr c = ct.addr c' → c = c'
theorem zip_inj {nm : List Str} : ∀ {vs us : List V}, vs.length = nm.length → us.length = nm.length → nm.zip vs = nm.zip us → vs = us := by
  induction nm with
  | nil =>
    intro vs us h1 h2 _
    rw [List.eq_nil_of_length_eq_zero h1, List.eq_nil_of_length_eq_zero h2]
  | cons n nm ih =>
    intro vs us h1 h2 h
    cases vs with
    | nil => cases h1
    | cons v vs =>
      cases us with
      | nil => cases h2
      | cons u us =>
        simp only [List.zip_cons_cons, List.cons.injEq, Prod.mk.injEq, true_and] at h
        rw [h.1, ih (Nat.succ.inj h1) (Nat.succ.inj h2) h.2]
section
variable {K : PySem.W.Frag} {ct : CT} {T : EqT} {H : Hp} {O : Addr → Prop} (ap : ApartT T ct) (tj : ∀ {a : Addr} {vs us : List V}, SqT K H a vs → SqT K H a us → vs = us) (tl : ∀ {a : Addr} {vs us : List V}, H a = some (.lst vs) → ¬ SqT K H a us) (ti : ∀ {a : Addr} {C dx : Addr} {fs us}, H a = some (.ins C dx fs) → ¬ SqT K H a us) (tk : ∀ a, ct.tok 7 a = .dK []) (td : ∀ {a : Addr} {kvs us}, H a = some (.dK kvs) → ¬ SqT K H a us)
include ap tj tl ti tk td
mutual
/-- one and the same value -/
theorem same_eqD : ∀ {d d' : D} {v : V}, pureD T d = true → pureD T d' = true → Rep K ct H O d v → Rep K ct H O d' v → eqD d d' = true
  | .non, d', v, p, p', r, r' => by
    rw [rep_non] at r
    subst r
    cases d' <;> first | (simp [pureD] at p'; done) | (simp [Rep] at r'; done) | simp [eqD]
  | .bl b, d', v, p, p', r, r' => by
    rw [rep_bl] at r
    subst r
    cases d' <;> first | (simp [pureD] at p'; done) | (simp [Rep] at r'; done) | (simp [Rep] at r'; simp [eqD, r'])
  | .int b, d', v, p, p', r, r' => by
    rw [rep_int] at r
    subst r
    cases d' <;> first | (simp [pureD] at p'; done) | (simp [Rep] at r'; done) | (simp [Rep] at r'; simp [eqD, r'])
  | .str b, d', v, p, p', r, r' => by
    rw [rep_str] at r
    subst r
    cases d' <;> first | (simp [pureD] at p'; done) | (simp [Rep] at r'; done) | (simp [Rep] at r'; simp [eqD, r'])
  | .lst xs, d', v, p, p', r, r' => by
    obtain ⟨a, vs, rfl, _, l, rl⟩ := rep_lst.mp r
    cases d' with
    | lst ys =>
      obtain ⟨a', vs', e, _, l', rl'⟩ := rep_lst.mp r'
      cases e
      rw [l] at l'
      cases l'
      simp only [eqD]
      exact same_eqDs (by simpa [pureD] using p) (by simpa [pureD] using p') rl rl'
    | tup ys =>
      obtain ⟨a', vs', e, l', rl'⟩ := rep_tup.mp r'
      cases e
      exact absurd l' (tl l)
    | obj c gs =>
      obtain ⟨a', dx, vs', e, _, l', _⟩ := rep_obj.mp r'
      cases e
      rw [l] at l'
      cases l'
    | tok k =>
      obtain ⟨a', e, _, l'⟩ := rep_tok.mp r'
      cases e
      cases (show k = 7 by simpa [pureD] using p')
      rw [tk, l] at l'
      cases l'
    | _ => first | (simp [pureD] at p'; done) | (simp [Rep] at r'; done)
  | .tup xs, d', v, p, p', r, r' => by
    obtain ⟨a, vs, rfl, l, rl⟩ := rep_tup.mp r
    cases d' with
    | lst ys =>
      obtain ⟨a', vs', e, _, l', rl'⟩ := rep_lst.mp r'
      cases e
      exact absurd l (tl l')
    | tup ys =>
      obtain ⟨a', vs', e, l', rl'⟩ := rep_tup.mp r'
      cases e
      cases tj l l'
      simp only [eqD]
      exact same_eqDs (by simpa [pureD] using p) (by simpa [pureD] using p') rl rl'
    | obj c gs =>
      obtain ⟨a', dx, vs', e, _, l', _⟩ := rep_obj.mp r'
      cases e
      exact absurd l (ti l')
    | tok k =>
      obtain ⟨a', e, _, l'⟩ := rep_tok.mp r'
      cases e
      cases (show k = 7 by simpa [pureD] using p')
      rw [tk] at l'
      exact absurd l (td l')
    | _ => first | (simp [pureD] at p'; done) | (simp [Rep] at r'; done)
  | .obj c fs, d', v, p, p', r, r' => by
    obtain ⟨a, dx, vs, rfl, _, l, hl, rl⟩ := rep_obj.mp r
    cases d' with
    | lst ys =>
      obtain ⟨a', vs', e, _, l', rl'⟩ := rep_lst.mp r'
      cases e
      rw [l] at l'
      cases l'
    | tup ys =>
      obtain ⟨a', vs', e, l', rl'⟩ := rep_tup.mp r'
      cases e
      exact absurd l' (ti l)
    | obj c' gs =>
      obtain ⟨a', dx', vs', e, _, l', hl', rl'⟩ := rep_obj.mp r'
      cases e
      simp only [pureD, Bool.and_eq_true] at p p'
      rw [l] at l'
      injection l' with l'
      injection l' with e1 e2 e3
      cases ap c c' p.1 p'.1 e1
      cases zip_inj hl hl' e3
      simp only [eqD, beq_self_eq_true, Bool.true_and]
      exact same_eqDs p.2 p'.2 rl rl'
    | tok k =>
      obtain ⟨a', e, _, l'⟩ := rep_tok.mp r'
      cases e
      cases (show k = 7 by simpa [pureD] using p')
      rw [tk, l] at l'
      cases l'
    | _ => first | (simp [pureD] at p'; done) | (simp [Rep] at r'; done)
  | .ty _, _, _, p, _, _, _ => by cases p
  | .scr _, _, _, p, _, _, _ => by cases p
  | .cls _, _, _, p, _, _, _ => by cases p
  | .tok j, d', v, p, p', r, r' => by
    obtain ⟨a, rfl, _, l⟩ := rep_tok.mp r
    cases (show j = 7 by simpa [pureD] using p)
    rw [tk] at l
    cases d' with
    | lst ys =>
      obtain ⟨a', vs', e, _, l', rl'⟩ := rep_lst.mp r'
      cases e
      rw [l] at l'
      cases l'
    | tup ys =>
      obtain ⟨a', vs', e, l', rl'⟩ := rep_tup.mp r'
      cases e
      exact absurd l' (td l)
    | obj c gs =>
      obtain ⟨a', dx, vs', e, _, l', _⟩ := rep_obj.mp r'
      cases e
      rw [l] at l'
      cases l'
    | tok k =>
      cases (show k = 7 by simpa [pureD] using p')
      simp [eqD]
    | _ => first | (simp [pureD] at p'; done) | (simp [Rep] at r'; done)
theorem same_eqDs : ∀ {ds ds' : List D} {vs : List V}, pureDs T ds = true → pureDs T ds' = true → RepL K ct H O ds vs → RepL K ct H O ds' vs → eqDs ds ds' = true
  | [], ds', vs, p, p', r, r' => by
    simp only [RepL] at r
    subst r
    cases ds' with
    | nil => simp [eqDs]
    | cons d ds =>
      obtain ⟨_, _, e, _⟩ := r'.cons_inv
      cases e
  | d :: ds, ds', vs, p, p', r, r' => by
    obtain ⟨v, q, rfl, h1, h2⟩ := r.cons_inv
    cases ds' with
    | nil =>
      simp only [RepL] at r'
      cases r'
    | cons d' ds' =>
      obtain ⟨v', q', e, h1', h2'⟩ := r'.cons_inv
      cases e
      simp only [pureDs, Bool.and_eq_true] at p p'
      simp only [eqDs, Bool.and_eq_true]
      exact ⟨same_eqD p.1 p'.1 h1 h1', same_eqDs p.2 p'.2 h2 h2'⟩
end
end
/-- what an own == wants -/
structure EqAtO (X : Cx) (ct : CT) (T : EqT) (c k : Nat) (wf : Wf) : Prop where
  fn : ∃ f fd ps, PySem.W.findIn X.K (.ref (ct.addr c)) "__eq__" = some (some (.ref f)) ∧ PySem.W.isFn X.K (.ref f) = true ∧ FnOk X.prog X.w X.K X.mg X.base (L2.CX X.prog X.w) k f fd ps (spD X.K ct wf) ∧ Binds X.K fd ps []
  ne : PySem.W.findIn X.K (.ref (ct.addr c)) "__ne__" = some (some (.builtin "object.__ne__"))
  ob : PySem.W.mroIn X.K (ct.addr c) (.type "object") = some true
  bt : (["NoneType", "bool", "int", "str", "list", "tuple", "dict"].all fun n => PySem.W.notFirst X.K (ct.addr c) (.type n)) = true
  ow : ∀ c', (T c').isSome = true → PySem.W.notFirst X.K (ct.addr c) (.ref (ct.addr c')) = true
section
variable {X : Cx} {ct : CT} {T : EqT} {W : WX}
theorem looks_flat {d : D} {v : V} {u : Value} {H : Hp} {O : Addr → Prop} {h : Heap} (r : Rep X.K ct H O d v) (ru : RelV v u) (f : flatD d = true) : ∃ n, n ∈ ["NoneType", "bool", "int", "str", "list", "tuple", "dict"] ∧ PySem.W.Looks (model X.prog X.w) h (typeOf u) (.type n) := by
  cases d with
  | non =>
    rw [rep_non] at r
    subst r
    cases ru
    exact ⟨"NoneType", by simp, PySem.W.Looks.of_pure rfl⟩
  | bl b =>
    rw [rep_bl] at r
    subst r
    cases ru
    exact ⟨"bool", by simp, PySem.W.Looks.of_pure rfl⟩
  | int i =>
    rw [rep_int] at r
    subst r
    obtain ⟨t, rfl⟩ := ru
    exact ⟨"int", by simp, PySem.W.Looks.of_pure rfl⟩
  | str i =>
    rw [rep_str] at r
    subst r
    obtain ⟨t, rfl⟩ := ru
    exact ⟨"str", by simp, PySem.W.Looks.of_pure rfl⟩
  | _ => cases f
end
end Dl
set_option Elab.async false
set_option linter.all false
set_option maxRecDepth 100000
set_option maxHeartbeats 4000000
namespace Dl
open PySem PySem.Spec L2
section
variable {X : Cx} {ct : CT}
theorem flat_EqAt {A : Around} {s : Shared} {H : Hp} {O : Addr → Prop} {d d' : D} {x y : V} {u v : Value} (r : Rep X.K ct H O d x) (r' : Rep X.K ct H O d' y) (ru : RelV x u) (rv : RelV y v) (f : flatD d = true) (f' : flatD d' = true) : SeqAt.EqAt A s u v (eqD d d') := by
  cases d with
  | non =>
    rw [rep_non] at r
    subst r
    cases ru
    cases d' with
    | non =>
      rw [rep_non] at r'
      subst r'
      cases rv
      simpa only [eqD] using SeqAt.EqAt.same (A := A) (s := s) .none
    | bl b2 =>
      rw [rep_bl] at r'
      subst r'
      cases rv
      have z := SeqAt.EqAt.none_bool (A := A) (s := s) b2
      simpa only [eqD, Bool.not_true, Bool.not_false] using z
    | int i2 =>
      rw [rep_int] at r'
      subst r'
      obtain ⟨t2, rfl⟩ := rv
      have z := SeqAt.EqAt.none_int (A := A) (s := s) i2 t2
      simpa only [eqD, Bool.not_true, Bool.not_false] using z
    | str w2 =>
      rw [rep_str] at r'
      subst r'
      obtain ⟨t2, rfl⟩ := rv
      have z := SeqAt.EqAt.none_str (A := A) (s := s) w2 t2
      simpa only [eqD, Bool.not_true, Bool.not_false] using z
    | _ => cases f'
  | bl b =>
    rw [rep_bl] at r
    subst r
    cases ru
    cases d' with
    | non =>
      rw [rep_non] at r'
      subst r'
      cases rv
      have z := SeqAt.EqAt.bool_none (A := A) (s := s) b
      simpa only [eqD, Bool.not_true, Bool.not_false] using z
    | bl b2 =>
      rw [rep_bl] at r'
      subst r'
      cases rv
      have z := SeqAt.EqAt.bool_bool (A := A) (s := s) b b2
      simpa only [eqD, Bool.not_true, Bool.not_false] using z
    | int i2 =>
      rw [rep_int] at r'
      subst r'
      obtain ⟨t2, rfl⟩ := rv
      have z := SeqAt.EqAt.bool_int (A := A) (s := s) b i2 t2
      simpa only [eqD, Bool.not_true, Bool.not_false] using z
    | str w2 =>
      rw [rep_str] at r'
      subst r'
      obtain ⟨t2, rfl⟩ := rv
      have z := SeqAt.EqAt.bool_str (A := A) (s := s) b w2 t2
      simpa only [eqD, Bool.not_true, Bool.not_false] using z
    | _ => cases f'
  | int i =>
    rw [rep_int] at r
    subst r
    obtain ⟨t, rfl⟩ := ru
    cases d' with
    | non =>
      rw [rep_non] at r'
      subst r'
      cases rv
      have z := SeqAt.EqAt.int_none (A := A) (s := s) i t
      simpa only [eqD, Bool.not_true, Bool.not_false] using z
    | bl b2 =>
      rw [rep_bl] at r'
      subst r'
      cases rv
      have z := SeqAt.EqAt.int_bool (A := A) (s := s) i t b2
      simpa only [eqD, Bool.not_true, Bool.not_false] using z
    | int i2 =>
      rw [rep_int] at r'
      subst r'
      obtain ⟨t2, rfl⟩ := rv
      have z := SeqAt.EqAt.int_int (A := A) (s := s) i t i2 t2
      simpa only [eqD, Bool.not_true, Bool.not_false] using z
    | str w2 =>
      rw [rep_str] at r'
      subst r'
      obtain ⟨t2, rfl⟩ := rv
      have z := SeqAt.EqAt.int_str (A := A) (s := s) i t w2 t2
      simpa only [eqD, Bool.not_true, Bool.not_false] using z
    | _ => cases f'
  | str w =>
    rw [rep_str] at r
    subst r
    obtain ⟨t, rfl⟩ := ru
    cases d' with
    | non =>
      rw [rep_non] at r'
      subst r'
      cases rv
      have z := SeqAt.EqAt.str_none (A := A) (s := s) w t
      simpa only [eqD, Bool.not_true, Bool.not_false] using z
    | bl b2 =>
      rw [rep_bl] at r'
      subst r'
      cases rv
      have z := SeqAt.EqAt.str_bool (A := A) (s := s) w t b2
      simpa only [eqD, Bool.not_true, Bool.not_false] using z
    | int i2 =>
      rw [rep_int] at r'
      subst r'
      obtain ⟨t2, rfl⟩ := rv
      have z := SeqAt.EqAt.str_int (A := A) (s := s) w t i2 t2
      simpa only [eqD, Bool.not_true, Bool.not_false] using z
    | str w2 =>
      rw [rep_str] at r'
      subst r'
      obtain ⟨t2, rfl⟩ := rv
      have z := SeqAt.EqAt.str_str (A := A) (s := s) w t w2 t2
      simpa only [eqD, Bool.not_true, Bool.not_false] using z
    | _ => cases f'
  | _ => cases f
theorem flat_RcAt {A : Around} {s : Shared} {H : Hp} {O : Addr → Prop} {d d' : D} {x y : V} {u v : Value} (r : Rep X.K ct H O d x) (r' : Rep X.K ct H O d' y) (ru : RelV x u) (rv : RelV y v) (f : flatD d = true) (f' : flatD d' = true) : SeqAt.RcAt A s u v (eqD d d') := by
  cases d with
  | non =>
    rw [rep_non] at r
    subst r
    cases ru
    cases d' with
    | non =>
      rw [rep_non] at r'
      subst r'
      cases rv
      have z := SeqAt.RcAt.none_none (A := A) (s := s) 
      simpa only [eqD, Bool.not_true, Bool.not_false] using z
    | bl b2 =>
      rw [rep_bl] at r'
      subst r'
      cases rv
      have z := SeqAt.RcAt.none_bool (A := A) (s := s) b2
      simpa only [eqD, Bool.not_true, Bool.not_false] using z
    | int i2 =>
      rw [rep_int] at r'
      subst r'
      obtain ⟨t2, rfl⟩ := rv
      have z := SeqAt.RcAt.none_int (A := A) (s := s) i2 t2
      simpa only [eqD, Bool.not_true, Bool.not_false] using z
    | str w2 =>
      rw [rep_str] at r'
      subst r'
      obtain ⟨t2, rfl⟩ := rv
      have z := SeqAt.RcAt.none_str (A := A) (s := s) w2 t2
      simpa only [eqD, Bool.not_true, Bool.not_false] using z
    | _ => cases f'
  | bl b =>
    rw [rep_bl] at r
    subst r
    cases ru
    cases d' with
    | non =>
      rw [rep_non] at r'
      subst r'
      cases rv
      have z := SeqAt.RcAt.bool_none (A := A) (s := s) b
      simpa only [eqD, Bool.not_true, Bool.not_false] using z
    | bl b2 =>
      rw [rep_bl] at r'
      subst r'
      cases rv
      have z := SeqAt.RcAt.bool_bool (A := A) (s := s) b b2
      simpa only [eqD, Bool.not_true, Bool.not_false] using z
    | int i2 =>
      rw [rep_int] at r'
      subst r'
      obtain ⟨t2, rfl⟩ := rv
      have z := SeqAt.RcAt.bool_int (A := A) (s := s) b i2 t2
      simpa only [eqD, Bool.not_true, Bool.not_false] using z
    | str w2 =>
      rw [rep_str] at r'
      subst r'
      obtain ⟨t2, rfl⟩ := rv
      have z := SeqAt.RcAt.bool_str (A := A) (s := s) b w2 t2
      simpa only [eqD, Bool.not_true, Bool.not_false] using z
    | _ => cases f'
  | int i =>
    rw [rep_int] at r
    subst r
    obtain ⟨t, rfl⟩ := ru
    cases d' with
    | non =>
      rw [rep_non] at r'
      subst r'
      cases rv
      have z := SeqAt.RcAt.int_none (A := A) (s := s) i t
      simpa only [eqD, Bool.not_true, Bool.not_false] using z
    | bl b2 =>
      rw [rep_bl] at r'
      subst r'
      cases rv
      have z := SeqAt.RcAt.int_bool (A := A) (s := s) i t b2
      simpa only [eqD, Bool.not_true, Bool.not_false] using z
    | int i2 =>
      rw [rep_int] at r'
      subst r'
      obtain ⟨t2, rfl⟩ := rv
      have z := SeqAt.RcAt.int_int (A := A) (s := s) i t i2 t2
      simpa only [eqD, Bool.not_true, Bool.not_false] using z
    | str w2 =>
      rw [rep_str] at r'
      subst r'
      obtain ⟨t2, rfl⟩ := rv
      have z := SeqAt.RcAt.int_str (A := A) (s := s) i t w2 t2
      simpa only [eqD, Bool.not_true, Bool.not_false] using z
    | _ => cases f'
  | str w =>
    rw [rep_str] at r
    subst r
    obtain ⟨t, rfl⟩ := ru
    cases d' with
    | non =>
      rw [rep_non] at r'
      subst r'
      cases rv
      have z := SeqAt.RcAt.str_none (A := A) (s := s) w t
      simpa only [eqD, Bool.not_true, Bool.not_false] using z
    | bl b2 =>
      rw [rep_bl] at r'
      subst r'
      cases rv
      have z := SeqAt.RcAt.str_bool (A := A) (s := s) w t b2
      simpa only [eqD, Bool.not_true, Bool.not_false] using z
    | int i2 =>
      rw [rep_int] at r'
      subst r'
      obtain ⟨t2, rfl⟩ := rv
      have z := SeqAt.RcAt.str_int (A := A) (s := s) w t i2 t2
      simpa only [eqD, Bool.not_true, Bool.not_false] using z
    | str w2 =>
      rw [rep_str] at r'
      subst r'
      obtain ⟨t2, rfl⟩ := rv
      have z := SeqAt.RcAt.str_str (A := A) (s := s) w t w2 t2
      simpa only [eqD, Bool.not_true, Bool.not_false] using z
    | _ => cases f'
  | _ => cases f
theorem flat_RcNeAt {A : Around} {s : Shared} {H : Hp} {O : Addr → Prop} {d d' : D} {x y : V} {u v : Value} (r : Rep X.K ct H O d x) (r' : Rep X.K ct H O d' y) (ru : RelV x u) (rv : RelV y v) (f : flatD d = true) (f' : flatD d' = true) : SeqAt.RcNeAt A s u v (!eqD d d') := by
  cases d with
  | non =>
    rw [rep_non] at r
    subst r
    cases ru
    cases d' with
    | non =>
      rw [rep_non] at r'
      subst r'
      cases rv
      have z := SeqAt.RcNeAt.none_none (A := A) (s := s) 
      simpa only [eqD, Bool.not_true, Bool.not_false] using z
    | bl b2 =>
      rw [rep_bl] at r'
      subst r'
      cases rv
      have z := SeqAt.RcNeAt.none_bool (A := A) (s := s) b2
      simpa only [eqD, Bool.not_true, Bool.not_false] using z
    | int i2 =>
      rw [rep_int] at r'
      subst r'
      obtain ⟨t2, rfl⟩ := rv
      have z := SeqAt.RcNeAt.none_int (A := A) (s := s) i2 t2
      simpa only [eqD, Bool.not_true, Bool.not_false] using z
    | str w2 =>
      rw [rep_str] at r'
      subst r'
      obtain ⟨t2, rfl⟩ := rv
      have z := SeqAt.RcNeAt.none_str (A := A) (s := s) w2 t2
      simpa only [eqD, Bool.not_true, Bool.not_false] using z
    | _ => cases f'
  | bl b =>
    rw [rep_bl] at r
    subst r
    cases ru
    cases d' with
    | non =>
      rw [rep_non] at r'
      subst r'
      cases rv
      have z := SeqAt.RcNeAt.bool_none (A := A) (s := s) b
      simpa only [eqD, Bool.not_true, Bool.not_false] using z
    | bl b2 =>
      rw [rep_bl] at r'
      subst r'
      cases rv
      have z := SeqAt.RcNeAt.bool_bool (A := A) (s := s) b b2
      simpa only [eqD, Bool.not_true, Bool.not_false] using z
    | int i2 =>
      rw [rep_int] at r'
      subst r'
      obtain ⟨t2, rfl⟩ := rv
      have z := SeqAt.RcNeAt.bool_int (A := A) (s := s) b i2 t2
      simpa only [eqD, Bool.not_true, Bool.not_false] using z
    | str w2 =>
      rw [rep_str] at r'
      subst r'
      obtain ⟨t2, rfl⟩ := rv
      have z := SeqAt.RcNeAt.bool_str (A := A) (s := s) b w2 t2
      simpa only [eqD, Bool.not_true, Bool.not_false] using z
    | _ => cases f'
  | int i =>
    rw [rep_int] at r
    subst r
    obtain ⟨t, rfl⟩ := ru
    cases d' with
    | non =>
      rw [rep_non] at r'
      subst r'
      cases rv
      have z := SeqAt.RcNeAt.int_none (A := A) (s := s) i t
      simpa only [eqD, Bool.not_true, Bool.not_false] using z
    | bl b2 =>
      rw [rep_bl] at r'
      subst r'
      cases rv
      have z := SeqAt.RcNeAt.int_bool (A := A) (s := s) i t b2
      simpa only [eqD, Bool.not_true, Bool.not_false] using z
    | int i2 =>
      rw [rep_int] at r'
      subst r'
      obtain ⟨t2, rfl⟩ := rv
      have z := SeqAt.RcNeAt.int_int (A := A) (s := s) i t i2 t2
      simpa only [eqD, Bool.not_true, Bool.not_false] using z
    | str w2 =>
      rw [rep_str] at r'
      subst r'
      obtain ⟨t2, rfl⟩ := rv
      have z := SeqAt.RcNeAt.int_str (A := A) (s := s) i t w2 t2
      simpa only [eqD, Bool.not_true, Bool.not_false] using z
    | _ => cases f'
  | str w =>
    rw [rep_str] at r
    subst r
    obtain ⟨t, rfl⟩ := ru
    cases d' with
    | non =>
      rw [rep_non] at r'
      subst r'
      cases rv
      have z := SeqAt.RcNeAt.str_none (A := A) (s := s) w t
      simpa only [eqD, Bool.not_true, Bool.not_false] using z
    | bl b2 =>
      rw [rep_bl] at r'
      subst r'
      cases rv
      have z := SeqAt.RcNeAt.str_bool (A := A) (s := s) w t b2
      simpa only [eqD, Bool.not_true, Bool.not_false] using z
    | int i2 =>
      rw [rep_int] at r'
      subst r'
      obtain ⟨t2, rfl⟩ := rv
      have z := SeqAt.RcNeAt.str_int (A := A) (s := s) w t i2 t2
      simpa only [eqD, Bool.not_true, Bool.not_false] using z
    | str w2 =>
      rw [rep_str] at r'
      subst r'
      obtain ⟨t2, rfl⟩ := rv
      have z := SeqAt.RcNeAt.str_str (A := A) (s := s) w t w2 t2
      simpa only [eqD, Bool.not_true, Bool.not_false] using z
    | _ => cases f'
  | _ => cases f
theorem list_EqAt {A : Around} {s : Shared} {H : Hp} {O : Addr → Prop} {d' : D} {y : V} {l : Addr} {items : Array Value} {v : Value} (hl : s.heap.IsList l items) (hu : A.units < cLine) (r' : Rep X.K ct H O d' y) (rv : RelV y v) (f' : flatD d' = true) : SeqAt.EqAt A s (.ref l) v false := by
  cases d' with
  | non =>
    rw [rep_non] at r'
    subst r'
    cases rv
    exact SeqAt.EqAt.list_none hl hu
  | bl b2 =>
    rw [rep_bl] at r'
    subst r'
    cases rv
    exact SeqAt.EqAt.list_bool b2 hl hu
  | int i2 =>
    rw [rep_int] at r'
    subst r'
    obtain ⟨t2, rfl⟩ := rv
    exact SeqAt.EqAt.list_int i2 t2 hl hu
  | str w2 =>
    rw [rep_str] at r'
    subst r'
    obtain ⟨t2, rfl⟩ := rv
    exact SeqAt.EqAt.list_str w2 t2 hl hu
  | _ => cases f'
theorem EqAt_list {A : Around} {s : Shared} {H : Hp} {O : Addr → Prop} {d' : D} {y : V} {l : Addr} {items : Array Value} {v : Value} (hl : s.heap.IsList l items) (hu : A.units < cLine) (r' : Rep X.K ct H O d' y) (rv : RelV y v) (f' : flatD d' = true) : SeqAt.EqAt A s v (.ref l) false := by
  cases d' with
  | non =>
    rw [rep_non] at r'
    subst r'
    cases rv
    exact SeqAt.EqAt.none_list hl hu
  | bl b2 =>
    rw [rep_bl] at r'
    subst r'
    cases rv
    exact SeqAt.EqAt.bool_list b2 hl hu
  | int i2 =>
    rw [rep_int] at r'
    subst r'
    obtain ⟨t2, rfl⟩ := rv
    exact SeqAt.EqAt.int_list i2 t2 hl hu
  | str w2 =>
    rw [rep_str] at r'
    subst r'
    obtain ⟨t2, rfl⟩ := rv
    exact SeqAt.EqAt.str_list w2 t2 hl hu
  | _ => cases f'
theorem tuple_EqAt {A : Around} {s : Shared} {H : Hp} {O : Addr → Prop} {d' : D} {y : V} {l : Addr} {items : Array Value} {v : Value} (hl : s.heap.IsTuple l items) (hu : A.units < cLine) (r' : Rep X.K ct H O d' y) (rv : RelV y v) (f' : flatD d' = true) : SeqAt.EqAt A s (.ref l) v false := by
  cases d' with
  | non =>
    rw [rep_non] at r'
    subst r'
    cases rv
    exact SeqAt.EqAt.tuple_none hl hu
  | bl b2 =>
    rw [rep_bl] at r'
    subst r'
    cases rv
    exact SeqAt.EqAt.tuple_bool b2 hl hu
  | int i2 =>
    rw [rep_int] at r'
    subst r'
    obtain ⟨t2, rfl⟩ := rv
    exact SeqAt.EqAt.tuple_int i2 t2 hl hu
  | str w2 =>
    rw [rep_str] at r'
    subst r'
    obtain ⟨t2, rfl⟩ := rv
    exact SeqAt.EqAt.tuple_str w2 t2 hl hu
  | _ => cases f'
theorem EqAt_tuple {A : Around} {s : Shared} {H : Hp} {O : Addr → Prop} {d' : D} {y : V} {l : Addr} {items : Array Value} {v : Value} (hl : s.heap.IsTuple l items) (hu : A.units < cLine) (r' : Rep X.K ct H O d' y) (rv : RelV y v) (f' : flatD d' = true) : SeqAt.EqAt A s v (.ref l) false := by
  cases d' with
  | non =>
    rw [rep_non] at r'
    subst r'
    cases rv
    exact SeqAt.EqAt.none_tuple hl hu
  | bl b2 =>
    rw [rep_bl] at r'
    subst r'
    cases rv
    exact SeqAt.EqAt.bool_tuple b2 hl hu
  | int i2 =>
    rw [rep_int] at r'
    subst r'
    obtain ⟨t2, rfl⟩ := rv
    exact SeqAt.EqAt.int_tuple i2 t2 hl hu
  | str w2 =>
    rw [rep_str] at r'
    subst r'
    obtain ⟨t2, rfl⟩ := rv
    exact SeqAt.EqAt.str_tuple w2 t2 hl hu
  | _ => cases f'
theorem list_RcAt {A : Around} {s : Shared} {H : Hp} {O : Addr → Prop} {d' : D} {y : V} {l : Addr} {items : Array Value} {v : Value} (hl : s.heap.IsList l items) (hu : A.units < cLine) (r' : Rep X.K ct H O d' y) (rv : RelV y v) (f' : flatD d' = true) : SeqAt.RcAt A s (.ref l) v false := by
  cases d' with
  | non =>
    rw [rep_non] at r'
    subst r'
    cases rv
    exact SeqAt.RcAt.list_none hl hu
  | bl b2 =>
    rw [rep_bl] at r'
    subst r'
    cases rv
    exact SeqAt.RcAt.list_bool b2 hl hu
  | int i2 =>
    rw [rep_int] at r'
    subst r'
    obtain ⟨t2, rfl⟩ := rv
    exact SeqAt.RcAt.list_int i2 t2 hl hu
  | str w2 =>
    rw [rep_str] at r'
    subst r'
    obtain ⟨t2, rfl⟩ := rv
    exact SeqAt.RcAt.list_str w2 t2 hl hu
  | _ => cases f'
theorem RcAt_list {A : Around} {s : Shared} {H : Hp} {O : Addr → Prop} {d' : D} {y : V} {l : Addr} {items : Array Value} {v : Value} (hl : s.heap.IsList l items) (hu : A.units < cLine) (r' : Rep X.K ct H O d' y) (rv : RelV y v) (f' : flatD d' = true) : SeqAt.RcAt A s v (.ref l) false := by
  cases d' with
  | non =>
    rw [rep_non] at r'
    subst r'
    cases rv
    exact SeqAt.RcAt.none_list hl hu
  | bl b2 =>
    rw [rep_bl] at r'
    subst r'
    cases rv
    exact SeqAt.RcAt.bool_list b2 hl hu
  | int i2 =>
    rw [rep_int] at r'
    subst r'
    obtain ⟨t2, rfl⟩ := rv
    exact SeqAt.RcAt.int_list i2 t2 hl hu
  | str w2 =>
    rw [rep_str] at r'
    subst r'
    obtain ⟨t2, rfl⟩ := rv
    exact SeqAt.RcAt.str_list w2 t2 hl hu
  | _ => cases f'
theorem tuple_RcAt {A : Around} {s : Shared} {H : Hp} {O : Addr → Prop} {d' : D} {y : V} {l : Addr} {items : Array Value} {v : Value} (hl : s.heap.IsTuple l items) (hu : A.units < cLine) (r' : Rep X.K ct H O d' y) (rv : RelV y v) (f' : flatD d' = true) : SeqAt.RcAt A s (.ref l) v false := by
  cases d' with
  | non =>
    rw [rep_non] at r'
    subst r'
    cases rv
    exact SeqAt.RcAt.tuple_none hl hu
  | bl b2 =>
    rw [rep_bl] at r'
    subst r'
    cases rv
    exact SeqAt.RcAt.tuple_bool b2 hl hu
  | int i2 =>
    rw [rep_int] at r'
    subst r'
    obtain ⟨t2, rfl⟩ := rv
    exact SeqAt.RcAt.tuple_int i2 t2 hl hu
  | str w2 =>
    rw [rep_str] at r'
    subst r'
    obtain ⟨t2, rfl⟩ := rv
    exact SeqAt.RcAt.tuple_str w2 t2 hl hu
  | _ => cases f'
theorem RcAt_tuple {A : Around} {s : Shared} {H : Hp} {O : Addr → Prop} {d' : D} {y : V} {l : Addr} {items : Array Value} {v : Value} (hl : s.heap.IsTuple l items) (hu : A.units < cLine) (r' : Rep X.K ct H O d' y) (rv : RelV y v) (f' : flatD d' = true) : SeqAt.RcAt A s v (.ref l) false := by
  cases d' with
  | non =>
    rw [rep_non] at r'
    subst r'
    cases rv
    exact SeqAt.RcAt.none_tuple hl hu
  | bl b2 =>
    rw [rep_bl] at r'
    subst r'
    cases rv
    exact SeqAt.RcAt.bool_tuple b2 hl hu
  | int i2 =>
    rw [rep_int] at r'
    subst r'
    obtain ⟨t2, rfl⟩ := rv
    exact SeqAt.RcAt.int_tuple i2 t2 hl hu
  | str w2 =>
    rw [rep_str] at r'
    subst r'
    obtain ⟨t2, rfl⟩ := rv
    exact SeqAt.RcAt.str_tuple w2 t2 hl hu
  | _ => cases f'
theorem list_RcNeAt {A : Around} {s : Shared} {H : Hp} {O : Addr → Prop} {d' : D} {y : V} {l : Addr} {items : Array Value} {v : Value} (hl : s.heap.IsList l items) (hu : A.units < cLine) (r' : Rep X.K ct H O d' y) (rv : RelV y v) (f' : flatD d' = true) : SeqAt.RcNeAt A s (.ref l) v true := by
  cases d' with
  | non =>
    rw [rep_non] at r'
    subst r'
    cases rv
    exact SeqAt.RcNeAt.list_none hl hu
  | bl b2 =>
    rw [rep_bl] at r'
    subst r'
    cases rv
    exact SeqAt.RcNeAt.list_bool b2 hl hu
  | int i2 =>
    rw [rep_int] at r'
    subst r'
    obtain ⟨t2, rfl⟩ := rv
    exact SeqAt.RcNeAt.list_int i2 t2 hl hu
  | str w2 =>
    rw [rep_str] at r'
    subst r'
    obtain ⟨t2, rfl⟩ := rv
    exact SeqAt.RcNeAt.list_str w2 t2 hl hu
  | _ => cases f'
theorem RcNeAt_list {A : Around} {s : Shared} {H : Hp} {O : Addr → Prop} {d' : D} {y : V} {l : Addr} {items : Array Value} {v : Value} (hl : s.heap.IsList l items) (hu : A.units < cLine) (r' : Rep X.K ct H O d' y) (rv : RelV y v) (f' : flatD d' = true) : SeqAt.RcNeAt A s v (.ref l) true := by
  cases d' with
  | non =>
    rw [rep_non] at r'
    subst r'
    cases rv
    exact SeqAt.RcNeAt.none_list hl hu
  | bl b2 =>
    rw [rep_bl] at r'
    subst r'
    cases rv
    exact SeqAt.RcNeAt.bool_list b2 hl hu
  | int i2 =>
    rw [rep_int] at r'
    subst r'
    obtain ⟨t2, rfl⟩ := rv
    exact SeqAt.RcNeAt.int_list i2 t2 hl hu
  | str w2 =>
    rw [rep_str] at r'
    subst r'
    obtain ⟨t2, rfl⟩ := rv
    exact SeqAt.RcNeAt.str_list w2 t2 hl hu
  | _ => cases f'
theorem tuple_RcNeAt {A : Around} {s : Shared} {H : Hp} {O : Addr → Prop} {d' : D} {y : V} {l : Addr} {items : Array Value} {v : Value} (hl : s.heap.IsTuple l items) (hu : A.units < cLine) (r' : Rep X.K ct H O d' y) (rv : RelV y v) (f' : flatD d' = true) : SeqAt.RcNeAt A s (.ref l) v true := by
  cases d' with
  | non =>
    rw [rep_non] at r'
    subst r'
    cases rv
    exact SeqAt.RcNeAt.tuple_none hl hu
  | bl b2 =>
    rw [rep_bl] at r'
    subst r'
    cases rv
    exact SeqAt.RcNeAt.tuple_bool b2 hl hu
  | int i2 =>
    rw [rep_int] at r'
    subst r'
    obtain ⟨t2, rfl⟩ := rv
    exact SeqAt.RcNeAt.tuple_int i2 t2 hl hu
  | str w2 =>
    rw [rep_str] at r'
    subst r'
    obtain ⟨t2, rfl⟩ := rv
    exact SeqAt.RcNeAt.tuple_str w2 t2 hl hu
  | _ => cases f'
theorem RcNeAt_tuple {A : Around} {s : Shared} {H : Hp} {O : Addr → Prop} {d' : D} {y : V} {l : Addr} {items : Array Value} {v : Value} (hl : s.heap.IsTuple l items) (hu : A.units < cLine) (r' : Rep X.K ct H O d' y) (rv : RelV y v) (f' : flatD d' = true) : SeqAt.RcNeAt A s v (.ref l) true := by
  cases d' with
  | non =>
    rw [rep_non] at r'
    subst r'
    cases rv
    exact SeqAt.RcNeAt.none_tuple hl hu
  | bl b2 =>
    rw [rep_bl] at r'
    subst r'
    cases rv
    exact SeqAt.RcNeAt.bool_tuple b2 hl hu
  | int i2 =>
    rw [rep_int] at r'
    subst r'
    obtain ⟨t2, rfl⟩ := rv
    exact SeqAt.RcNeAt.int_tuple i2 t2 hl hu
  | str w2 =>
    rw [rep_str] at r'
    subst r'
    obtain ⟨t2, rfl⟩ := rv
    exact SeqAt.RcNeAt.str_tuple w2 t2 hl hu
  | _ => cases f'
end
end Dl
set_option Elab.async false
set_option linter.all false
set_option maxRecDepth 100000
set_option maxHeartbeats 4000000
namespace Dl
open PySem PySem.Spec L2
section
variable (X : Cx) (ct : CT) (T : EqT)
/-- inside a builtin | by the operators -/
def EqS (n : Nat) : Prop := ∀ (d d' : D), okE T d d' n → ∀ (A : Around) (pins : List (Addr × Obj)) (s : Shared) (σ : St) (H : Hp) (O : Addr → Prop) (x y : V) (u v : Value), Sub X n A → Inv X pins σ H s → RelV x u → RelV y v → Dom H O → Rep X.K ct H O d x → Rep X.K ct H O d' y →
  wpAny (model X.prog X.w) A (eqBool u v) (fun r s' => r = eqD d d' ∧ ∃ H', Inv X pins σ H' s' ∧ Same H H') X.xe s
def RcS (n : Nat) : Prop := ∀ (d d' : D), okE T d d' n → ∀ (A : Around) (pins : List (Addr × Obj)) (s : Shared) (σ : St) (H : Hp) (O : Addr → Prop) (x y : V) (u v : Value), Sub X n A → Inv X pins σ H s → RelV x u → RelV y v → Dom H O → Rep X.K ct H O d x → Rep X.K ct H O d' y →
  wpAny (model X.prog X.w) A (richCompare .Eq u v) (fun r s' => r = .bool (eqD d d') ∧ ∃ H', Inv X pins σ H' s' ∧ Same H H') X.xe s
def NeS (n : Nat) : Prop := ∀ (d d' : D), okE T d d' n → ∀ (A : Around) (pins : List (Addr × Obj)) (s : Shared) (σ : St) (H : Hp) (O : Addr → Prop) (x y : V) (u v : Value), Sub X (n + 1) A → Inv X pins σ H s → RelV x u → RelV y v → Dom H O → Rep X.K ct H O d x → Rep X.K ct H O d' y →
  wpAny (model X.prog X.w) A (richCompare .NotEq u v) (fun r s' => r = .bool (!eqD d d') ∧ ∃ H', Inv X pins σ H' s' ∧ Same H H') X.xe s
end
section
variable {X : Cx} {ct : CT} {T : EqT} {W : WX} {n : Nat}
theorem lst_at {pins : List (Addr × Obj)} {s : Shared} {σ : St} {H : Hp} {O : Addr → Prop} {xs : List D} {x : V} {u : Value} (I : Inv X pins σ H s) (ru : RelV x u) (r : Rep X.K ct H O (.lst xs) x) :
    ∃ a vs, u = .ref a ∧ x = .ref a ∧ H a = some (.lst vs) ∧ RepL X.K ct H O xs vs ∧ ∃ (its : List Value) (k : Nat), Vals vs its ∧ s.heap.get? a = some { cls := .type "list", data := .seq its.toArray k } := by
  obtain ⟨a, vs, rfl, _, l, rl⟩ := rep_lst.mp r
  cases ru
  obtain ⟨z, its, k, rv, e⟩ := I.hok a _ l
  exact ⟨a, vs, rfl, rfl, l, rl, its, k, rv, e⟩
theorem tup_at {pins : List (Addr × Obj)} {s : Shared} {σ : St} {H : Hp} {O : Addr → Prop} {xs : List D} {x : V} {u : Value} (I : Inv X pins σ H s) (ru : RelV x u) (r : Rep X.K ct H O (.tup xs) x) :
    ∃ a vs, u = .ref a ∧ x = .ref a ∧ RepL X.K ct H O xs vs ∧ ∃ (its : List Value), Vals vs its ∧ s.heap.IsTuple a its.toArray := by
  obtain ⟨a, vs, rfl, l, rl⟩ := rep_tup.mp r
  cases ru
  obtain ⟨its, r, e, z⟩ := I.tuple l
  exact ⟨a, vs, rfl, rfl, rl, its, r, e⟩
theorem looks_right (hd : ∀ a, ct.tok 7 a = .dK []) {pins : List (Addr × Obj)} {s : Shared} {σ : St} {H : Hp} {O : Addr → Prop} {d : D} {x : V} {u : Value} {c k : Nat} {wf : Wf} (I : Inv X pins σ H s) (ru : RelV x u) (r : Rep X.K ct H O d x) (f : ownRight T d = true) (E : EqAtO X ct T c k wf) :
    ∃ tb, PySem.W.Looks (model X.prog X.w) s.heap (typeOf u) tb ∧ PySem.W.notFirst X.K (ct.addr c) tb = true := by
  have bt := List.all_eq_true.mp E.bt
  cases d with
  | lst xs =>
    obtain ⟨a, vs, rfl, rfl, _, _, its, k, _, e⟩ := lst_at I ru r
    exact ⟨_, fun A Q E s k q => wpAny_typeOf_ref (k _ _ e) (by exact q), bt "list" (by simp)⟩
  | tup xs =>
    obtain ⟨a, vs, rfl, rfl, _, its, _, o, e, ec, _⟩ := tup_at I ru r
    exact ⟨.type "tuple", fun A Q E s k q => wpAny_typeOf_ref (k _ _ e) (by rw [ec]; exact q), bt "tuple" (by simp)⟩
  | obj c' fs =>
    obtain ⟨a, dx, vs, rfl, _, l, _, _⟩ := rep_obj.mp r
    cases ru
    obtain ⟨mA, J, _⟩ := ins_get I.hok l
    obtain ⟨od, J, _⟩ := J.look
    exact ⟨_, J.type, E.ow c' f⟩
  | tok k =>
    obtain ⟨a, rfl, _, l⟩ := rep_tok.mp r
    cases ru
    cases (show k = 7 by simpa [ownRight] using f)
    rw [hd] at l
    obtain ⟨_, _, va, ra, da⟩ := (show ObjOk X.prog X.w H s.heap a (.dK []) from I.hok a _ l)
    obtain ⟨o, e, ec⟩ := da.typeIs
    exact ⟨.type "dict", fun A Q E s k q => wpAny_typeOf_ref (k _ _ e) (by rw [ec]; exact q), bt "dict" (by simp)⟩
  | non =>
    obtain ⟨n, hn, L⟩ := looks_flat (h := s.heap) r ru rfl
    exact ⟨_, L, bt n hn⟩
  | bl b =>
    obtain ⟨n, hn, L⟩ := looks_flat (h := s.heap) r ru rfl
    exact ⟨_, L, bt n hn⟩
  | int i =>
    obtain ⟨n, hn, L⟩ := looks_flat (h := s.heap) r ru rfl
    exact ⟨_, L, bt n hn⟩
  | str w =>
    obtain ⟨n, hn, L⟩ := looks_flat (h := s.heap) r ru rfl
    exact ⟨_, L, bt n hn⟩
  | _ => cases f
theorem own_run {pins : List (Addr × Obj)} {s : Shared} {σ : St} {H : Hp} {O : Addr → Prop} {A : Around} {d d' : D} {x y : V} {u v : Value} {k : Nat} {wf : Wf} {f : Addr} {fd : FuncData} {ps : List Str} {b : Bool} (tk : Takes X W)
    (F : FnOk X.prog X.w X.K X.mg X.base (L2.CX X.prog X.w) k f fd ps (spD X.K ct wf)) (hb : Binds X.K fd ps []) (sb : Sub X k A) (I : Inv X pins σ H s) (ru : RelV x u) (rv : RelV y v) (dm : Dom H O) (r : Rep X.K ct H O d x) (r' : Rep X.K ct H O d' y)
    (q : wf [d, d'] (fun r => r = .bl b) (fun _ _ => False)) : wpAny (model X.prog X.w) A (call (.ref f) [u, v]) (fun r s' => r = .bool b ∧ ∃ H', Inv X pins σ H' s' ∧ Same H H') X.xe s := by
  have hsp : spD X.K ct wf [x, y] H (fun v H' => v = .bl b ∧ Same H H') (WE W σ) := ⟨O, [d, d'], _, _, dm, RepL.cons r (RepL.cons r' RepL.nil), q, fun v d2 H' e r z => by
    subst z
    exact ⟨rep_bl.mp r, e⟩, fun _ _ _ _ _ _ _ z => z.elim⟩
  have e0 : Env0 X.prog X.w X.K X.mg X.base A X.stack s H := by
    have e := I.env0
    exact ⟨by rw [sb.fr]; exact e.frames, e.mod, e.bs, e.bsz, e.funs, e.frf, e.hok, e.bare⟩
  have hl := F.len _ _ _ _ hsp
  have r2 : Vals [x, y] [u, v] := .cons ru (.cons rv .nil)
  refine wpAny_call (codeAny_mono (F.run A X.stack s H ⟨[u, v], []⟩ [u, v] [x, y] _ (WE W σ) sb.room e0 (by
    have := hb s [u, v] I.kIn (by simpa using hl)
    simpa using this) r2 hsp) fun r s' hq => ?_)
  cases r with
  | error e => exact passAt tk σ pins H s e s' I hq
  | ok fl =>
    cases fl with
    | ret w =>
      obtain ⟨z, H', I', rz, ez, ex⟩ := I.after hq
      subst ez
      cases rz
      exact ⟨rfl, H', I', ex⟩
    | next => exact False.elim hq
    | brk => exact False.elim hq
    | cont => exact False.elim hq
/-- what the loop over items keeps -/
def LpI (X : Cx) (pins : List (Addr × Obj)) (σ : St) (H : Hp) (s' : Shared) : Prop := ∃ H', Inv X pins σ H' s' ∧ Same H H'
theorem turnS {m : Nat} (h : EqS X ct T m) {A : Around} (sb : Sub X (m + 1) A) {pins : List (Addr × Obj)} {σ : St} {H : Hp} {O : Addr → Prop} (dm : Dom H O) {xs ys : List D} {vs us : List V} {its its2 : List Value} (q : okEs T xs ys m) (r : RepL X.K ct H O xs vs) (r2 : RepL X.K ct H O ys us) (rv : Vals vs its) (rv2 : Vals us its2)
    (i : Nat) (h1 : i < its.toArray.size) (h2 : i < its2.toArray.size) (s' : Shared) (l : LpI X pins σ H s') :
    wpAny (model X.prog X.w) A.in1 (eqBool its.toArray[i] its2.toArray[i]) (fun r s2 => r = eqAtI xs ys i ∧ LpI X pins σ H s2) X.xe s' := by
  obtain ⟨H1, I1, e1⟩ := l
  have h1' : i < its.length := by simpa using h1
  have h2' : i < its2.length := by simpa using h2
  have g1 : its[i]? = some its.toArray[i] := by
    rw [List.getElem?_eq_getElem h1'] <;> simp
  have g2 : its2[i]? = some its2.toArray[i] := by
    rw [List.getElem?_eq_getElem h2'] <;> simp
  have k1 : i < vs.length := by rw [rv.length]; exact h1'
  have k2 : i < us.length := by rw [rv2.length]; exact h2'
  obtain ⟨u, hu, ru⟩ := rv.get (List.getElem?_eq_getElem k1)
  obtain ⟨v, hv, rv'⟩ := rv2.get (List.getElem?_eq_getElem k2)
  rw [g1] at hu
  rw [g2] at hv
  obtain ⟨d, hd, rd⟩ := r.getV (List.getElem?_eq_getElem k1)
  obtain ⟨d', hd', rd'⟩ := r2.getV (List.getElem?_eq_getElem k2)
  have eI : eqAtI xs ys i = eqD d d' := by
    unfold eqAtI
    rw [hd, hd']
  rw [Option.some.inj hu, Option.some.inj hv, eI]
  have dm1 : Dom H1 O := fun a z => by
    obtain ⟨o, e⟩ := dm a z
    exact ⟨o, e1 a o e⟩
  refine wpAny_mono (h d d' (okEs_get q hd hd') A.in1 pins s' σ H1 O _ _ u v sb.in1 I1 ru rv' dm1 (rd.same e1) (rd'.same e1)) (fun r s2 q => ?_) fun _ _ x => x
  obtain ⟨hr, H2, I2, e2⟩ := q
  exact ⟨hr, H2, I2, e1.trans e2⟩
theorem listB {m : Nat} (h : EqS X ct T m) {A : Around} (sb : Sub X (m + 1) A) {pins : List (Addr × Obj)} {σ : St} {H : Hp} {O : Addr → Prop} (dm : Dom H O) {xs ys : List D} {vs us : List V} {a b : Addr} (hl : xs.length = ys.length) (q : okEs T xs ys m) (r : RepL X.K ct H O xs vs) (r2 : RepL X.K ct H O ys us)
    (ha : H a = some (.lst vs)) (hb : H b = some (.lst us)) : G.ListB X.prog X.w A X.xe a b xs.length (eqAtI xs ys) (LpI X pins σ H) := by
  intro s' z
  obtain ⟨H1, I1, e1⟩ := id z
  obtain ⟨_, its, k, rv, e⟩ := I1.hok a _ (e1 _ _ ha)
  obtain ⟨_, its2, k2, rv2, e2⟩ := I1.hok b _ (e1 _ _ hb)
  exact ⟨its.toArray, its2.toArray, k, k2, e, e2, by rw [List.size_toArray, ← rv.length, r.length], by rw [List.size_toArray, ← rv2.length, r2.length, hl], fun i h1 h2 => turnS h sb dm q r r2 rv rv2 i h1 h2 s' z⟩
end
end Dl
set_option Elab.async false
set_option linter.all false
set_option maxRecDepth 100000
set_option maxHeartbeats 4000000
namespace Dl
open PySem PySem.Spec L2
section
variable {X : Cx} {ct : CT} {T : EqT} {W : WX} {n : Nat} {pins : List (Addr × Obj)} {s : Shared} {σ : St} {H : Hp} {O : Addr → Prop}
theorem no_lst_tup (I : Inv X pins σ H s) {a : Addr} {vs us : List V} (h : H a = some (.lst vs)) : ¬ SqT X.K H a us := fun h' => by
  obtain ⟨z, its, k, rv, e⟩ := I.hok a _ h
  obtain ⟨its2, r, ⟨o, e2, ec, _⟩, _⟩ := I.tuple h'
  rw [e] at e2
  cases e2
  injection ec with z
  exact absurd z (by decide)
theorem no_ins_tup (I : Inv X pins σ H s) {a C dx : Addr} {fs : List (Str × V)} {us : List V} (h : H a = some (.ins C dx fs)) : ¬ SqT X.K H a us := fun h' => by
  obtain ⟨mA, J, _⟩ := ins_get I.hok h
  obtain ⟨od, J, _⟩ := J.look
  obtain ⟨its2, r, ⟨o, e2, ec, _⟩, _⟩ := I.tuple h'
  obtain ⟨e, ec2, _⟩ := J
  rw [e] at e2
  cases e2
  rw [ec2] at ec
  cases ec
theorem no_dk_tup (I : Inv X pins σ H s) {a : Addr} {kvs : List (Key × V)} {us : List V} (h : H a = some (.dK kvs)) : ¬ SqT X.K H a us := fun h' => by
  obtain ⟨_, _, va, ra, da⟩ := (show ObjOk X.prog X.w H s.heap a (.dK kvs) from I.hok a _ h)
  obtain ⟨o, e, ec⟩ := da.typeIs
  obtain ⟨its2, r, ⟨o2, e2, ec2, _⟩, _⟩ := I.tuple h'
  rw [e] at e2
  cases e2
  rw [ec] at ec2
  injection ec2 with z
  exact absurd z (by decide)
theorem same_here (I : Inv X pins σ H s) (hd : ∀ a, ct.tok 7 a = .dK []) (ap : ApartT T ct) {d d' : D} {v : V} (p : pureD T d = true) (p' : pureD T d' = true) (r : Rep X.K ct H O d v) (r' : Rep X.K ct H O d' v) : eqD d d' = true :=
  same_eqD ap (fun h h' => I.tuple_inj h h') (fun h => no_lst_tup I h) (fun h => no_ins_tup I h) hd (fun h => no_dk_tup I h) p p' r r'
mutual
theorem same_ok (I : Inv X pins σ H s) (hd : ∀ a, ct.tok 7 a = .dK []) (ap : ApartT T ct) : ∀ {d d' : D} {v : V} {n : Nat}, okE T d d' n → Rep X.K ct H O d v → Rep X.K ct H O d' v → eqD d d' = true
  | .lst xs, .lst ys, v, n, q, r, r' => by
    obtain ⟨a, vs, rfl, _, l, rl⟩ := rep_lst.mp r
    obtain ⟨a', vs', e, _, l', rl'⟩ := rep_lst.mp r'
    cases e
    rw [l] at l'
    cases l'
    simp only [okE] at q
    obtain ⟨m, _, q⟩ := q (by rw [← rl.length, ← rl'.length])
    simp only [eqD]
    exact same_oks I hd ap q rl rl'
  | .tup xs, .tup ys, v, n, q, r, r' => by
    obtain ⟨a, vs, rfl, l, rl⟩ := rep_tup.mp r
    obtain ⟨a', vs', e, l', rl'⟩ := rep_tup.mp r'
    cases e
    cases I.tuple_inj l l'
    simp only [okE] at q
    obtain ⟨m, _, q⟩ := q
    simp only [eqD]
    exact same_oks I hd ap q rl rl'
  | .obj c fs, y, v, n, q, r, r' => by
    simp only [okE, Bool.and_eq_true] at q
    obtain ⟨k, wf, _, _, _, ⟨p, p'⟩, _⟩ := q
    exact same_here I hd ap p p' r r'
  | .lst xs, .non, v, n, q, r, r' => by
    rw [rep_non] at r'
    subst r'
    obtain ⟨_, _, e, _⟩ := rep_lst.mp r
    cases e
  | .lst xs, .bl _, v, n, q, r, r' => by
    rw [rep_bl] at r'
    subst r'
    obtain ⟨_, _, e, _⟩ := rep_lst.mp r
    cases e
  | .lst xs, .int _, v, n, q, r, r' => by
    rw [rep_int] at r'
    subst r'
    obtain ⟨_, _, e, _⟩ := rep_lst.mp r
    cases e
  | .lst xs, .str _, v, n, q, r, r' => by
    rw [rep_str] at r'
    subst r'
    obtain ⟨_, _, e, _⟩ := rep_lst.mp r
    cases e
  | .lst xs, .tup _, v, n, q, r, r' => by
    obtain ⟨a, vs, rfl, _, l, rl⟩ := rep_lst.mp r
    obtain ⟨a', vs', e, l', rl'⟩ := rep_tup.mp r'
    cases e
    exact absurd l' (no_lst_tup I l)
  | .tup xs, .lst _, v, n, q, r, r' => by
    obtain ⟨a, vs, rfl, _, l, rl⟩ := rep_lst.mp r'
    obtain ⟨a', vs', e, l', rl'⟩ := rep_tup.mp r
    cases e
    exact absurd l' (no_lst_tup I l)
  | .tup xs, .non, v, n, q, r, r' => by
    rw [rep_non] at r'
    subst r'
    obtain ⟨_, _, e, _⟩ := rep_tup.mp r
    cases e
  | .tup xs, .bl _, v, n, q, r, r' => by
    rw [rep_bl] at r'
    subst r'
    obtain ⟨_, _, e, _⟩ := rep_tup.mp r
    cases e
  | .tup xs, .int _, v, n, q, r, r' => by
    rw [rep_int] at r'
    subst r'
    obtain ⟨_, _, e, _⟩ := rep_tup.mp r
    cases e
  | .tup xs, .str _, v, n, q, r, r' => by
    rw [rep_str] at r'
    subst r'
    obtain ⟨_, _, e, _⟩ := rep_tup.mp r
    cases e
  | .non, y, v, n, q, r, r' => by
    rw [rep_non] at r
    subst r
    cases y <;> first | (simp [Rep] at r'; done) | simp [eqD] | (simp [okE, flatD, isLstD, isTupD] at q; done)
  | .bl _, y, v, n, q, r, r' => by
    rw [rep_bl] at r
    subst r
    cases y <;> first | (simp [Rep] at r'; done) | (simp [Rep] at r'; simp [eqD, r']; done) | (simp [okE, flatD, isLstD, isTupD] at q; done)
  | .int _, y, v, n, q, r, r' => by
    rw [rep_int] at r
    subst r
    cases y <;> first | (simp [Rep] at r'; done) | (simp [Rep] at r'; simp [eqD, r']; done) | (simp [okE, flatD, isLstD, isTupD] at q; done)
  | .str _, y, v, n, q, r, r' => by
    rw [rep_str] at r
    subst r
    cases y <;> first | (simp [Rep] at r'; done) | (simp [Rep] at r'; simp [eqD, r']; done) | (simp [okE, flatD, isLstD, isTupD] at q; done)
  | .lst _, .obj _ _, _, _, q, _, _ => by simp [okE, flatD, isTupD] at q
  | .lst _, .cls _, _, _, q, _, _ => by simp [okE, flatD, isTupD] at q
  | .lst _, .tok _, _, _, q, _, _ => by simp [okE, flatD, isTupD] at q
  | .lst _, .ty _, _, _, q, _, _ => by simp [okE, flatD, isTupD] at q
  | .lst _, .scr _, _, _, q, _, _ => by simp [okE, flatD, isTupD] at q
  | .tup _, .obj _ _, _, _, q, _, _ => by simp [okE, flatD, isLstD] at q
  | .tup _, .cls _, _, _, q, _, _ => by simp [okE, flatD, isLstD] at q
  | .tup _, .tok _, _, _, q, _, _ => by simp [okE, flatD, isLstD] at q
  | .tup _, .ty _, _, _, q, _, _ => by simp [okE, flatD, isLstD] at q
  | .tup _, .scr _, _, _, q, _, _ => by simp [okE, flatD, isLstD] at q
  | .cls _, _, _, _, q, _, _ => by simp [okE] at q
  | .tok j, .tok k, _, _, q, _, _ => by
    simp only [okE] at q
    simp [eqD, q.1, q.2]
  | .tok _, .non, _, _, q, _, _ => by simp [okE] at q
  | .tok _, .bl _, _, _, q, _, _ => by simp [okE] at q
  | .tok _, .int _, _, _, q, _, _ => by simp [okE] at q
  | .tok _, .str _, _, _, q, _, _ => by simp [okE] at q
  | .tok _, .lst _, _, _, q, _, _ => by simp [okE] at q
  | .tok _, .tup _, _, _, q, _, _ => by simp [okE] at q
  | .tok _, .obj _ _, _, _, q, _, _ => by simp [okE] at q
  | .tok _, .cls _, _, _, q, _, _ => by simp [okE] at q
  | .tok _, .ty _, _, _, q, _, _ => by simp [okE] at q
  | .tok _, .scr _, _, _, q, _, _ => by simp [okE] at q
  | .ty _, _, _, _, q, _, _ => by simp [okE] at q
  | .scr _, _, _, _, q, _, _ => by simp [okE] at q
theorem same_oks (I : Inv X pins σ H s) (hd : ∀ a, ct.tok 7 a = .dK []) (ap : ApartT T ct) : ∀ {ds ds' : List D} {vs : List V} {n : Nat}, okEs T ds ds' n → RepL X.K ct H O ds vs → RepL X.K ct H O ds' vs → eqDs ds ds' = true
  | [], ds', vs, n, q, r, r' => by
    simp only [RepL] at r
    subst r
    cases ds' with
    | nil => simp [eqDs]
    | cons d ds =>
      obtain ⟨_, _, e, _⟩ := r'.cons_inv
      cases e
  | d :: ds, ds', vs, n, q, r, r' => by
    obtain ⟨v, w, rfl, h1, h2⟩ := r.cons_inv
    cases ds' with
    | nil =>
      simp only [RepL] at r'
      cases r'
    | cons d' ds' =>
      obtain ⟨v', q', e, h1', h2'⟩ := r'.cons_inv
      cases e
      simp only [okEs] at q
      simp only [eqDs, Bool.and_eq_true]
      exact ⟨same_ok I hd ap q.1 h1 h1', same_oks I hd ap q.2 h2 h2'⟩
end
end
end Dl
set_option Elab.async false
set_option linter.all false
set_option maxRecDepth 100000
set_option maxHeartbeats 4000000
namespace Dl
open PySem PySem.Spec L2
section
variable {T : EqT} {n : Nat} {d d' : D}
theorem okE_cases (q : okE T d d' n) : flatD d = true ∨ (∃ xs, d = .lst xs) ∨ (∃ xs, d = .tup xs) ∨ (∃ c fs, d = .obj c fs) ∨ (d = .tok 7 ∧ d' = .tok 7) := by
  cases d <;> first | exact .inl rfl | exact .inr (.inl ⟨_, rfl⟩) | exact .inr (.inr (.inl ⟨_, rfl⟩)) | exact .inr (.inr (.inr (.inl ⟨_, _, rfl⟩))) | (simp [okE] at q; done) | (cases d' <;> first | (simp [okE] at q; done) | exact .inr (.inr (.inr (.inr (by simpa [okE] using q)))))
theorem okE_flat (f : flatD d = true) (q : okE T d d' n) : flatD d' = true ∨ (∃ xs, d' = .lst xs) ∨ (∃ xs, d' = .tup xs) := by
  cases d <;> first | (cases f; done) | skip
  all_goals (cases d' <;> first | exact .inl rfl | exact .inr (.inl ⟨_, rfl⟩) | exact .inr (.inr ⟨_, rfl⟩) | (simp [okE, flatD, isLstD, isTupD] at q; done))
theorem okE_lst {xs : List D} (q : okE T (.lst xs) d' n) : flatD d' = true ∨ (∃ ys, d' = .tup ys) ∨ ∃ ys, d' = .lst ys ∧ (xs.length = ys.length → ∃ m, n = m + 1 ∧ okEs T xs ys m) := by
  cases d' with
  | lst ys => exact .inr (.inr ⟨ys, rfl, by simpa only [okE] using q⟩)
  | _ => first | exact .inl rfl | exact .inr (.inl ⟨_, rfl⟩) | (simp [okE, flatD, isTupD] at q; done)
theorem okE_tup {xs : List D} (q : okE T (.tup xs) d' n) : flatD d' = true ∨ (∃ ys, d' = .lst ys) ∨ ∃ ys m, d' = .tup ys ∧ n = m + 1 ∧ okEs T xs ys m := by
  cases d' with
  | tup ys =>
    simp only [okE] at q
    obtain ⟨m, e, q⟩ := q
    exact .inr (.inr ⟨ys, m, rfl, e, q⟩)
  | _ => first | exact .inl rfl | exact .inr (.inl ⟨_, rfl⟩) | (simp [okE, flatD, isLstD] at q; done)
theorem eqD_flat_lst {ys : List D} (f : flatD d = true) : eqD d (.lst ys) = false := by cases d <;> first | (cases f; done) | simp [eqD]
theorem eqD_flat_tup {ys : List D} (f : flatD d = true) : eqD d (.tup ys) = false := by cases d <;> first | (cases f; done) | simp [eqD]
theorem eqD_lst_flat {ys : List D} (f : flatD d = true) : eqD (.lst ys) d = false := by cases d <;> first | (cases f; done) | simp [eqD]
theorem eqD_tup_flat {ys : List D} (f : flatD d = true) : eqD (.tup ys) d = false := by cases d <;> first | (cases f; done) | simp [eqD]
theorem eqD_lst_tup {xs ys : List D} : eqD (.lst ys) (.tup xs) = false := by simp [eqD]
theorem eqD_tup_lst {xs ys : List D} : eqD (.tup ys) (.lst xs) = false := by simp [eqD]
end
section
variable {X : Cx} {ct : CT} {T : EqT} {W : WX} {n : Nat}
theorem rcS (tk : Takes X W) (hd : ∀ a, ct.tok 7 a = .dK []) (ET : ∀ c k wf, T c = some (k, wf) → EqAtO X ct T c k wf) (hm : ∀ m, n = m + 1 → EqS X ct T m) : RcS X ct T n := by
  intro d d' q A pins s σ H O x y u v sb I ru rv dm r r'
  have hu := sb.room.units0
  have self : ∃ H', Inv X pins σ H' s ∧ Same H H' := ⟨H, I, Same.refl H⟩
  rcases okE_cases q with f | ⟨xs, rfl⟩ | ⟨xs, rfl⟩ | ⟨c, fs, rfl⟩ | ⟨rfl, rfl⟩
  · rcases okE_flat f q with f' | ⟨ys, rfl⟩ | ⟨ys, rfl⟩
    · exact flat_RcAt r r' ru rv f f' X.prog X.w X.xe _ ⟨rfl, self⟩
    · obtain ⟨b, us, rfl, rfl, _, _, its, k, _, e⟩ := lst_at I rv r'
      rw [eqD_flat_lst f]
      exact RcAt_list ⟨_, e, rfl, k, rfl⟩ hu r ru f X.prog X.w X.xe _ ⟨rfl, self⟩
    · obtain ⟨b, us, rfl, rfl, _, its, _, e⟩ := tup_at I rv r'
      rw [eqD_flat_tup f]
      exact RcAt_tuple e hu r ru f X.prog X.w X.xe _ ⟨rfl, self⟩
  · obtain ⟨a, vs, rfl, rfl, la, ra, its, k, rva, e⟩ := lst_at I ru r
    rcases okE_lst q with f' | ⟨ys, rfl⟩ | ⟨ys, rfl, q2⟩
    · rw [eqD_lst_flat f']
      exact list_RcAt ⟨_, e, rfl, k, rfl⟩ hu r' rv f' X.prog X.w X.xe _ ⟨rfl, self⟩
    · obtain ⟨b, us, rfl, rfl, _, its2, _, e2⟩ := tup_at I rv r'
      rw [eqD_lst_tup]
      exact SeqAt.RcAt.list_tuple ⟨_, e, rfl, k, rfl⟩ e2 hu X.prog X.w X.xe _ ⟨rfl, self⟩
    · obtain ⟨b, us, rfl, rfl, lb, rb, its2, k2, rvb, e2⟩ := lst_at I rv r'
      by_cases hl : xs.length = ys.length
      · obtain ⟨m, rfl, q3⟩ := q2 hl
        refine G.rc_listB hu (LpI X pins σ H) (listB (hm m rfl) sb dm hl q3 ra rb la lb) (fun s' z => ⟨?_, z⟩) self
        rw [eqDs_all' hl]
        simp only [eqD]
      · simp only [eqD]
        rw [eqDs_len hl]
        refine SeqAt.RcAt.lists_lengths ⟨_, e, rfl, k, rfl⟩ ⟨_, e2, rfl, k2, rfl⟩ ?_ hu X.prog X.w X.xe _ ⟨rfl, self⟩
        have e3 : its.toArray.size = xs.length := by rw [List.size_toArray, ← rva.length, ra.length]
        have e4 : its2.toArray.size = ys.length := by rw [List.size_toArray, ← rvb.length, rb.length]
        rw [e3, e4]
        simpa using hl
  · obtain ⟨a, vs, rfl, rfl, ra, its, rva, e⟩ := tup_at I ru r
    rcases okE_tup q with f' | ⟨ys, rfl⟩ | ⟨ys, m, rfl, rfl, q2⟩
    · rw [eqD_tup_flat f']
      exact tuple_RcAt e hu r' rv f' X.prog X.w X.xe _ ⟨rfl, self⟩
    · obtain ⟨b, us, rfl, rfl, _, _, its2, k2, _, e2⟩ := lst_at I rv r'
      rw [eqD_tup_lst]
      exact SeqAt.RcAt.tuple_list e ⟨_, e2, rfl, k2, rfl⟩ hu X.prog X.w X.xe _ ⟨rfl, self⟩
    · obtain ⟨b, us, rfl, rfl, rb, its2, rvb, e2⟩ := tup_at I rv r'
      refine G.rc_tupB (e := eqAtI xs ys) hu (LpI X pins σ H) e e2 (fun i h1 h2 s' z => turnS (hm m rfl) sb dm q2 ra rb rva rvb i h1 h2 s' z) (fun s' z => ⟨?_, z⟩) self
      have e3 : its.toArray.size = xs.length := by rw [List.size_toArray, ← rva.length, ra.length]
      have e4 : its2.toArray.size = ys.length := by rw [List.size_toArray, ← rvb.length, rb.length]
      rw [e3, e4, eqDs_all]
      simp only [eqD]
  · simp only [okE, Bool.and_eq_true] at q
    obtain ⟨k, wf, hT, hk, ho, _, q⟩ := q
    have E := ET c k wf hT
    obtain ⟨tb, L, hn⟩ := looks_right hd I rv r' ho E
    obtain ⟨f, fd, ps, hs, hf, F, hb⟩ := E.fn
    obtain ⟨a, dx, vs, rfl, _, l, _, _⟩ := rep_obj.mp r
    have ru0 := ru
    cases ru
    obtain ⟨mA, J, _⟩ := ins_get I.hok l
    obtain ⟨od, J, _⟩ := J.look
    obtain ⟨m, hF⟩ := I.fr
    refine PySem.W.cmp_K (op := .Eq) hu hF I.ok.mod.kin J L hn hs hf ?_
    refine wpAny_mono (own_run tk F hb (sb.mono hk) I ru0 rv dm r r' q) (fun z s' hz => ?_) fun _ _ z => z
    obtain ⟨rfl, hz⟩ := hz
    exact ⟨rfl, hz⟩
  · obtain ⟨a, rfl, _, l⟩ := rep_tok.mp r
    obtain ⟨b, rfl, _, l2⟩ := rep_tok.mp r'
    cases ru
    cases rv
    rw [hd] at l l2
    obtain ⟨_, ya, va, ra, da⟩ := (show ObjOk X.prog X.w H s.heap a (.dK []) from I.hok a _ l)
    obtain ⟨_, yb, vb, rb, db⟩ := (show ObjOk X.prog X.w H s.heap b (.dK []) from I.hok b _ l2)
    have hl : va.length = vb.length := by rw [← ra.length, ← rb.length]
    exact PySem.W.keq_eq (knd := mixKind X.prog X.w) (r := true) ya yb da db hu (fun _ => by
      cases (List.eq_nil_of_length_eq_zero ra.length.symm : va = [])
      exact .nil) ⟨by simp [hl, eqD], self⟩
theorem neS (tk : Takes X W) (hd : ∀ a, ct.tok 7 a = .dK []) (ET : ∀ c k wf, T c = some (k, wf) → EqAtO X ct T c k wf) (hm : ∀ m, n = m + 1 → EqS X ct T m) : NeS X ct T n := by
  intro d d' q A pins s σ H O x y u v sb I ru rv dm r r'
  have hu := sb.room.units0
  have sb0 : Sub X n A := sb.mono (Nat.le_succ n)
  have self : ∃ H', Inv X pins σ H' s ∧ Same H H' := ⟨H, I, Same.refl H⟩
  rcases okE_cases q with f | ⟨xs, rfl⟩ | ⟨xs, rfl⟩ | ⟨c, fs, rfl⟩ | ⟨rfl, rfl⟩
  · rcases okE_flat f q with f' | ⟨ys, rfl⟩ | ⟨ys, rfl⟩
    · exact flat_RcNeAt r r' ru rv f f' X.prog X.w X.xe _ ⟨rfl, self⟩
    · obtain ⟨b, us, rfl, rfl, _, _, its, k, _, e⟩ := lst_at I rv r'
      rw [eqD_flat_lst f]
      exact RcNeAt_list ⟨_, e, rfl, k, rfl⟩ hu r ru f X.prog X.w X.xe _ ⟨rfl, self⟩
    · obtain ⟨b, us, rfl, rfl, _, its, _, e⟩ := tup_at I rv r'
      rw [eqD_flat_tup f]
      exact RcNeAt_tuple e hu r ru f X.prog X.w X.xe _ ⟨rfl, self⟩
  · obtain ⟨a, vs, rfl, rfl, la, ra, its, k, rva, e⟩ := lst_at I ru r
    rcases okE_lst q with f' | ⟨ys, rfl⟩ | ⟨ys, rfl, q2⟩
    · rw [eqD_lst_flat f']
      exact list_RcNeAt ⟨_, e, rfl, k, rfl⟩ hu r' rv f' X.prog X.w X.xe _ ⟨rfl, self⟩
    · obtain ⟨b, us, rfl, rfl, _, its2, _, e2⟩ := tup_at I rv r'
      rw [eqD_lst_tup]
      exact SeqAt.RcNeAt.list_tuple ⟨_, e, rfl, k, rfl⟩ e2 hu X.prog X.w X.xe _ ⟨rfl, self⟩
    · obtain ⟨b, us, rfl, rfl, lb, rb, its2, k2, rvb, e2⟩ := lst_at I rv r'
      by_cases hl : xs.length = ys.length
      · obtain ⟨m, rfl, q3⟩ := q2 hl
        refine G.rcn_listB hu (LpI X pins σ H) (listB (hm m rfl) sb0 dm hl q3 ra rb la lb) (fun s' z => ⟨?_, z⟩) self
        rw [eqDs_all' hl]
        simp only [eqD]
      · simp only [eqD]
        rw [eqDs_len hl]
        refine SeqAt.RcNeAt.lists_lengths ⟨_, e, rfl, k, rfl⟩ ⟨_, e2, rfl, k2, rfl⟩ ?_ hu X.prog X.w X.xe _ ⟨rfl, self⟩
        have e3 : its.toArray.size = xs.length := by rw [List.size_toArray, ← rva.length, ra.length]
        have e4 : its2.toArray.size = ys.length := by rw [List.size_toArray, ← rvb.length, rb.length]
        rw [e3, e4]
        simpa using hl
  · obtain ⟨a, vs, rfl, rfl, ra, its, rva, e⟩ := tup_at I ru r
    rcases okE_tup q with f' | ⟨ys, rfl⟩ | ⟨ys, m, rfl, rfl, q2⟩
    · rw [eqD_tup_flat f']
      exact tuple_RcNeAt e hu r' rv f' X.prog X.w X.xe _ ⟨rfl, self⟩
    · obtain ⟨b, us, rfl, rfl, _, _, its2, k2, _, e2⟩ := lst_at I rv r'
      rw [eqD_tup_lst]
      exact SeqAt.RcNeAt.tuple_list e ⟨_, e2, rfl, k2, rfl⟩ hu X.prog X.w X.xe _ ⟨rfl, self⟩
    · obtain ⟨b, us, rfl, rfl, rb, its2, rvb, e2⟩ := tup_at I rv r'
      refine G.rcn_tupB (e := eqAtI xs ys) hu (LpI X pins σ H) e e2 (fun i h1 h2 s' z => turnS (hm m rfl) sb0 dm q2 ra rb rva rvb i h1 h2 s' z) (fun s' z => ⟨?_, z⟩) self
      have e3 : its.toArray.size = xs.length := by rw [List.size_toArray, ← rva.length, ra.length]
      have e4 : its2.toArray.size = ys.length := by rw [List.size_toArray, ← rvb.length, rb.length]
      rw [e3, e4, eqDs_all]
      simp only [eqD]
  · simp only [okE, Bool.and_eq_true] at q
    obtain ⟨k, wf, hT, hk, ho, _, q⟩ := q
    have E := ET c k wf hT
    obtain ⟨tb, L, hn⟩ := looks_right hd I rv r' ho E
    obtain ⟨f, fd, ps, hs, hf, F, hb⟩ := E.fn
    obtain ⟨a, dx, vs, rfl, _, l, _, _⟩ := rep_obj.mp r
    have ru0 := ru
    cases ru
    obtain ⟨mA, J, _⟩ := ins_get I.hok l
    obtain ⟨od, J, _⟩ := J.look
    refine G.ncmp_K (by have := sb.room.un; omega) I.kIn J L hn E.ob hs E.ne hf ?_
    refine wpAny_mono (own_run tk F hb (sb.in1.mono hk) I ru0 rv dm r r' q) (fun z s' hz => ?_) fun _ _ z => z
    obtain ⟨rfl, hz⟩ := hz
    exact ⟨_, rfl, rfl, hz⟩
  · obtain ⟨a, rfl, _, l⟩ := rep_tok.mp r
    obtain ⟨b, rfl, _, l2⟩ := rep_tok.mp r'
    cases ru
    cases rv
    rw [hd] at l l2
    obtain ⟨_, ya, va, ra, da⟩ := (show ObjOk X.prog X.w H s.heap a (.dK []) from I.hok a _ l)
    obtain ⟨_, yb, vb, rb, db⟩ := (show ObjOk X.prog X.w H s.heap b (.dK []) from I.hok b _ l2)
    have hl : va.length = vb.length := by rw [← ra.length, ← rb.length]
    exact PySem.W.keq_ne (knd := mixKind X.prog X.w) (r := true) ya yb da db hu (fun _ => by
      cases (List.eq_nil_of_length_eq_zero ra.length.symm : va = [])
      exact .nil) ⟨by simp [hl, eqD], self⟩
/-- == inside a builtin -/
theorem eqBool_ne {prog : Program} {w : World} {A : Around} {E : Value → Shared → Prop} {s : Shared} {a : Addr} {v : Value} {Q : Bool → Shared → Prop} (hne : (Value.ref a == v) = false) (h : wpAny (model prog w) A (richCompare .Eq (.ref a) v) (fun z s' => ∃ r, z = .bool r ∧ Q r s') E s) : wpAny (model prog w) A (eqBool (.ref a) v) Q E s := by
  unfold eqBool
  refine wpAny_holding ?_
  refine wpAny_ite_split (fun hab => absurd hab (by rw [hne]; exact Bool.false_ne_true)) (fun _ => ?_)
  refine wpAny_bind (wpAny_mono h (fun v s' hv => ?_) fun _ _ x => x)
  obtain ⟨r, rfl, q⟩ := hv
  exact wpAny_truthy_bool q
theorem eqS_one (tk : Takes X W) (ET : ∀ c k wf, T c = some (k, wf) → EqAtO X ct T c k wf) (hd : ∀ a, ct.tok 7 a = .dK []) (ap : ApartT T ct) (hm : ∀ m, n = m + 1 → EqS X ct T m) : EqS X ct T n := by
  have rc := rcS tk hd ET hm
  intro d d' q A pins s σ H O x y u v sb I ru rv dm r r'
  have hu := sb.room.units0
  have self : ∃ H', Inv X pins σ H' s ∧ Same H H' := ⟨H, I, Same.refl H⟩
  have two : ∀ (a b : Addr), u = .ref a → v = .ref b → (x = .ref a) → (y = .ref b) → wpAny (model X.prog X.w) A (eqBool u v) (fun r s' => r = eqD d d' ∧ ∃ H', Inv X pins σ H' s' ∧ Same H H') X.xe s := fun a b e1 e2 e3 e4 => by
    subst e1 e2 e3 e4
    refine G.eqBool_refB (fun e => ?_) (fun e => wpAny_mono (rc d d' q A pins s σ H O _ _ _ _ sb I ru rv dm r r') (fun z s' hz => ?_) fun _ _ z => z)
    · subst e
      exact ⟨(same_ok I hd ap q r r').symm, self⟩
    · obtain ⟨rfl, hz⟩ := hz
      exact ⟨_, rfl, rfl, hz⟩
  rcases okE_cases q with f | ⟨xs, rfl⟩ | ⟨xs, rfl⟩ | ⟨c, fs, rfl⟩ | ⟨rfl, rfl⟩
  · rcases okE_flat f q with f' | ⟨ys, rfl⟩ | ⟨ys, rfl⟩
    · exact flat_EqAt r r' ru rv f f' X.prog X.w X.xe _ ⟨rfl, self⟩
    · obtain ⟨b, us, rfl, rfl, _, _, its, k, _, e⟩ := lst_at I rv r'
      rw [eqD_flat_lst f]
      exact EqAt_list ⟨_, e, rfl, k, rfl⟩ hu r ru f X.prog X.w X.xe _ ⟨rfl, self⟩
    · obtain ⟨b, us, rfl, rfl, _, its, _, e⟩ := tup_at I rv r'
      rw [eqD_flat_tup f]
      exact EqAt_tuple e hu r ru f X.prog X.w X.xe _ ⟨rfl, self⟩
  · obtain ⟨a, vs, rfl, rfl, la, ra, its, k, rva, e⟩ := lst_at I ru r
    rcases okE_lst q with f' | ⟨ys, rfl⟩ | ⟨ys, rfl, q2⟩
    · rw [eqD_lst_flat f']
      exact list_EqAt ⟨_, e, rfl, k, rfl⟩ hu r' rv f' X.prog X.w X.xe _ ⟨rfl, self⟩
    · obtain ⟨b, us, rfl, rfl, _, its2, _, e2⟩ := tup_at I rv r'
      rw [eqD_lst_tup]
      exact SeqAt.EqAt.list_tuple ⟨_, e, rfl, k, rfl⟩ e2 hu X.prog X.w X.xe _ ⟨rfl, self⟩
    · obtain ⟨b, us, rfl, rfl, lb, rb, its2, k2, rvb, e2⟩ := lst_at I rv r'
      exact two a b rfl rfl rfl rfl
  · obtain ⟨a, vs, rfl, rfl, ra, its, rva, e⟩ := tup_at I ru r
    rcases okE_tup q with f' | ⟨ys, rfl⟩ | ⟨ys, m, rfl, e9, q2⟩
    · rw [eqD_tup_flat f']
      exact tuple_EqAt e hu r' rv f' X.prog X.w X.xe _ ⟨rfl, self⟩
    · obtain ⟨b, us, rfl, rfl, _, _, its2, k2, _, e2⟩ := lst_at I rv r'
      rw [eqD_tup_lst]
      exact SeqAt.EqAt.tuple_list e ⟨_, e2, rfl, k2, rfl⟩ hu X.prog X.w X.xe _ ⟨rfl, self⟩
    · obtain ⟨b, us, rfl, rfl, rb, its2, rvb, e2⟩ := tup_at I rv r'
      exact two a b rfl rfl rfl rfl
  · obtain ⟨a, dx, vs, rfl, _, l, _, _⟩ := rep_obj.mp r
    have ru0 := ru
    cases ru
    have one : ((Value.ref a) == v) = false → wpAny (model X.prog X.w) A (eqBool (.ref a) v) (fun r s' => r = eqD (.obj c fs) d' ∧ ∃ H', Inv X pins σ H' s' ∧ Same H H') X.xe s := fun hne =>
      eqBool_ne hne (wpAny_mono (rc _ d' q A pins s σ H O _ _ _ _ sb I ru0 rv dm r r') (fun z s' hz => by
        obtain ⟨rfl, hz⟩ := hz
        exact ⟨_, rfl, rfl, hz⟩) fun _ _ z => z)
    cases d' with
    | lst ys =>
      obtain ⟨b, us, rfl, rfl, lb, rb, its2, k2, rvb, e2⟩ := lst_at I rv r'
      exact two a b rfl rfl rfl rfl
    | tup ys =>
      obtain ⟨b, us, rfl, rfl, rb, its2, rvb, e2⟩ := tup_at I rv r'
      exact two a b rfl rfl rfl rfl
    | obj c' gs =>
      obtain ⟨b, dx', vs', rfl, _, l', _, _⟩ := rep_obj.mp r'
      cases rv
      exact two a b rfl rfl rfl rfl
    | non =>
      rw [rep_non] at r'
      subst r'
      cases rv
      exact one rfl
    | bl b =>
      rw [rep_bl] at r'
      subst r'
      cases rv
      exact one rfl
    | int i =>
      rw [rep_int] at r'
      subst r'
      obtain ⟨t, rfl⟩ := rv
      exact one rfl
    | str w =>
      rw [rep_str] at r'
      subst r'
      obtain ⟨t, rfl⟩ := rv
      exact one rfl
    | tok k =>
      obtain ⟨b, rfl, _, _⟩ := rep_tok.mp r'
      cases rv
      exact two a b rfl rfl rfl rfl
    | _ => simp [okE, ownRight, flatD, isLstD, isTupD] at q
  · obtain ⟨a, rfl, _, l⟩ := rep_tok.mp r
    obtain ⟨b, rfl, _, l2⟩ := rep_tok.mp r'
    cases ru
    cases rv
    exact two a b rfl rfl rfl rfl
theorem eqS (tk : Takes X W) (hd : ∀ a, ct.tok 7 a = .dK []) (ET : ∀ c k wf, T c = some (k, wf) → EqAtO X ct T c k wf) (ap : ApartT T ct) : ∀ n, EqS X ct T n
  | 0 => eqS_one tk ET hd ap fun m e => by cases e
  | n + 1 => eqS_one tk ET hd ap fun m e => by
    cases e
    exact eqS tk hd ET ap n
def oEqT (T : EqT) (n : Nat) : O2 := fun x y Q => okE T x y n ∧ Q (.bl (eqD x y))
def oNeT (T : EqT) (n : Nat) : O2 := fun x y Q => okE T x y n ∧ Q (.bl (!eqD x y))
theorem od_eqT (tk : Takes X W) (hd : ∀ a, ct.tok 7 a = .dK []) (ET : ∀ c k wf, T c = some (k, wf) → EqAtO X ct T c k wf) (ap : ApartT T ct) (hr : Room n X.A) : OpR X (compareOp .Eq) (R2D X.K ct (oEqT T n)) := by
  intro pins s σ H x y v u Q I rx ry h
  obtain ⟨O, dx, dy, QD, dm, r, r', ⟨q, hq⟩, k⟩ := h
  show wpAny (model X.prog X.w) X.A (richCompare .Eq v u) (EP X pins σ Q) X.xe s
  refine wpAny_mono (rcS tk hd ET (fun m _ => eqS tk hd ET ap m) dx dy q X.A pins s σ H O x y v u ⟨hr, rfl⟩ I rx ry dm r r') (fun z s' hz => ?_) fun _ _ z => z
  obtain ⟨rfl, H', I', e⟩ := hz
  exact ⟨.bl _, H', I', rfl, k _ _ _ e (rep_bl.mpr rfl) hq⟩
theorem od_neT (tk : Takes X W) (hd : ∀ a, ct.tok 7 a = .dK []) (ET : ∀ c k wf, T c = some (k, wf) → EqAtO X ct T c k wf) (ap : ApartT T ct) (hr : Room (n + 1) X.A) : OpR X (compareOp .NotEq) (R2D X.K ct (oNeT T n)) := by
  intro pins s σ H x y v u Q I rx ry h
  obtain ⟨O, dx, dy, QD, dm, r, r', ⟨q, hq⟩, k⟩ := h
  show wpAny (model X.prog X.w) X.A (richCompare .NotEq v u) (EP X pins σ Q) X.xe s
  refine wpAny_mono (neS tk hd ET (fun m _ => eqS tk hd ET ap m) dx dy q X.A pins s σ H O x y v u ⟨hr, rfl⟩ I rx ry dm r r') (fun z s' hz => ?_) fun _ _ z => z
  obtain ⟨rfl, H', I', e⟩ := hz
  exact ⟨.bl _, H', I', rfl, k _ _ _ e (rep_bl.mpr rfl) hq⟩
end
end Dl
set_option Elab.async false
set_option linter.all false
set_option maxRecDepth 100000
set_option maxHeartbeats 4000000
namespace Dl
open PySem PySem.Spec L2
section
variable {X : Cx} {ct : CT} {W : WX} {e o a b : Expr} {es : List Expr} {td to ta tb : TD} {tda : TDA} {pos apos p : Pos} {x m : Str}
theorem de_gs {y : Str} (hm : ∃ t, X.mg x = some (.str y t)) (hg : Gl X x := by rfl) (hd : (x == ("__debug__" : Str)) = false := by decide) : DE X ct W (.Name x pos) (dC (.str y)) := by
  obtain ⟨t, hm⟩ := hm
  exact de_c (pe_glob hg hm (v := .str y) ⟨t, rfl⟩ hd) fun _ _ => rep_str.mpr rfl
theorem de_gcl {c : Nat} (hm : X.mg x = some (.ref (ct.addr c))) (hg : Gl X x := by rfl) (hd : (x == ("__debug__" : Str)) = false := by decide) : DE X ct W (.Name x pos) (dC (.cls c)) :=
  de_c (pe_glob hg hm (v := .ref (ct.addr c)) rfl hd) fun _ _ => rep_cls.mpr rfl
theorem de_gty {T : String} (hm : X.mg x = none) (hv : bootBuiltins x = some (.type T) := by decide +kernel) (hg : Gl X x := by rfl) (hn : x ≠ "__name__" := by decide) (hd : (x == ("__debug__" : Str)) = false := by decide) : DE X ct W (.Name x pos) (dC (.ty T)) :=
  de_c ⟨fun _ _ _ H _ I h => ld_blt I hg hm hv ⟨.ty T, H, I, rfl, h⟩ hn hd⟩ fun _ _ => by simp only [Rep]
theorem dom_new {H : Hp} {O : Addr → Prop} (dm : Dom H O) {p : Addr} (hp : H p = none) : ¬ O p := fun z => by
  obtain ⟨o, e⟩ := dm p z
  rw [hp] at e
  cases e
theorem de_dict (hd : ∀ a, ct.tok 7 a = .dK []) : DE X ct W (.Dict [] [] pos) (dC (.tok 7)) := PE.imp pe_dnewK fun σ H Q ⟨O, f, dσ, QD, QE, hs, h, k, _⟩ p hp =>
  k _ _ _ (same_new hp) (rep_tok.mpr ⟨p, rfl, dom_new hs.dom hp, by rw [hd]; exact upd_same⟩) h
end
/-- one sign in a text; flat items in a list or tuple -/
def oIn : O2
  | .str x, .str z, Q => ∃ c, x = ⟨#[c]⟩ ∧ Q (.bl (decide (c ∈ z.cps.toList)))
  | d, .tup xs, Q => flatD d = true ∧ xs.all flatD = true ∧ Q (.bl (xs.any fun y => eqD y d))
  | d, .lst xs, Q => flatD d = true ∧ xs.all flatD = true ∧ Q (.bl (xs.any fun y => eqD y d))
  | _, _, _ => False
def oNotIn : O2
  | .str x, .str z, Q => ∃ c, x = ⟨#[c]⟩ ∧ Q (.bl (!decide (c ∈ z.cps.toList)))
  | d, .tup xs, Q => flatD d = true ∧ xs.all flatD = true ∧ Q (.bl (!xs.any fun y => eqD y d))
  | d, .lst xs, Q => flatD d = true ∧ xs.all flatD = true ∧ Q (.bl (!xs.any fun y => eqD y d))
  | _, _, _ => False
section
variable {K : PySem.W.Frag} {ct : CT} {H : Hp} {O : Addr → Prop}
theorem flat_rep {d : D} {v : V} (r : Rep K ct H O d v) (f : flatD d = true) : flatV v = true := by
  cases d <;> first | (cases f; done) | (simp only [Rep] at r; subst r; rfl)
theorem flat_eqV {d d' : D} {v u : V} (r : Rep K ct H O d v) (r' : Rep K ct H O d' u) (f : flatD d = true) (f' : flatD d' = true) : eqV v u = eqD d d' := by
  cases d <;> first | (cases f; done) | skip
  all_goals (cases d' <;> first | (cases f'; done) | (simp only [Rep] at r r'; subst r; subst r'; simp [eqV, eqD]))
theorem flat_all : ∀ {ds : List D} {vs : List V}, RepL K ct H O ds vs → ds.all flatD = true → vs.all flatV = true
  | [], vs, r, _ => by simp only [RepL] at r; subst r; rfl
  | d :: ds, vs, r, f => by
    obtain ⟨v, q, rfl, h1, h2⟩ := r.cons_inv
    rw [List.all_cons, Bool.and_eq_true] at f ⊢
    exact ⟨flat_rep h1 f.1, flat_all h2 f.2⟩
theorem flat_any {d : D} {v : V} (r0 : Rep K ct H O d v) (f0 : flatD d = true) : ∀ {ds : List D} {vs : List V}, RepL K ct H O ds vs → ds.all flatD = true → inV v vs = ds.any fun y => eqD y d
  | [], vs, r, _ => by simp only [RepL] at r; subst r; rfl
  | d' :: ds, vs, r, f => by
    obtain ⟨v', q, rfl, h1, h2⟩ := r.cons_inv
    rw [List.all_cons, Bool.and_eq_true] at f
    have ih := flat_any r0 f0 h2 f.2
    unfold inV at ih ⊢
    rw [List.any_cons, List.any_cons, ih, flat_eqV h1 r0 f.1 f0]
end
section
variable {X : Cx} {ct : CT}
theorem od_in : OpR X (compareOp .In) (R2D X.K ct oIn) := by
  intro pins s σ H x y v u Q I rx ry h
  obtain ⟨O, dx, dy, QD, dm, r, r', q, k⟩ := h
  unfold oIn at q
  split at q
  · obtain ⟨c, rfl, q⟩ := q
    exact op_in_sign pins s σ H x y v u Q I rx ry ⟨c, _, rep_str.mp r, rep_str.mp r', k _ _ H (Same.refl H) (rep_bl.mpr rfl) q⟩
  · obtain ⟨f, fs, q⟩ := q
    obtain ⟨a, vs, ea, l, rl⟩ := rep_tup.mp r'
    exact op_in_seq pins s σ H x y v u Q I rx ry ⟨a, vs, ea, .inr l, flat_rep r f, flat_all rl fs, k _ _ H (Same.refl H) (rep_bl.mpr (by rw [flat_any r f rl fs] <;> rfl)) q⟩
  · obtain ⟨f, fs, q⟩ := q
    obtain ⟨a, vs, ea, _, l, rl⟩ := rep_lst.mp r'
    exact op_in_seq pins s σ H x y v u Q I rx ry ⟨a, vs, ea, .inl (SqL.of l), flat_rep r f, flat_all rl fs, k _ _ H (Same.refl H) (rep_bl.mpr (by rw [flat_any r f rl fs] <;> rfl)) q⟩
  · exact q.elim
theorem od_notIn : OpR X (compareOp .NotIn) (R2D X.K ct oNotIn) := by
  intro pins s σ H x y v u Q I rx ry h
  obtain ⟨O, dx, dy, QD, dm, r, r', q, k⟩ := h
  unfold oNotIn at q
  split at q
  · obtain ⟨c, rfl, q⟩ := q
    exact op_notIn_sign pins s σ H x y v u Q I rx ry ⟨c, _, rep_str.mp r, rep_str.mp r', k _ _ H (Same.refl H) (rep_bl.mpr rfl) q⟩
  · obtain ⟨f, fs, q⟩ := q
    obtain ⟨a, vs, ea, l, rl⟩ := rep_tup.mp r'
    exact op_notIn_seq pins s σ H x y v u Q I rx ry ⟨a, vs, ea, .inr l, flat_rep r f, flat_all rl fs, k _ _ H (Same.refl H) (rep_bl.mpr (by rw [flat_any r f rl fs] <;> rfl)) q⟩
  · obtain ⟨f, fs, q⟩ := q
    obtain ⟨a, vs, ea, _, l, rl⟩ := rep_lst.mp r'
    exact op_notIn_seq pins s σ H x y v u Q I rx ry ⟨a, vs, ea, .inl (SqL.of l), flat_rep r f, flat_all rl fs, k _ _ H (Same.refl H) (rep_bl.mpr (by rw [flat_any r f rl fs] <;> rfl)) q⟩
  · exact q.elim
end
def kindD : D → Option String
  | .non => some "NoneType"
  | .bl _ => some "bool"
  | .int _ => some "int"
  | .str _ => some "str"
  | .lst _ => some "list"
  | .tup _ => some "tuple"
  | .tok k => if k = 7 then some "dict" else none
  | _ => none
def isiD (sub : Sub2) : D → D → Option Bool
  | .obj c _, .cls c' => sub c c'
  | .obj c _, .ty m => if (sub c c).isSome && kinds.contains m then some false else none
  | d, .cls c' => if (sub c' c').isSome then (kindD d).map fun _ => false else none
  | d, .ty m => if kinds.contains m then (kindD d).map fun k => isiB k m else none
  | _, _ => none
structure IsiOk (K : PySem.W.Frag) (ct : CT) (sub : Sub2) : Prop where
  bb : ∀ k m, k ∈ kinds → m ∈ kinds → PySem.W.kitOne K (.type k) (.type m) = some (isiB k m)
  oo : ∀ c c' b, sub c c' = some b → PySem.W.kitOne K (.ref (ct.addr c)) (.ref (ct.addr c')) = some b ∧ C8.InsC K (ct.addr c)
  ob : ∀ c m, (sub c c).isSome = true → m ∈ kinds → PySem.W.kitOne K (.ref (ct.addr c)) (.type m) = some false
  bo : ∀ c k, (sub c c).isSome = true → k ∈ kinds → PySem.W.kitOne K (.type k) (.ref (ct.addr c)) = some false
def bIsi (sub : Sub2) : List D → (D → Prop) → Prop
  | [d, c], Q => ∃ b, isiD sub d c = some b ∧ Q (.bl b)
  | _, _ => False
section
variable {X : Cx} {ct : CT} {sub : Sub2}
theorem ty_kind (hd : ∀ a, ct.tok 7 a = .dK []) {H : Hp} {O : Addr → Prop} {d : D} {v : V} {k : String} (hk : kindD d = some k) (r : Rep X.K ct H O d v) {pins : List (Addr × Obj)} {s : Shared} {σ : St} (I : Inv X pins σ H s) : k ∈ kinds ∧ TyX X.K H v (.type k) := by
  unfold kindD at hk
  split at hk
  · cases hk
    rw [rep_non] at r
    subst r
    exact ⟨by simp, .base .non⟩
  · cases hk
    rw [rep_bl] at r
    subst r
    exact ⟨by simp, .base (.bl _)⟩
  · cases hk
    rw [rep_int] at r
    subst r
    exact ⟨by simp, .base (.int _)⟩
  · cases hk
    rw [rep_str] at r
    subst r
    exact ⟨by simp, .base (.str _)⟩
  · cases hk
    obtain ⟨a, vs, rfl, _, l, _⟩ := rep_lst.mp r
    exact ⟨by simp, .base (.lst l)⟩
  · cases hk
    obtain ⟨a, vs, rfl, l, _⟩ := rep_tup.mp r
    refine ⟨by simp, ?_⟩
    rcases l with l | ⟨o, its, n, h1, h2, _⟩
    · rcases l with l | ⟨o, l⟩
      · exact .base (.tup l)
      · exact .fTuple l
    · exact .kTuple h1 h2
  · obtain ⟨a, rfl, _, l⟩ := rep_tok.mp r
    split at hk
    · rename_i e
      cases hk
      subst e
      rw [hd] at l
      exact ⟨by simp, .base (.dK l)⟩
    · cases hk
  · cases hk
theorem cd_isi (hd : ∀ a, ct.tok 7 a = .dK []) (T : IsiOk X.K ct sub) : CallR X (.builtin "isinstance") (RCD X.K ct (bIsi sub)) := by
  intro pins s σ H vs us Q I rv ⟨O, ds, QD, dm, r, o, k⟩
  unfold bIsi at o
  split at o
  · rename_i d c
    obtain ⟨b, hb, q⟩ := o
    obtain ⟨v, u, rfl, h1, h2⟩ := rep2 r
    have go : ∀ (t : Value) (w : Value), ClsV u w → TyX X.K H v t → PySem.W.kitOne X.K t w = some b → wpAny (model X.prog X.w) X.A (call (.builtin "isinstance") us) (EP X pins σ Q) X.xe s := fun t w k1 k2 k3 =>
      call_isi pins s σ H _ us Q I rv ⟨v, u, t, w, b, rfl, k1, k2, k3, k _ _ H (Same.refl H) (rep_bl.mpr rfl) q⟩
    unfold isiD at hb
    split at hb
    · rename_i c0 fs c1
      obtain ⟨h3, h4⟩ := T.oo _ _ _ hb
      obtain ⟨a, dx, ws, rfl, _, l, _⟩ := rep_obj.mp h1
      rw [rep_cls] at h2
      subst h2
      exact go _ _ (.own _) (.base (.ins l h4.cl h4.ha h4.hn h4.htk h4.hm)) h3
    · rename_i c0 fs m
      split at hb
      · rename_i hc
        cases hb
        rw [Bool.and_eq_true] at hc
        obtain ⟨b', hb'⟩ := Option.isSome_iff_exists.mp hc.1
        obtain ⟨h3, h4⟩ := T.oo _ _ _ hb'
        obtain ⟨a, dx, ws, rfl, _, l, _⟩ := rep_obj.mp h1
        obtain rfl : u = .ty m := by simpa only [Rep] using h2
        exact go _ _ (.ty _) (.base (.ins l h4.cl h4.ha h4.hn h4.htk h4.hm)) (T.ob _ _ hc.1 (by simpa using hc.2))
      · cases hb
    · rename_i d' c1 hno
      split at hb
      · rename_i hc
        obtain ⟨k, hk, e⟩ := Option.map_eq_some_iff.mp hb
        subst e
        obtain ⟨h3, h4⟩ := ty_kind hd hk h1 I
        rw [rep_cls] at h2
        subst h2
        exact go _ _ (.own _) h4 (T.bo _ _ hc h3)
      · cases hb
    · rename_i d' m hno
      split at hb
      · rename_i hc
        obtain ⟨k, hk, e⟩ := Option.map_eq_some_iff.mp hb
        subst e
        obtain ⟨h3, h4⟩ := ty_kind hd hk h1 I
        obtain rfl : u = .ty m := by simpa only [Rep] using h2
        exact go _ _ (.ty _) h4 (T.bb _ _ h3 (by simpa using hc))
      · cases hb
    · cases hb
  · exact o.elim
end
end Dl
set_option Elab.async false
set_option linter.all false
set_option maxRecDepth 100000
set_option maxHeartbeats 4000000
namespace Dl
open PySem PySem.Spec L2
section
variable {K : PySem.W.Frag} {ct : CT} {W : WX} {O0 O O' : Addr → Prop} {H0 H H' : Hp} {f : Nat → Addr} {dσ : List Sl} {σ : St} {E : Ends} {DD : DEnds}
/-- an own list given up: from now on it is a value -/
theorem StS.rel (h : StS K ct O0 H0 H f dσ σ) {i : Nat} {xs : List D} (hi : dσ[i]? = some (.own xs)) : StS K ct O0 H0 H f (dσ.set i (.v (.lst xs))) σ := by
  have il : i < dσ.length := (List.getElem?_eq_some_iff.mp hi).1
  obtain ⟨o, ho, e1, n1, vs, e2, r2⟩ := h.e.at_ i _ hi
  subst e1
  have l : ∀ b, Own O0 f (dσ.set i (.v (.lst xs))) b → Own O0 f dσ b := fun b z => own_set rfl z
  have no : ¬ Own O0 f (dσ.set i (.v (.lst xs))) (f i) := fun z => by
    rcases z with z | ⟨j, t, e, o, ea⟩
    · obtain ⟨u, q⟩ := h.dom0 _ z
      rw [h.fresh i _ hi rfl] at q
      cases q
    · rcases getS e with ⟨_, e2, _⟩ | ⟨e1, e2⟩
      · rw [e2] at o
        cases o
      · exact e1 (h.inj j i t _ e2 o hi rfl ea)
  refine ⟨⟨by rw [List.length_set]; exact h.e.len, fun j t e => ?_, fun a z => h.e.dom a (l a z)⟩, h.same, fun j t e o => ?_, fun j k s1 t1 e1 o1 e2 o2 ef => ?_, h.dom0⟩
  · rcases getS e with ⟨e3, e4, _⟩ | ⟨e3, e4⟩
    · subst e3
      subst e4
      exact ⟨_, ho, _, rfl, rep_lst.mpr ⟨f j, vs, rfl, no, e2, r2.less l⟩⟩
    · obtain ⟨o, a, b⟩ := h.e.at_ j t e4
      exact ⟨o, a, b.less l fun z => .inr ⟨j, t, e, z, rfl⟩⟩
  · rcases getS e with ⟨_, e2, _⟩ | ⟨_, e2⟩
    · rw [e2] at o
      cases o
    · exact h.fresh j t e2 o
  · rcases getS e1 with ⟨_, z, _⟩ | ⟨_, z1⟩
    · rw [z] at o1
      cases o1
    · rcases getS e2 with ⟨_, z, _⟩ | ⟨_, z2⟩
      · rw [z] at o2
        cases o2
      · exact h.inj j k s1 t1 z1 o1 z2 o2 ef
end
def sRel (i : Nat) (ts : TDS) : TDS := fun DD s => match s[i]? with
  | some (.own xs) => ts DD (s.set i (.v (.lst xs)))
  | _ => False
def sPar2 (i j : Nat) (ta : TDA) : TDS := fun DD s => ta s (fun ds => match ds with
  | [d, e] => DD.nx ((s.set i (.v d)).set j (.v e))
  | _ => False) (xq DD s)
section
variable {X : Cx} {ct : CT} {W : WX} {e o a b : Expr} {es : List Expr} {st : Stmt} {ts : TDS} {td tl th : TD} {tda : TDA} {pos apos p p2 : Pos} {x n : Str}
theorem ds_rel (i : Nat) (h : DS X ct W st ts) : DS X ct W st (sRel i ts) := PS.imp h fun E σ H ⟨O0, H0, f, dσ, DD, h, t, e⟩ => by
  unfold sRel at t
  split at t
  · rename_i xs hi
    exact ⟨O0, H0, f, _, DD, h.rel hi, t, e⟩
  · exact t.elim
theorem ds_par2 {i j : Nat} {x y : Str} {px py pt : Pos} {kt k2 pt2} (hc : X.calm = true) (hN : X.N.Nodup) (hi : X.N[i]? = some x) (hj : X.N[j]? = some y) (hx : X.env.scope.names.lookup x = some .local) (hy : X.env.scope.names.lookup y = some .local) (ha : DA X ct W [a, b] tda) (hij : i ≠ j := by decide)
    (hw : swappedStores [.Tuple [.Name x px, .Name y py] kt pt] (.Tuple [a, b] k2 pt2) X.env = pure (some [x, y]) := by rfl)
    (hs : swapsWithSole [.Tuple [.Name x px, .Name y py] kt pt] (.Tuple [a, b] k2 pt2) pos.line X.env = pure false := by rfl) :
    DS X ct W (.Assign [.Tuple [.Name x px, .Name y py] kt pt] (.Tuple [a, b] k2 pt2) pos) (sPar2 i j tda) :=
  PS.imp (ps_par hc hN hi hj hij hx hy ha hw hs) fun E σ H ⟨O0, H0, f, dσ, DD, h, t, e⟩ => h.aa e t fun vs ds H' s r q => by
    split at q
    · rename_i d1 d2
      obtain ⟨v, u, rfl, r1, r2⟩ := rep2 r
      have h1 := h.sm s
      have h2 := h1.set_v (i := i) r1
      exact ⟨v, u, rfl, e.nx _ _ _ _ (h2.set_v (i := j) (r2.less fun b z => own_set rfl z)) q⟩
    · exact q.elim
/-- e.value of a caught one -/
theorem de_xf {gh : Gh} {oe : Obj} {pn : List (Addr × Obj)} {i c : Nat} (cs : Nat → Bool) (hT : ∀ k, cs k = true → k = c) (en : ct.names c = [n]) (hz : Zc gh.exC gh.exD oe) (hf : ∃ vs, oe.data = .fields vs) (T : XfC X.K (ct.addr c)) (hno : PySem.W.findIn X.K (.ref (ct.addr c)) n = some none)
    (hN : X.N[i]? = some x) (hv : Vis X.env.scope x := by first | exact Or.inl rfl | exact Or.inr (Or.inl rfl) | exact Or.inr (Or.inr rfl)) (hd : (x == ("__debug__" : Str)) = false := by decide)
    (hcd : (x == ("__classdict__" : Str)) = false := by decide) (hb : attributeBase (.Name x p) n X.env (eval (.Name x p) X.env) = eval (.Name x p) X.env := by rfl) :
    DE (X.suite gh.exA ((gh.exA, oe) :: pn)) (ct.w gh) W (.Attribute (.Name x p) n pos) (dXf i cs) :=
  PE.imp (pe_xf T hno hz hf (pe_var (X := X.suite gh.exA ((gh.exA, oe) :: pn)) hN hv hd hcd) hb) fun σ H Q ⟨O, f, dσ, QD, QE, hs, h, k, kx⟩ => by
    unfold dXf at h
    split at h
    · rename_i c0 y hi
      obtain ⟨hc, q⟩ := h
      obtain rfl := hT _ hc
      obtain ⟨o, ho, eo, ec, d, v, ed, el, r⟩ := hs.at_ i _ hi
      refine ⟨_, by rw [ho, eo] <;> rfl, rfl, ec, d, _, v, ed, el, ?_, k v y H (Same.refl H) r q⟩
      show ((ct.names c0).zip [v]).lookup n = some v
      rw [en]
      simp [List.lookup]
    · exact h.elim
end
end Dl
set_option Elab.async false
set_option linter.all false
set_option maxRecDepth 100000
set_option maxHeartbeats 4000000
namespace Dl
open PySem PySem.Spec L2
def frz1 : Sl → Sl
  | .own xs => .v (.lst xs)
  | .dic ks xs => .v (.dic ks xs)
  | .ini _ _ => .un
  | s => s
def frzS (s : List Sl) : List Sl := s.map frz1
end Dl
set_option Elab.async false
set_option linter.all false
set_option maxRecDepth 100000
set_option maxHeartbeats 4000000
namespace Dl.Hd
open PySem PySem.Spec L2
theorem DefP.funD {K : PySem.W.Frag} {d : DefP} (e : fnA K (d.adr K) = d.val) (c : d.fine K = true) : ∃ fd, FunD K d.nam d.qua d.par d.bod d.sco (d.dvs K) (d.kvs K) (d.adr K) fd := by
  obtain ⟨kp, c2⟩ := He.ba c
  unfold fnA at e
  cases q : K.lookup (d.adr K) with
  | none =>
    rw [q] at c2
    cases c2
  | some o =>
    obtain ⟨oc, od, dt, osl⟩ := o
    rw [q] at c2 e
    cases dt with
    | func fd =>
      obtain ⟨a1, a2, a3, a4, a5, a6, a7, a8, a9, b1, b2, b3, b4, b5, b6⟩ := fd
      have e2 : (some (a1, a2, a3, a4, a5, a6, a7, b6) : He.FnW) = some (d.nam, d.qua, d.par, .stmts d.bod, d.sco, mainGlobals, [], builtinsNs) := e
      simp only [Option.some.injEq, Prod.mk.injEq] at e2
      obtain ⟨h1, h2, h3, h4, h5, h6, h7, h8⟩ := e2
      subst h1 h2 h3 h4 h5 h6 h7 h8
      have c3 : (PySem.W.codeIn K b4 d.qua && (He.dflB K a8 (d.dvs K) && He.kwdB K a9 (d.kvs K))) = true := c2
      obtain ⟨k1, k2⟩ := He.ba c3
      obtain ⟨k3, k4⟩ := He.ba k2
      exact ⟨_, ⟨oc, od, a8, a9, b1, b2, b3, b4, b5, osl, rfl, q, k1, He.dflB_ok k3, He.kwdB_ok k4⟩, kp⟩
    | _ => cases c2
theorem obsG_eq {n : Nat} {fa : List (PySem.W.Frag → Bool)} {fn : List DefP} {g : Addr → Option Obj} {s : Shared} (h : ∀ a, g a = s.heap.get? a) : obsG n fa fn g = (hook n fa fn).obs s := by
  have e : g = s.heap.get? := funext h
  rw [e] <;> rfl
section
variable {fa : List (PySem.W.Frag → Bool)} {fn : List DefP} {K : PySem.W.Frag}
theorem map_true {α β : Type} {l : List α} {m : List β} {f : α → Bool} {g : β → Bool} (h : l.map f ++ m.map g = (l.map fun _ => true) ++ (m.map fun _ => true)) : (∀ x ∈ l, f x = true) ∧ ∀ y ∈ m, g y = true := by
  have e := List.append_inj h (by simp)
  constructor
  · intro x hx
    have : f x ∈ l.map f := List.mem_map_of_mem hx
    rw [e.1] at this
    obtain ⟨_, _, z⟩ := List.mem_map.mp this
    exact z.symm
  · intro x hx
    have : g x ∈ m.map g := List.mem_map_of_mem hx
    rw [e.2] at this
    obtain ⟨_, _, z⟩ := List.mem_map.mp this
    exact z.symm
theorem Says.fact (c : Says fa fn K) (i : Nat) {f : PySem.W.Frag → Bool} (h : fa[i]? = some f := by rfl) : f K = true := (map_true (congrArg (fun z : Al => z.1) c)).1 f (List.mem_of_getElem? h)
theorem Says.fun_ (c : Says fa fn K) (i : Nat) {d : DefP} (h : fn[i]? = some d := by rfl) : ∃ fd, FunD K d.nam d.qua d.par d.bod d.sco (d.dvs K) (d.kvs K) (d.adr K) fd := by
  have c1 := (map_true (congrArg (fun z : Al => z.1) c)).2 d (List.mem_of_getElem? h)
  have c2 : (fn.map fun d => fnA K (d.adr K)) = fn.map DefP.val := congrArg (fun z : Al => z.2) c
  have c3 := congrArg (fun l => l[i]?) c2
  simp only [List.getElem?_map, h, Option.map_some, Option.some.injEq] at c3
  exact d.funD c3 c1
end
theorem exB_ok {K : PySem.W.Frag} {x n : Str} (h : exB x n K = true) : OexC K (He.ga K x) ∧ PySem.W.findIn K (.ref (He.ga K x)) "__init__" = some (some (.ref (He.ma K (He.ga K x) "__init__"))) ∧ PySem.W.typeIn K (.ref (He.ma K (He.ga K x) "__init__")) = some (.type "function") ∧
    PySem.W.findIn K (.ref (He.ga K x)) n = some none ∧ XfC K (He.ga K x) := by
  obtain ⟨h1, h⟩ := He.ba h
  obtain ⟨h2, h⟩ := He.ba h
  obtain ⟨h3, h⟩ := He.ba h
  obtain ⟨h4, h5⟩ := He.ba h
  exact ⟨oexB_ok h1, He.eqO_ok h2, of_decide_eq_true h3, He.eqO_ok h4, xfB_ok h5⟩
def PurseAt (a : Addr) (h : Heap) : Prop := ∃ (i j k : Int) (its : List Value) (n : Nat), Vals [V.int i, V.int j, V.int k] its ∧ h.get? a = some { cls := .type "list", data := .seq its.toArray n }
def SpringAt (a : Addr) (h : Heap) : Prop := ∃ (i : Int) (its : List Value) (n : Nat), Vals [V.int i] its ∧ h.get? a = some { cls := .type "list", data := .seq its.toArray n }
/-- values that never change once made, told by a number: range(0, n), a dict whose keys are tuples of whole numbers -/
inductive TokV where
  | rng (n : Int)
  | tab (l : List (List Int × Int))
def pr (a b : Nat) : Nat := 2 ^ a * (2 * b + 1)
def enI : Int → Nat
  | .ofNat n => 2 * n
  | .negSucc n => 2 * n + 1
def enL {α : Type} (f : α → Nat) : List α → Nat
  | [] => 0
  | x :: l => pr (f x) (enL f l)
def enE (e : List Int × Int) : Nat := pr (enL enI e.1) (enI e.2)
def TokV.en : TokV → Nat
  | .rng n => 2 * enI n
  | .tab l => 2 * enL enE l + 1
open Classical in
noncomputable def tokV (k : Nat) : TokV := if h : ∃ x : TokV, x.en = k then Classical.choose h else .rng 0
def RngAt (n : Int) (a : Addr) (h : Heap) : Prop := ∃ t u v, IsRange h a 0 n 1 t u v
def tokH (x : TokV) (a : Addr) : HO := match x with
  | .rng n => .ext (RngAt n a)
  | .tab l => .dT (l.map fun e => (e.1.map Sum.inl, V.int e.2))
noncomputable def tokK (k : Nat) (a : Addr) : HO := if k = 0 then .ext (PurseAt a) else if k = 1 then .ext (SpringAt a) else if k < 1000 then .dK [] else tokH (tokV (k - 1000)) a
theorem tokK_ok (k : Nat) (a : Addr) : (∀ xs, tokK k a ≠ .lst xs) ∧ ∀ C dx fs, tokK k a ≠ .ins C dx fs := by
  unfold tokK
  split
  · exact ⟨(fun _ h => by cases h), (fun _ _ _ h => by cases h)⟩
  · split
    · exact ⟨(fun _ h => by cases h), (fun _ _ _ h => by cases h)⟩
    · split
      · exact ⟨(fun _ h => by cases h), (fun _ _ _ h => by cases h)⟩
      · cases tokV (k - 1000) with
        | rng n => exact ⟨(fun _ h => by cases h), (fun _ _ _ h => by cases h)⟩
        | tab l => exact ⟨(fun _ h => by cases h), (fun _ _ _ h => by cases h)⟩
noncomputable def ctK (cn : List Str) (nm : List (List Str)) (K : PySem.W.Frag) : CT := { addr := ad cn K, names := fun n => nm.getD n [], tok := tokK, tokOk := tokK_ok }
theorem inB_ok {C : Addr} {K : PySem.W.Frag} (c : Cls K C) (h : inB C K = true) : C8.InsC K C := by
  obtain ⟨h1, h⟩ := He.ba h
  obtain ⟨h2, h⟩ := He.ba h
  obtain ⟨h3, h⟩ := He.ba h
  obtain ⟨h4, h5⟩ := He.ba h
  exact ⟨c, He.eqO_ok h1, He.eqO_ok h2, of_decide_eq_true h3, of_decide_eq_true h4, of_decide_eq_true h5⟩
theorem allP_ok {n : Nat} {p : Nat → Bool} (h : allP n p = true) {i : Nat} (hi : i < n) : p i = true := List.all_eq_true.mp h i (List.mem_range.mpr hi)
theorem isB_ok {cn : List Str} {nm : List (List Str)} {sub : Sub2} {K : PySem.W.Frag} (h : isB cn sub K = true) (hs : ∀ c c' b, sub c c' = some b → c < cn.length ∧ c' < cn.length ∧ (sub c c).isSome = true) : IsiOk K (ctK cn nm K) sub := by
  obtain ⟨h1, h2⟩ := He.ba h
  have h3 : ∀ c, (sub c c).isSome = true → clB (cn.getD c Str.empty) K = true ∧ inB (ad cn K c) K = true ∧ ∀ m ∈ kinds, PySem.W.kitOne K (.ref (ad cn K c)) (.type m) = some false ∧ PySem.W.kitOne K (.type m) (.ref (ad cn K c)) = some false := fun c hc => by
    obtain ⟨b, e⟩ := Option.isSome_iff_exists.mp hc
    obtain ⟨q, _⟩ := He.ba (allP_ok h2 (hs _ _ _ e).1)
    rw [e] at q
    obtain ⟨q1, q⟩ := He.ba q
    obtain ⟨q2, q3⟩ := He.ba q
    refine ⟨q1, q2, fun m hm => ?_⟩
    obtain ⟨q4, q5⟩ := He.ba (List.all_eq_true.mp q3 m hm)
    exact ⟨of_decide_eq_true q4, of_decide_eq_true q5⟩
  refine ⟨fun k m hk hm => of_decide_eq_true (List.all_eq_true.mp (List.all_eq_true.mp h1 k hk) m hm), fun c c' b e => ?_, fun c m hc hm => ((h3 c hc).2.2 m hm).1, fun c m hc hm => ((h3 c hc).2.2 m hm).2⟩
  obtain ⟨_, q⟩ := He.ba (allP_ok h2 (hs _ _ _ e).1)
  have q2 := allP_ok q (hs _ _ _ e).2.1
  rw [e] at q2
  have z := h3 c (hs _ _ _ e).2.2
  exact ⟨of_decide_eq_true q2, inB_ok (He.cls_ok z.1) z.2.1⟩
theorem eqB_ok {cn : List Str} {nm : List (List Str)} {has : Nat → Bool} {K : PySem.W.Frag} (h : eqB cn has K = true) (T : EqT) (hT : ∀ c, (T c).isSome = true → has c = true ∧ c < cn.length) : ApartT T (ctK cn nm K) ∧
    ∀ (X : Cx) (k : Nat) (wf : Wf) (c : Nat), X.K = K → (T c).isSome = true → (∃ fd ps, FnOk X.prog X.w X.K X.mg X.base (L2.CX X.prog X.w) k (He.ma K (ad cn K c) "__eq__") fd ps (spD X.K (ctK cn nm K) wf) ∧ Binds X.K fd ps []) → EqAtO X (ctK cn nm K) T c k wf := by
  have one : ∀ c, (T c).isSome = true → PySem.W.findIn K (.ref (ad cn K c)) "__eq__" = some (some (.ref (He.ma K (ad cn K c) "__eq__"))) ∧ PySem.W.isFn K (.ref (He.ma K (ad cn K c) "__eq__")) = true ∧ PySem.W.findIn K (.ref (ad cn K c)) "__ne__" = some (some (.builtin "object.__ne__")) ∧
      PySem.W.mroIn K (ad cn K c) (.type "object") = some true ∧ (["NoneType", "bool", "int", "str", "list", "tuple", "dict"].all fun n => PySem.W.notFirst K (ad cn K c) (.type n)) = true ∧ ∀ c', (T c').isSome = true → PySem.W.notFirst K (ad cn K c) (.ref (ad cn K c')) = true ∧ (decide (ad cn K c = ad cn K c') == (c == c')) = true := fun c hc => by
    obtain ⟨z1, z2⟩ := hT c hc
    have q := allP_ok h z2
    rw [if_pos z1] at q
    obtain ⟨q1, q⟩ := He.ba q
    obtain ⟨q2, q⟩ := He.ba q
    obtain ⟨q3, q⟩ := He.ba q
    obtain ⟨q4, q⟩ := He.ba q
    obtain ⟨q5, q6⟩ := He.ba q
    refine ⟨He.eqO_ok q1, q2, He.eqO_ok q3, of_decide_eq_true q4, q5, fun c' hc' => ?_⟩
    obtain ⟨y1, y2⟩ := hT c' hc'
    have r := allP_ok q6 y2
    rw [if_pos y1] at r
    exact He.ba r
  refine ⟨fun c c' hc hc' e => ?_, fun X k wf c eX hc hF => ?_⟩
  · have z := ((one c hc).2.2.2.2.2 c' hc').2
    rw [decide_eq_true (show ad cn K c = ad cn K c' from e)] at z
    have z2 : true = (c == c') := eq_of_beq z
    exact eq_of_beq z2.symm
  · subst eX
    obtain ⟨o1, o2, o3, o4, o5, o6⟩ := one c hc
    obtain ⟨fd, ps, F, b⟩ := hF
    exact ⟨⟨_, fd, ps, o1, o2, F, b⟩, o3, o4, o5, fun c' hc' => (o6 c' hc').1⟩
end Dl.Hd
set_option Elab.async false
set_option linter.all false
set_option maxRecDepth 100000
set_option maxHeartbeats 4000000
namespace Dl
open PySem PySem.Spec L2
def CPowX (a n : Int) : Prop := 0 ≤ n ∧ (Builtin.Int.intBits a : Int) * n ≤ 2 ^ 27
def oPow : O2
  | .int i, .int j, Q => CPowX i j ∧ Q (.int (i ^ j.toNat))
  | _, _, _ => False
section
variable {X : Cx} {ct : CT} {W : WX} {e o : Expr} {td : TD} {pos pos' p : Pos} {i c : Nat} {f : Str}
theorem op_powX : OpR X (binaryOp .Pow) (rI CPowX fun i j => .int (i ^ j.toNat)) := opI fun _ _ _ _ _ _ _ hc q => PyProof.Rows.pow_int hc.1 hc.2 q
theorem od_pow : OpR X (binaryOp .Pow) (R2D X.K ct oPow) := od_int (C := CPowX) op_powX fun x y Q h => by
  unfold oPow at h
  split at h
  · exact ⟨_, _, rfl, rfl, h.1, h.2⟩
  · exact h.elim
theorem takes0 {X : Cx} : Takes X W0 := fun _ _ ⟨_, _, _, _, _, _, _, _, _, _, _, _, _, _, _, _, w⟩ => w.elim
def sFld (c i : Nat) (f : Str) (td : TD) : TDS := fun DD s => (∃ fs, s[i]? = some (.ini c fs)) ∧ sFldI i f td DD s
theorem ds_fldc (ho : PE X o (tVar i)) (he : DE X ct W e td) (cl : Cls X.K (ct.addr c)) (na : NoAttr X.K (ct.addr c) f) (hs : swapsWith e (some (.Attribute o f pos')) pos.line X.env = pure false := by rfl) : DS X ct W (.Assign [.Attribute o f pos'] e pos) (sFld c i f td) :=
  ds_fld (c := c) ho he (fun k ek => by subst ek; exact ⟨cl, na⟩) hs
theorem pg_nm {x : Str} (hN : X.N.Nodup) (hi : X.N[i]? = some x) (hx : Loc X.env.scope x) (hf : X.fn x = true ∨ X.env.scope.names.lookup x = some .local := by first | exact .inl rfl | exact .inr rfl | assumption) : PG X (.Name x pos) (gT X.K (.nm i)) := pg_name hN hi hx hf
theorem pg_tp2 {x y : Str} {i j k : Nat} {p1 p2 : Pos} (hc : X.calm = true) (h1 : PG X (.Name x p1) (gName i)) (h2 : PG X (.Name y p2) (gName j)) (hn : (assignEach [.Name x p1, .Name y p2] X.env).length = 2 := by rfl) (hst : (assignEach [.Name x p1, .Name y p2] X.env).findIdx? (·.1) = none := by rfl)
    (ha : (assignEach [.Name x p1, .Name y p2] X.env).map (·.2) = assign (.Name x p1) X.env :: (assignEach [.Name y p2] X.env).map (·.2) := by rfl) (hb : (assignEach [.Name y p2] X.env).map (·.2) = assign (.Name y p2) X.env :: (assignEach [] X.env).map (·.2) := by rfl) :
    PG X (.Tuple [.Name x p1, .Name y p2] k pos) (gT X.K (.tp [i, j])) := pg_tup hc (pgs_cons h1 (pgs_cons h2 pgs_nil hb) ha) hn hst
end
end Dl
set_option Elab.async false
set_option linter.all false
set_option maxRecDepth 100000
set_option maxHeartbeats 4000000
namespace Dl
open PySem PySem.Spec L2
def vOf : D → V
  | .bl b => .bl b
  | .int i => .int i
  | .str x => .str x
  | _ => .non
theorem konst_of {K : PySem.W.Frag} {ct : CT} : ∀ {ds : List D} {vs : List V}, ds.all flatD = true → vs = ds.map vOf → Konst K ct ds vs
  | [], vs, _, e => by subst e; exact Konst.nil
  | d :: ds, vs, f, e => by
    subst e
    rw [List.all_cons, Bool.and_eq_true] at f
    intro H O
    refine RepL.cons ?_ (konst_of f.2 rfl H O)
    cases d <;> first | (cases f.1; done) | (simp only [Rep]; rfl)
def listOfD : D → Option (List D)
  | .lst xs => some xs
  | .tup xs => some xs
  | .scr ns => some (ns.map D.int)
  | .str z => some (chrs z)
  | _ => none
section
variable {K : PySem.W.Frag} {ct : CT} {P : Program} {w : World} {mg : Str → Option Value} {base : Heap} {k c : Nat} {f : Addr} {fd : FuncData} {ps : List Str} {wf : Wf} {wi : Wi}
theorem fn_w (g : Gh) (F : FnOk P w K mg base (L2.CX P w) k f fd ps (spD K ct wf)) : FnOk P w K mg base (L2.CX P w) k f fd ps (spD K (ct.w g) wf) :=
  F.imp fun vs H Q E ⟨O, ds, QR, QE, dm, r, q, k, kx⟩ => ⟨O, ds, QR, QE, dm, RepL.w.mp r, q, fun v d H' s r2 => k v d H' s (Rep.w.mpr r2), fun c x cls dd H' s a => kx c x cls dd H' s (ExcAt.w.mpr a)⟩
end
end Dl
set_option Elab.async false
set_option linter.all false
set_option maxRecDepth 100000
set_option maxHeartbeats 4000000
namespace Dl
open PySem PySem.Spec L2
end Dl
set_option Elab.async false
set_option linter.all false
set_option maxRecDepth 100000
set_option maxHeartbeats 4000000
namespace Dl
open PySem PySem.Spec L2
/-- targets set from a value -/
def sTg (tg : Tg) (td : TD) : TDS := fun DD s => td s (fun d => setT tg d s DD.nx) (xq DD s)
section
variable {X : Cx} {ct : CT} {W : WX} {e t : Expr} {td : TD} {tg : Tg} {pos : Pos}
theorem ds_tg (he : DE X ct W e td) (hg : PG X t (gT X.K tg)) (hs : swapsWithSole [t] e pos.line X.env = pure false := by rfl) (hw : swappedStores [t] e X.env = pure none := by rfl)
    (h1 : (assignEach [t] X.env).map (·.2) = [assign t X.env] := by rfl) : DS X ct W (.Assign [t] e pos) (sTg tg td) :=
  PS.imp (ps_asg he hg hs hw h1) fun E σ H ⟨O0, H0, f, dσ, DD, h, t, e⟩ => h.ex e t fun v d H' s r q => gT_ok (h.sm s) r q fun dσ' σ' h' z => e.nx _ _ _ _ h' z
theorem pg_tp3 {x y z : Str} {i j l k : Nat} {p1 p2 p3 : Pos} (hc : X.calm = true) (h1 : PG X (.Name x p1) (gName i)) (h2 : PG X (.Name y p2) (gName j)) (h3 : PG X (.Name z p3) (gName l)) (hn : (assignEach [.Name x p1, .Name y p2, .Name z p3] X.env).length = 3 := by rfl) (hst : (assignEach [.Name x p1, .Name y p2, .Name z p3] X.env).findIdx? (·.1) = none := by rfl)
    (ha : (assignEach [.Name x p1, .Name y p2, .Name z p3] X.env).map (·.2) = assign (.Name x p1) X.env :: (assignEach [.Name y p2, .Name z p3] X.env).map (·.2) := by rfl) (hb : (assignEach [.Name y p2, .Name z p3] X.env).map (·.2) = assign (.Name y p2) X.env :: (assignEach [.Name z p3] X.env).map (·.2) := by rfl)
    (hd : (assignEach [.Name z p3] X.env).map (·.2) = assign (.Name z p3) X.env :: (assignEach [] X.env).map (·.2) := by rfl) :
    PG X (.Tuple [.Name x p1, .Name y p2, .Name z p3] k pos) (gT X.K (.tp [i, j, l])) := pg_tup hc (pgs_cons h1 (pgs_cons h2 (pgs_cons h3 pgs_nil hd) hb) ha) hn hst
end
end Dl
set_option Elab.async false
set_option linter.all false
set_option maxRecDepth 100000
set_option maxHeartbeats 400000
namespace Dl
open PySem PySem.Spec L2
end Dl
set_option Elab.async false
set_option linter.all false
set_option maxRecDepth 100000
set_option maxHeartbeats 4000000
namespace Dl
open PySem PySem.Spec L2
section
variable {X : Cx} {ct : CT} {W : WX} {e o : Expr} {td to : TD} {te : TE} {pos apos p p' : Pos} {x x' y z : Str}
theorem ds_pass : DS X ct W (.Pass pos) sNil := PS.imp ps_pass fun E σ H ⟨O0, H0, f, dσ, DD, h, t, e⟩ => e.nx _ _ _ _ h t
end
end Dl
set_option Elab.async false
set_option linter.all false
set_option maxRecDepth 100000
set_option maxHeartbeats 4000000
namespace Dl
open PySem PySem.Spec L2
def bLenO (tbl : Nat → Option Wf) : List D → (D → Prop) → Prop
  | [.obj c fs], Q => ∃ wf, tbl c = some wf ∧ wf [.obj c fs] (fun d => ∃ n : Int, d = .int n ∧ 0 ≤ n ∧ n < 2 ^ 63 ∧ Q (.int n)) (fun _ _ => False)
  | ds, Q => bLen ds Q
structure LenAt (X : Cx) (ct : CT) (n : Nat) (wf : Wf) : Prop where
  fn : ∃ f fd ps k ds, Meth X.K (ct.addr n) "__len__" f ∧ FnOk X.prog X.w X.K X.mg X.base (L2.CX X.prog X.w) k f fd ps (spD X.K ct wf) ∧ Vals [] ds ∧ Binds X.K fd ps ds ∧ Room (k + 1) X.A
section
variable {X : Cx} {ct : CT} {W : WX} {k : Nat} {f : Addr} {fd : FuncData} {ps : List Str} {wf : Wf}
/-- a def's run somewhere below, no error wanted -/
theorem own_run0 {pins : List (Addr × Obj)} {s : Shared} {σ : St} {H : Hp} {O : Addr → Prop} {A : Around} {ds : List D} {vs : List V} {us : List Value} {Q : D → Prop} {E : Value → Shared → Prop}
    (F : FnOk X.prog X.w X.K X.mg X.base (L2.CX X.prog X.w) k f fd ps (spD X.K ct wf)) (hb : Binds X.K fd ps []) (sb : Sub X k A) (I : Inv X pins σ H s) (rv : Vals vs us) (dm : Dom H O) (r : RepL X.K ct H O ds vs)
    (q : wf ds Q (fun _ _ => False)) : wpAny (model X.prog X.w) A (call (.ref f) us) (fun u s' => ∃ d v H', Q d ∧ Inv X pins σ H' s' ∧ Same H H' ∧ RelV v u ∧ Rep X.K ct H' O d v) E s := by
  have hsp : spD X.K ct wf vs H (fun v H' => ∃ d, Q d ∧ Same H H' ∧ Rep X.K ct H' O d v) (fun _ _ _ => False) := ⟨O, ds, _, _, dm, r, q, fun v d2 H' e r z => ⟨d2, z, e, r⟩, fun _ _ _ _ _ _ _ z => z.elim⟩
  have e0 : Env0 X.prog X.w X.K X.mg X.base A X.stack s H := by
    have e := I.env0
    exact ⟨(by rw [sb.fr]; exact e.frames), e.mod, e.bs, e.bsz, e.funs, e.frf, e.hok, e.bare⟩
  have hl := F.len _ _ _ _ hsp
  refine wpAny_call (codeAny_mono (F.run A X.stack s H ⟨us, []⟩ us vs _ (fun _ _ _ => False) sb.room e0 (by
    have := hb s us I.kIn (by rw [List.append_nil, ← rv.length]; exact hl)
    simpa using this) rv hsp) fun res s' hq => ?_)
  cases res with
  | error e =>
    obtain ⟨_, _, _, _, _, _, _, _, _, _, _, _, z⟩ := hq
    exact z.elim
  | ok fl =>
    cases fl with
    | ret u =>
      obtain ⟨v, H', I', rv', d, hd, e, r'⟩ := I.after hq
      exact ⟨d, v, H', hd, I', e, rv', r'⟩
    | next => exact False.elim hq
    | brk => exact False.elim hq
    | cont => exact False.elim hq
theorem cd_lenO {tbl : Nat → Option Wf} (hX : X.A.frames = X.A.frames) (h : ∀ n wf, tbl n = some wf → LenAt X ct n wf) : CallR X (.builtin "len") (RCD X.K ct (bLenO tbl)) := by
  intro pins s σ H vs us Q I rv hq
  obtain ⟨O, ds, QD, dm, r, o, k⟩ := hq
  by_cases z : ∃ c fs, ds = [.obj c fs]
  · obtain ⟨c, fs, rfl⟩ := z
    obtain ⟨wf, ht, q⟩ := o
    obtain ⟨f, fd, ps, kk, ds0, hm, F, hv0, hb, hr⟩ := (h c wf ht).fn
    cases hv0
    obtain ⟨v, e, h1⟩ := rep1 r
    subst e
    obtain ⟨a, dx, ws, rfl, na, l, hl, rl⟩ := rep_obj.mp h1
    obtain ⟨u, rfl, ru⟩ := Vals.one rv
    cases ru
    obtain ⟨mA, J, _⟩ := ins_get I.hok l
    obtain ⟨od, J, _⟩ := J.look
    obtain ⟨m, hF⟩ := I.fr
    refine PySem.W.len_K hF I.ok.mod.kin J hm.at_ hm.fn (wpAny_mono (own_run0 F hb ⟨hr.in1, rfl⟩ I rv dm r q) (fun u s' hs => ?_) fun _ _ y => y)
    obtain ⟨d, v, H', ⟨n, rfl, n0, n1, qn⟩, I', e, rv', r'⟩ := hs
    rw [rep_int.mp r'] at rv'
    obtain ⟨t, rfl⟩ := rv'
    exact ⟨⟨n0, n1⟩, .int n, H', I'.tok _, ⟨_, rfl⟩, k _ _ H' e (rep_int.mpr rfl) qn⟩
  · have o' : bLen ds QD := by
      unfold bLenO at o
      split at o
      · exact absurd ⟨_, _, rfl⟩ z
      · exact o
    exact cd_len (ct := ct) pins s σ H vs us Q I rv ⟨O, ds, QD, dm, r, o', k⟩
end
end Dl
set_option Elab.async false
set_option linter.all false
set_option maxRecDepth 100000
set_option maxHeartbeats 4000000
namespace Dl
open PySem PySem.Spec L2
end Dl
set_option Elab.async false
set_option linter.all false
set_option maxRecDepth 100000
set_option maxHeartbeats 4000000
namespace Dl
open PySem PySem.Spec L2
end Dl
set_option Elab.async false
set_option linter.all false
set_option maxRecDepth 100000
set_option maxHeartbeats 4000000
namespace Dl
open PySem PySem.Spec L2
end Dl
set_option Elab.async false
set_option linter.all false
set_option maxRecDepth 100000
set_option maxHeartbeats 4000000
namespace L2
open PySem PySem.Spec PyProof.Rows CwR
def PTT (X : Cx) (e : Expr) (t : TT) : Prop :=
  ∀ (pins : List (Addr × Obj)) (s : Shared) (σ : St) (H : Hp) (Q : Bool → Hp → Prop), 1 ≤ s.toks → Inv X pins σ H s → t σ H Q → wpAny (model X.prog X.w) X.A (isTrue e X.env (eval e X.env)) (TP X pins σ Q) X.xe s
def PWT (X : Cx) (e : Expr) (t : TT) : Prop :=
  ∀ (whole : Sem Value) (pins : List (Addr × Obj)) (s : Shared) (σ : St) (H : Hp) (Q : Bool → Hp → Prop), 1 ≤ s.toks → Inv X pins σ H s → t σ H Q → wpAny (model X.prog X.w) X.A (isTrue e X.env whole) (TP X pins σ Q) X.xe s
section
variable {X : Cx} {a b e c : Expr} {ta tb te : TE} {tt tu : TT} {pos : Pos} {rest : List Expr}
theorem PTT.of (h : PT X e tt) : PTT X e tt := fun pins s σ H Q _ I q => h.run pins s σ H Q I q
theorem PWT.of (h : PW X e tt) : PWT X e tt := fun wh pins s σ H Q _ I q => h.run wh pins s σ H Q I q
theorem PWT.pt (h : PWT X e tt) : PTT X e tt := h _
theorem PET.imp {t' : TE} (h : PET X e te) (c : ∀ σ H Q, t' σ H Q → te σ H Q) : PET X e t' := fun pins s σ H Q h0 I q => h pins s σ H Q h0 I (c _ _ _ q)
theorem PTT.imp {t' : TT} (h : PTT X e tt) (c : ∀ σ H Q, t' σ H Q → tt σ H Q) : PTT X e t' := fun pins s σ H Q h0 I q => h pins s σ H Q h0 I (c _ _ _ q)
theorem PWT.imp {t' : TT} (h : PWT X e tt) (c : ∀ σ H Q, t' σ H Q → tt σ H Q) : PWT X e t' := fun wh pins s σ H Q h0 I q => h wh pins s σ H Q h0 I (c _ _ _ q)
theorem PST.imp {st : Stmt} {t t' : TS} (h : PST X st t) (c : ∀ D σ H, t' D σ H → t D σ H) : PST X st t' := fun pins s σ H D h0 I q => h pins s σ H D h0 I (c _ _ _ q)
theorem PSsT.imp {st : List Stmt} {t t' : TS} (h : PSsT X st t) (c : ∀ D σ H, t' D σ H → t D σ H) : PSsT X st t' := fun pins s σ H D h0 I q => h pins s σ H D h0 I (c _ _ _ q)
end
end L2
namespace Dl
open PySem PySem.Spec L2
end Dl
set_option Elab.async false
set_option linter.all false
set_option maxRecDepth 100000
set_option maxHeartbeats 4000000
namespace L2
open PySem PySem.Spec PyProof.Rows
end L2
namespace Dl
open PySem PySem.Spec L2
end Dl
set_option Elab.async false
set_option linter.all false
set_option maxRecDepth 100000
set_option maxHeartbeats 4000000
namespace Dl
open PySem PySem.Spec L2 PySem.W PySem.Calls PyProof.Rows
/-- what may stand on the right of an own operator of the class c -/
def rightO (c : Nat) : D → Bool
  | .obj c' _ => c' == c
  | d => (kindD d).isSome
end Dl
set_option Elab.async false
set_option linter.all false
set_option maxRecDepth 100000
set_option maxHeartbeats 4000000
namespace Dl
open PySem PySem.Spec L2 PySem.W PySem.Calls PyProof.Rows
theorem run_in1 {X : Cx} {CX : CXT} {k : Nat} {f : Addr} {fd : FuncData} {ps : List Str} {sp : Sp} {E : L2.St → XK} {A : Around} {pins : List (Addr × Obj)} {σ : L2.St} {H : Hp} {s : Shared} {Q : VK} {us : List Value} {vs : List V}
    (F : FnOk X.prog X.w X.K X.mg X.base CX k f fd ps sp) (sb : Sub X k A) (hb : Binds X.K fd ps []) (hx : PassesAt CX X σ (E σ)) (I : Inv X pins σ H s) (r : Vals vs us) (h : sp vs H Q (E σ)) :
    wpAny (model X.prog X.w) A (call (.ref f) us) (EP X pins σ Q) X.xe s := by
  have e0 : Env0 X.prog X.w X.K X.mg X.base A X.stack s H := by
    have e := I.env0
    exact ⟨(by rw [sb.fr]; exact e.frames), e.mod, e.bs, e.bsz, e.funs, e.frf, e.hok, e.bare⟩
  have hl := F.len _ _ _ _ h
  refine wpAny_call (codeAny_mono (F.run A X.stack s H ⟨us, []⟩ us vs Q (E σ) sb.room e0 (by
    have := hb s us I.kIn (by rw [List.append_nil, ← r.length]; exact hl)
    simpa using this) r h) fun res s' hq => ?_)
  cases res with
  | error e => exact hx pins H s e s' I hq
  | ok fl =>
    cases fl with
    | ret u => exact I.after hq
    | next => exact False.elim hq
    | brk => exact False.elim hq
    | cont => exact False.elim hq
structure IxAt (X : Cx) (ct : CT) (n : Nat) (wf : Wf) : Prop where
  fn : ∃ f fd ps k, Meth X.K (ct.addr n) "__getitem__" f ∧ fnIn X.K f = true ∧ FnOk X.prog X.w X.K X.mg X.base (L2.CX X.prog X.w) k f fd ps (spD X.K ct wf) ∧ Room (k + 1) X.A ∧ Binds X.K fd ps []
def ixO (tbl : Nat → Option Wf) (x y : D) (Q : D → Prop) (E : QX) : Prop := match x with
  | .obj c fs => match tbl c with
    | some wf => wf [.obj c fs, y] Q E
    | none => False
  | x => oIx x y Q
def dIxO (tbl : Nat → Option Wf) (ta tb : TD) : TD := fun s Q E => ta s (fun x => tb s (fun y => ixO tbl x y Q E) E) E
section
variable {X : Cx} {ct : CT} {W : WX} {a b : Expr} {ta tb : TD} {pos : Pos} {tbl : Nat → Option Wf}
theorem de_ixO (ht : ∀ n wf, tbl n = some wf → IxAt X ct n wf) (tk : Takes X W) (ha : DE X ct W a ta) (hb : DE X ct W b tb) (hs : PlainIx b := by exact (fun _ _ => rfl))
    (hs2 : ∀ v u, subscripted b true v u = runValue (.builtin "lifetime.subscript" ⟨[v, u], []⟩) := by exact (fun _ _ => rfl)) :
    DE X ct W (.Subscript a b pos) (dIxO tbl ta tb) := by
  refine ⟨fun pins s σ H Q I ⟨O, f, dσ, QD, QE, hs0, h, k, kx⟩ => ?_⟩
  refine Subscript_ (binT (R := fun x y H2 => ∃ dx dy, Same H H2 ∧ Rep X.K ct H2 O dx x ∧ Rep X.K ct H2 O dy y ∧ ixO tbl dx dy QD QE) ha hb I ?_ ?_)
  · refine ⟨O, f, dσ, _, QE, hs0, h, fun x dx H1 e1 r1 q1 => ?_, kx⟩
    exact ⟨O, f, dσ, _, QE, hs0.same e1, q1, fun y dy H2 e2 r2 q2 => ⟨dx, dy, e1.trans e2, r1.same e2, r2, q2⟩, kx.same e1⟩
  · rintro v u s2 x y H2 I2 rx ry ⟨dx, dy, e2, r1, r2, q⟩
    by_cases z : ∃ c fs, dx = .obj c fs
    · obtain ⟨c, fs, rfl⟩ := z
      unfold ixO at q
      dsimp only at q
      split at q
      · rename_i wf hw
        obtain ⟨fa, fd, ps, kk, hm, hfn, F, hr, hbd⟩ := (ht c wf hw).fn
        obtain ⟨p, dx, vs, ea, na, l, hl, rl⟩ := rep_obj.mp r1
        subst ea
        cases rx
        obtain ⟨mA, J, _⟩ := ins_get I2.hok l
        obtain ⟨od, J, _⟩ := J.look
        obtain ⟨m, hF⟩ := I2.fr
        refine sub_K hF I2.ok.mod.kin J hm.at_ hfn hm.fn ?_ (hs2 _ _)
        exact run_in1 (us := [.ref p, u]) (vs := [.ref p, y]) F ⟨hr.in1, rfl⟩ hbd (passAt tk σ) I2 (.cons rfl (.cons ry .nil)) (Q := Q) ⟨O, [.obj c fs, dy], QD, QE, (hs0.same e2).dom, RepL.cons r1 (RepL.cons r2 RepL.nil), q, fun v d H3 e3 => k v d H3 (e2.trans e3), fun c x cls dd H3 e3 => kx c x cls dd H3 (e2.trans e3)⟩
      · exact q.elim
    · have q' : oIx dx dy QD := by
        unfold ixO at q
        split at q
        · exact absurd ⟨_, _, rfl⟩ z
        · exact q
      exact od_ix (ct := ct) a b pins s2 σ H2 x y v u Q I2 rx ry ⟨O, dx, dy, QD, (hs0.same e2).dom, r1, r2, q', fun v d H3 e3 r3 q3 => k v d H3 (e2.trans e3) r3 q3⟩ (hs _ _)
end
end Dl
set_option Elab.async false
set_option linter.all false
set_option maxRecDepth 100000
set_option maxHeartbeats 4000000
namespace Dl
open PySem PySem.Spec L2 PySem.W PySem.Calls PyProof.Rows
end Dl
set_option Elab.async false
set_option linter.all false
set_option maxRecDepth 100000
set_option maxHeartbeats 4000000
namespace L2
open PySem PySem.Spec PyProof.Rows CwR
end L2
namespace Dl
open PySem PySem.Spec L2
section
variable {X : Cx} {ct : CT} {W : WX} {e te : Expr} {es : List Expr} {td : TD} {tda : TDA} {ti : TDI} {tg : Tg} {tb : TDS} {sts : List Stmt} {pos pos' : Pos}
theorem PAT.imp {t t' : TA} (h : PAT X es t) (c : ∀ σ H Q, t' σ H Q → t σ H Q) : PAT X es t' := fun pos pins s σ H Q h0 I q => h pos pins s σ H Q h0 I (c _ _ _ q)
end
end Dl
set_option Elab.async false
set_option linter.all false
set_option maxRecDepth 100000
set_option maxHeartbeats 4000000
namespace Dl
open PySem PySem.Spec L2
mutual
def noL : D → Bool
  | .lst _ => false
  | .scr _ => false
  | .dic _ _ => false
  | .tok _ => false
  | .ref _ => false
  | .tup xs => noLs xs
  | .obj _ fs => noLs fs
  | _ => true
def noLs : List D → Bool
  | [] => true
  | x :: xs => noL x && noLs xs
end
def lisO : Sl → Sl
  | .v d => if noL d then .v d else .un
  | .own xs => if noLs xs then .own xs else .un
  | .ini c fs => if noLs (fs.map (·.2)) then .ini c fs else .un
  | _ => .un
def lisS : List Sl → List Sl
  | [] => []
  | t :: s => lisO t :: lisS s
end Dl
set_option Elab.async false
set_option linter.all false
set_option maxRecDepth 100000
set_option maxHeartbeats 4000000
namespace Dl
open PySem PySem.Spec L2
def spSipL : Sp := fun vs H Q _ => ∃ (a : Addr) (i m : Int), vs = [.ref a, .int m] ∧ H a = some (.lst [.int i]) ∧ 0 < m ∧ m.natAbs.log2 < 9000 ∧ ∀ d i' : Int, 0 ≤ d → d < m → Q (.int d) (upd H a (.lst [.int i']))
def wSip : Wf := fun ds Q _ => ∃ m : Int, ds = [.tok 1, .int m] ∧ 0 < m ∧ m.natAbs.log2 < 9000 ∧ ∀ d : Int, 0 ≤ d → d < m → Q (.int d)
def wSpr (wn : Wn) : Wf := fun ds Q E => wn ds (fun ds' => (∃ i : Int, ds' = [.int i]) ∧ Q (.tok 1)) E
section
variable {K : PySem.W.Frag} {ct : CT} {P : Program} {w : World} {mg : Str → Option Value} {base : Heap} {k c : Nat} {f : Addr} {fd : FuncData} {ps : List Str} {wn : Wn}
theorem ext_mono1 {a : Addr} {h1 h2 : Heap} (h : Hd.SpringAt a h1) (k : ∀ o, h1.get? a = some o → h2.get? a = some o) : Hd.SpringAt a h2 := by
  obtain ⟨i, its, n, r, e⟩ := h
  exact ⟨i, its, n, r, k _ e⟩
theorem ext_ok1 {H : Hp} {h : Heap} {a : Addr} (e : Hd.SpringAt a h) : ObjOk P w H h a (.ext (Hd.SpringAt a)) := by
  obtain ⟨i, its, n, r, e2⟩ := id e
  exact ⟨e, ⟨_, e2⟩, fun h1 h2 x y => ext_mono1 x y⟩
theorem sip_tok (ht : ∀ a, ct.tok 1 a = .ext (Hd.SpringAt a)) (F : FnOk P w K mg base (L2.CX P w) k f fd ps spSipL) (hp : ps.length = 2) : FnOk P w K mg base (L2.CX P w) k f fd ps (spD K ct wSip) := by
  refine ⟨fun vs H Q E h => ?_, fun A outer s H args us vs Q E hr e0 hb r h => ?_⟩
  · obtain ⟨O, ds, QR, QE, dm, r, ⟨m, rfl, _⟩, _⟩ := h
    rw [r.length, hp]
    rfl
  · obtain ⟨O, ds, QR, QE, dm, rr, ⟨m, rfl, hm, hl, q⟩, k1, _⟩ := h
    obtain ⟨v, u, rfl, h1, h2⟩ := rep2 rr
    obtain ⟨a, rfl, _, ha⟩ := rep_tok.mp h1
    rw [rep_int] at h2
    subst h2
    rw [ht] at ha
    obtain ⟨⟨i, its, nn, rv, eo⟩, _, _⟩ := (show ObjOk P w H s.heap a (.ext (Hd.SpringAt a)) from e0.hok a _ ha)
    have back : ∀ xs, upd (upd H a (.lst xs)) a (.ext (Hd.SpringAt a)) = H := fun xs => by
      rw [upd_upd]
      funext b
      by_cases z : b = a
      · subst z
        rw [upd_same, ha]
      · rw [upd_ne z]
    have ok1 : HOk P w (upd H a (.lst [.int i])) s.heap := e0.hok.write (x := a) (e := a) (by rw [ha]; exact trivial) (.inl rfl) (fun _ _ _ q => q) ⟨_, eo⟩ ⟨by show 1 ≤ sizeLine; decide, its, nn, rv, eo⟩
    have e1 : Env0 P w K mg base A outer s (upd H a (.lst [.int i])) := ⟨e0.frames, e0.mod, fun b o z => by
      obtain ⟨z1, z2⟩ := e0.bs b o z
      exact ⟨z1, by rw [upd_ne (fun y => by rw [y, ha] at z2; cases z2)]; exact z2⟩, e0.bsz, e0.funs, fun b hb => by
      have z2 := e0.frf b hb
      rw [upd_ne (fun y => by rw [y, ha] at z2; cases z2)]
      exact z2, ok1, e0.bare⟩
    refine codeAny_mono (F.run A outer s _ args us _ (fun v H' => ∃ d i' : Int, 0 ≤ d ∧ d < m ∧ v = .int d ∧ H' = upd (upd H a (.lst [.int i])) a (.lst [.int i'])) (fun _ _ _ => False) hr e1 hb r ⟨a, i, m, rfl, upd_same, hm, hl, fun d i' h0 h1 => ⟨d, i', h0, h1, rfl, rfl⟩⟩) fun res s' hs => ?_
    cases res with
    | error e =>
      obtain ⟨_, _, _, _, _, _, _, _, _, _, _, _, z⟩ := hs
      exact z.elim
    | ok fl =>
      cases fl with
      | ret u =>
        obtain ⟨v, H', os, bare, un, hok, ru, d, i', h0, h1, rfl, rfl⟩ := hs
        rw [upd_upd] at hok un
        obtain ⟨z, its', nn', rv', eo'⟩ := hok a _ upd_same
        have okH : HOk P w H s'.heap := by
          have y := hok.write (x := a) (e := a) (h' := s'.heap) (o' := .ext (Hd.SpringAt a)) (by rw [upd_same]; exact trivial) (.inl rfl) (fun _ _ _ q => q) ⟨_, eo'⟩ (ext_ok1 ⟨i', its', nn', rv', eo'⟩)
          rw [back] at y
          exact y
        have ne : ∀ b, H b = none → b ≠ a := fun b hb z => by
          rw [z, ha] at hb
          cases hb
        refine ⟨.int d, H, os, bare, ⟨fun b o e hb hf hx => un.keep b o e (by rw [upd_ne (ne b hb)]; exact hb) hf hx, fun b o e hb hf hx => un.slot b o e (by rw [upd_ne (ne b hb)]; exact hb) hf hx, fun b o e hb hx => hb, un.there, fun b xs e => e, fun b o u e => e, fun b ps e => ⟨#[], by simpa using e⟩⟩, okH, ru, ?_⟩
        exact k1 _ (.int d) H (Same.refl H) (rep_int.mpr rfl) (q d h0 h1)
      | _ => exact hs
theorem spring_tok (ht : ∀ a, ct.tok 1 a = .ext (Hd.SpringAt a)) (F : FnOk P w K mg base (L2.CX P w) k f fd ps (spN K ct wn)) : FnOk P w K mg base (L2.CX P w) k f fd ps (spD K ct (wSpr wn)) := by
  refine ⟨fun vs H Q E h => ?_, fun A outer s H args us vs Q E hr e0 hb r h => ?_⟩
  · obtain ⟨O, ds, QR, QE, dm, r, q, k1, k2⟩ := h
    exact F.len vs H (fun _ _ => True) E ⟨O, ds, _, QE, dm, r, q, fun _ _ _ _ _ _ _ _ _ => trivial, k2⟩
  · obtain ⟨O, ds, QR, QE, dm, rr, q, k1, k2⟩ := h
    refine codeAny_mono (F.run A outer s H args us vs (fun v H' => ∃ p i, v = .ref p ∧ H p = none ∧ Same H H' ∧ H' p = some (.lst [.int i]) ∧ QR (.tok 1)) E hr e0 hb r ⟨O, ds, _, QE, dm, rr, q, fun p us ds' H' hp s l r z => by
      obtain ⟨⟨i, rfl⟩, z⟩ := z
      obtain ⟨v1, rfl, y1⟩ := rep1 r
      rw [rep_int] at y1
      subst y1
      exact ⟨p, i, rfl, hp, s, l, z⟩, k2⟩) fun res s' hs => ?_
    cases res with
    | error e => exact hs
    | ok fl =>
      cases fl with
      | ret u =>
        obtain ⟨v, H', os, bare, un, hok, ru, p, i, rfl, hp, sm, hl, z⟩ := hs
        obtain ⟨_, its', nn', rv', eo'⟩ := hok p _ hl
        have ok2 := hok.write (x := p) (e := p) (h' := s'.heap) (o' := .ext (Hd.SpringAt p)) (by rw [hl]; exact trivial) (.inl rfl) (fun _ _ _ q => q) ⟨_, eo'⟩ (ext_ok1 ⟨i, its', nn', rv', eo'⟩)
        have ne : ∀ b o, H b = some o → b ≠ p := fun b o hb z => by
          rw [z, hp] at hb
          cases hb
        refine ⟨.ref p, _, os, bare, ⟨un.keep, un.slot, fun b o e hb hx => ?_, un.there, fun b xs e => by rw [upd_ne (ne b _ e)]; exact un.tups b xs e, fun b o u e => by rw [upd_ne (ne b _ e)]; exact un.frzs b o u e, fun b ps e => by
          obtain ⟨more, y⟩ := un.tbls b ps e
          exact ⟨more, by rw [upd_ne (ne b _ e)]; exact y⟩⟩, ok2, ru, ?_⟩
        · have y := un.free b o e hb hx
          have nb : b ≠ p := fun z => by
            rw [z, hl] at y
            cases y
          rw [upd_ne nb]
          exact y
        · refine k1 _ (.tok 1) _ (fun b o e => by rw [upd_ne (ne b _ e)]; exact sm b o e) (rep_tok.mpr ⟨p, rfl, dom_new dm hp, by rw [ht]; exact upd_same⟩) z
      | _ => exact hs
end
end Dl
set_option Elab.async false
set_option linter.all false
set_option maxRecDepth 100000
set_option maxHeartbeats 4000000
namespace Dl
open PySem PySem.Spec L2
/-- some of these, in an order -/
def sel {α : Type} (p : List Nat) (l : List α) : List α := p.filterMap (l[·]?)
theorem Vals.at_ : ∀ {vs : List V} {us : List Value} (i : Nat), Vals vs us → (vs[i]? = none ∧ us[i]? = none) ∨ ∃ v u, vs[i]? = some v ∧ us[i]? = some u ∧ RelV v u
  | _, _, i, .nil => .inl ⟨by simp, by simp⟩
  | _, _, 0, .cons r _ => .inr ⟨_, _, rfl, rfl, r⟩
  | _, _, i + 1, .cons _ rr => by
    rw [List.getElem?_cons_succ, List.getElem?_cons_succ]
    exact Vals.at_ i rr
section
variable {K : PySem.W.Frag} {ct : CT} {H : Hp} {O : Addr → Prop}
theorem RepL.at_ : ∀ {ds : List D} {vs : List V} (i : Nat), RepL K ct H O ds vs → (ds[i]? = none ∧ vs[i]? = none) ∨ ∃ d v, ds[i]? = some d ∧ vs[i]? = some v ∧ Rep K ct H O d v
  | [], vs, i, h => by
    simp only [RepL] at h
    subst h
    exact .inl ⟨by simp, by simp⟩
  | d :: ds, vs, i, h => by
    obtain ⟨v, r, e, h1, h2⟩ := h.cons_inv
    subst e
    cases i with
    | zero => exact .inr ⟨d, v, rfl, rfl, h1⟩
    | succ i =>
      rw [List.getElem?_cons_succ, List.getElem?_cons_succ]
      exact RepL.at_ i h2
end
def DK (X : Cx) (ct : CT) (W : WX) (kws : List Keyword) (td : TDA) : Prop := PK X kws (liftA X.K ct W td)
theorem PK.imp {X : Cx} {kws : List Keyword} {t t' : TA} (h : PK X kws t) (c : ∀ σ H Q, t' σ H Q → t σ H Q) : PK X kws t' := ⟨fun pos pins s σ H Q I q => h.run pos pins s σ H Q I (c _ _ _ q)⟩
section
variable {X : Cx} {ct : CT} {W : WX} {e o a b : Expr} {es : List Expr} {kws : List Keyword} {td to : TD} {tda tka : TDA} {pos kpos apos p : Pos} {x : Str} {nm : Option Str} {k c n m : Nat} {fd : FuncData} {ps ks : List Str} {dvs : List V} {dfl : List D} {wf : Wf} {pm : List Nat}
theorem dk_nil : DK X ct W [] aNil := PK.imp pk_nil fun σ H Q ⟨O, f, dσ, QD, QE, hs, h, k, _⟩ => k _ _ H (Same.refl H) RepL.nil h
theorem dk_cons (ha : DE X ct W e td) (hr : DK X ct W kws tka) : DK X ct W (⟨nm, e, kpos⟩ :: kws) (aCons td tka) :=
  PK.imp (pk_cons ha hr) fun σ H Q ⟨O, f, dσ, QD, QE, hs, h, k, kx⟩ => by
    refine ⟨O, f, dσ, _, QE, hs, h, fun x dx H1 e1 rx q1 => ?_, kx⟩
    refine ⟨O, f, dσ, _, QE, hs.same e1, q1, fun xs ds H2 e2 rs q2 => ?_, kx.same e1⟩
    exact k _ _ _ (e1.trans e2) (RepL.cons (rx.same e2) rs) q2
end
end Dl
set_option Elab.async false
set_option linter.all false
set_option maxRecDepth 100000
set_option maxHeartbeats 4000000
namespace Dl
open PySem PySem.Spec L2
section
variable {K : PySem.W.Frag} {ct : CT} {H H' : Hp} {O : Addr → Prop} {f : Nat → Addr} {dσ : List Sl}
theorem RepL.set : ∀ {ds : List D} {vs : List V} (j : Nat) {d : D} {v : V}, RepL K ct H O ds vs → Rep K ct H O d v → RepL K ct H O (ds.set j d) (vs.set j v)
  | [], vs, j, d, v, h, _ => by simp only [RepL] at h; subst h; exact RepL.nil
  | e :: ds, vs, j, d, v, h, r => by
    obtain ⟨u, q, ev, h1, h2⟩ := h.cons_inv
    subst ev
    cases j with
    | zero => exact RepL.cons r h2
    | succ j => exact RepL.cons h1 (RepL.set j h2 r)
end
def ints? : List D → Option (List Int)
  | [] => some []
  | .int i :: ds => (ints? ds).map (i :: ·)
  | _ => none
def insI (x : Int) : List Int → List Int
  | [] => [x]
  | y :: l => if x ≤ y then x :: y :: l else y :: insI x l
def sortI : List Int → List Int
  | [] => []
  | x :: l => insI x (sortI l)
end Dl
set_option Elab.async false
set_option linter.all false
set_option maxRecDepth 100000
set_option maxHeartbeats 4000000
namespace Dl
open PySem PySem.Spec L2
end Dl
set_option Elab.async false
set_option linter.all false
set_option maxRecDepth 100000
set_option maxHeartbeats 4000000
namespace Dl
open PySem PySem.Spec L2
theorem IsiOk.w {K : PySem.W.Frag} {ct : CT} {sub : Sub2} {g : Gh} (h : IsiOk K ct sub) : IsiOk K (ct.w g) sub := ⟨h.bb, h.oo, h.ob, h.bo⟩
end Dl
set_option Elab.async false
set_option linter.all false
set_option maxRecDepth 100000
set_option maxHeartbeats 4000000
namespace Dl
open PySem PySem.Spec L2
end Dl
set_option Elab.async false
set_option linter.all false
set_option maxRecDepth 100000
set_option maxHeartbeats 4000000
namespace L2
open PySem PySem.Spec PyProof.Rows
def revStr (z : Str) : Str := ⟨z.cps.toList.reverse.toArray⟩
variable {X : Cx}
end L2
namespace Dl
open PySem PySem.Spec L2
end Dl
set_option Elab.async false
set_option linter.all false
set_option maxRecDepth 100000
set_option maxHeartbeats 4000000
namespace Dl
open PySem PySem.Spec L2
def dFldI (i c : Nat) (f : Str) : TD := fun s Q _ => match s[i]? with
  | some (.ini c' fs) => c' = c ∧ ∃ d, fs.lookup f = some d ∧ Q d
  | _ => False
theorem lookup_rep {K : PySem.W.Frag} {ct : CT} {H : Hp} {O : Addr → Prop} {f : Str} : ∀ {fs : List (Str × D)} {vs : List V} {d : D}, RepL K ct H O (fs.map (·.2)) vs → fs.lookup f = some d → ∃ v, ((fs.map (·.1)).zip vs).lookup f = some v ∧ Rep K ct H O d v
  | [], vs, d, _, h => by cases h
  | (g, e) :: fs, vs, d, r, h => by
    obtain ⟨u, q, ev, h1, h2⟩ := RepL.cons_inv r
    subst ev
    rw [List.lookup_cons] at h
    show ∃ v, ((g, u) :: (fs.map (·.1)).zip q).lookup f = some v ∧ _
    rw [List.lookup_cons]
    cases z : f == g with
    | true =>
      rw [z] at h
      cases h
      exact ⟨u, rfl, h1⟩
    | false =>
      rw [z] at h
      exact lookup_rep h2 h
section
variable {X : Cx} {ct : CT} {W : WX} {o : Expr} {pos : Pos} {f : Str} {i c : Nat}
theorem de_fldI (ho : PE X o (tVar i)) (cl : Cls X.K (ct.addr c)) (na : NoAttr X.K (ct.addr c) f) (hb : attributeBase o f X.env (eval o X.env) = eval o X.env := by rfl) : DE X ct W (.Attribute o f pos) (dFldI i c f) :=
  PE.imp (pe_fld ho hb) fun σ H Q ⟨O, g, dσ, QD, QE, hs, h, k, kx⟩ => by
    unfold dFldI at h
    split at h
    · rename_i c' fs e
      obtain ⟨rfl, d, ed, q⟩ := h
      obtain ⟨u, eu, e1, n, ea, vs, l, r⟩ := hs.at_ i _ e
      subst e1
      obtain ⟨v, ev, rv⟩ := lookup_rep r ed
      exact ⟨_, eu, _, _, _, _, v, rfl, l, cl, na, ev, k _ _ _ (Same.refl H) rv q⟩
    · exact h.elim
end
end Dl
set_option Elab.async false
set_option linter.all false
set_option maxRecDepth 100000
set_option maxHeartbeats 4000000
namespace Dl
open PySem PySem.Spec L2 PyProof.Rows
end Dl
set_option Elab.async false
set_option linter.all false
set_option maxRecDepth 100000
set_option maxHeartbeats 4000000
namespace Dl
open PySem PySem.Spec L2 PySem.W PySem.Calls PyProof.Rows
end Dl
set_option Elab.async false
set_option linter.all false
set_option maxRecDepth 100000
set_option maxHeartbeats 4000000
namespace L2
open PySem PySem.Spec PyProof.Rows CwR
end L2
namespace Dl
open PySem PySem.Spec L2
end Dl
set_option Elab.async false
set_option linter.all false
set_option maxRecDepth 100000
set_option maxHeartbeats 4000000
namespace Dl
open PySem PySem.Spec L2 PySem.W PySem.Calls PyProof.Rows
end Dl
set_option Elab.async false
set_option linter.all false
set_option maxRecDepth 100000
set_option maxHeartbeats 4000000
namespace Dl
open PySem PySem.Spec L2
end Dl
set_option Elab.async false
set_option linter.all false
set_option maxRecDepth 100000
set_option maxHeartbeats 4000000
namespace Dl
open PySem PySem.Spec L2
theorem PE.ex {X : Cx} {e : Expr} {α : Type} {t : α → TE} (h : ∀ a, PE X e (t a)) : PE X e (fun σ H Q => ∃ a, t a σ H Q) := ⟨fun pins s σ H Q I q => let ⟨a, q⟩ := q; (h a).run pins s σ H Q I q⟩
end Dl
set_option Elab.async false
set_option linter.all false
set_option maxRecDepth 100000
set_option maxHeartbeats 4000000
namespace Dl
open PySem PySem.Spec L2 PyProof.Rows
end Dl
set_option Elab.async false
set_option linter.all false
set_option maxRecDepth 100000
set_option maxHeartbeats 4000000
namespace Dl
open PySem PySem.Spec L2 PyProof.Rows
end Dl
set_option Elab.async false
set_option linter.all false
set_option maxRecDepth 100000
set_option maxHeartbeats 4000000
namespace Dl
open PySem PySem.Spec L2
end Dl
set_option Elab.async false
set_option linter.all false
set_option maxRecDepth 100000
set_option maxHeartbeats 4000000
namespace L2.DX
open PySem PySem.Spec PyProof.Rows PySem.W
end L2.DX
namespace Dl
open PySem PySem.Spec L2
end Dl
set_option Elab.async false
set_option linter.all false
set_option maxRecDepth 100000
set_option maxHeartbeats 4000000
namespace Dl.G
open PySem PySem.SeqAt
open AutoSeq1 (wpAny_loadPart')
open MeetsSeq MeetsSeq2 MeetsSeq3 SeqRoads2
end Dl.G
namespace Dl
open PySem PySem.Spec L2
end Dl
set_option Elab.async false
set_option linter.all false
set_option maxRecDepth 100000
set_option maxHeartbeats 4000000
namespace L2
open PySem PySem.Spec PyProof.Rows
end L2
namespace Dl
open PySem PySem.Spec L2
end Dl
set_option Elab.async false
set_option linter.all false
set_option maxRecDepth 100000
set_option maxHeartbeats 4000000
namespace Dl
open PySem PySem.Spec L2
end Dl
set_option Elab.async false
set_option linter.all false
set_option maxRecDepth 100000
set_option maxHeartbeats 4000000
namespace Dl
open PySem PySem.Spec L2
end Dl
set_option Elab.async false
set_option linter.all false
set_option maxRecDepth 100000
set_option maxHeartbeats 0
namespace K81
open PySem PySem.Spec L2 Dl Dl.Hd
def nm : List (List Str) := [[], ["value"], ["value"], ["value"], ["value"], ["value"], ["spot"], ["_cells"], ["_file", "_writes"], [], [], ["_size"], ["_size"], ["_size"], ["_steps"]]
theorem ob_eq (s : PySem.W.SharedT) : ob s = hk.obs s.abs := by
  have e : HandSHeadRun.getT s = s.abs.heap.get? := funext (HandSHeadRun.getT_eq s)
  unfold ob
  rw [e]
  rfl
end K81
set_option Elab.async false
set_option linter.all false
set_option maxRecDepth 100000
set_option maxHeartbeats 4000000
namespace L2
open PySem PySem.Spec PyProof.Rows
end L2
namespace Dl
open PySem PySem.Spec L2
end Dl
set_option Elab.async false
set_option linter.all false
set_option maxRecDepth 100000
set_option maxHeartbeats 4000000
namespace Dl
open PySem PySem.Spec L2
end Dl
set_option Elab.async false
set_option linter.all false
set_option maxRecDepth 100000
set_option maxHeartbeats 4000000
namespace L2
open PySem PySem.Spec PyProof.Rows
variable {X : Cx} {sp : Sp}
theorem pmk_oex0 {CX : CXT} {x : Str} {p pos : Pos} {C fI : Addr} {k : Nat} {fd : FuncData} {ps : List Str} {ds : List Value} {dvs : List V} (T : OexC X.K C) (iC : PySem.W.findIn X.K (.ref C) "__init__" = some (some (.ref fI))) (tI : PySem.W.typeIn X.K (.ref fI) = some (.type "function"))
    (F1 : FnOk X.prog X.w X.K X.mg X.base CX k fI fd ps sp) (hr : Room (k + 1) X.A) (hb : Binds X.K fd ps ds) (hd : Vals dvs ds) (hx : Passes CX X (fun _ _ _ => False)) (hg : Gl X x) (hm : X.mg x = some (.ref C))
    (hdb : (x == ("__debug__" : Str)) = false := by decide) :
    PMk X (.Call (.Name x p) [] [] pos) (tMkO C sp dvs tNil) := by
  intro pins s σ H Q I h
  obtain ⟨nm, q, N, bs, bm, sn, sub, ab, col, dd, k0, k1, k2, k3, k5, hC, hbm⟩ := T.cls
  refine wpAny_Call_Name_kw (ld_glob I hg hm ?_ hdb)
  refine PySem.W.callWith_K0 I.kIn T.kC ?_
  show wpAny _ _ (call (.ref C) []) _ _ _
  obtain ⟨hz, q1⟩ := h
  obtain ⟨hp, g, dr, tk, os⟩ := s
  have hsz : hp.objs.size ≤ hp.objs.size + 1 := Nat.le_succ _
  have hn : H (hp.objs.size + 1) = none := I.hok.fresh hsz
  have hq := q1 (hp.objs.size + 1) hn
  have kk : ∀ b o, hp.get? b = some o → ((hp.push (PySem.W.kdv_tup [])).push (PySem.HandSPX.excO C hp.objs.size)).get? b = some o := fun b o e => Heap.get?_push_of_some _ (Heap.get?_push_of_some _ e)
  have hget : ((hp.push (PySem.W.kdv_tup [])).push (PySem.HandSPX.excO C hp.objs.size)).get? (hp.objs.size + 1) = some (PySem.HandSPX.excO C hp.objs.size) := by heap_get
  have I2 : Inv X pins σ (upd H (hp.objs.size + 1) (exo (hp.objs.size + 1) C none)) ⟨(hp.push (PySem.W.kdv_tup [])).push (PySem.HandSPX.excO C hp.objs.size), g, dr, tk, os⟩ :=
    I.laid (t' := tk) (a := hp.objs.size + 1) (o := exo (hp.objs.size + 1) C none) (h' := (hp.push (PySem.W.kdv_tup [])).push (PySem.HandSPX.excO C hp.objs.size)) kk hsz (exo_ok hget)
  have r2 : Vals (V.ref (hp.objs.size + 1) :: dvs) (Value.ref (hp.objs.size + 1) :: ds) := .cons rfl hd
  have hl : ([Value.ref (hp.objs.size + 1)] ++ ds).length = ps.length := by
    have e : (V.ref (hp.objs.size + 1) :: ([] ++ dvs)).length = (Value.ref (hp.objs.size + 1) :: ds).length := r2.length
    rw [F1.len _ _ _ _ hq] at e
    exact e.symm
  refine wpAny_call (PySem.HandSPX.call_own F.excBase_ValueError (fun Y => PySem.HandSPX.refsVE_contains Y bm hbm) (I.kIn _ _ hC) (PySem.W.looks_findIn I.kIn iC) (fun self => PySem.W.bind_fn I.kIn self tI) (Nat.zero_le _)
    (codeAny_mono (F1.run _ X.stack _ _ ⟨[Value.ref (hp.objs.size + 1)], []⟩ (Value.ref (hp.objs.size + 1) :: ds) _ _ (fun _ _ _ => False) (hr.make C [] []) (I2.env0.make C [] []) (hb _ [Value.ref (hp.objs.size + 1)] I2.kIn hl) r2 hq) fun r s' hq' => ?_))
  cases r with
  | error er => exact hx pins σ _ _ er s' I2 hq'
  | ok fl =>
    cases fl with
    | ret u =>
      obtain ⟨v, H2, os2, bare2, un2, hok2, rv, ev, d, fs, ea, ed, hd1, q2⟩ := hq'
      subst ev
      obtain ⟨h2, g2, d2, t2, os'⟩ := s'
      exact ⟨rv, mk_end (raises_own T.exC T.tyC) I hsz kk un2 hok2 os2 bare2 ea ed hd1 q2⟩
    | next => exact False.elim hq'
    | brk => exact False.elim hq'
    | cont => exact False.elim hq'
end L2
namespace Dl
open PySem PySem.Spec L2
section
variable {X : Cx} {ct : CT} {W : WX} {e o : Expr} {td to : TD} {apos pos pos' p : Pos} {f x : Str} {c k : Nat} {fd : FuncData} {ps : List Str} {ds : List Value}
theorem ds_raise0 {fI : Addr} (hc : X.calm = true) (tk : Takes X W) (T : OexC X.K (ct.addr c)) (iC : PySem.W.findIn X.K (.ref (ct.addr c)) "__init__" = some (some (.ref fI))) (tI : PySem.W.typeIn X.K (.ref fI) = some (.type "function")) (hn : ct.names c = [f])
    (F1 : FnOk X.prog X.w X.K X.mg X.base (L2.CX X.prog X.w) k fI fd ps (spX f (ct.addr c))) (hr : Room (k + 1) X.A) (hd : Vals [V.non] ds) (hb : Binds X.K fd ps ds) (hm : X.mg x = some (.ref (ct.addr c))) (hg : Gl X x := by rfl) (hdb : (x == ("__debug__" : Str)) = false := by decide) :
    DS X ct W (.Raise (some (.Call (.Name x p) [] [] pos)) none pos') (sRaise c (dC .non)) := PS.imp (ps_raise hc tk (pmk_oex0 T iC tI F1 hr hb hd passL hg hm hdb)) fun E σ H ⟨O0, H0, g, dσ, DD, h, t, en⟩ => by
  refine ⟨Nat.zero_le _, fun a ha => ⟨a, .non, rfl, upd_same, fun dx hd ne => ⟨rfl, dx, [(f, .non)], upd_same, ?_, ?_, ?_⟩⟩⟩
  · rw [upd_ne ne, upd_same]
  · rw [upd_ne ne] at hd
    exact hd
  · rw [upd_ne ne] at hd
    have s2 : Same H (upd (del (upd (upd (upd H a (exo a (ct.addr c) none)) dx (exd dx [(f, .non)])) a (exo a (ct.addr c) (some dx))) a) dx (.xd [(f, .non)])) := fun b o eb => by
      rw [upd_ne (ne_of_none eb hd), del_ne (ne_of_none eb ha), upd_ne (ne_of_none eb ha), upd_ne (ne_of_none eb hd), upd_ne (ne_of_none eb ha)]
      exact eb
    refine en.ex c .non _ _ σ _ g dσ (h.sm s2) ⟨rfl, dx, .non, rfl, ?_, rep_non.mpr rfl⟩ t
    rw [upd_same, hn]
    rfl
def bStr1 : List D → (D → Prop) → Prop
  | [.int i], Q => i.natAbs.log2 < 1920 ∧ Q (.str (toString i))
  | _, _ => False
theorem cd_str1 : CallR X (.type "str") (RCD X.K ct bStr1) := CallR.imp call_str_int fun vs H Q ⟨O, ds, QD, dm, r, o, k⟩ => by
  unfold bStr1 at o
  split at o
  · obtain ⟨v, e, h1⟩ := rep1 r
    subst e
    exact ⟨_, by rw [rep_int.mp h1], o.1, k _ _ H (Same.refl H) (rep_str.mpr rfl) o.2⟩
  · exact o.elim
def bIntT : List D → (D → Prop) → Prop
  | [.str a], Q => ∃ n, PySem.intText? a = some n ∧ a.length ≤ 640 ∧ Q (.int n)
  | _, _ => False
theorem cd_intT : CallR X (.type "int") (RCD X.K ct bIntT) := CallR.imp call_int_str fun vs H Q ⟨O, ds, QD, dm, r, o, k⟩ => by
  unfold bIntT at o
  split at o
  · obtain ⟨v, e, h1⟩ := rep1 r
    subst e
    obtain ⟨n, e1, l, q⟩ := o
    exact ⟨_, n, by rw [rep_str.mp h1], e1, l, k _ _ H (Same.refl H) (rep_int.mpr rfl) q⟩
  · exact o.elim
def cPart (z : Str) (d : D) (Q : D → Prop) : Prop := match d with
  | .str y => (y.length == 0) = false ∧ z.length ≤ sizeLine ∧ Q (.tup [.str (Txt.partition z y).1, .str (Txt.partition z y).2.1, .str (Txt.partition z y).2.2])
  | _ => False
theorem de_partition (ho : DE X ct W o to) (he : DE X ct W e td) (hs : starEach [e] X.env = [(false, eval e X.env)] := by rfl) (hbase : attributeBase o "partition" X.env (eval o X.env) = eval o X.env := by rfl) (hline : (apos.endLine == pos.line) = true := by rfl) :
    DE X ct W (.Call (.Attribute o "partition" apos) [e] [] pos) (dM1 cPart to td) := de_M1 PySem.F.slot_str_partition PySem.F.type_str_partition mt_partition cPart (fun z y d H O QD Q dm ry q k => by
    cases d with
    | str y => exact ⟨z, y, rfl, by rw [rep_str.mp ry], q.1, q.2.1, fun p hp => k _ _ _ (same_new hp) (new_tup hp (RepL.cons (rep_str.mpr rfl) (RepL.cons (rep_str.mpr rfl) (RepL.cons (rep_str.mpr rfl) RepL.nil)))) q.2.2⟩
    | _ => exact q.elim) ho he hs hbase hline
end
end Dl
set_option Elab.async false
set_option linter.all false
set_option maxRecDepth 100000
set_option maxHeartbeats 4000000
namespace L2
open PySem PySem.Spec PyProof.Rows
section
variable {M : Model} {A : Around} {E : Value → Shared → Prop} {s : Shared} {env : Env}
theorem callWith_typeKw {pos : Pos} {T : String} {e : Expr} {rest : List Expr} {kws : List Keyword} {Q : Value → Shared → Prop} (hall : (backToKw pos (keywordEach kws env)).all (·.1.isSome) = true)
    (h : wpAny M A (spliced (backTo pos (starEach (e :: rest) env))) (fun vs s₁ => wpAny M A (evalAll ((backToKw pos (keywordEach kws env)).map (·.2)))
      (fun ks s₂ => wpAny M A (call (.type T) vs (((backToKw pos (keywordEach kws env)).filterMap (·.1)).zip ks)) Q E s₂) E s₁) E s)
    (hplain : ((backTo pos (starEach (e :: rest) env)).any (·.1) || (backToKw pos (keywordEach kws env)).any (·.1.isNone)) = false) (he : starEach (e :: rest) env = (false, eval e env) :: starEach rest env) :
    wpAny M A (callWith pos (.type T) [] (backTo pos (starEach (e :: rest) env)) (backToKw pos (keywordEach kws env))) Q E s := by
  have h2 : wpAny M A (evalArgs (.type T) true (backTo pos (starEach (e :: rest) env)) (backToKw pos (keywordEach kws env))) (fun a s₁ => wpAny M A (call (.type T) ([] ++ a.pos) a.kw) Q E s₁) E s := evalArgs_kw2 hall h he
  unfold callWith
  refine wpAny_bind (wpAny_holding (wpAny_mono h2 (fun a s₁ h₁ => wpAny_bind (wpAny_standAt ?_)) fun _ _ x => x))
  simp only [hplain]
  refine wpAny_bind (wpAny_pure ?_)
  exact wpAny_bind (wpAny_mono h₁ (fun r s₂ hr => wpAny_bind (wpAny_holding (wpAny_point (wpAny_pure hr)))) fun _ _ x => x)
end
section
variable {prog : Program} {w : World} {A : Around} {E : Value → Shared → Prop} {s : Shared}
theorem wpAny_pyNext_enum_endI {e it l : Addr} {c : Int} {i : Nat} {items : Array Value} {old : Value} {Q : Option Value → Shared → Prop} (hh : A.handled = none)
    (he : IsEnum s.heap e it c old) (hit : s.heap.IsListIter it l i) (hl : s.heap.IsList l items) (hx : items[i]? = none)
    (hQ : ∀ h', Heap.ExtBut it s.heap h' → Q none { s with heap := h' }) : wpAny (model prog w) A (pyNext (.ref e)) Q E s := by
  have hT : s.TypeIs (.ref e) "enumerate" := ⟨_, he, rfl⟩
  unfold pyNext
  refine wpAny_bind (wpAny_attempt (wpAny_callSpecial?_slot (name := Str.ofString "__next__") hT F.slot_enumerate_next
    (wpAny_call_entry F.slot_enumerate_next hT F.entry_enumerate_next ?_ (F.args_enumerate_next_1 _))))
  show wpAny _ _ (field (.ref e) 2 >>= _) _ _ _
  refine wpAny_bind (wpAny_field he rfl (x := .ref it) rfl ?_)
  refine wpAny_bind (wpAny_nextOf_list_end hh hit hl hx fun h' x he' hx' => ?_)
  obtain ⟨o, ho, hc⟩ := hx'
  refine wpAny_bind (wpAny_isInstance (T := "StopIteration") (b := true) ⟨o, ho, hc⟩ isSubtype_stop ?_)
  exact wpAny_pure (hQ _ he')
end
/-- the list at a as it stands at each turn, each item in a new pair behind its number from n on -/
def IteK (K : PySem.W.Frag) (a : Addr) (n : Nat) : It :=
  ⟨fun i H => ∃ (xs : List V) (x : V), SqL K H a xs ∧ xs[i]? = some x, fun i H v H' => ∃ T x, v = .ref T ∧ H T = none ∧ H' = upd H T (.tup [.int ((n + i : Nat) : Int), x]) ∧ ∀ xs, SqL K H a xs → xs[i]? = some x, fun i H => ∃ xs : List V, SqL K H a xs ∧ xs.length ≤ i⟩
theorem turn_enumK {P : Program} {w : World} {K : PySem.W.Frag} {elts : List Expr} {kk : Nat} {tpos : Pos} (a e it : Addr) (n : Nat) :
    Turn P w K (.Tuple elts kk tpos) (IteK K a n) [e, it] e (fun i h => (∃ old, IsEnum h e it ((n + i : Nat) : Int) old) ∧ h.IsListIter it a i ∧ e ≠ it) where
  mem := by simp
  obj := fun i h st b hb => by
    obtain ⟨⟨old, he⟩, ⟨o, ho, hc, hd⟩, _⟩ := st
    have e' : b = e ∨ b = it := by simpa using hb
    rcases e' with z | z
    · rw [z]; exact ⟨_, he, fun v q => nomatch q⟩
    · rw [z]; exact ⟨o, ho, fun v q => by rw [hd] at q; cases q⟩
  keep := fun i h h' st k => let ⟨⟨old, he⟩, hi, hne⟩ := st; ⟨⟨old, k e (by simp) _ he⟩, hi.at fun o q => k it (by simp) o q, hne⟩
  item := by
    intro X hP hw hK hc i pins s σ H E I hf st hg
    subst hP hw hK
    obtain ⟨⟨old, he⟩, hit, hne⟩ := st
    obtain ⟨xs, x, hq, hx⟩ := hg
    obtain ⟨its, rv, p, hz⟩ := I.list hq
    obtain ⟨u, hu, ru⟩ := rv.get hx
    have hel : e < s.heap.objs.size := Heap.lt_size he
    have hil : it < s.heap.objs.size := by obtain ⟨_, q, _⟩ := hit; exact Heap.lt_size q
    have hal : a ≠ it := fun z => by
      obtain ⟨o1, q1, q2, _⟩ := hit
      obtain ⟨o2, q3, q4, _⟩ := p.isList
      rw [z, q1] at q3
      cases q3
      rw [q2] at q4
      exact absurd (Value.type.inj q4) (by decide)
    have hae : a ≠ e := fun z => by
      obtain ⟨o2, q3, q4, _⟩ := p.isList
      rw [z, he] at q3
      cases q3
      exact absurd (Value.type.inj q4) (by decide)
    have hlt : i < its.toArray.size := by
      rw [List.size_toArray]
      exact (List.getElem?_eq_some_iff.mp hu).1
    refine wpAny_pyNext_enum_itemC (Draws.list (A := X.A.in1) (I.ok.hd hc) it a hal its.toArray) he ⟨hit, p.isList⟩ hlt hne (fun z => by
      rcases List.mem_cons.mp z with z | z
      · exact hne z
      · exact hae (List.mem_singleton.mp z).symm) fun x' h' tk hx' ho ⟨hit', _⟩ hT hsz hk => ?_
    have exu : x' = u := by
      have : its[i]? = some x' := by simpa using hx'
      rw [hu] at this
      exact (Option.some.inj this).symm
    subst exu
    refine ⟨_, rfl, wpAny_letOwnedTupleGo_enum (s := { s with heap := h', toks := tk + 1 }) ho fun h'' he' sb => ?_⟩
    have hT2 : h''.get? s.heap.objs.size = some { cls := .type "tuple", data := .seq #[.int ((n + i : Nat) : Int) tk, x'] } := (sb.2 _ (Nat.ne_of_gt hel)).trans hT
    have new : ObjOk X.prog X.w (upd H s.heap.objs.size (.tup [.int ((n + i : Nat) : Int), x])) h'' s.heap.objs.size (.tup [.int ((n + i : Nat) : Int), x]) :=
      ⟨by show 2 ≤ sizeLine; decide, [.int ((n + i : Nat) : Int) tk, x'], .cons ⟨_, rfl⟩ (.cons ru .nil), ⟨_, hT2, rfl, _, rfl⟩⟩
    have I1 : Inv X pins σ (upd H s.heap.objs.size (.tup [.int ((n + i : Nat) : Int), x])) { s with heap := h'', toks := tk + 1 } :=
      I.turnedNew (ch := [e, it]) (fun b ob hb q => (sb.2 b (fun z => hb (by simp [z]))).trans (hk b ob (fun z => hb (by simp [z])) (fun z => hb (by simp [z])) q)) hf (Nat.le_refl _) new
    refine ⟨.ref s.heap.objs.size, _, I1, rfl, ⟨_, x, rfl, I.hok.fresh (Nat.le_refl _), rfl, fun ys hy => by rw [I.list_inj hy hq]; exact hx⟩, ⟨⟨x', ?_⟩, hit'.at fun o q => (sb.2 it (Ne.symm hne)).trans q, hne⟩, fun b hb => ?_⟩
    · have e1 : ((n + (i + 1) : Nat) : Int) = ((n + i : Nat) : Int) + 1 := by omega
      rw [e1]; exact he'
    · have hb' : b < s.heap.objs.size := by
        have e' : b = e ∨ b = it := by simpa using hb
        rcases e' with z | z
        · rw [z]; exact hel
        · rw [z]; exact hil
      rw [upd_ne (Nat.ne_of_lt hb')]
      exact (hf b hb).1
  done := by
    intro X hP hw hK hc i pins s σ H E I hf st hg
    subst hP hw hK
    obtain ⟨⟨old, he⟩, hit, hne⟩ := st
    obtain ⟨xs, hq, hx⟩ := hg
    obtain ⟨its, rv, p, hz⟩ := I.list hq
    obtain ⟨f0, f1, f2, f3, f4, f5⟩ := hf it (by simp)
    have hl := rv.length
    have hal : a ≠ it := fun z => by
      obtain ⟨o1, q1, q2, _⟩ := hit
      obtain ⟨o2, q3, q4, _⟩ := p.isList
      rw [z, q1] at q3
      cases q3
      rw [q2] at q4
      exact absurd (Value.type.inj q4) (by decide)
    obtain ⟨hit0, hit1⟩ : True ∧ s.heap.IsListIter it a i := ⟨trivial, hit⟩
    refine wpAny_pyNext_enum_endI (I.ok.hd hc) he hit p.isList (by simp; omega) fun h' eb => ⟨rfl, I.turned (t' := s.toks) (fun b o hb q => eb b o hb q) f0 f1 f3 f4 f5⟩
  self := fun A i s Q E st h => let ⟨⟨_, he⟩, _⟩ := st; wpAny_pyIter_enum he h
def iEnumKV (K : PySem.W.Frag) (n : Nat) (ta tk : TA) : TI := fun σ H R => ta σ H fun vs H1 => tk σ H1 fun zs H2 => ∃ a xs, vs = [.ref a] ∧ zs = [.int n] ∧ n < 2 ^ 62 ∧ SqL K H2 a xs ∧ R (IteK K a n) H2
theorem pi_enumK {X : Cx} {e : Expr} {ta tk : TA} {kws : List Keyword} {n : Nat} {p pos tpos : Pos} {elts : List Expr} {kk : Nat} (hg : Gl X "enumerate") (hm : X.mg "enumerate" = none) (ha : PA X [e] ta) (hkw : PK X kws tk)
    (hall : (backToKw pos (keywordEach kws X.env)).all (·.1.isSome) = true) (hks : (backToKw pos (keywordEach kws X.env)).filterMap (·.1) = [Str.ofString "start"])
    (hpl : ((backTo pos (starEach [e] X.env)).any (·.1) || (backToKw pos (keywordEach kws X.env)).any (·.1.isNone)) = false) (he : starEach [e] X.env = (false, eval e X.env) :: starEach [] X.env) :
    PI X (.Tuple elts kk tpos) (.Call (.Name "enumerate" p) [e] kws pos) (iEnumKV X.K n ta tk) := by
  refine ⟨fun pins s σ H R I h => ?_⟩
  refine wpAny_Call_Name_kw (ld_blt I hg hm boot_enumerate ?_)
  refine callWith_typeKw hall (thn (ha.run pos pins s σ H _ I h) fun us s1 ⟨vs, H1, I1, r1, q1⟩ => ?_) hpl he
  refine thn (hkw.run pos pins s1 σ H1 _ I1 q1) fun ws s2 ⟨zs, H2, I2, rz, a, xs, ex, ez, hn, hq, q⟩ => ?_
  subst ex ez
  rw [hks]
  obtain ⟨u, rfl, ru⟩ := vals1 r1
  obtain rfl : u = Value.ref a := ru
  obtain ⟨z, rfl, t, rfl⟩ := vals1 rz
  obtain ⟨its, rv, p', hz⟩ := I2.list hq
  refine enum_begins_start (begins_list a its.toArray) p'.isList (by omega) (by omega) fun h' he hit hsz hk => wpAny_pyIter_enum he ?_
  have I3 : Inv X pins σ H2 { s2 with heap := h' } := I2.kept (t' := s2.toks) hk
  refine ⟨s2.heap.objs.size + 1, [s2.heap.objs.size + 1, s2.heap.objs.size], _, _, H2, rfl, I3, turn_enumK a (s2.heap.objs.size + 1) s2.heap.objs.size n, ⟨⟨.none, by rw [Nat.add_zero]; exact he⟩, ⟨_, hit, rfl, rfl⟩, Nat.succ_ne_self _⟩, fun b hb => ?_, q⟩
  have e' : b = s2.heap.objs.size + 1 ∨ b = s2.heap.objs.size := by simpa using hb
  have hle : s2.heap.objs.size ≤ b := by
    rcases e' with z | z
    · rw [z]; exact Nat.le_add_right _ _
    · rw [z]; exact Nat.le_refl _
  exact I2.fpOk hle (I2.hok.fresh hle)
end L2
namespace Dl
open PySem PySem.Spec L2
section
variable {K : PySem.W.Frag} {ct : CT} {H Hb : Hp} {O : Addr → Prop}
theorem it_enumK {a : Addr} {k : Nat} {vs : List V} {ds : List D} (c : Cut O H Hb) (n : ¬ O a) (l : H a = some (.lst vs)) (r : RepL K ct H O ds vs) : ItOk K ct O Hb (IteK K a k) (numbered k ds) := by
  have lb : Hb a = some (.lst vs) := by
    rcases c.2 a _ l with z | ⟨z, _⟩
    · exact z
    · exact absurd z n
  have rb : RepL K ct Hb O ds vs := r.chg c.2
  refine ⟨fun i H1 s hi => ?_, fun i H1 x H2 s hi y => ?_, fun H1 s => ⟨vs, SqL.of (s _ _ lb), by rw [r.length, numbered_len] <;> exact Nat.le_refl _⟩⟩
  · rw [numbered_len] at hi
    have hv : i < vs.length := by rw [r.length]; exact hi
    exact ⟨vs, vs[i], SqL.of (s _ _ lb), List.getElem?_eq_getElem hv⟩
  · obtain ⟨T, y, ex, hT, eH, z⟩ := y
    subst ex
    subst eH
    obtain ⟨d, ed, rd⟩ := rb.getV (z vs (SqL.of (s _ _ lb)))
    refine ⟨same_new hT, .tup [.int ((k + i : Nat) : Int), d], ?_, fun O' c => ?_⟩
    · rw [numbered_get, ed]
      simp
    · exact new_tup hT (RepL.cons (rep_int.mpr rfl) (RepL.cons (rd.out s c) RepL.nil))
end
def iEnumK (k : Nat) (t : TDA) : TDI := fun s Q E => t s (fun ds => match ds with
  | [.lst xs] => Q (numbered k xs)
  | _ => False) E
section
variable {X : Cx} {ct : CT} {W : WX} {e : Expr} {tda : TDA} {kws : List Keyword} {k : Nat} {pos p tpos : Pos} {elts : List Expr} {kk : Nat}
theorem di_enumK (hg : Gl X "enumerate") (hm : X.mg "enumerate" = none) (ha : DA X ct W [e] tda) (hkw : DK X ct W kws (aCons (dC (.int (k : Nat))) aNil)) (hk : k < 2 ^ 62)
    (hall : (backToKw pos (keywordEach kws X.env)).all (·.1.isSome) = true := by rfl) (hks : (backToKw pos (keywordEach kws X.env)).filterMap (·.1) = [Str.ofString "start"] := by rfl)
    (hpl : ((backTo pos (starEach [e] X.env)).any (·.1) || (backToKw pos (keywordEach kws X.env)).any (·.1.isNone)) = false := by rfl) (he : starEach [e] X.env = (false, eval e X.env) :: starEach [] X.env := by rfl) :
    DI X ct W (.Tuple elts kk tpos) (.Call (.Name "enumerate" p) [e] kws pos) (iEnumK k tda) :=
  PI.imp (pi_enumK hg hm ha hkw hall hks hpl he) fun σ H R ⟨O, f, dσ, QD, QE, hs, h, kq, kx⟩ => by
    refine ⟨O, f, dσ, _, QE, hs, h, fun vs ds H1 e1 r q => ?_, kx⟩
    split at q
    · obtain ⟨v, q2, ev, h1, h2⟩ := r.cons_inv
      simp only [RepL] at h2
      subst h2
      subst ev
      obtain ⟨a, us, ea, n, l, rl⟩ := rep_lst.mp h1
      subst ea
      refine ⟨O, f, dσ, fun zs => zs = [.int (k : Nat)], QE, hs.same e1, rfl, fun zs es H2 e2 rz q3 => ?_, kx.same e1⟩
      subst q3
      obtain ⟨z, ez, hz⟩ := rep1 rz
      subst ez
      rw [rep_int.mp hz]
      exact ⟨a, us, rfl, rfl, hk, SqL.of (e2 _ _ l), kq _ _ _ (e1.trans e2) (fun Hb c => it_enumK c n (e2 _ _ l) (rl.same e2)) q⟩
    · exact q.elim
end
end Dl
set_option Elab.async false
set_option linter.all false
set_option maxRecDepth 100000
set_option maxHeartbeats 4000000
namespace Dl
open PySem PySem.Spec L2
end Dl
set_option Elab.async false
set_option linter.all false
set_option maxRecDepth 100000
set_option maxHeartbeats 4000000
namespace Dl
open PySem PySem.Spec L2
/-- the names of one's own lists that a target leaves -/
def OwnIn (s' s : List Sl) : Prop := ∀ (j : Nat) (t : Sl), s'[j]? = some t → isOwn t = true → s[j]? = some t
theorem OwnIn.trans {a b c : List Sl} (h : OwnIn a b) (k : OwnIn b c) : OwnIn a c := fun j t e o => k j t (h j t e o) o
end Dl
set_option Elab.async false
set_option linter.all false
set_option maxRecDepth 100000
set_option maxHeartbeats 4000000
namespace Dl
open PySem PySem.Spec L2 PyProof.Rows
end Dl
set_option Elab.async false
set_option linter.all false
set_option maxRecDepth 100000
set_option maxHeartbeats 400000
namespace Dl
open PySem PySem.Spec L2
inductive Res (α : Type) where
  | ok (a : α)
  | exc (c : Nat) (x : D)
  | bad
  | ask (n : Int) (k : Int → Res α)
namespace Res
variable {α β γ : Type}
def cat : Res α → (α → Res β) → (Nat → D → Res β) → Res β
  | .ok a, g, _ => g a
  | .exc c x, _, h => h c x
  | .bad, _, _ => .bad
  | .ask n k, g, h => .ask n fun d => (k d).cat g h
def bind (r : Res α) (g : α → Res β) : Res β := r.cat g .exc
/-- no error may come -/
def noex (r : Res α) : Res α := r.cat .ok fun _ _ => .bad
def wp : Res α → (α → Prop) → QX → Prop
  | .ok a, Q, _ => Q a
  | .exc c x, _, E => E c x
  | .bad, _, _ => False
  | .ask n k, Q, E => ∀ d, 0 ≤ d → d < n → (k d).wp Q E
open Classical in
noncomputable def need (p : Prop) (r : Res α) : Res α := if p then r else .bad
theorem need_pos {p : Prop} {r : Res α} (h : p) : need p r = r := if_pos h
theorem need_true {r : Res α} : need True r = r := if_pos trivial
section
variable {Q Q' : α → Prop} {E E' : QX} {r : Res α} {g : α → Res β} {h : Nat → D → Res β} {R : β → Prop}
theorem wp_need {p : Prop} : (need p r).wp Q E ↔ p ∧ r.wp Q E := by
  unfold need
  by_cases z : p
  · rw [if_pos z]
    exact ⟨fun q => ⟨z, q⟩, fun q => q.2⟩
  · rw [if_neg z]
    exact ⟨fun q => q.elim, fun q => absurd q.1 z⟩
theorem wp_cat : ∀ {r : Res α}, (r.cat g h).wp R E ↔ r.wp (fun a => (g a).wp R E) (fun c x => (h c x).wp R E)
  | .ok a => Iff.rfl
  | .exc c x => Iff.rfl
  | .bad => Iff.rfl
  | .ask n k => forall_congr' fun d => imp_congr Iff.rfl (imp_congr Iff.rfl wp_cat)
theorem wp_bind : (r.bind g).wp R E ↔ r.wp (fun a => (g a).wp R E) E := wp_cat
theorem wp_noex : r.noex.wp Q E ↔ r.wp Q fun _ _ => False := wp_cat
theorem wp_mono (hq : ∀ a, Q a → Q' a) (he : ∀ c x, E c x → E' c x) : ∀ {r : Res α}, r.wp Q E → r.wp Q' E'
  | .ok a, z => hq a z
  | .exc c x, z => he c x z
  | .bad, z => z
  | .ask n k, z => fun d h0 h1 => wp_mono hq he (z d h0 h1)
theorem bind_ok {a : α} : (Res.ok a).bind g = g a := rfl
theorem bind_exc {c : Nat} {x : D} : (Res.exc c x : Res α).bind g = .exc c x := rfl
theorem bind_bad : (Res.bad : Res α).bind g = .bad := rfl
theorem bind_ask {n : Int} {k : Int → Res α} : (Res.ask n k).bind g = .ask n fun d => (k d).bind g := rfl
end
end Res
open Res
/-- where a row of statements leads -/
inductive Fl where
  | nx (s : List Sl) | rt (d : D) | rn (ds : List D) | bk (s : List Sl) | cn (s : List Sl) | ex (c : Nat) (x : D) (s : List Sl)
def flQ (DD : DEnds) : Fl → Prop
  | .nx s => DD.nx s
  | .rt d => DD.rt d
  | .rn ds => DD.rn ds
  | .bk s => DD.bk s
  | .cn s => DD.cn s
  | .ex c x s => DD.ex c x s
abbrev NoX : QX := fun _ _ => False
abbrev FE := List Sl → Res D
abbrev FT := List Sl → Res Bool
abbrev FA := List Sl → Res (List D)
abbrev FO := List Sl → Res (Option Int)
abbrev FS := List Sl → Res Fl
abbrev F2 := D → D → Res D
abbrev FC := List D → Res D
abbrev FW := List D → Res D
abbrev FI := List D → Res (List (Str × D))
def SimE (f : FE) (t : TD) : Prop := ∀ s Q E, (f s).wp Q E → t s Q E
def SimT (f : FT) (t : TDT) : Prop := ∀ s Q E, (f s).wp Q E → t s Q E
def SimA (f : FA) (t : TDA) : Prop := ∀ s Q E, (f s).wp Q E → t s Q E
def SimO (f : FO) (t : TDO) : Prop := ∀ s Q E, (f s).wp Q E → t s Q E
def SimI (f : FA) (t : TDI) : Prop := ∀ s Q E, (f s).wp Q E → t s Q E
def Sim2 (p : F2) (o : O2) : Prop := ∀ x y Q E, (p x y).wp Q E → o x y Q
def SimC (p : FC) (o : List D → (D → Prop) → Prop) : Prop := ∀ xs Q E, (p xs).wp Q E → o xs Q
def SimS (f : FS) (t : TDS) : Prop := ∀ s DD, (f s).wp (flQ DD) NoX → t DD s
def SimW (g : FW) (w : Wf) : Prop := ∀ ds Q E, (g ds).wp Q E → w ds Q E
def SimWi (g : FI) (w : Wi) : Prop := ∀ ds Q E, (g ds).wp Q E → w ds Q E
def toInts : List D → Option (List Int)
  | [] => some []
  | .int i :: r => (toInts r).map (i :: ·)
  | _ :: _ => none
def toBls : List D → Option (List Bool)
  | [] => some []
  | .bl i :: r => (toBls r).map (i :: ·)
  | _ :: _ => none
def toStrs : List D → Option (List Str)
  | [] => some []
  | .str i :: r => (toStrs r).map (i :: ·)
  | _ :: _ => none
theorem toBls_eq : ∀ {ds : List D} {ns : List Bool}, toBls ds = some ns → ds = ns.map D.bl
  | [], ns, h => by cases h; rfl
  | d :: r, ns, h => by
    cases d <;> first | (cases h; done) | skip
    rename_i i
    unfold toBls at h
    cases e : toBls r with
    | none => rw [e] at h; cases h
    | some ms =>
      rw [e] at h
      cases h
      rw [toBls_eq e] <;> rfl
theorem toStrs_eq : ∀ {ds : List D} {ns : List Str}, toStrs ds = some ns → ds = ns.map D.str
  | [], ns, h => by cases h; rfl
  | d :: r, ns, h => by
    cases d <;> first | (cases h; done) | skip
    rename_i i
    unfold toStrs at h
    cases e : toStrs r with
    | none => rw [e] at h; cases h
    | some ms =>
      rw [e] at h
      cases h
      rw [toStrs_eq e] <;> rfl
theorem toStrs_map : ∀ {ns : List Str}, toStrs (ns.map D.str) = some ns
  | [] => rfl
  | n :: ns => by
    show (toStrs (ns.map D.str)).map (n :: ·) = _
    rw [toStrs_map] <;> rfl
def optR {α : Type} : Option α → Res α
  | some a => .ok a
  | none => .bad
theorem wp_optR {α : Type} {o : Option α} {Q : α → Prop} {E : QX} : (optR o).wp Q E ↔ ∃ a, o = some a ∧ Q a := by
  cases o with
  | none => exact ⟨fun h => h.elim, fun ⟨_, h, _⟩ => by cases h⟩
  | some a => exact ⟨fun h => ⟨a, rfl, h⟩, fun ⟨b, h, q⟩ => by cases h; exact q⟩
noncomputable def pAdd : F2
  | .int i, .int j => .ok (.int (i + j))
  | .str a, .str b => need (a.length + b.length ≤ sizeLine) (.ok (.str (a ++ b)))
  | .lst a, .lst b => need (a.length + b.length ≤ sizeLine) (.ok (.lst (a ++ b)))
  | .tup a, .tup b => need (a.length + b.length ≤ sizeLine) (.ok (.tup (a ++ b)))
  | _, _ => .bad
def pSub : F2
  | .int i, .int j => .ok (.int (i - j))
  | _, _ => .bad
noncomputable def pMul : F2
  | .int i, .int j => need (CMulX i j) (.ok (.int (i * j)))
  | .str x, .int n => need (-(2 ^ 62) ≤ n ∧ x.length * n.toNat ≤ 10000000 ∧ n.toNat ≤ 10000000) (.ok (.str (strRep x n.toNat)))
  | .lst a, .int n => need (-(2 ^ 63) ≤ n ∧ n < 2 ^ 63 ∧ a.length * n.toNat ≤ sizeLine) (.ok (.lst (List.replicate n.toNat a).flatten))
  | .tup a, .int n => need (-(2 ^ 62) ≤ n ∧ n ≤ 1000 ∧ a.length ≤ 1000) (.ok (.tup (List.replicate n.toNat a).flatten))
  | _, _ => .bad
noncomputable def pMod : F2
  | .int i, .int j => need (0 < j) (.ok (.int (i % j)))
  | _, _ => .bad
noncomputable def pDiv : F2
  | .int i, .int j => need (CDivW i j) (.ok (.int (i / j)))
  | _, _ => .bad
noncomputable def pPow : F2
  | .int i, .int j => need (CPowX i j) (.ok (.int (i ^ j.toNat)))
  | _, _ => .bad
def pCmp (f : Int → Int → Bool) : F2
  | .int i, .int j => .ok (.bl (f i j))
  | _, _ => .bad
abbrev pLt : F2 := pCmp fun i j => decide (i < j)
abbrev pLe : F2 := pCmp fun i j => decide (i ≤ j)
abbrev pGt : F2 := pCmp fun i j => decide (j < i)
abbrev pGe : F2 := pCmp fun i j => decide (j ≤ i)
def pIsN : F2
  | d, .non => .ok (.bl (isNon d))
  | .bl a, .bl b => .ok (.bl (a == b))
  | _, _ => .bad
def pNotN : F2
  | d, .non => .ok (.bl (!isNon d))
  | .bl a, .bl b => .ok (.bl (!(a == b)))
  | _, _ => .bad
noncomputable def pIx : F2
  | .lst xs, .int i => optR (atI xs i)
  | .tup xs, .int i => optR (atI xs i)
  | .str z, .int i => need (z.length ≤ sizeLine) (optR ((atI z.cps.toList i).map fun c => .str ⟨#[c]⟩))
  | .scr ns, .int i => optR ((atI ns i).map D.int)
  | _, _ => .bad
noncomputable def pInW (neg : Bool) : F2
  | .str x, .str z => match x.cps.toList with
    | [c] => .ok (.bl (neg ^^ decide (c ∈ z.cps.toList)))
    | _ => .bad
  | d, .tup xs => need (flatD d = true ∧ xs.all flatD = true) (.ok (.bl (neg ^^ xs.any fun y => eqD y d)))
  | d, .lst xs => need (flatD d = true ∧ xs.all flatD = true) (.ok (.bl (neg ^^ xs.any fun y => eqD y d)))
  | _, _ => .bad
noncomputable abbrev pIn : F2 := pInW false
noncomputable abbrev pNotIn : F2 := pInW true
noncomputable def pEqT (T : EqT) (n : Nat) : F2 := fun x y => need (okE T x y n) (.ok (.bl (eqD x y)))
noncomputable def pNeT (T : EqT) (n : Nat) : F2 := fun x y => need (okE T x y n) (.ok (.bl (!eqD x y)))
section
theorem m_add : Sim2 pAdd oAdd := by
  intro x y Q E h
  unfold pAdd at h
  split at h <;> first | exact h | (rw [wp_need] at h; first | exact h | exact ⟨h.1.1, h.1.2, h.2⟩) | exact h.elim
theorem m_sub : Sim2 pSub oSub := by
  intro x y Q E h
  unfold pSub at h
  split at h <;> first | exact h | exact h.elim
theorem m_mul : Sim2 pMul oMul := by
  intro x y Q E h
  unfold pMul at h
  split at h <;> first | exact h.elim | (rw [wp_need] at h; first | exact h | exact ⟨h.1.1, h.1.2.1, h.1.2.2, h.2⟩)
theorem m_mod : Sim2 pMod oMod := by
  intro x y Q E h
  unfold pMod at h
  split at h <;> first | exact h.elim | (rw [wp_need] at h; exact h)
theorem m_pow : Sim2 pPow oPow := by
  intro x y Q E h
  unfold pPow at h
  split at h <;> first | exact h.elim | (rw [wp_need] at h; exact h)
theorem m_cmp {f : Int → Int → Bool} : Sim2 (pCmp f) (oCmp f) := by
  intro x y Q E h
  unfold pCmp at h
  split at h <;> first | exact h | exact h.elim
theorem m_lt : Sim2 pLt oLt := m_cmp
theorem m_le : Sim2 pLe oLe := m_cmp
theorem m_gt : Sim2 pGt oGt := m_cmp
theorem m_ge : Sim2 pGe oGe := m_cmp
theorem m_isN : Sim2 pIsN oIsN := by
  intro x y Q E h
  unfold pIsN at h
  split at h
  · unfold oIsN
    cases x <;> exact h
  · exact h
  · exact h.elim
theorem m_notN : Sim2 pNotN oNotN := by
  intro x y Q E h
  unfold pNotN at h
  split at h
  · unfold oNotN
    cases x <;> exact h
  · exact h
  · exact h.elim
theorem m_ix : Sim2 pIx oIx := by
  intro x y Q E h
  unfold pIx at h
  split at h
  · exact wp_optR.mp h
  · exact wp_optR.mp h
  · rw [wp_need] at h
    obtain ⟨z, h⟩ := h
    obtain ⟨a, e, q⟩ := wp_optR.mp h
    obtain ⟨c, ec, rfl⟩ := Option.map_eq_some_iff.mp e
    exact ⟨z, c, ec, q⟩
  · obtain ⟨a, e, q⟩ := wp_optR.mp h
    obtain ⟨c, ec, rfl⟩ := Option.map_eq_some_iff.mp e
    exact ⟨c, ec, q⟩
  · exact h.elim
theorem str_one {x : Str} {c : Nat} (h : x.cps.toList = [c]) : x = ⟨#[c]⟩ := by
  cases x with
  | mk a =>
    have e : a = #[c] := by
      apply Array.ext'
      exact h
    rw [e]
theorem m_in : Sim2 pIn oIn := by
  intro x y Q E h
  unfold pIn pInW at h
  split at h
  · split at h
    · rename_i e
      refine ⟨_, str_one e, ?_⟩
      simpa [Res.wp] using h
    · exact h.elim
  · rw [wp_need] at h
    obtain ⟨⟨a, b⟩, h⟩ := h
    unfold oIn
    cases x <;> exact ⟨a, b, by simpa [Res.wp] using h⟩
  · rw [wp_need] at h
    obtain ⟨⟨a, b⟩, h⟩ := h
    unfold oIn
    cases x <;> exact ⟨a, b, by simpa [Res.wp] using h⟩
  · exact h.elim
theorem m_notIn : Sim2 pNotIn oNotIn := by
  intro x y Q E h
  unfold pNotIn pInW at h
  split at h
  · split at h
    · rename_i e
      refine ⟨_, str_one e, ?_⟩
      simpa [Res.wp] using h
    · exact h.elim
  · rw [wp_need] at h
    obtain ⟨⟨a, b⟩, h⟩ := h
    unfold oNotIn
    cases x <;> exact ⟨a, b, by simpa [Res.wp] using h⟩
  · rw [wp_need] at h
    obtain ⟨⟨a, b⟩, h⟩ := h
    unfold oNotIn
    cases x <;> exact ⟨a, b, by simpa [Res.wp] using h⟩
  · exact h.elim
theorem m_eqT (T : EqT) (n : Nat) : Sim2 (pEqT T n) (oEqT T n) := fun x y Q E h => wp_need.mp h
theorem m_neT (T : EqT) (n : Nat) : Sim2 (pNeT T n) (oNeT T n) := fun x y Q E h => wp_need.mp h
end
end Dl
set_option Elab.async false
set_option linter.all false
set_option maxRecDepth 100000
set_option maxHeartbeats 400000
namespace Dl
open PySem PySem.Spec L2 Res
noncomputable def gLen : FC
  | [.str z] => need (z.length ≤ sizeLine) (.ok (.int z.length))
  | [.lst xs] => .ok (.int xs.length)
  | [.tup xs] => .ok (.int xs.length)
  | [.scr xs] => .ok (.int xs.length)
  | _ => .bad
noncomputable def gList : FC
  | [.lst xs] => .ok (.lst xs)
  | [.tup xs] => .ok (.lst xs)
  | [.scr xs] => .ok (.lst (xs.map D.int))
  | [.str z] => need (z.length ≤ sizeLine) (.ok (.lst (chrs z)))
  | _ => .bad
def gTuple : FC
  | [.lst xs] => .ok (.tup xs)
  | [.tup xs] => .ok (.tup xs)
  | _ => .bad
def gInt : FC
  | [.int i] => .ok (.int i)
  | [.bl b] => .ok (.int (if b then 1 else 0))
  | _ => .bad
def gBool : FC
  | [.int i] => .ok (.bl (i != 0))
  | [.bl b] => .ok (.bl b)
  | _ => .bad
def gSum : FC
  | [.lst ds] => (optR (toInts ds)).bind fun ns => .ok (.int ns.sum)
  | _ => .bad
def gAll : FC
  | [.lst ds] => (optR (toBls ds)).bind fun ns => .ok (.bl (ns.all id))
  | _ => .bad
def gAny : FC
  | [.lst ds] => (optR (toBls ds)).bind fun ns => .ok (.bl (ns.any id))
  | _ => .bad
def gMin : FC
  | [.int i, .int j] => .ok (.int (if j < i then j else i))
  | _ => .bad
def gMax : FC
  | [.int i, .int j] => .ok (.int (if j > i then j else i))
  | _ => .bad
def gIsi (sub : Sub2) : FC
  | [d, c] => (optR (isiD sub d c)).bind fun b => .ok (.bl b)
  | _ => .bad
noncomputable def kJoin (z : Str) : D → Res D
  | .lst ds => (optR (toStrs ds)).bind fun ys => need ((ys.map (·.length)).sum + ys.length * z.length ≤ 16777216) (.ok (.str (Txt.join z ys)))
  | .tup ds => (optR (toStrs ds)).bind fun ys => need ((ys.map (·.length)).sum + ys.length * z.length ≤ 16777216) (.ok (.str (Txt.join z ys)))
  | _ => .bad
def kCount (z : Str) : D → Res D
  | .str y => .ok (.int (Txt.count z y))
  | _ => .bad
noncomputable def kStrip (z : Str) : D → Res D
  | .str y => need (z.length ≤ sizeLine) (.ok (.str (Txt.stripChars z y)))
  | _ => .bad
noncomputable def kSplit (z : Str) : D → Res D
  | .str y => need ((y.length == 0) = false ∧ z.length + 2 ≤ sizeLine) (.ok (.lst ((Txt.split z y).map D.str)))
  | _ => .bad
def SimM (k : Str → D → Res D) (c : Str → D → (D → Prop) → Prop) : Prop := ∀ z d Q E, (k z d).wp Q E → c z d Q
theorem m_len : SimC gLen bLen := by
  intro xs Q E h
  unfold gLen at h
  split at h <;> first | exact h | (rw [wp_need] at h; exact h) | exact h.elim
theorem m_tuple : SimC gTuple bTuple := by
  intro xs Q E h
  unfold gTuple at h
  split at h <;> first | exact h | exact h.elim
theorem m_int : SimC gInt bInt := by
  intro xs Q E h
  unfold gInt at h
  split at h <;> first | exact h | exact h.elim
theorem m_min : SimC gMin bMin := by
  intro xs Q E h
  unfold gMin at h
  split at h <;> first | exact h | exact h.elim
theorem m_all : SimC gAll bAll := by
  intro xs Q E h
  unfold gAll at h
  split at h
  · obtain ⟨ns, e, q⟩ := wp_optR.mp (wp_bind.mp h)
    exact ⟨ns, by rw [toBls_eq e], q⟩
  · exact h.elim
theorem m_isi (sub : Sub2) : SimC (gIsi sub) (bIsi sub) := by
  intro xs Q E h
  unfold gIsi at h
  split at h
  · obtain ⟨b, e, q⟩ := wp_optR.mp (wp_bind.mp h)
    exact ⟨b, e, q⟩
  · exact h.elim
theorem m_join : SimM kJoin cJoin := by
  intro z d Q E h
  unfold kJoin at h
  split at h
  · obtain ⟨ys, e, q⟩ := wp_optR.mp (wp_bind.mp h)
    obtain ⟨a, b⟩ := wp_need.mp q
    exact ⟨ys, .inl (by rw [toStrs_eq e]), a, b⟩
  · obtain ⟨ys, e, q⟩ := wp_optR.mp (wp_bind.mp h)
    obtain ⟨a, b⟩ := wp_need.mp q
    exact ⟨ys, .inr (by rw [toStrs_eq e]), a, b⟩
  · exact h.elim
theorem m_split : SimM kSplit cSplit := by
  intro z d Q E h
  unfold kSplit at h
  split at h
  · obtain ⟨a, b⟩ := wp_need.mp h
    exact ⟨a.1, a.2, b⟩
  · exact h.elim
def fVar (i : Nat) (s : List Sl) : Res D := match s[i]? with
  | some (.v d) => .ok d
  | _ => .bad
def fC (d : D) (_s : List Sl) : Res D := .ok d
def fBin (p : F2) (fa fb : FE) (s : List Sl) : Res D := (fa s).bind fun x => (fb s).bind fun y => p x y
def fNil (_s : List Sl) : Res (List D) := .ok []
def fCons (f : FE) (r : FA) (s : List Sl) : Res (List D) := (f s).bind fun x => (r s).bind fun xs => .ok (x :: xs)
noncomputable def fTup (f : FA) (s : List Sl) : Res D := (f s).bind fun xs => need (xs.length ≤ sizeLine) (.ok (.tup xs))
noncomputable def fLst (f : FA) (s : List Sl) : Res D := (f s).bind fun xs => need (xs.length ≤ sizeLine) (.ok (.lst xs))
def fONone (_s : List Sl) : Res (Option Int) := .ok none
def asI : D → Res (Option Int)
  | .int i => .ok (some i)
  | _ => .bad
def fOSome (f : FE) (s : List Sl) : Res (Option Int) := (f s).bind asI
noncomputable def sliceD (x : D) (lo hi : Option Int) : Res D := match x with
  | .lst xs => .ok (.lst (cutD xs lo hi))
  | .str z => need (z.length ≤ sizeLine) (.ok (.str (cutS z lo hi)))
  | .tup xs => .ok (.tup (cutD xs lo hi))
  | .scr ns => .ok (.lst ((cutV (ns.map V.int) lo hi).map fun v => match v with
    | .int i => .int i
    | _ => .non))
  | _ => .bad
noncomputable def fSl (fe : FE) (fl fh : FO) (s : List Sl) : Res D := (fe s).bind fun x => (fl s).bind fun lo => (fh s).bind fun hi => sliceD x lo hi
def asB : D → Res Bool
  | .bl b => .ok b
  | _ => .bad
noncomputable def truR : D → Res Bool
  | .non => .ok false
  | .bl b => .ok b
  | .int i => .ok (i != 0)
  | .str y => need (y.length ≤ sizeLine) (.ok (!decide (y.length = 0)))
  | .lst xs => .ok (!xs.isEmpty)
  | .tup xs => .ok (!xs.isEmpty)
  | .scr xs => .ok (!xs.isEmpty)
  | _ => .bad
def fVal (f : FE) (s : List Sl) : Res Bool := (f s).bind asB
noncomputable def fTru (f : FE) (s : List Sl) : Res Bool := (f s).bind truR
def fNotT (f : FT) (s : List Sl) : Res Bool := (f s).bind fun b => .ok (!b)
def fAndT (f g : FT) (s : List Sl) : Res Bool := (f s).bind fun b => if b then g s else .ok false
def fOrT (f g : FT) (s : List Sl) : Res Bool := (f s).bind fun b => if b then .ok true else g s
def fNot (f : FE) (s : List Sl) : Res D := (f s).bind fun x => (asB x).bind fun b => .ok (.bl !b)
def fAnd (f g : FE) (s : List Sl) : Res D := (f s).bind fun x => (asB x).bind fun b => if b then g s else .ok (.bl false)
def fOr (f g : FE) (s : List Sl) : Res D := (f s).bind fun x => (asB x).bind fun b => if b then .ok (.bl true) else g s
def fIfE (c : FT) (f g : FE) (s : List Sl) : Res D := (c s).bind fun b => if b then f s else g s
def fB (c : FC) (f : FA) (s : List Sl) : Res D := (f s).bind c
def fM1 (k : Str → D → Res D) (fo fd : FE) (s : List Sl) : Res D := (fo s).bind fun x => match x with
  | .str z => (fd s).bind fun d => k z d
  | _ => .bad
def fCall (g : FW) (dfl : List D) (f : FA) (s : List Sl) : Res D := (f s).bind fun ds => g (ds ++ dfl)
def fMeth (tbl : Nat → Option FW) (dfl : List D) (fo : FE) (fa : FA) (s : List Sl) : Res D := (fo s).bind fun x => match x with
  | .obj c fs => match tbl c with
    | some g => (fa s).bind fun ds => g (.obj c fs :: (ds ++ dfl))
    | none => .bad
  | _ => .bad
open Classical in
noncomputable def fMake (c : Nat) (nm : List Str) (gi : FI) (dfl : List D) (fa : FA) (s : List Sl) : Res D := (fa s).bind fun ds => (gi (ds ++ dfl)).bind fun fs => need (fs.map (·.1) = nm) (.ok (.obj c (fs.map (·.2))))
def fProp (tbl : Nat → Option FW) (fo : FE) (s : List Sl) : Res D := (fo s).bind fun x => match x with
  | .obj c fs => match tbl c with
    | some g => (g [.obj c fs]).noex
    | none => .bad
  | _ => .bad
def fFld (ix : Nat → Option Nat) (fo : FE) (s : List Sl) : Res D := (fo s).bind fun x => match x with
  | .obj c fs => match ix c with
    | some k => optR fs[k]?
    | none => .bad
  | _ => .bad
def fXf (i : Nat) (cs : Nat → Bool) (s : List Sl) : Res D := match s[i]? with
  | some (.exc c x) => if cs c then .ok x else .bad
  | _ => .bad
noncomputable def fFr (f : FE) (s : List Sl) : Res D := (f (frzS s)).noex.bind fun d => need (flatD d = true) (.ok d)
def fFrT (f : FT) (s : List Sl) : Res Bool := (f (frzS s)).noex
section
variable {f g : FE} {t u : TD} {fa : FA} {ta : TDA} {ft fu : FT} {tt tu : TDT} {fo fp : FO} {to tp : TDO}
theorem m_Var (i : Nat) : SimE (fVar i) (dVar i) := by
  intro s Q E h
  unfold fVar at h
  unfold dVar
  split at h
  · rename_i e
    try rw [e]
    exact h
  · exact h.elim
theorem m_C (d : D) : SimE (fC d) (dC d) := fun s Q E h => h
theorem m_Bin {p : F2} {o : O2} (hp : Sim2 p o) (ha : SimE f t) (hb : SimE g u) : SimE (fBin p f g) (dBin o t u) := fun s Q E h =>
  ha s _ E (wp_mono (fun x hx => hb s _ E (wp_mono (fun y hy => hp x y Q E hy) (fun _ _ z => z) (wp_bind.mp hx))) (fun _ _ z => z) (wp_bind.mp h))
theorem m_Nil : SimA fNil aNil := fun s Q E h => h
theorem m_Cons (ha : SimE f t) (hr : SimA fa ta) : SimA (fCons f fa) (aCons t ta) := fun s Q E h =>
  ha s _ E (wp_mono (fun x hx => hr s _ E (wp_mono (fun y hy => hy) (fun _ _ z => z) (wp_bind.mp hx))) (fun _ _ z => z) (wp_bind.mp h))
theorem m_Tup (ha : SimA fa ta) : SimE (fTup fa) (dTup ta) := fun s Q E h => ha s _ E (wp_mono (fun x hx => wp_need.mp hx) (fun _ _ z => z) (wp_bind.mp h))
theorem m_Lst (ha : SimA fa ta) : SimE (fLst fa) (dLst ta) := fun s Q E h => ha s _ E (wp_mono (fun x hx => wp_need.mp hx) (fun _ _ z => z) (wp_bind.mp h))
theorem m_ONone : SimO fONone oNone := fun s Q E h => h
theorem m_OSome (ha : SimE f t) : SimO (fOSome f) (oSome t) := fun s Q E h => ha s _ E (wp_mono (fun x hx => by
  cases x <;> exact hx) (fun _ _ z => z) (wp_bind.mp h))
theorem m_slice {x : D} {lo hi : Option Int} {Q : D → Prop} {E : QX} (h : (sliceD x lo hi).wp Q E) : slD x lo hi Q := by
  unfold sliceD at h
  split at h <;> first | exact h | (exact wp_need.mp h) | exact h.elim
theorem m_Sl (he : SimE f t) (hl : SimO fo to) (hh : SimO fp tp) : SimE (fSl f fo fp) (dSl t to tp) := fun s Q E h =>
  he s _ E (wp_mono (fun x hx => hl s _ E (wp_mono (fun y hy => hh s _ E (wp_mono (fun z hz => m_slice hz) (fun _ _ z => z) (wp_bind.mp hy))) (fun _ _ z => z) (wp_bind.mp hx))) (fun _ _ z => z) (wp_bind.mp h))
theorem m_Val (ha : SimE f t) : SimT (fVal f) (tVal t) := fun s Q E h => ha s _ E (wp_mono (fun x hx => by
  cases x <;> exact hx) (fun _ _ z => z) (wp_bind.mp h))
theorem m_Tru (ha : SimE f t) : SimT (fTru f) (tTru t) := fun s Q E h => ha s _ E (wp_mono (fun x hx => by
  cases x <;> first | exact hx | exact wp_need.mp hx | exact hx.elim) (fun _ _ z => z) (wp_bind.mp h))
theorem m_NotT (ha : SimT ft tt) : SimT (fNotT ft) (tNotD tt) := fun s Q E h => ha s _ E (wp_mono (fun x hx => hx) (fun _ _ z => z) (wp_bind.mp h))
theorem m_AndT (ha : SimT ft tt) (hb : SimT fu tu) : SimT (fAndT ft fu) (tAndD tt tu) := fun s Q E h => ha s _ E (wp_mono (fun x hx => by
  cases x
  · exact hx
  · exact hb s Q E hx) (fun _ _ z => z) (wp_bind.mp h))
theorem m_OrT (ha : SimT ft tt) (hb : SimT fu tu) : SimT (fOrT ft fu) (tOrD tt tu) := fun s Q E h => ha s _ E (wp_mono (fun x hx => by
  cases x
  · exact hb s Q E hx
  · exact hx) (fun _ _ z => z) (wp_bind.mp h))
theorem m_Not (ha : SimE f t) : SimE (fNot f) (dNot t) := fun s Q E h => ha s _ E (wp_mono (fun x hx => by
  cases x <;> exact hx) (fun _ _ z => z) (wp_bind.mp h))
theorem m_And (ha : SimE f t) (hb : SimE g u) : SimE (fAnd f g) (dAnd t u) := fun s Q E h => ha s _ E (wp_mono (fun x hx => by
  cases x <;> first | exact hx.elim | skip
  rename_i b
  cases b
  · exact hx
  · exact hb s Q E hx) (fun _ _ z => z) (wp_bind.mp h))
theorem m_IfE (hc : SimT ft tt) (ha : SimE f t) (hb : SimE g u) : SimE (fIfE ft f g) (dIf tt t u) := fun s Q E h => hc s _ E (wp_mono (fun x hx => by
  cases x
  · exact hb s Q E hx
  · exact ha s Q E hx) (fun _ _ z => z) (wp_bind.mp h))
theorem m_B {p : FC} {c : List D → (D → Prop) → Prop} (hc : SimC p c) (ha : SimA fa ta) : SimE (fB p fa) (dB c ta) := fun s Q E h => ha s _ E (wp_mono (fun x hx => hc x Q E hx) (fun _ _ z => z) (wp_bind.mp h))
theorem m_M1 {k : Str → D → Res D} {c : Str → D → (D → Prop) → Prop} (hc : SimM k c) (ha : SimE f t) (hb : SimE g u) : SimE (fM1 k f g) (dM1 c t u) := fun s Q E h => ha s _ E (wp_mono (fun x hx => by
  cases x <;> first | exact hx.elim | skip
  exact hb s _ E (wp_mono (fun y hy => hc _ y Q E hy) (fun _ _ z => z) (wp_bind.mp hx))) (fun _ _ z => z) (wp_bind.mp h))
theorem m_Call {g : FW} {w : Wf} (hg : SimW g w) (dfl : List D) (ha : SimA fa ta) : SimE (fCall g dfl fa) (dCall w dfl ta) := fun s Q E h => ha s _ E (wp_mono (fun x hx => hg _ Q E hx) (fun _ _ z => z) (wp_bind.mp h))
def SimTb (a : Nat → Option FW) (b : Nat → Option Wf) : Prop := ∀ n g, a n = some g → ∃ w, b n = some w ∧ SimW g w
theorem m_Make (c : Nat) (nm : List Str) {g : FI} {w : Wi} (hg : SimWi g w) (dfl : List D) (ha : SimA fa ta) : SimE (fMake c nm g dfl fa) (dMake c nm w dfl ta) := fun s Q E h => ha s _ E (wp_mono (fun x hx => hg _ _ E (wp_mono (fun y hy => wp_need.mp hy) (fun _ _ z => z) (wp_bind.mp hx))) (fun _ _ z => z) (wp_bind.mp h))
theorem m_Fld (ix : Nat → Option Nat) (ho : SimE f t) : SimE (fFld ix f) (dFld ix t) := fun s Q E h => ho s _ E (wp_mono (fun x hx => by
  cases x <;> first | exact hx.elim | skip
  rename_i c fs
  dsimp only at hx ⊢
  cases e : ix c with
  | none => rw [e] at hx; exact hx.elim
  | some k => rw [e] at hx; exact wp_optR.mp hx) (fun _ _ z => z) (wp_bind.mp h))
theorem m_Xf (i : Nat) (cs : Nat → Bool) : SimE (fXf i cs) (dXf i cs) := by
  intro s Q E h
  unfold fXf at h
  unfold dXf
  split at h
  · rename_i c x e
    try rw [e]
    try dsimp only
    by_cases z : cs c = true
    · rw [if_pos z] at h
      exact ⟨z, h⟩
    · rw [if_neg z] at h
      exact h.elim
  · exact h.elim
end
end Dl
set_option Elab.async false
set_option linter.all false
set_option maxRecDepth 100000
set_option maxHeartbeats 400000
namespace Dl
open PySem PySem.Spec L2 Res
def itR : D → Res (List D)
  | .lst xs => .ok xs
  | .tup xs => .ok xs
  | .str x => .ok (chrs x)
  | .scr ns => .ok (ns.map D.int)
  | _ => .bad
def jVal (f : FE) (s : List Sl) : Res (List D) := (f s).bind itR
noncomputable def rng1 : List D → Res (List D)
  | [.int n] => need (-(2 ^ 62) ≤ n ∧ n < 2 ^ 62) (.ok (intsD 0 n.toNat))
  | _ => .bad
noncomputable def rng2 : List D → Res (List D)
  | [.int a, .int n] => need (-(2 ^ 62) ≤ a ∧ a < 2 ^ 62 ∧ -(2 ^ 62) ≤ n ∧ n < 2 ^ 62) (.ok (intsD a (n - a).toNat))
  | _ => .bad
noncomputable def rng3 : List D → Res (List D)
  | [.int a, .int b, .int c] => need (c ≠ 0 ∧ c.natAbs.log2 < 9000 ∧ Builtin.Range.rangeSize a b c = (Builtin.Range.rangeSize a b c).toNat) (.ok (intsC a c (Builtin.Range.rangeSize a b c).toNat))
  | _ => .bad
def enumR : List D → Res (List D)
  | [.lst xs] => .ok (numbered 0 xs)
  | _ => .bad
noncomputable def jR1 (f : FA) (s : List Sl) : Res (List D) := (f s).bind rng1
noncomputable def jR2 (f : FA) (s : List Sl) : Res (List D) := (f s).bind rng2
noncomputable def jR3 (f : FA) (s : List Sl) : Res (List D) := (f s).bind rng3
def jEnumL (f : FA) (s : List Sl) : Res (List D) := (f s).bind enumR
section
variable {f g : FE} {t u : TD} {fa : FA} {ta : TDA} {ft : FT} {tt : TDT} {fi : FA} {ti : TDI}
theorem m_iVal (ha : SimE f t) : SimI (jVal f) (iVal t) := fun s Q E h => ha s _ E (wp_mono (fun x hx => by
  cases x <;> exact hx) (fun _ _ z => z) (wp_bind.mp h))
theorem m_iR1 (ha : SimA fa ta) : SimI (jR1 fa) (iR1 ta) := fun s Q E h => ha s _ E (wp_mono (fun x hx => by
  unfold rng1 at hx
  split at hx
  · obtain ⟨a, b⟩ := wp_need.mp hx
    exact ⟨a.1, a.2, b⟩
  · exact hx.elim) (fun _ _ z => z) (wp_bind.mp h))
end
def setTF : Tg → D → List Sl → Option (List Sl)
  | .nm i, d, s => some (s.set i (.v d))
  | .tp is, .tup ds, s => if ds.length = is.length then some (setM is ds s) else none
  | .tq i is, .tup [d, .tup es], s => if es.length = is.length then some (setM is es (s.set i (.v d))) else none
  | _, _, _ => none
theorem setTF_ok {tg : Tg} {d : D} {s s1 : List Sl} {Q : List Sl → Prop} (h : setTF tg d s = some s1) (q : Q s1) : setT tg d s Q := by
  unfold setTF at h
  split at h
  · cases h
    exact q
  · split at h
    · rename_i e
      cases h
      exact ⟨e, q⟩
    · cases h
  · split at h
    · rename_i e
      cases h
      exact ⟨e, q⟩
    · cases h
  · cases h
def compF (tg : Tg) (ft : FT) (fe : FE) (s : List Sl) : List D → Res (List D)
  | [] => .ok []
  | d :: ds => match setTF tg d s with
    | some s1 => (ft s1).noex.bind fun b => if b then (fe s1).noex.bind fun y => (compF tg ft fe s ds).bind fun ys => .ok (y :: ys) else compF tg ft fe s ds
    | none => .bad
noncomputable def fLc (fi : FA) (tg : Tg) (ft : FT) (fe : FE) (vs : List Nat) (s : List Sl) : Res D := (fi s).bind fun ds => need (ds.length ≤ sizeLine) ((compF tg ft fe (wipeD s vs) ds).bind fun ys => .ok (.lst ys))
def fYes (_s : List Sl) : Res Bool := .ok true
section
variable {f g : FE} {t u : TD} {fa : FA} {ta : TDA} {ft : FT} {tt : TDT} {fi : FA} {ti : TDI}
theorem m_Yes : SimT fYes tYesD := fun s Q E h => h
theorem m_comp {tg : Tg} {s : List Sl} (ht : SimT ft tt) (he : SimE f t) : ∀ {ds : List D} {Q : List D → Prop} {E : QX}, (compF tg ft f s ds).wp Q E → compR tg tt t s ds Q
  | [], Q, E, h => h
  | d :: ds, Q, E, h => by
    unfold compF at h
    unfold compR
    split at h
    · rename_i s1 e
      refine setTF_ok e (ht s1 _ _ (wp_mono (fun b hb => ?_) (fun _ _ z => z) (wp_noex.mp (wp_bind.mp h))))
      cases b with
      | true =>
        rw [if_pos rfl] at hb
        refine he s1 _ _ (wp_mono (fun y hy => ?_) (fun _ _ z => z) (wp_noex.mp (wp_bind.mp hb)))
        exact m_comp ht he (wp_bind.mp hy)
      | false =>
        rw [if_neg Bool.false_ne_true] at hb
        exact m_comp ht he hb
    · exact h.elim
theorem m_Lc (hi : SimI fi ti) (tg : Tg) (ht : SimT ft tt) (he : SimE f t) (vs : List Nat) : SimE (fLc fi tg ft f vs) (dLc ti tg tt t vs) := fun s Q E h => hi s _ E (wp_mono (fun x hx => by
  obtain ⟨a, b⟩ := wp_need.mp hx
  exact ⟨a, m_comp ht he (wp_bind.mp b)⟩) (fun _ _ z => z) (wp_bind.mp h))
end
def sx (s : List Sl) (r : Res α) (g : α → Res Fl) : Res Fl := r.cat g fun c x => .ok (.ex c x s)
theorem wp_sx {α : Type} {s : List Sl} {r : Res α} {g : α → Res Fl} {DD : DEnds} (h : (sx s r g).wp (flQ DD) NoX) : r.wp (fun a => (g a).wp (flQ DD) NoX) (xq DD s) := wp_mono (fun _ z => z) (fun _ _ z => z) (wp_cat.mp h)
def thenS (fl : Fl) (g : FS) : Res Fl := match fl with
  | .nx s => g s
  | o => .ok o
def zNil (s : List Sl) : Res Fl := .ok (.nx s)
def zSeq (f g : FS) (s : List Sl) : Res Fl := (f s).bind fun fl => thenS fl g
def zAsg (i : Nat) (f : FE) (s : List Sl) : Res Fl := sx s (f s) fun d => .ok (.nx (s.set i (.v d)))
noncomputable def zOwn (i : Nat) (f : FA) (s : List Sl) : Res Fl := sx s (f s) fun ds => need (ds.length ≤ sizeLine) (.ok (.nx (s.set i (.own ds))))
noncomputable def zOwnL (i : Nat) (f : FE) (s : List Sl) : Res Fl := sx s (f s) fun d => (optR (listOfD d)).bind fun ds => need (ds.length ≤ sizeLine) (.ok (.nx (s.set i (.own ds))))
def zDrop (f : FE) (s : List Sl) : Res Fl := sx s (f s) fun _ => .ok (.nx s)
noncomputable def zApp (i : Nat) (f : FE) (s : List Sl) : Res Fl := match s[i]? with
  | some (.own xs) => sx s (f s) fun d => need (xs.length < sizeLine) (.ok (.nx (s.set i (.own (xs ++ [d])))))
  | _ => .bad
def zRet (f : FE) (s : List Sl) : Res Fl := sx s (f s) fun d => .ok (.rt d)
def zRetN (_s : List Sl) : Res Fl := .ok (.rt .non)
noncomputable def zRetL (f : FA) (s : List Sl) : Res Fl := sx s (f s) fun ds => need (ds.length ≤ sizeLine) (.ok (.rn ds))
def zRetOwn (i : Nat) (s : List Sl) : Res Fl := match s[i]? with
  | some (.own xs) => .ok (.rn xs)
  | _ => .bad
def zIf (c : FT) (f g : FS) (s : List Sl) : Res Fl := sx s (c s) fun b => if b then f s else g s
def zBreak (s : List Sl) : Res Fl := .ok (.bk s)
def zCont (s : List Sl) : Res Fl := .ok (.cn s)
def zRaise (c : Nat) (f : FE) (s : List Sl) : Res Fl := sx s (f s) fun d => .ok (.ex c d s)
def zTg (tg : Tg) (f : FE) (s : List Sl) : Res Fl := sx s (f s) fun d => (optR (setTF tg d s)).bind fun s1 => .ok (.nx s1)
def zPar2 (i j : Nat) (f : FA) (s : List Sl) : Res Fl := sx s (f s) fun ds => match ds with
  | [d, e] => .ok (.nx ((s.set i (.v d)).set j (.v e)))
  | _ => .bad
def zPar3 (i j l : Nat) (f : FA) (s : List Sl) : Res Fl := sx s (f s) fun ds => match ds with
  | [d, e, g] => .ok (.nx (((s.set i (.v d)).set j (.v e)).set l (.v g)))
  | _ => .bad
noncomputable def zFld (c i : Nat) (x : Str) (f : FE) (s : List Sl) : Res Fl := match s[i]? with
  | some (.ini c' fs) => need (c' = c) (sx s (f s) fun d => need ((fs.any fun q => q.1 == x) = false ∧ fs.length < 900) (.ok (.nx (s.set i (.ini c' (fs ++ [(x, d)]))))))
  | _ => .bad
noncomputable def zSetSl (i : Nat) (fe fl fh : FE) (s : List Sl) : Res Fl := match s[i]? with
  | some (.own xs) => sx s (fe s) fun d => match d with
    | .lst ys => sx s (fl s) fun a => match a with
      | .int a => sx s (fh s) fun c => match c with
        | .int c => need (0 ≤ a ∧ a ≤ c ∧ c ≤ xs.length ∧ xs.length + ys.length ≤ sizeLine) (.ok (.nx (s.set i (.own (xs.take a.toNat ++ ys ++ xs.drop c.toNat)))))
        | _ => .bad
      | _ => .bad
    | _ => .bad
  | _ => .bad
def afterS (fl : Fl) (go : FS) : Res Fl := match fl with
  | .nx s => go s
  | .cn s => go s
  | .bk s => .ok (.nx s)
  | o => .ok o
def forF (tg : Tg) (body : FS) : List D → FS
  | [], s => .ok (.nx s)
  | d :: ds, s => (optR (setTF tg d s)).bind fun s1 => (body s1).bind fun fl => afterS fl (forF tg body ds)
def zFor (fi : FA) (tg : Tg) (body : FS) (s : List Sl) : Res Fl := sx s (fi s) fun ds => forF tg body ds s
noncomputable def suiteF (i : Nat) (fl : Fl) : Res Fl := match fl with
  | .nx s => need (plainB (s.set i .un) = true) (.ok (.nx (s.set i .un)))
  | .bk s => need (plainB (s.set i .un) = true) (.ok (.bk (s.set i .un)))
  | .cn s => need (plainB (s.set i .un) = true) (.ok (.cn (s.set i .un)))
  | .rt d => .ok (.rt d)
  | .rn ds => .ok (.rn ds)
  | .ex _ _ _ => .bad
noncomputable def caughtF (cat : Nat → Option Bool) (i : Nat) (u : FS) (fl : Fl) : Res Fl := match fl with
  | .ex c x s => match cat c with
    | some true => need (plainB (s.set i .un) = true) ((u (s.set i (.exc c x))).bind (suiteF i))
    | some false => .ok (.ex c x s)
    | none => .bad
  | o => .ok o
noncomputable def zTry (cat : Nat → Option Bool) (i : Nat) (b u : FS) (s : List Sl) : Res Fl := (b s).bind (caughtF cat i u)
section
variable {f g : FE} {t u : TD} {fa : FA} {ta : TDA} {ft : FT} {tt : TDT} {fi : FA} {ti : TDI} {fs gs : FS} {ts us : TDS}
theorem m_sNil : SimS zNil sNil := fun s DD h => h
theorem m_sSeq (h1 : SimS fs ts) (h2 : SimS gs us) : SimS (zSeq fs gs) (sSeq ts us) := fun s DD h => h1 s _ (wp_mono (fun fl hf => by
  cases fl with
  | nx s' => exact h2 s' DD hf
  | _ => exact hf) (fun _ _ z => z) (wp_bind.mp h))
theorem m_sAsg (i : Nat) (h1 : SimE f t) : SimS (zAsg i f) (sAsg i t) := fun s DD h => h1 s _ _ (wp_sx h)
theorem m_sOwn (i : Nat) (h1 : SimA fa ta) : SimS (zOwn i fa) (sOwn i ta) := fun s DD h => h1 s _ _ (wp_mono (fun _ z => wp_need.mp z) (fun _ _ z => z) (wp_sx h))
theorem m_sDrop (h1 : SimE f t) : SimS (zDrop f) (sDrop t) := fun s DD h => h1 s _ _ (wp_sx h)
theorem m_sApp (i : Nat) (h1 : SimE f t) : SimS (zApp i f) (sApp i t) := by
  intro s DD h
  unfold zApp at h
  unfold sApp
  split at h
  · rename_i xs e
    try rw [e]
    exact h1 s _ _ (wp_mono (fun _ z => wp_need.mp z) (fun _ _ z => z) (wp_sx h))
  · exact h.elim
theorem m_sRet (h1 : SimE f t) : SimS (zRet f) (sRet t) := fun s DD h => h1 s _ _ (wp_sx h)
theorem m_sRetL (h1 : SimA fa ta) : SimS (zRetL fa) (sRetL ta) := fun s DD h => h1 s _ _ (wp_mono (fun _ z => wp_need.mp z) (fun _ _ z => z) (wp_sx h))
theorem m_sRetOwn (i : Nat) : SimS (zRetOwn i) (sRetOwn i) := by
  intro s DD h
  unfold zRetOwn at h
  unfold sRetOwn
  split at h
  · rename_i xs e
    try rw [e]
    exact h
  · exact h.elim
theorem m_sIf (hc : SimT ft tt) (h1 : SimS fs ts) (h2 : SimS gs us) : SimS (zIf ft fs gs) (sIf tt ts us) := fun s DD h => hc s _ _ (wp_mono (fun b hb => by
  cases b
  · exact h2 s DD hb
  · exact h1 s DD hb) (fun _ _ z => z) (wp_sx h))
theorem m_sRaise (c : Nat) (h1 : SimE f t) : SimS (zRaise c f) (sRaise c t) := fun s DD h => h1 s _ _ (wp_sx h)
theorem m_sTg (tg : Tg) (h1 : SimE f t) : SimS (zTg tg f) (sTg tg t) := fun s DD h => h1 s _ _ (wp_mono (fun d z => by
  obtain ⟨s1, e, q⟩ := wp_optR.mp (wp_bind.mp z)
  exact setTF_ok e q) (fun _ _ z => z) (wp_sx h))
theorem m_sPar2 (i j : Nat) (h1 : SimA fa ta) : SimS (zPar2 i j fa) (sPar2 i j ta) := fun s DD h => h1 s _ _ (wp_mono (fun ds z => by
  split at z
  · exact z
  · exact z.elim) (fun _ _ z => z) (wp_sx h))
theorem m_sFld (c i : Nat) (x : Str) (h1 : SimE f t) : SimS (zFld c i x f) (sFld c i x t) := by
  intro s DD h
  unfold zFld at h
  split at h
  · rename_i c' fs e
    obtain ⟨a, b⟩ := wp_need.mp h
    subst a
    refine ⟨⟨fs, e⟩, ?_⟩
    unfold sFldI
    try rw [e]
    exact h1 s _ _ (wp_mono (fun d z => by
      obtain ⟨a, b⟩ := wp_need.mp z
      exact ⟨a.1, a.2, b⟩) (fun _ _ z => z) (wp_sx b))
  · exact h.elim
theorem m_for {tg : Tg} (h1 : SimS fs ts) : ∀ {ds : List D} {s : List Sl} {DD : DEnds}, (forF tg fs ds s).wp (flQ DD) NoX → forR tg ts ds DD s
  | [], s, DD, h => h
  | d :: ds, s, DD, h => by
    unfold forF at h
    unfold forR
    obtain ⟨s1, e, q⟩ := wp_optR.mp (wp_bind.mp h)
    refine setTF_ok e (h1 s1 _ (wp_mono (fun fl hf => ?_) (fun _ _ z => z) (wp_bind.mp q)))
    cases fl with
    | nx s' => exact m_for h1 hf
    | cn s' => exact m_for h1 hf
    | _ => exact hf
theorem m_sFor (hi : SimI fi ti) (tg : Tg) (h1 : SimS fs ts) : SimS (zFor fi tg fs) (sFor ti tg ts) := fun s DD h => hi s _ _ (wp_mono (fun ds z => m_for h1 z) (fun _ _ z => z) (wp_sx h))
theorem m_sTry (cat : Nat → Option Bool) (i : Nat) (h1 : SimS fs ts) (h2 : SimS gs us) : SimS (zTry cat i fs gs) (sTry cat i ts us) := fun s DD h => h1 s _ (wp_mono (fun fl hf => by
  cases fl with
  | ex c x s' =>
    unfold caughtF at hf
    show (match cat c with
      | some true => plainB (s'.set i .un) = true ∧ us (suiteE DD i) (s'.set i (.exc c x))
      | some false => DD.ex c x s'
      | none => False)
    dsimp only at hf
    split at hf
    · obtain ⟨a, b⟩ := wp_need.mp hf
      refine ⟨a, h2 _ _ (wp_mono (fun fl hf => ?_) (fun _ _ z => z) (wp_bind.mp b))⟩
      cases fl <;> first | exact hf | exact wp_need.mp hf | exact hf.elim
    · exact hf
    · exact hf.elim
  | _ => exact hf) (fun _ _ z => z) (wp_bind.mp h))
end
def endR : Fl → Res D
  | .nx _ => .ok .non
  | .rt d => .ok d
  | .rn ds => .ok (.lst ds)
  | .ex c x _ => .exc c x
  | _ => .bad
noncomputable def fDef (n m : Nat) (f : FS) (ds : List D) : Res D := need (ds.length = n) ((f (startD m ds)).noex.bind endR)
def endI (c : Nat) : Fl → Res (List (Str × D))
  | .nx s => match s[0]? with
    | some (Sl.ini c' fs) => if c' = c then .ok fs else .bad
    | _ => .bad
  | .ex c x _ => .exc c x
  | _ => .bad
noncomputable def fIni (c n m : Nat) (f : FS) (ds : List D) : Res (List (Str × D)) := need (ds.length = n) ((f (.ini c [] :: startD m ds)).noex.bind (endI c))
def endN : Fl → Res (List D)
  | .rn ds => .ok ds
  | .ex c x _ => .exc c x
  | _ => .bad
noncomputable def fPur (n m : Nat) (f : FS) (ds : List D) : Res D := need (ds.length = n) (((f (startD m ds)).noex.bind endN).bind fun ds' => match ds' with
  | [.int _, .int _, .int _] => .ok (.tok 0)
  | _ => .bad)
section
variable {fs : FS} {ts : TDS}
theorem m_def (n m : Nat) (h1 : SimS fs ts) : SimW (fDef n m fs) (wfOf n m ts) := fun ds Q E h => by
  obtain ⟨a, b⟩ := wp_need.mp h
  refine ⟨a, h1 _ _ (wp_mono (fun fl hf => ?_) (fun _ _ z => z) (wp_noex.mp (wp_bind.mp b)))⟩
  cases fl <;> exact hf
theorem m_ini (c n m : Nat) (h1 : SimS fs ts) : SimWi (fIni c n m fs) (wiOf c n m ts) := fun ds Q E h => by
  obtain ⟨a, b⟩ := wp_need.mp h
  refine ⟨a, h1 _ _ (wp_mono (fun fl hf => ?_) (fun _ _ z => z) (wp_noex.mp (wp_bind.mp b)))⟩
  cases fl <;> first | exact hf | skip
  rename_i s
  show ∃ fs, s[0]? = some (.ini c fs) ∧ Q fs
  unfold endI at hf
  dsimp only at hf
  split at hf
  · rename_i e
    by_cases z : ‹Nat› = c
    · rw [if_pos z] at hf
      subst z
      exact ⟨_, e, hf⟩
    · rw [if_neg z] at hf
      exact hf.elim
  · exact hf.elim
end
end Dl
set_option Elab.async false
set_option linter.all false
set_option maxRecDepth 100000
set_option maxHeartbeats 400000
namespace Dl
open PySem PySem.Spec L2 Res
theorem tb_nil : SimTb (fun _ => none) (fun _ => none) := fun n g h => by cases h
theorem tb_cons (c : Nat) {g : FW} {w : Wf} {a : Nat → Option FW} {b : Nat → Option Wf} (hg : SimW g w) (r : SimTb a b) : SimTb (fun n => if n = c then some g else a n) (fun n => if n = c then some w else b n) := fun n g' h => by
  dsimp only at h ⊢
  by_cases z : n = c
  · rw [if_pos z] at h ⊢
    cases h
    exact ⟨w, rfl, hg⟩
  · rw [if_neg z] at h ⊢
    exact r n g' h
end Dl
set_option Elab.async false
set_option linter.all false
set_option maxRecDepth 100000
set_option maxHeartbeats 400000
namespace Dl
open PySem PySem.Spec L2 Res
/-- a value that is looked at by isinstance and == alone -/
def isW : D → Bool
  | .int _ => true
  | _ => false
def opD : Option Int → D
  | none => .non
  | some i => .int i
/-- a whole number from lo to hi -/
def inBd (v : D) (lo : Int) (hi : Option Int) : Bool := match v, hi with
  | .int i, none => decide (lo ≤ i)
  | .int i, some j => decide (lo ≤ i) && decide (i ≤ j)
  | _, _ => false
theorem szL {n : Nat} (h : n ≤ 16777216) : n ≤ sizeLine := by rw [sizeLine_eq]; omega
theorem chrs_len (z : Str) : (chrs z).length = z.length := by
  unfold chrs
  rw [List.length_map, Array.length_toList] <;> rfl
theorem comp_mapG {α : Type} {g : α → D} {i : Nat} {fe : FE} {s : List Sl} {f : α → D} : ∀ {l : List α}, (∀ a ∈ l, fe (s.set i (.v (g a))) = .ok (f a)) → compF (.nm i) fYes fe s (l.map g) = .ok (l.map f)
  | [], _ => rfl
  | d :: ds, h => by
    rw [List.map_cons]
    unfold compF
    rw [comp_mapG (fun e he => h e (List.mem_cons_of_mem _ he))]
    simp [setTF, fYes, h d List.mem_cons_self, Res.bind, Res.noex, Res.cat]
theorem toBls_mapG {α : Type} {p : α → Bool} : ∀ {l : List α}, toBls (l.map fun a => .bl (p a)) = some (l.map p)
  | [] => rfl
  | a :: l => by
    show (toBls (l.map fun a => .bl (p a))).map (p a :: ·) = _
    rw [toBls_mapG] <;> rfl
theorem all_mapId {α : Type} {p : α → Bool} {l : List α} : (l.map p).all id = l.all p := by rw [List.all_map] <;> rfl
/-- what holds of each element of what comes out -/
theorem wp_comp {i : Nat} {fe : FE} {s : List Sl} {P : D → Prop} {E : QX} : ∀ {ds : List D} {Q : List D → Prop}, (∀ d ∈ ds, (fe (s.set i (.v d))).wp P NoX) → (∀ ys : List D, ys.length = ds.length → (∀ y ∈ ys, P y) → Q ys) → (compF (.nm i) fYes fe s ds).wp Q E
  | [], Q, _, q => q [] rfl (fun _ h => by cases h)
  | d :: ds, Q, h, q => by
    unfold compF
    simp only [setTF, fYes, Res.bind, Res.noex, Res.cat, if_true, wp_cat]
    refine wp_mono (fun y hy => ?_) (fun _ _ z => z) (h d List.mem_cons_self)
    refine wp_comp (fun e he => h e (List.mem_cons_of_mem _ he)) fun ys hl hy2 => q _ (by simp [hl]) fun z hz => ?_
    rcases List.mem_cons.mp hz with rfl | hz
    · exact hy
    · exact hy2 z hz
/-- a loop by an invariant over what is still to come -/
theorem wp_for {body : FS} {i : Nat} {Q : Fl → Prop} (I : List D → List Sl → Prop) : ∀ {ds : List D} {s : List Sl}, I ds s → (∀ s, I [] s → Q (.nx s)) → (∀ d ds s, I (d :: ds) s → (body (s.set i (.v d))).wp (fun fl => match fl with
      | .nx s' => I ds s'
      | .cn s' => I ds s'
      | .bk s' => Q (.nx s')
      | o => Q o) NoX) → (forF (.nm i) body ds s).wp Q NoX
  | [], s, h, hn, _ => hn s h
  | d :: ds, s, h, hn, hb => by
    unfold forF
    simp only [setTF, optR, Res.bind, Res.cat, wp_cat]
    refine wp_mono (fun fl hf => ?_) (fun _ _ z => z) (hb d ds s h)
    cases fl with
    | nx s' => exact wp_for I hf hn hb
    | cn s' => exact wp_for I hf hn hb
    | _ => exact hf
/-- a loop whose turns leave the same frame but for its own names -/
theorem wp_forAll {body : FS} {tg : Tg} {Q : Fl → Prop} (I : List Sl → Prop) : ∀ {ds : List D} {s : List Sl}, I s → (∀ s, I s → Q (.nx s)) → (∀ d ∈ ds, ∀ s, I s → ∃ s1, setTF tg d s = some s1 ∧ (body s1).wp (fun fl => match fl with
      | .nx s' => I s'
      | .cn s' => I s'
      | .bk s' => Q (.nx s')
      | o => Q o) NoX) → (forF tg body ds s).wp Q NoX
  | [], s, h, hn, _ => hn s h
  | d :: ds, s, h, hn, hb => by
    obtain ⟨s1, e, z⟩ := hb d List.mem_cons_self s h
    unfold forF
    rw [e]
    simp only [optR, Res.bind, Res.cat, wp_cat]
    refine wp_mono (fun fl hf => ?_) (fun _ _ z => z) z
    cases fl with
    | nx s' => exact wp_forAll I hf hn fun e he => hb e (List.mem_cons_of_mem _ he)
    | cn s' => exact wp_forAll I hf hn fun e he => hb e (List.mem_cons_of_mem _ he)
    | _ => exact hf
end Dl
set_option Elab.async false
set_option linter.all false
set_option maxRecDepth 100000
set_option maxHeartbeats 400000
namespace Dl
open PySem PySem.Spec L2 Res
section
variable {α β : Type} {f g : FS} {s : List Sl} {Q : Fl → Prop} {E : QX}
theorem w_seq (h : (f s).wp (fun fl => (thenS fl g).wp Q NoX) NoX) : (zSeq f g s).wp Q NoX := wp_bind.mpr h
theorem w_sx {r : Res α} {k : α → Res Fl} : (sx s r k).wp Q E ↔ r.wp (fun a => (k a).wp Q E) (fun c x => Q (.ex c x s)) := wp_cat
theorem w_nil : (zNil s).wp Q E ↔ Q (.nx s) := Iff.rfl
theorem w_ok {a : α} {Q : α → Prop} : (Res.ok a).wp Q E ↔ Q a := Iff.rfl
theorem w_exc {c : Nat} {x : D} {Q : α → Prop} : (Res.exc c x : Res α).wp Q E ↔ E c x := Iff.rfl
theorem w_bad {Q : α → Prop} : (Res.bad : Res α).wp Q E ↔ False := Iff.rfl
/-- a def, by what its body leads to -/
theorem w_def {n m : Nat} {fs : FS} {ds : List D} {Q : D → Prop} (hn : ds.length = n) (h : (fs (startD m ds)).wp (fun fl => (endR fl).wp Q E) NoX) : (fDef n m fs ds).wp Q E := by
  unfold fDef
  rw [need_pos hn]
  exact wp_bind.mpr (wp_noex.mpr h)
end
theorem szlog {m : Int} (h0 : 0 < m) (h : m < 2 ^ 200) : 0 < m ∧ m.natAbs.log2 < 9000 := by
  refine ⟨h0, ?_⟩
  have : m.natAbs < 2 ^ 200 := by omega
  have := (Nat.log2_lt (by omega)).mpr this
  omega
mutual
/-- a value that is equal to itself, ob: its objects, n: how deep -/
def selfD (ob : D → Bool) : Nat → D → Bool
  | _, .non => true
  | _, .bl _ => true
  | _, .int _ => true
  | _, .str _ => true
  | 0, _ => false
  | n + 1, .lst xs => selfDs ob n xs
  | n + 1, .tup xs => selfDs ob n xs
  | n + 1, .obj c fs => ob (.obj c fs)
  | _, .tok k => k == 7
  | _, _ => false
def selfDs (ob : D → Bool) : Nat → List D → Bool
  | _, [] => true
  | n, x :: xs => selfD ob n x && selfDs ob n xs
end
mutual
theorem okE_self {T : EqT} {ob : D → Bool} {k : Nat} (ho : ∀ x, ob x = true → ∀ n, k ≤ n → okE T x x n) : ∀ {n : Nat} {x : D}, selfD ob n x = true → okE T x x (n + k)
  | n, .non, h => by simp [okE, flatD]
  | n, .bl _, h => by simp [okE, flatD]
  | n, .int _, h => by simp [okE, flatD]
  | n, .str _, h => by simp [okE, flatD]
  | 0, .lst xs, h => by simp [selfD] at h
  | 0, .tup xs, h => by simp [selfD] at h
  | 0, .obj c fs, h => by simp [selfD] at h
  | n + 1, .lst xs, h => by
    unfold okE
    intro _
    exact ⟨n + k, by omega, okEs_self ho (by simpa [selfD] using h)⟩
  | n + 1, .tup xs, h => by
    unfold okE
    exact ⟨n + k, by omega, okEs_self ho (by simpa [selfD] using h)⟩
  | n + 1, .obj c fs, h => ho _ (by simpa [selfD] using h) _ (by omega)
  | n, .tok j, h => by
    have e : j = 7 := by
      cases n <;> simpa [selfD] using h
    subst e
    simp [okE]
  | 0, .ty _, h => by simp [selfD] at h
  | n + 1, .ty _, h => by simp [selfD] at h
  | 0, .cls _, h => by simp [selfD] at h
  | n + 1, .cls _, h => by simp [selfD] at h
  | 0, .scr _, h => by simp [selfD] at h
  | n + 1, .scr _, h => by simp [selfD] at h
  | 0, .ref _, h => by simp [selfD] at h
  | n + 1, .ref _, h => by simp [selfD] at h
  | 0, .dic _ _, h => by simp [selfD] at h
  | n + 1, .dic _ _, h => by simp [selfD] at h
theorem okEs_self {T : EqT} {ob : D → Bool} {k : Nat} (ho : ∀ x, ob x = true → ∀ n, k ≤ n → okE T x x n) : ∀ {n : Nat} {xs : List D}, selfDs ob n xs = true → okEs T xs xs (n + k)
  | n, [], h => by simp [okEs]
  | n, x :: xs, h => by
    simp only [selfDs, Bool.and_eq_true] at h
    simp only [okEs]
    exact ⟨okE_self ho h.1, okEs_self ho h.2⟩
end
mutual
/-- equal to itself -/
def rfD : D → Bool
  | .non => true
  | .bl _ => true
  | .int _ => true
  | .str _ => true
  | .lst xs => rfDs xs
  | .tup xs => rfDs xs
  | .obj _ fs => rfDs fs
  | .tok k => k == 7
  | _ => false
def rfDs : List D → Bool
  | [] => true
  | x :: xs => rfD x && rfDs xs
end
mutual
theorem eqD_rf : ∀ {x : D}, rfD x = true → eqD x x = true
  | .non, h => by simp [eqD]
  | .bl _, h => by simp [eqD]
  | .int _, h => by simp [eqD]
  | .str _, h => by simp [eqD]
  | .lst xs, h => by
    simp only [eqD]
    exact eqDs_rf (by simpa [rfD] using h)
  | .tup xs, h => by
    simp only [eqD]
    exact eqDs_rf (by simpa [rfD] using h)
  | .obj c xs, h => by
    simp only [eqD, beq_self_eq_true, Bool.true_and]
    exact eqDs_rf (by simpa [rfD] using h)
  | .tok k, h => by
    have e : k = 7 := by simpa [rfD] using h
    subst e
    simp [eqD]
  | .ty _, h => by simp [rfD] at h
  | .cls _, h => by simp [rfD] at h
  | .scr _, h => by simp [rfD] at h
  | .ref _, h => by simp [rfD] at h
  | .dic _ _, h => by simp [rfD] at h
theorem eqDs_rf : ∀ {xs : List D}, rfDs xs = true → eqDs xs xs = true
  | [], h => by simp [eqDs]
  | x :: xs, h => by
    simp only [rfDs, Bool.and_eq_true] at h
    simp only [eqDs, Bool.and_eq_true]
    exact ⟨eqD_rf h.1, eqDs_rf h.2⟩
end
section
variable {T : EqT} {n : Nat} {x y : D}
theorem ne_of {b : Bool} (h : okE T x y n) (e : eqD x y = b) : pNeT T n x y = .ok (.bl !b) := by
  unfold pNeT
  rw [need_pos h, e]
theorem eq_of {b : Bool} (h : okE T x y n) (e : eqD x y = b) : pEqT T n x y = .ok (.bl b) := by
  unfold pEqT
  rw [need_pos h, e]
end
theorem okE_int {T : EqT} {n : Nat} {i j : Int} : okE T (.int i) (.int j) n := by simp [okE, flatD]
theorem okE_str {T : EqT} {n : Nat} {i j : Str} : okE T (.str i) (.str j) n := by simp [okE, flatD]
theorem eq_int {T : EqT} {n : Nat} {i j : Int} : pEqT T n (.int i) (.int j) = .ok (.bl (i == j)) := eq_of okE_int (by simp [eqD])
theorem ne_int {T : EqT} {n : Nat} {i j : Int} : pNeT T n (.int i) (.int j) = .ok (.bl (!(i == j))) := ne_of okE_int (by simp [eqD])
theorem eq_str {T : EqT} {n : Nat} {i j : Str} : pEqT T n (.str i) (.str j) = .ok (.bl (i == j)) := eq_of okE_str (by simp [eqD])
theorem ne_str {T : EqT} {n : Nat} {i j : Str} : pNeT T n (.str i) (.str j) = .ok (.bl (!(i == j))) := ne_of okE_str (by simp [eqD])
end Dl
set_option Elab.async false
set_option linter.all false
set_option maxRecDepth 100000
set_option maxHeartbeats 400000
namespace Dl
open PySem PySem.Spec L2 Res
theorem S_eq (z : Str) : SX.S z.cps.toList = z := SX.S_tl z
theorem S_l (a : List Nat) : (SX.S a).cps.toList = a := rfl
theorem rep_S (a : List Nat) (n : Nat) : strRep (SX.S a) n = SX.S (List.replicate n a).flatten := rfl
theorem cut_S (a : List Nat) (lo hi : Option Int) : cutS (SX.S a) lo hi = SX.S ((a.drop (HT.sIx a.length 0 lo)).take (HT.sIx a.length a.length hi - HT.sIx a.length 0 lo)) := by
  unfold cutS
  rw [SX.S_len] <;> rfl
theorem cut_len (z : Str) (lo hi : Option Int) : (cutS z lo hi).length ≤ z.length := by
  rw [← S_eq z, cut_S, SX.S_len, SX.S_len, List.length_take, List.length_drop]
  omega
theorem join_S' (a : List Nat) (ys : List (List Nat)) : Txt.join (SX.S a) (ys.map SX.S) = SX.S (TL.joinL a ys) := SX.join_S a ys
theorem joinL_nil : ∀ (ys : List (List Nat)), TL.joinL [] ys = ys.flatten
  | [] => rfl
  | [y] => by simp [TL.joinL]
  | y :: z :: r => by
    have e := joinL_nil (z :: r)
    simp only [TL.joinL, List.flatten_cons, List.nil_append] at e ⊢
    rw [e] <;> simp
end Dl
set_option Elab.async false
set_option linter.all false
set_option maxRecDepth 100000
set_option maxHeartbeats 400000
namespace Dl
open PySem PySem.Spec L2 Res
theorem e_asI {i : Int} : asI (.int i) = .ok (some i) := rfl
theorem e_asB {b : Bool} : asB (.bl b) = .ok b := rfl
theorem e_tru_non  : truR .non = .ok false := rfl
theorem e_tru_bl {b : Bool} : truR (.bl b) = .ok b := rfl
theorem e_tru_int {i : Int} : truR (.int i) = .ok (i != 0) := rfl
theorem e_tru_str {y : Str} : truR (.str y) = need (y.length ≤ sizeLine) (.ok (!decide (y.length = 0))) := rfl
theorem e_tru_lst {xs : List D} : truR (.lst xs) = .ok (!xs.isEmpty) := rfl
theorem e_tru_tup {xs : List D} : truR (.tup xs) = .ok (!xs.isEmpty) := rfl
theorem e_tru_scr {xs : List Int} : truR (.scr xs) = .ok (!xs.isEmpty) := rfl
theorem e_sl_lst {xs : List D} {lo hi : Option Int} : sliceD (.lst xs) lo hi = .ok (.lst (cutD xs lo hi)) := rfl
theorem e_sl_str {z : Str} {lo hi : Option Int} : sliceD (.str z) lo hi = need (z.length ≤ sizeLine) (.ok (.str (cutS z lo hi))) := rfl
theorem e_sl_tup {xs : List D} {lo hi : Option Int} : sliceD (.tup xs) lo hi = .ok (.tup (cutD xs lo hi)) := rfl
theorem e_some {α : Type} {a : α} : optR (some a) = .ok a := rfl
theorem e_none {α : Type} : optR (none : Option α) = .bad := rfl
theorem e_it_lst {xs : List D} : itR (.lst xs) = .ok xs := rfl
theorem e_it_tup {xs : List D} : itR (.tup xs) = .ok xs := rfl
theorem e_it_str {x : Str} : itR (.str x) = .ok (chrs x) := rfl
theorem e_it_scr {ns : List Int} : itR (.scr ns) = .ok (ns.map D.int) := rfl
theorem e_r1 {n : Int} : rng1 [.int n] = need (-(2 ^ 62) ≤ n ∧ n < 2 ^ 62) (.ok (intsD 0 n.toNat)) := rfl
theorem e_r2 {a n : Int} : rng2 [.int a, .int n] = need (-(2 ^ 62) ≤ a ∧ a < 2 ^ 62 ∧ -(2 ^ 62) ≤ n ∧ n < 2 ^ 62) (.ok (intsD a (n - a).toNat)) := rfl
theorem e_en {xs : List D} : enumR [.lst xs] = .ok (numbered 0 xs) := rfl
theorem e_thenS_nx {g : FS} {s : List Sl} : thenS (.nx s) g = g s := rfl
theorem e_thenS_rt {g : FS} {d : D} : thenS (.rt d) g = .ok (.rt d) := rfl
theorem e_thenS_rn {g : FS} {d : List D} : thenS (.rn d) g = .ok (.rn d) := rfl
theorem e_thenS_bk {g : FS} {s : List Sl} : thenS (.bk s) g = .ok (.bk s) := rfl
theorem e_thenS_cn {g : FS} {s : List Sl} : thenS (.cn s) g = .ok (.cn s) := rfl
theorem e_thenS_ex {g : FS} {c : Nat} {x : D} {s : List Sl} : thenS (.ex c x s) g = .ok (.ex c x s) := rfl
theorem e_afterS_nx {g : FS} {s : List Sl} : afterS (.nx s) g = g s := rfl
theorem e_afterS_rt {g : FS} {d : D} : afterS (.rt d) g = .ok (.rt d) := rfl
theorem e_afterS_rn {g : FS} {d : List D} : afterS (.rn d) g = .ok (.rn d) := rfl
theorem e_afterS_bk {g : FS} {s : List Sl} : afterS (.bk s) g = .ok (.nx s) := rfl
theorem e_afterS_cn {g : FS} {s : List Sl} : afterS (.cn s) g = g s := rfl
theorem e_afterS_ex {g : FS} {c : Nat} {x : D} {s : List Sl} : afterS (.ex c x s) g = .ok (.ex c x s) := rfl
theorem e_su_nx {i : Nat} {s : List Sl} : suiteF i (.nx s) = need (plainB (s.set i .un) = true) (.ok (.nx (s.set i .un))) := rfl
theorem e_su_rt {i : Nat} {d : D} : suiteF i (.rt d) = .ok (.rt d) := rfl
theorem e_su_bk {i : Nat} {s : List Sl} : suiteF i (.bk s) = need (plainB (s.set i .un) = true) (.ok (.bk (s.set i .un))) := rfl
theorem e_su_cn {i : Nat} {s : List Sl} : suiteF i (.cn s) = need (plainB (s.set i .un) = true) (.ok (.cn (s.set i .un))) := rfl
theorem e_ca_nx {cat : Nat → Option Bool} {i : Nat} {u : FS} {s : List Sl} : caughtF cat i u (.nx s) = .ok (.nx s) := rfl
theorem e_ca_bk {cat : Nat → Option Bool} {i : Nat} {u : FS} {s : List Sl} : caughtF cat i u (.bk s) = .ok (.bk s) := rfl
theorem e_ca_cn {cat : Nat → Option Bool} {i : Nat} {u : FS} {s : List Sl} : caughtF cat i u (.cn s) = .ok (.cn s) := rfl
theorem e_ca_rt {cat : Nat → Option Bool} {i : Nat} {u : FS} {d : D} : caughtF cat i u (.rt d) = .ok (.rt d) := rfl
theorem e_ca_ex {cat : Nat → Option Bool} {i : Nat} {u : FS} {c : Nat} {x : D} {s : List Sl} : caughtF cat i u (.ex c x s) = (match cat c with
  | some true => need (plainB (s.set i .un) = true) ((u (s.set i (.exc c x))).bind (suiteF i))
  | some false => .ok (.ex c x s)
  | none => .bad) := rfl
theorem e_end_nx {s : List Sl} : endR (.nx s) = .ok .non := rfl
theorem e_end_rt {d : D} : endR (.rt d) = .ok d := rfl
theorem e_end_rn {d : List D} : endR (.rn d) = .ok (.lst d) := rfl
theorem e_end_ex {c : Nat} {x : D} {s : List Sl} : endR (.ex c x s) = .exc c x := rfl
theorem e_endN_rn {d : List D} : endN (.rn d) = .ok d := rfl
theorem e_endN_ex {c : Nat} {x : D} {s : List Sl} : endN (.ex c x s) = .exc c x := rfl
theorem e_endI_ex {k c : Nat} {x : D} {s : List Sl} : endI k (.ex c x s) = .exc c x := rfl
theorem e_endI_nx {c : Nat} {fs : List (Str × D)} {s : List Sl} : endI c (.nx (.ini c fs :: s)) = .ok fs := if_pos rfl
theorem e_len_str {z : Str} : gLen [.str z] = need (z.length ≤ sizeLine) (.ok (.int z.length)) := rfl
theorem e_len_lst {xs : List D} : gLen [.lst xs] = .ok (.int xs.length) := rfl
theorem e_len_tup {xs : List D} : gLen [.tup xs] = .ok (.int xs.length) := rfl
theorem e_len_scr {xs : List Int} : gLen [.scr xs] = .ok (.int xs.length) := rfl
theorem e_list_lst {xs : List D} : gList [.lst xs] = .ok (.lst xs) := rfl
theorem e_list_tup {xs : List D} : gList [.tup xs] = .ok (.lst xs) := rfl
theorem e_list_scr {xs : List Int} : gList [.scr xs] = .ok (.lst (xs.map D.int)) := rfl
theorem e_list_str {z : Str} : gList [.str z] = need (z.length ≤ sizeLine) (.ok (.lst (chrs z))) := rfl
theorem e_tuple_lst {xs : List D} : gTuple [.lst xs] = .ok (.tup xs) := rfl
theorem e_tuple_tup {xs : List D} : gTuple [.tup xs] = .ok (.tup xs) := rfl
theorem e_int_int {i : Int} : gInt [.int i] = .ok (.int i) := rfl
theorem e_int_bl {b : Bool} : gInt [.bl b] = .ok (.int (if b then 1 else 0)) := rfl
theorem e_bool_int {i : Int} : gBool [.int i] = .ok (.bl (i != 0)) := rfl
theorem e_bool_bl {b : Bool} : gBool [.bl b] = .ok (.bl b) := rfl
theorem e_sum {ds : List D} : gSum [.lst ds] = (optR (toInts ds)).bind fun ns => .ok (.int ns.sum) := rfl
theorem e_all {ds : List D} : gAll [.lst ds] = (optR (toBls ds)).bind fun ns => .ok (.bl (ns.all id)) := rfl
theorem e_any {ds : List D} : gAny [.lst ds] = (optR (toBls ds)).bind fun ns => .ok (.bl (ns.any id)) := rfl
theorem e_min {i j : Int} : gMin [.int i, .int j] = .ok (.int (if j < i then j else i)) := rfl
theorem e_max {i j : Int} : gMax [.int i, .int j] = .ok (.int (if j > i then j else i)) := rfl
theorem e_isi {sub : Sub2} {d c : D} : gIsi sub [d, c] = (optR (isiD sub d c)).bind fun b => .ok (.bl b) := rfl
theorem e_join_l {z : Str} {ds : List D} : kJoin z (.lst ds) = (optR (toStrs ds)).bind fun ys => need ((ys.map (·.length)).sum + ys.length * z.length ≤ 16777216) (.ok (.str (Txt.join z ys))) := rfl
theorem e_join_t {z : Str} {ds : List D} : kJoin z (.tup ds) = (optR (toStrs ds)).bind fun ys => need ((ys.map (·.length)).sum + ys.length * z.length ≤ 16777216) (.ok (.str (Txt.join z ys))) := rfl
theorem e_count {z y : Str} : kCount z (.str y) = .ok (.int (Txt.count z y)) := rfl
theorem e_strip {z y : Str} : kStrip z (.str y) = need (z.length ≤ sizeLine) (.ok (.str (Txt.stripChars z y))) := rfl
theorem e_split {z y : Str} : kSplit z (.str y) = need ((y.length == 0) = false ∧ z.length + 2 ≤ sizeLine) (.ok (.lst ((Txt.split z y).map D.str))) := rfl
theorem e_add_i {i j : Int} : pAdd (.int i) (.int j) = .ok (.int (i + j)) := rfl
theorem e_add_s {a b : Str} : pAdd (.str a) (.str b) = need (a.length + b.length ≤ sizeLine) (.ok (.str (a ++ b))) := rfl
theorem e_add_l {a b : List D} : pAdd (.lst a) (.lst b) = need (a.length + b.length ≤ sizeLine) (.ok (.lst (a ++ b))) := rfl
theorem e_add_t {a b : List D} : pAdd (.tup a) (.tup b) = need (a.length + b.length ≤ sizeLine) (.ok (.tup (a ++ b))) := rfl
theorem e_sub {i j : Int} : pSub (.int i) (.int j) = .ok (.int (i - j)) := rfl
theorem e_mul_i {i j : Int} : pMul (.int i) (.int j) = need (CMulX i j) (.ok (.int (i * j))) := rfl
theorem e_mul_s {x : Str} {n : Int} : pMul (.str x) (.int n) = need (-(2 ^ 62) ≤ n ∧ x.length * n.toNat ≤ 10000000 ∧ n.toNat ≤ 10000000) (.ok (.str (strRep x n.toNat))) := rfl
theorem e_mul_l {a : List D} {n : Int} : pMul (.lst a) (.int n) = need (-(2 ^ 63) ≤ n ∧ n < 2 ^ 63 ∧ a.length * n.toNat ≤ sizeLine) (.ok (.lst (List.replicate n.toNat a).flatten)) := rfl
theorem e_mod {i j : Int} : pMod (.int i) (.int j) = need (0 < j) (.ok (.int (i % j))) := rfl
theorem e_div {i j : Int} : pDiv (.int i) (.int j) = need (CDivW i j) (.ok (.int (i / j))) := rfl
theorem e_pow {i j : Int} : pPow (.int i) (.int j) = need (CPowX i j) (.ok (.int (i ^ j.toNat))) := rfl
theorem e_cmp {f : Int → Int → Bool} {i j : Int} : pCmp f (.int i) (.int j) = .ok (.bl (f i j)) := rfl
theorem e_mul_t {a : List D} {n : Int} : pMul (.tup a) (.int n) = need (-(2 ^ 62) ≤ n ∧ n ≤ 1000 ∧ a.length ≤ 1000) (.ok (.tup (List.replicate n.toNat a).flatten)) := rfl
theorem e_is_bl {a b : Bool} : pIsN (.bl a) (.bl b) = .ok (.bl (a == b)) := rfl
theorem e_not_bl {a b : Bool} : pNotN (.bl a) (.bl b) = .ok (.bl (!(a == b))) := rfl
theorem e_isN_non  : pIsN .non .non = .ok (.bl true) := rfl
theorem e_notN_non  : pNotN .non .non = .ok (.bl false) := rfl
theorem e_isN_bl {b : Bool} : pIsN (.bl b) .non = .ok (.bl false) := rfl
theorem e_notN_bl {b : Bool} : pNotN (.bl b) .non = .ok (.bl true) := rfl
theorem e_isN_int {b : Int} : pIsN (.int b) .non = .ok (.bl false) := rfl
theorem e_notN_int {b : Int} : pNotN (.int b) .non = .ok (.bl true) := rfl
theorem e_isN_str {b : Str} : pIsN (.str b) .non = .ok (.bl false) := rfl
theorem e_notN_str {b : Str} : pNotN (.str b) .non = .ok (.bl true) := rfl
theorem e_isN_lst {b : List D} : pIsN (.lst b) .non = .ok (.bl false) := rfl
theorem e_notN_lst {b : List D} : pNotN (.lst b) .non = .ok (.bl true) := rfl
theorem e_isN_tup {b : List D} : pIsN (.tup b) .non = .ok (.bl false) := rfl
theorem e_notN_tup {b : List D} : pNotN (.tup b) .non = .ok (.bl true) := rfl
theorem e_isN_obj {c : Nat} {b : List D} : pIsN (.obj c b) .non = .ok (.bl false) := rfl
theorem e_notN_obj {c : Nat} {b : List D} : pNotN (.obj c b) .non = .ok (.bl true) := rfl
theorem e_isN_scr {b : List Int} : pIsN (.scr b) .non = .ok (.bl false) := rfl
theorem e_notN_scr {b : List Int} : pNotN (.scr b) .non = .ok (.bl true) := rfl
theorem e_isN_tok {b : Nat} : pIsN (.tok b) .non = .ok (.bl false) := rfl
theorem e_notN_tok {b : Nat} : pNotN (.tok b) .non = .ok (.bl true) := rfl
theorem e_ix_l {xs : List D} {i : Int} : pIx (.lst xs) (.int i) = optR (atI xs i) := rfl
theorem e_ix_t {xs : List D} {i : Int} : pIx (.tup xs) (.int i) = optR (atI xs i) := rfl
theorem e_ix_s {z : Str} {i : Int} : pIx (.str z) (.int i) = need (z.length ≤ sizeLine) (optR ((atI z.cps.toList i).map fun c => .str ⟨#[c]⟩)) := rfl
theorem e_ix_n {ns : List Int} {i : Int} : pIx (.scr ns) (.int i) = optR ((atI ns i).map D.int) := rfl
theorem e_in1 {neg : Bool} {c : Nat} {z : Str} : pInW neg (.str ⟨#[c]⟩) (.str z) = .ok (.bl (neg ^^ decide (c ∈ z.cps.toList))) := rfl
end Dl
set_option Elab.async false
set_option linter.all false
set_option maxRecDepth 100000
set_option maxHeartbeats 400000
namespace Dl
open PySem PySem.Spec L2 Res
theorem cpow_ok {a : Int} {n : Int} {k : Nat} (h0 : 0 ≤ n) (h : a.natAbs < 2 ^ k) (hn : (k : Int) * n ≤ 134217728) : CPowX a n := by
  refine ⟨h0, ?_⟩
  have x := PyProof.Rows.intBits_le h
  have e : (2 : Int) ^ 27 = 134217728 := by decide
  rw [e]
  have y : (Builtin.Int.intBits a : Int) * n ≤ (k : Int) * n := Int.mul_le_mul_of_nonneg_right (by exact_mod_cast x) h0
  omega
theorem cmul_ok {i j : Int} (a b : Nat) (ha : i.natAbs < 2 ^ a) (hb : j.natAbs < 2 ^ b) (h : a + b ≤ 134217728) : CMulX i j := mulx_ok ha hb h
theorem atI_in {α : Type} {l : List α} {i : Int} (h0 : 0 ≤ i) (h1 : i < l.length) : ∃ a, atI l i = some a ∧ a ∈ l := by
  have hi : i.toNat < l.length := by omega
  refine ⟨l[i.toNat], ?_, List.getElem_mem hi⟩
  unfold atI ixN
  rw [if_pos h0, if_pos h1]
  exact List.getElem?_eq_getElem hi
theorem atI_nat {α : Type} (l : List α) (i : Nat) : atI l (i : Int) = l[i]? := by
  unfold atI ixN
  rw [if_pos (by omega)]
  by_cases h : (i : Int) < l.length
  · rw [if_pos h]
    rfl
  · rw [if_neg h]
    show none = _
    rw [List.getElem?_eq_none (by omega)]
end Dl
set_option Elab.async false
set_option linter.all false
set_option maxRecDepth 100000
set_option maxHeartbeats 400000
namespace Dl
open PySem PySem.Spec L2 Res
end Dl
set_option Elab.async false
set_option linter.all false
set_option maxRecDepth 100000
set_option maxHeartbeats 400000
namespace Dl
open PySem PySem.Spec L2 Res
noncomputable def kRepl (y z : Str) : D → Res D
  | .str a => need (a.length + (a.length + 1) * z.length ≤ 16777216) (.ok (.str (Txt.replace a y z)))
  | _ => .bad
noncomputable def fRepl (y z : Str) (f : FE) (s : List Sl) : Res D := (f s).bind (kRepl y z)
theorem e_repl {y z a : Str} : kRepl y z (.str a) = need (a.length + (a.length + 1) * z.length ≤ 16777216) (.ok (.str (Txt.replace a y z))) := rfl
end Dl
namespace Dl
open PySem PySem.Spec L2 Res
def zRel (i : Nat) (f : FS) (s : List Sl) : Res Fl := match s[i]? with
  | some (.own xs) => f (s.set i (.v (.lst xs)))
  | _ => .bad
theorem m_sRel (i : Nat) {f : FS} {t : TDS} (h1 : SimS f t) : SimS (zRel i f) (sRel i t) := by
  intro s DD h
  unfold zRel at h
  unfold sRel
  split at h
  · rename_i xs e
    try rw [e]
    exact h1 _ DD h
  · exact h.elim
def valS (sub : Sub2) : D → Bool
  | .non => true
  | .bl _ => true
  | .int _ => true
  | .str _ => true
  | .lst _ => true
  | .tup _ => true
  | .obj c _ => (sub c c).isSome
  | .tok k => k == 7
  | _ => false
def isK (d : D) (m : String) : Bool := match kindD d with
  | some k => isiB k m
  | none => false
theorem isi_ty {sub : Sub2} {d : D} {m : String} (h : valS sub d = true) (hm : kinds.contains m = true) : isiD sub d (.ty m) = some (isK d m) := by
  cases d with
  | obj c fs =>
    have e : (sub c c).isSome = true := h
    simp only [isiD, isK, kindD, hm, e, Bool.and_self, if_true]
  | tok k =>
    have e : k = 7 := by simpa [valS] using h
    subst e
    simp only [isiD, isK, kindD, hm, if_true, Option.map_some]
  | ty n => cases h
  | cls n => cases h
  | scr n => cases h
  | ref a => cases h
  | dic ks xs => cases h
  | _ => simp only [isiD, isK, kindD, hm, if_true, Option.map_some]
theorem isi_ty' {sub : Sub2} {d : D} {m : String} (h : valS sub d = true) (hm : kinds.contains m = true) : gIsi sub [d, .ty m] = .ok (.bl (isK d m)) := by
  rw [e_isi, isi_ty h hm] <;> rfl
end Dl
namespace Dl
open PySem PySem.Spec L2 Res
theorem mem_ints {d : D} {lo : Int} {n : Nat} (h : d ∈ intsD lo n) : ∃ i : Int, d = .int i ∧ lo ≤ i ∧ i < lo + n := by
  obtain ⟨i, hi, rfl⟩ := List.mem_map.mp h
  have := List.mem_range.mp hi
  exact ⟨_, rfl, by omega, by omega⟩
theorem ints_len {lo : Int} {n : Nat} : (intsD lo n).length = n := by
  unfold intsD
  rw [List.length_map, List.length_range]
end Dl
set_option Elab.async false
set_option linter.all false
set_option maxRecDepth 100000
set_option maxHeartbeats 400000
namespace Dl
open PySem PySem.Spec L2 Res PySem.Builtin PySem.Builtin.Str
def filledL (a : List Nat) : List Nat := a.map fun x => if x = 46 then 48 else x
def keptL (a : List Nat) : List Nat := if a.all (· == 46) then a else filledL a
theorem filled_len (a : List Nat) : (filledL a).length = a.length := List.length_map ..
/-- a comprehension over anything, by what its target makes of the frame -/
theorem comp_mapS {α : Type} {g : α → D} {tg : Tg} {fe : FE} {s : List Sl} {f : α → D} : ∀ {l : List α}, (∀ a ∈ l, ∃ s1, setTF tg (g a) s = some s1 ∧ fe s1 = .ok (f a)) → compF tg fYes fe s (l.map g) = .ok (l.map f)
  | [], _ => rfl
  | d :: ds, h => by
    rw [List.map_cons]
    obtain ⟨s1, e1, e2⟩ := h d List.mem_cons_self
    unfold compF
    rw [comp_mapS (fun e he => h e (List.mem_cons_of_mem _ he)), e1]
    simp [fYes, e2, Res.bind, Res.noex, Res.cat]
theorem sum_len (ys : List (List Nat)) : ((ys.map SX.S).map (·.length)).sum = ys.flatten.length := by
  induction ys with
  | nil => rfl
  | cons y ys ih =>
    simp only [List.map_cons, List.sum_cons, List.flatten_cons, List.length_append, ih, SX.S_len]
end Dl
set_option Elab.async false
set_option linter.all false
set_option maxRecDepth 100000
set_option maxHeartbeats 400000
namespace Dl
open PySem PySem.Spec L2 Res
def asLen : D → Res D
  | .int n => if 0 ≤ n ∧ n < 2 ^ 63 then .ok (.int n) else .bad
  | _ => .bad
noncomputable def gLenO (tbl : Nat → Option FW) : FC
  | [.obj c fs] => match tbl c with
    | some g => (g [.obj c fs]).noex.bind asLen
    | none => .bad
  | ds => gLen ds
theorem m_lenO {a : Nat → Option FW} {b : Nat → Option Wf} (h : SimTb a b) : SimC (gLenO a) (bLenO b) := by
  intro ds Q E q
  by_cases z : ∃ c fs, ds = [.obj c fs]
  · obtain ⟨c, fs, rfl⟩ := z
    unfold gLenO at q
    dsimp only at q
    cases e : a c with
    | none => rw [e] at q; exact q.elim
    | some g =>
      rw [e] at q
      obtain ⟨w, e2, sg⟩ := h c g e
      refine ⟨w, e2, sg _ _ _ (wp_mono (fun d hd => ?_) (fun _ _ z => z) (wp_noex.mp (wp_bind.mp q)))⟩
      cases d <;> first | exact hd.elim | skip
      rename_i n
      unfold asLen at hd
      by_cases y : 0 ≤ n ∧ n < 2 ^ 63
      · dsimp only at hd
        rw [if_pos y] at hd
        exact ⟨n, rfl, y.1, y.2, hd⟩
      · dsimp only at hd
        rw [if_neg y] at hd
        exact hd.elim
  · have q' : (gLen ds).wp Q E := by
      unfold gLenO at q
      split at q
      · exact absurd ⟨_, _, rfl⟩ z
      · exact q
    have o := m_len ds Q E q'
    unfold bLenO
    split
    · exact absurd ⟨_, _, rfl⟩ z
    · exact o
section
variable {t : Nat → Option FW}
theorem e_lenO_str {z : Str} : gLenO t [.str z] = need (z.length ≤ sizeLine) (.ok (.int z.length)) := by unfold gLenO; exact e_len_str
theorem e_lenO_lst {xs : List D} : gLenO t [.lst xs] = .ok (.int xs.length) := by unfold gLenO; exact e_len_lst
theorem e_lenO_tup {xs : List D} : gLenO t [.tup xs] = .ok (.int xs.length) := by unfold gLenO; exact e_len_tup
theorem e_lenO_scr {xs : List Int} : gLenO t [.scr xs] = .ok (.int xs.length) := by unfold gLenO; exact e_len_scr
theorem e_asLen {n : Nat} (h : n ≤ 100000000) : asLen (.int n) = .ok (.int n) := by
  have e : (2 : Int) ^ 63 = 9223372036854775808 := by decide
  unfold asLen
  dsimp only
  rw [if_pos ⟨by omega, by rw [e]; omega⟩]
/-- len of an own object, by what its class's def gives -/
theorem lenO_obj {c : Nat} {fs : List D} {g : FW} {n : Nat} (ht : t c = some g) (hg : g [.obj c fs] = .ok (.int n)) (hn : n ≤ 100000000) : gLenO t [.obj c fs] = .ok (.int n) := by
  unfold gLenO
  dsimp only
  rw [ht]
  dsimp only
  rw [hg]
  simp only [Res.noex, Res.cat, Res.bind, e_asLen hn]
end
end Dl
namespace Dl
open PySem PySem.Spec L2 Res
end Dl
set_option Elab.async false
set_option linter.all false
set_option maxRecDepth 100000
set_option maxHeartbeats 400000
namespace Dl
open PySem PySem.Spec L2 Res
def kNeg : D → Res D
  | .int i => .ok (.int (-i))
  | _ => .bad
def fNeg (f : FE) (s : List Sl) : Res D := (f s).bind kNeg
def gGcd : FC
  | [.int a, .int b] => .ok (.int (a.natAbs.gcd b.natAbs : Nat))
  | _ => .bad
noncomputable def gLcm : FC
  | [.int a, .int b] => need (a.natAbs < 2 ^ 6000 ∧ b.natAbs < 2 ^ 6000) (.ok (.int (a.natAbs.lcm b.natAbs : Nat)))
  | _ => .bad
theorem e_neg {i : Int} : kNeg (.int i) = .ok (.int (-i)) := by unfold kNeg; rfl
theorem e_gcd {a b : Int} : gGcd [.int a, .int b] = .ok (.int (a.natAbs.gcd b.natAbs : Nat)) := by unfold gGcd; rfl
theorem e_lcm {a b : Int} : gLcm [.int a, .int b] = need (a.natAbs < 2 ^ 6000 ∧ b.natAbs < 2 ^ 6000) (.ok (.int (a.natAbs.lcm b.natAbs : Nat))) := by unfold gLcm; rfl
end Dl
set_option Elab.async false
set_option linter.all false
set_option maxRecDepth 100000
set_option maxHeartbeats 400000
namespace Dl
open PySem PySem.Spec L2 Res
section
variable {f g : FS} {s s' : List Sl} {d : D} {r : Res Fl}
theorem e_seq (h : f s = .ok (.nx s')) (k : g s' = r) : zSeq f g s = r := by
  show (f s).bind _ = r
  rw [h]
  exact k
theorem e_seq_rt (h : f s = .ok (.rt d)) : zSeq f g s = .ok (.rt d) := by
  show (f s).bind _ = _
  rw [h]
  rfl
theorem e_fdef {n m : Nat} {fs : FS} {ds : List D} (hn : ds.length = n) (h : fs (startD m ds) = .ok (.rt d)) : fDef n m fs ds = .ok d := by
  unfold fDef
  rw [need_pos hn, h]
  rfl
theorem e_zAsg {i : Nat} {f : FE} (h : f s = .ok d) : zAsg i f s = .ok (.nx (s.set i (.v d))) := by
  unfold zAsg sx
  rw [h]
  rfl
theorem e_zRet {f : FE} (h : f s = .ok d) : zRet f s = .ok (.rt d) := by
  unfold zRet sx
  rw [h]
  rfl
theorem e_zDrop {f : FE} (h : f s = .ok d) : zDrop f s = .ok (.nx s) := by
  unfold zDrop sx
  rw [h]
  rfl
theorem e_for_nx {tg : Tg} {body : FS} {d : D} {ds : List D} {s1 s2 : List Sl} (e : setTF tg d s = some s1) (h : body s1 = .ok (.nx s2)) : forF tg body (d :: ds) s = forF tg body ds s2 := by
  show (optR (setTF tg d s)).bind _ = _
  rw [e]
  show (body s1).bind _ = _
  rw [h]
  rfl
theorem e_zFor {tg : Tg} {body : FS} {fi : FA} {ds : List D} {r : Res Fl} (e : fi s = .ok ds) (h : forF tg body ds s = r) : zFor fi tg body s = r := by
  unfold zFor sx
  rw [e]
  exact h
end
end Dl
set_option Elab.async false
set_option linter.all false
set_option maxRecDepth 100000
set_option maxHeartbeats 400000
namespace Dl
open PySem PySem.Spec L2 Res
abbrev FH := D → FT
def kBl : D → Res Bool
  | .bl b => .ok b
  | _ => .bad
def hNil : FH := fun _ _ => .ok true
def hCons (p : F2) (f : FE) (r : FH) : FH := fun x s => (f s).bind fun y => ((p x y).noex.bind kBl).bind fun b => if b = true then r y s else .ok false
def fChain (f : FE) (r : FH) : FT := fun s => (f s).bind fun x => r x s
theorem e_kBl {b : Bool} : kBl (.bl b) = .ok b := rfl
end Dl
set_option Elab.async false
set_option linter.all false
set_option maxRecDepth 100000
set_option maxHeartbeats 400000
namespace Dl
open PySem PySem.Spec L2 Res
def enumS : List D → Res (List D)
  | [.str x] => .ok (numbered 0 (chrs x))
  | _ => .bad
def jEnumS (f : FA) (s : List Sl) : Res (List D) := (f s).bind enumS
theorem e_enS {x : Str} : enumS [.str x] = .ok (numbered 0 (chrs x)) := rfl
end Dl
set_option Elab.async false
set_option linter.all false
set_option maxRecDepth 100000
set_option maxHeartbeats 400000
namespace Dl
open PySem PySem.Spec L2 Res
noncomputable def opF (tbl : Nat → Option FW) (p : F2) : F2
  | .obj c fs, y => match tbl c with
    | some g => need (rightO c y = true) (g [.obj c fs, y])
    | none => .bad
  | x, y => p x y
noncomputable def fOpO (tbl : Nat → Option FW) (p : F2) (f g : FE) (s : List Sl) : Res D := (f s).bind fun x => (g s).bind fun y => opF tbl p x y
theorem e_op_int {tbl : Nat → Option FW} {p : F2} {i : Int} {y : D} : opF tbl p (.int i) y = p (.int i) y := rfl
theorem e_op_str {tbl : Nat → Option FW} {p : F2} {i : Str} {y : D} : opF tbl p (.str i) y = p (.str i) y := rfl
theorem e_op_lst {tbl : Nat → Option FW} {p : F2} {i : List D} {y : D} : opF tbl p (.lst i) y = p (.lst i) y := rfl
theorem e_op_tup {tbl : Nat → Option FW} {p : F2} {i : List D} {y : D} : opF tbl p (.tup i) y = p (.tup i) y := rfl
end Dl
set_option Elab.async false
set_option linter.all false
set_option maxRecDepth 100000
set_option maxHeartbeats 400000
namespace Dl
open PySem PySem.Spec L2 Res
section
variable {f g : FS} {s s' : List Sl} {d : D} {r : Res Fl} {ds : List D} {c : Nat} {x : D}
theorem e_seq_ex (h : f s = .ok (.ex c x s')) : zSeq f g s = .ok (.ex c x s') := by
  show (f s).bind _ = _
  rw [h]
  rfl
theorem e_fdefN {n m : Nat} {fs : FS} {as : List D} (hn : as.length = n) (h : fs (startD m as) = .ok (.nx s')) : fDef n m fs as = .ok .non := by
  unfold fDef
  rw [need_pos hn, h]
  rfl
theorem e_fdefX {n m : Nat} {fs : FS} {as : List D} (hn : as.length = n) (h : fs (startD m as) = .ok (.ex c x s')) : fDef n m fs as = .exc c x := by
  unfold fDef
  rw [need_pos hn, h]
  rfl
theorem w_next {Q : Fl → Prop} (h : f s = .ok (.nx s')) (k : (g s').wp Q NoX) : (zSeq f g s).wp Q NoX := w_seq (by rw [h]; exact k)
/-- a loop that runs through, by what holds of the items left and the frame -/
theorem e_for_inv {α : Type} {q : α → D} {tg : Tg} {body : FS} (I : List α → List Sl → Prop) : ∀ {l : List α} {s : List Sl}, I l s → (∀ a l s, I (a :: l) s → ∃ s1 s2, setTF tg (q a) s = some s1 ∧ body s1 = .ok (.nx s2) ∧ I l s2) →
    ∃ s', forF tg body (l.map q) s = .ok (.nx s') ∧ I [] s'
  | [], s, h, _ => ⟨s, rfl, h⟩
  | a :: l, s, h, t => by
    obtain ⟨s1, s2, e1, e2, h2⟩ := t a l s h
    obtain ⟨s', e, h3⟩ := e_for_inv I h2 t
    refine ⟨s', ?_, h3⟩
    rw [List.map_cons, e_for_nx e1 e2]
    exact e
end
end Dl
set_option Elab.async false
set_option linter.all false
set_option maxRecDepth 100000
set_option maxHeartbeats 400000
namespace Dl
open PySem PySem.Spec L2 Res
/-- no objects within, at most so deep -/
abbrev sim (n : Nat) (x : D) : Bool := selfD (fun _ => false) n x
abbrev sims (n : Nat) (xs : List D) : Bool := selfDs (fun _ => false) n xs
mutual
theorem sim_rf : ∀ {n : Nat} {x : D}, sim n x = true → rfD x = true
  | n, .non, h => rfl
  | n, .bl _, h => rfl
  | n, .int _, h => rfl
  | n, .str _, h => rfl
  | 0, .lst xs, h => by simp [sim, selfD] at h
  | 0, .tup xs, h => by simp [sim, selfD] at h
  | n + 1, .lst xs, h => by
    simp only [rfD]
    exact sims_rf (n := n) (by simpa [sim, sims, selfD] using h)
  | n + 1, .tup xs, h => by
    simp only [rfD]
    exact sims_rf (n := n) (by simpa [sim, sims, selfD] using h)
  | n, .tok j, h => by
    have e : j = 7 := by cases n <;> simpa [sim, selfD] using h
    subst e
    rfl
  | 0, .obj _ _, h => by simp [sim, selfD] at h
  | n + 1, .obj _ _, h => by simp [sim, selfD] at h
  | 0, .ty _, h => by simp [sim, selfD] at h
  | n + 1, .ty _, h => by simp [sim, selfD] at h
  | 0, .cls _, h => by simp [sim, selfD] at h
  | n + 1, .cls _, h => by simp [sim, selfD] at h
  | 0, .scr _, h => by simp [sim, selfD] at h
  | n + 1, .scr _, h => by simp [sim, selfD] at h
  | 0, .ref _, h => by simp [sim, selfD] at h
  | n + 1, .ref _, h => by simp [sim, selfD] at h
  | 0, .dic _ _, h => by simp [sim, selfD] at h
  | n + 1, .dic _ _, h => by simp [sim, selfD] at h
theorem sims_rf : ∀ {n : Nat} {xs : List D}, sims n xs = true → rfDs xs = true
  | n, [], h => rfl
  | n, x :: xs, h => by
    simp only [sims, selfDs, Bool.and_eq_true] at h
    simp only [rfDs, Bool.and_eq_true]
    exact ⟨sim_rf (n := n) h.1, sims_rf (n := n) h.2⟩
end
theorem of_all {α : Type} {f : α → D} {P : α → Prop} : ∀ {ys : List D}, (∀ y ∈ ys, ∃ a, y = f a ∧ P a) → ∃ l : List α, ys = l.map f ∧ ∀ a ∈ l, P a
  | [], _ => ⟨[], rfl, fun _ h => by cases h⟩
  | y :: ys, h => by
    obtain ⟨a, rfl, pa⟩ := h y List.mem_cons_self
    obtain ⟨l, rfl, pl⟩ := of_all (f := f) (P := P) (ys := ys) fun z hz => h z (List.mem_cons_of_mem _ hz)
    refine ⟨a :: l, rfl, fun b hb => ?_⟩
    rcases List.mem_cons.mp hb with rfl | hb
    · exact pa
    · exact pl b hb
theorem intsD_nat (n : Nat) : intsD 0 n = (List.range n).map fun i : Nat => D.int i := by
  unfold intsD
  apply List.map_congr_left
  intro i _
  simp
section
variable {T : EqT} {n : Nat} {x y : D}
theorem eq_same (h : sim n x = true) : pEqT T n x x = .ok (.bl true) := eq_of (okE_self (k := 0) (ob := fun _ => false) (fun _ z => by cases z) h) (eqD_rf (sim_rf h))
theorem ne_same (h : sim n x = true) : pNeT T n x x = .ok (.bl false) := ne_of (b := true) (okE_self (k := 0) (ob := fun _ => false) (fun _ z => by cases z) h) (eqD_rf (sim_rf h))
theorem sim_lst {xs : List D} (h : sims n xs = true) : sim (n + 1) (.lst xs) = true := h
theorem sim_int {i : Int} : sim n (.int i) = true := by cases n <;> rfl
theorem sim_str {i : Str} : sim n (.str i) = true := by cases n <;> rfl
theorem sim_non : sim n .non = true := by cases n <;> rfl
end
end Dl
set_option Elab.async false
set_option linter.all false
set_option maxRecDepth 100000
set_option maxHeartbeats 400000
namespace Dl
open PySem PySem.Spec L2 Res
noncomputable def ixF (tbl : Nat → Option FW) : F2
  | .obj c fs, y => match tbl c with
    | some g => g [.obj c fs, y]
    | none => .bad
  | x, y => pIx x y
noncomputable def fIxO (tbl : Nat → Option FW) (f g : FE) (s : List Sl) : Res D := (f s).bind fun x => (g s).bind fun y => ixF tbl x y
theorem m_IxO {a : Nat → Option FW} {b : Nat → Option Wf} {f g : FE} {t u : TD} (ht : SimTb a b) (h1 : SimE f t) (h2 : SimE g u) : SimE (fIxO a f g) (dIxO b t u) := fun s Q E h => h1 s _ E (wp_mono (fun x hx => h2 s _ E (wp_mono (fun y hy => by
  by_cases z : ∃ c fs, x = .obj c fs
  · obtain ⟨c, fs, rfl⟩ := z
    unfold ixF at hy
    unfold ixO
    dsimp only at hy ⊢
    cases e : a c with
    | none => rw [e] at hy; exact hy.elim
    | some k =>
      rw [e] at hy
      obtain ⟨w, e2, sg⟩ := ht c k e
      rw [e2]
      exact sg _ Q E hy
  · have e1 : ixF a x y = pIx x y := by cases x <;> first | rfl | exact absurd ⟨_, _, rfl⟩ z
    have e2 : ixO b x y Q E = oIx x y Q := by cases x <;> first | rfl | exact absurd ⟨_, _, rfl⟩ z
    rw [e1] at hy
    rw [e2]
    exact m_ix x y Q E hy) (fun _ _ z => z) (wp_bind.mp hx))) (fun _ _ z => z) (wp_bind.mp h))
theorem e_ixO_str {tbl : Nat → Option FW} {i : Str} {y : D} : ixF tbl (.str i) y = pIx (.str i) y := rfl
theorem e_ixO_lst {tbl : Nat → Option FW} {i : List D} {y : D} : ixF tbl (.lst i) y = pIx (.lst i) y := rfl
theorem e_ixO_tup {tbl : Nat → Option FW} {i : List D} {y : D} : ixF tbl (.tup i) y = pIx (.tup i) y := rfl
def itF (tbl : Nat → Option Nat) : D → Res (List D)
  | .obj c fs => match tbl c with
    | some k => match fs[k]? with
      | some (.str x) => .ok (chrs x)
      | some (.tup xs) => .ok xs
      | _ => .bad
    | none => .bad
  | d => itR d
def jObj (tbl : Nat → Option Nat) (f : FE) (s : List Sl) : Res (List D) := (f s).bind (itF tbl)
theorem e_it_lst' {tbl : Nat → Option Nat} {xs : List D} : itF tbl (.lst xs) = .ok xs := rfl
theorem e_it_tup' {tbl : Nat → Option Nat} {xs : List D} : itF tbl (.tup xs) = .ok xs := rfl
theorem e_it_str' {tbl : Nat → Option Nat} {x : Str} : itF tbl (.str x) = .ok (chrs x) := rfl
end Dl
set_option Elab.async false
set_option linter.all false
set_option maxRecDepth 100000
set_option maxHeartbeats 400000
namespace Dl
open PySem PySem.Spec L2 Res
noncomputable def fBor (f : FE) (s : List Sl) : Res D := (f (frzS s)).cat (fun d => need (noL d = true) (.ok d)) (fun c x => need (noL x = true) (.exc c x))
noncomputable def fBorT (f : FT) (s : List Sl) : Res Bool := (f (frzS s)).cat (fun b => .ok b) (fun c x => need (noL x = true) (.exc c x))
noncomputable def ownF (i : Nat) (s : List Sl) : D → Res Fl
  | .lst ds => need (noLs ds = true) (.ok (.nx (s.set i (.own ds))))
  | d => .ok (.nx (s.set i (.v d)))
noncomputable def zOwnE (i : Nat) (f : FE) (s : List Sl) : Res Fl := (f (lisS s)).cat (ownF i s) (fun c x => .ok (.ex c x s))
noncomputable def par2F (i j : Nat) (s : List Sl) : List D → Res Fl
  | [.lst xs, e] => need (noLs xs = true ∧ noL e = true) (.ok (.nx ((s.set i (.own xs)).set j (.v e))))
  | [d, .lst ys] => need (noL d = true ∧ noLs ys = true) (.ok (.nx ((s.set i (.v d)).set j (.own ys))))
  | _ => .bad
noncomputable def zPar2E (i j : Nat) (f : FA) (s : List Sl) : Res Fl := (f (lisS s)).cat (par2F i j s) (fun c x => .ok (.ex c x s))
noncomputable def triF (i j l : Nat) (s : List Sl) : D → Res Fl
  | .tup [d, e, .lst ys] => need (noL d = true ∧ noL e = true ∧ noLs ys = true) (.ok (.nx (((s.set i (.v d)).set j (.v e)).set l (.own ys))))
  | _ => .bad
noncomputable def zTg3E (i j l : Nat) (f : FE) (s : List Sl) : Res Fl := (f (lisS s)).cat (triF i j l s) (fun c x => .ok (.ex c x s))
theorem e_triF {i j l : Nat} {s : List Sl} {d e : D} {ys : List D} : triF i j l s (.tup [d, e, .lst ys]) = need (noL d = true ∧ noL e = true ∧ noLs ys = true) (.ok (.nx (((s.set i (.v d)).set j (.v e)).set l (.own ys)))) := rfl
noncomputable def setIxF (i : Nat) (s : List Sl) (xs : List D) (d : D) : D → Res Fl
  | .int k => (optR (ixN xs.length k)).bind fun j => .ok (.nx (s.set i (.own (xs.set j d))))
  | _ => .bad
noncomputable def zSetIx (i : Nat) (f g : FE) (s : List Sl) : Res Fl := match s[i]? with
  | some (.own xs) => sx s (f s) fun d => sx s (g s) fun k => setIxF i s xs d k
  | _ => .bad
def revR : D → Res D
  | .lst xs => .ok (.lst xs.reverse)
  | _ => .bad
def fRev (f : FE) (s : List Sl) : Res D := (f s).bind revR
noncomputable def lr1 : D → Res D
  | .int n => need (RgOk 0 n) (.ok (.lst (intsD 0 n.toNat)))
  | _ => .bad
noncomputable def fLR1 (f : FE) (s : List Sl) : Res D := (f s).bind lr1
noncomputable def lr2 : D → D → Res D
  | .int i, .int j => need (RgOk i j) (.ok (.lst (intsD i (j - i).toNat)))
  | _, _ => .bad
noncomputable def fLR2 (f g : FE) (s : List Sl) : Res D := (f s).bind fun d => (g s).bind fun e => lr2 d e
noncomputable def gSorted : List D → Res D
  | [.lst xs] => (optR (ints? xs)).bind fun ns => .ok (.lst ((sortI ns).map D.int))
  | _ => .bad
noncomputable def fCallK (g : FW) (n m : Nat) (p : List Nat) (dfl : List D) (fa fk : FA) (s : List Sl) : Res D := (fa s).bind fun xs => (fk s).bind fun zs => need (xs.length = n ∧ zs.length = m) (g (sel p (xs ++ (zs ++ dfl))))
noncomputable def fSpr (n m : Nat) (f : FS) (ds : List D) : Res D := need (ds.length = n) (((f (startD m ds)).noex.bind endN).bind fun ds' => match ds' with
  | [.int _] => .ok (.tok 1)
  | _ => .bad)
noncomputable def gSip : FW
  | [.tok 1, .int m] => need (0 < m ∧ m.natAbs.log2 < 9000) (.ask m fun d => .ok (.int d))
  | _ => .bad
theorem m_spr (n m : Nat) {fs : FS} {ts : TDS} (h1 : SimS fs ts) : SimW (fSpr n m fs) (wSpr (wnOf n m ts)) := fun ds Q E h => by
  obtain ⟨a, b⟩ := wp_need.mp h
  refine ⟨a, h1 _ _ (wp_mono (fun fl hf => ?_) (fun _ _ z => z) (wp_noex.mp (wp_bind.mp (wp_bind.mp b))))⟩
  cases fl <;> first | exact hf | exact hf.elim | skip
  show (∃ i : Int, _ = [D.int i]) ∧ Q (.tok 1)
  dsimp only [endN, Res.wp] at hf
  split at hf
  · exact ⟨⟨_, rfl⟩, hf⟩
  · exact hf.elim
theorem m_sip : SimW gSip wSip := fun ds Q E h => by
  unfold gSip at h
  split at h
  · obtain ⟨a, b⟩ := wp_need.mp h
    exact ⟨_, rfl, a.1, a.2, b⟩
  · exact h.elim
theorem w_sip {m : Int} {Q : D → Prop} {E : QX} : (gSip [.tok 1, .int m]).wp Q E ↔ (0 < m ∧ m.natAbs.log2 < 9000) ∧ ∀ d, 0 ≤ d → d < m → Q (.int d) := wp_need
theorem w_spr {n m : Nat} {fs : FS} {ds : List D} {Q : D → Prop} {E : QX} (hn : ds.length = n) (h : (fs (startD m ds)).wp (fun fl => ((endN fl).bind fun ds' => match ds' with
  | [.int _] => .ok (.tok 1)
  | _ => .bad).wp Q E) NoX) : (fSpr n m fs ds).wp Q E := by
  unfold fSpr
  rw [need_pos hn]
  refine wp_bind.mpr (wp_bind.mpr (wp_noex.mpr (wp_mono (fun fl hf => wp_bind.mp hf) (fun _ _ z => z) h)))
theorem e_rev {xs : List D} : revR (.lst xs) = .ok (.lst xs.reverse) := rfl
theorem e_lr1 {n : Int} : lr1 (.int n) = need (RgOk 0 n) (.ok (.lst (intsD 0 n.toNat))) := rfl
theorem e_lr2 {i j : Int} : lr2 (.int i) (.int j) = need (RgOk i j) (.ok (.lst (intsD i (j - i).toNat))) := rfl
theorem e_sorted {xs : List D} : gSorted [.lst xs] = (optR (ints? xs)).bind fun ns => .ok (.lst ((sortI ns).map D.int)) := rfl
theorem e_ownF_lst {i : Nat} {s : List Sl} {ds : List D} : ownF i s (.lst ds) = need (noLs ds = true) (.ok (.nx (s.set i (.own ds)))) := rfl
theorem e_ownF_non {i : Nat} {s : List Sl} : ownF i s .non = .ok (.nx (s.set i (.v .non))) := rfl
theorem e_par2F {i j : Nat} {s : List Sl} {xs : List D} {e : D} : par2F i j s [.lst xs, e] = need (noLs xs = true ∧ noL e = true) (.ok (.nx ((s.set i (.own xs)).set j (.v e)))) := rfl
theorem e_setIx {i : Nat} {s : List Sl} {xs : List D} {d : D} {k : Int} : setIxF i s xs d (.int k) = (optR (ixN xs.length k)).bind fun j => .ok (.nx (s.set i (.own (xs.set j d)))) := rfl
theorem lis_cons {t : Sl} {s : List Sl} : lisS (t :: s) = lisO t :: lisS s := rfl
theorem lis_nil : lisS [] = [] := rfl
theorem lisO_un : lisO .un = .un := rfl
theorem lisO_int {i : Int} : lisO (.v (.int i)) = .v (.int i) := rfl
theorem lisO_str {i : Str} : lisO (.v (.str i)) = .v (.str i) := rfl
theorem lisO_bl {i : Bool} : lisO (.v (.bl i)) = .v (.bl i) := rfl
theorem lisO_non : lisO (.v .non) = .v .non := rfl
end Dl
set_option Elab.async false
set_option linter.all false
set_option maxRecDepth 100000
set_option maxHeartbeats 400000
namespace Dl
open PySem PySem.Spec L2 Res
noncomputable def zOwnN (i : Nat) (f : FE) (s : List Sl) : Res Fl := sx s (f s) (ownF i s)
noncomputable def zPar2N (i j : Nat) (f g : FE) (s : List Sl) : Res Fl := sx s (f s) fun d => sx s (g s) fun e => par2F i j s [d, e]
noncomputable def zTg3N (i j l : Nat) (f g h : FE) (s : List Sl) : Res Fl := sx s (f s) fun d => sx s (g s) fun e => sx s (h s) fun r => triF i j l s (.tup [d, e, r])
section
variable {tbl : Nat → Option FW} {c : Nat} {fs : List D} {g : FW} {f1 f2 f3 f4 : FE} {s : List Sl} {x y d e d3 : D} {r : Res D}
theorem e_bin {p : F2} (h1 : f1 s = .ok x) (h2 : f2 s = .ok y) (k : p x y = r) : fBin p f1 f2 s = r := by
  unfold fBin
  rw [h1]
  show (f2 s).bind _ = r
  rw [h2]
  exact k
theorem e_andT (h1 : f1 s = .ok (.bl true)) (k : f2 s = r) : fAnd f1 f2 s = r := by
  unfold fAnd
  rw [h1]
  exact k
theorem e_ifF {ft : FT} {a b : FS} {r : Res Fl} (h : ft s = .ok false) (k : b s = r) : zIf ft a b s = r := by
  unfold zIf sx
  rw [h]
  exact k
theorem e_ifT {ft : FT} {a b : FS} {r : Res Fl} (h : ft s = .ok true) (k : a s = r) : zIf ft a b s = r := by
  unfold zIf sx
  rw [h]
  exact k
theorem e_val {b : Bool} (h : f1 s = .ok (.bl b)) : fVal f1 s = .ok b := by
  unfold fVal
  rw [h]
  rfl
theorem e_truB {b : Bool} (h : f1 s = .ok (.bl b)) : fTru f1 s = .ok b := by
  unfold fTru
  rw [h]
  rfl
theorem e_notT {ft : FT} {b : Bool} (h : ft s = .ok b) : fNotT ft s = .ok !b := by
  unfold fNotT
  rw [h]
  rfl
theorem e_orF {ft fu : FT} {r : Res Bool} (h : ft s = .ok false) (k : fu s = r) : fOrT ft fu s = r := by
  unfold fOrT
  rw [h]
  exact k
theorem e_andF {ft fu : FT} (h : ft s = .ok false) : fAndT ft fu s = .ok false := by
  unfold fAndT
  rw [h]
  rfl
theorem e_andTT {ft fu : FT} {r : Res Bool} (h : ft s = .ok true) (k : fu s = r) : fAndT ft fu s = r := by
  unfold fAndT
  rw [h]
  exact k
theorem e_call1 {g : FW} {dfl : List D} (h1 : f1 s = .ok x) (k : g (x :: dfl) = r) : fCall g dfl (fCons f1 fNil) s = r := by
  unfold fCall fCons
  rw [h1]
  exact k
theorem e_call2 {g : FW} {dfl : List D} (h1 : f1 s = .ok x) (h2 : f2 s = .ok y) (k : g (x :: y :: dfl) = r) : fCall g dfl (fCons f1 (fCons f2 fNil)) s = r := by
  unfold fCall fCons
  rw [h1]
  show ((fCons f2 fNil s).bind _).bind _ = r
  unfold fCons
  rw [h2]
  exact k
theorem e_call3 {g : FW} {dfl : List D} (h1 : f1 s = .ok x) (h2 : f2 s = .ok y) (h3 : f3 s = .ok d) (k : g (x :: y :: d :: dfl) = r) : fCall g dfl (fCons f1 (fCons f2 (fCons f3 fNil))) s = r := by
  unfold fCall fCons
  rw [h1]
  show ((fCons f2 (fCons f3 fNil) s).bind _).bind _ = r
  unfold fCons
  rw [h2]
  show (((fCons f3 fNil s).bind _).bind _).bind _ = r
  unfold fCons
  rw [h3]
  exact k
theorem le_b {i j : Int} : pLe (.int i) (.int j) = .ok (.bl (decide (i ≤ j))) := rfl
theorem lt_b {i j : Int} : pLt (.int i) (.int j) = .ok (.bl (decide (i < j))) := rfl
theorem ge_b {i j : Int} : pGe (.int i) (.int j) = .ok (.bl (decide (j ≤ i))) := rfl
theorem gt_b {i j : Int} : pGt (.int i) (.int j) = .ok (.bl (decide (j < i))) := rfl
theorem le_t {i j : Int} (h : i ≤ j) : pLe (.int i) (.int j) = .ok (.bl true) := by rw [le_b, decide_eq_true h]
theorem lt_t {i j : Int} (h : i < j) : pLt (.int i) (.int j) = .ok (.bl true) := by rw [lt_b, decide_eq_true h]
theorem lt_f {i j : Int} (h : ¬ i < j) : pLt (.int i) (.int j) = .ok (.bl false) := by rw [lt_b, decide_eq_false h]
theorem e_m1 {kf : Str → D → Res D} {z : Str} (h1 : f1 s = .ok (.str z)) (h2 : f2 s = .ok d) (k : kf z d = r) : fM1 kf f1 f2 s = r := by
  unfold fM1
  rw [h1]
  show (f2 s).bind _ = r
  rw [h2]
  exact k
theorem e_zApp {i : Nat} {xs : List D} (h0 : s[i]? = some (.own xs)) (h : f1 s = .ok d) (hl : xs.length < sizeLine) : zApp i f1 s = .ok (.nx (s.set i (.own (xs ++ [d])))) := by
  unfold zApp
  rw [h0]
  show sx s (f1 s) _ = _
  unfold sx
  rw [h]
  exact need_pos hl
theorem e_ifET {ft : FT} (h : ft s = .ok true) (k : f1 s = r) : fIfE ft f1 f2 s = r := by
  unfold fIfE
  rw [h]
  exact k
theorem e_ifEF {ft : FT} (h : ft s = .ok false) (k : f2 s = r) : fIfE ft f1 f2 s = r := by
  unfold fIfE
  rw [h]
  exact k
end
section
variable {c : FC} {f1 f2 : FE} {s : List Sl} {x y : D} {r : Res D}
theorem e_b1 (h1 : f1 s = .ok x) (k : c [x] = r) : fB c (fCons f1 fNil) s = r := by
  unfold fB fCons
  rw [h1]
  exact k
theorem e_b2 (h1 : f1 s = .ok x) (h2 : f2 s = .ok y) (k : c [x, y] = r) : fB c (fCons f1 (fCons f2 fNil)) s = r := by
  unfold fB fCons
  rw [h1]
  show ((fCons f2 fNil s).bind _).bind _ = r
  unfold fCons
  rw [h2]
  exact k
end
noncomputable def revSR : D → Res D
  | .str z => need (z.length ≤ sizeLine) (.ok (.str (revStr z)))
  | _ => .bad
noncomputable def fRevS (f : FE) (s : List Sl) : Res D := (f s).bind revSR
theorem e_revS {z : Str} : revSR (.str z) = need (z.length ≤ sizeLine) (.ok (.str (revStr z))) := rfl
theorem e_ixO_scr {tbl : Nat → Option FW} {ns : List Int} {y : D} : ixF tbl (.scr ns) y = pIx (.scr ns) y := rfl
theorem wp_ex {α : Type} {r : Res α} {P Q : α → Prop} {E : QX} (h : ∃ a, r = .ok a ∧ P a) (k : ∀ a, P a → Q a) : r.wp Q E := by
  obtain ⟨a, e, p⟩ := h
  rw [e]
  exact k a p
def fFldI (i c : Nat) (f : Str) (s : List Sl) : Res D := match s[i]? with
  | some (.ini c' fs) => if c' = c then optR (fs.lookup f) else .bad
  | _ => .bad
theorem m_FldI (i c : Nat) (f : Str) : SimE (fFldI i c f) (dFldI i c f) := by
  intro s Q E h
  unfold fFldI at h
  unfold dFldI
  split at h
  · rename_i c' fs e
    try rw [e]
    try dsimp only
    by_cases z : c' = c
    · rw [if_pos z] at h
      obtain ⟨d, ed, q⟩ := wp_optR.mp h
      exact ⟨z, d, ed, q⟩
    · rw [if_neg z] at h
      exact h.elim
  · exact h.elim
theorem e_fldI {i c : Nat} {f : Str} {s : List Sl} {fs : List (Str × D)} {d : D} (h : s[i]? = some (.ini c fs)) (e : fs.lookup f = some d) : fFldI i c f s = .ok d := by
  unfold fFldI
  rw [h]
  show (if c = c then optR (fs.lookup f) else .bad) = _
  rw [if_pos rfl, e]
  rfl
theorem e_fini {c n m : Nat} {f : FS} {ds : List D} {fs : List (Str × D)} {s : List Sl} (hn : ds.length = n) (h : f (.ini c [] :: startD m ds) = .ok (.nx (.ini c fs :: s))) : fIni c n m f ds = .ok fs := by
  unfold fIni
  rw [need_pos hn, h]
  exact if_pos rfl
theorem e_zFld {c i : Nat} {x : Str} {f : FE} {s : List Sl} {fs : List (Str × D)} {d : D} (h0 : s[i]? = some (.ini c fs)) (h : f s = .ok d) (n : (fs.any fun q => q.1 == x) = false) (l : fs.length < 900) : zFld c i x f s = .ok (.nx (s.set i (.ini c (fs ++ [(x, d)])))) := by
  unfold zFld
  rw [h0]
  show need (c = c) (sx s (f s) _) = _
  rw [need_pos rfl]
  unfold sx
  rw [h]
  show need ((fs.any fun q => q.1 == x) = false ∧ fs.length < 900) _ = _
  rw [need_pos ⟨n, l⟩]
theorem e_tg {tg : Tg} {f : FE} {s s1 : List Sl} {d : D} (h : f s = .ok d) (e : setTF tg d s = some s1) : zTg tg f s = .ok (.nx s1) := by
  unfold zTg sx
  rw [h]
  show (optR (setTF tg d s)).bind _ = _
  rw [e]
  rfl
section
variable {f1 f2 f3 f4 : FE} {s : List Sl} {x y z u : D} {r : Res D} {g : FW}
theorem e_args1 (h1 : f1 s = .ok x) : fCons f1 fNil s = .ok [x] := by
  unfold fCons
  rw [h1]
  rfl
theorem e_args2 (h1 : f1 s = .ok x) (h2 : f2 s = .ok y) : fCons f1 (fCons f2 fNil) s = .ok [x, y] := by
  have := e_args1 h2
  show (f1 s).bind _ = _
  rw [h1]
  show (fCons f2 fNil s).bind _ = _
  rw [this]
  rfl
theorem e_args3 (h1 : f1 s = .ok x) (h2 : f2 s = .ok y) (h3 : f3 s = .ok z) : fCons f1 (fCons f2 (fCons f3 fNil)) s = .ok [x, y, z] := by
  have := e_args2 h2 h3
  show (f1 s).bind _ = _
  rw [h1]
  show (fCons f2 (fCons f3 fNil) s).bind _ = _
  rw [this]
  rfl
end
end Dl
set_option Elab.async false
set_option linter.all false
set_option maxRecDepth 100000
set_option maxHeartbeats 400000
namespace Dl
open PySem PySem.Spec L2 Res
end Dl
set_option Elab.async false
set_option linter.all false
set_option maxRecDepth 100000
set_option maxHeartbeats 400000
namespace Dl
open PySem PySem.Spec L2 Res
section
variable {f f1 f2 f3 : FE} {s s1 s2 s3 : List Sl} {d x y z : D} {c k : Nat} {g : FW} {fs : List D} {tbl : Nat → Option FW} {tg : Tg} {body : FS}
theorem e_zDropX (h : f s = .exc k x) : zDrop f s = .ok (.ex k x s) := by
  unfold zDrop sx
  rw [h]
  rfl
theorem e_zAsgX {i : Nat} (h : f s = .exc k x) : zAsg i f s = .ok (.ex k x s) := by
  unfold zAsg sx
  rw [h]
  rfl
theorem e_zRaise (h : f s = .ok x) : zRaise k f s = .ok (.ex k x s) := by
  unfold zRaise sx
  rw [h]
  rfl
theorem e_cons {r : FA} {xs : List D} (h : f s = .ok x) (hr : r s = .ok xs) : fCons f r s = .ok (x :: xs) := by
  unfold fCons
  rw [h]
  show (r s).bind _ = _
  rw [hr]
  rfl
theorem e_nil : fNil s = .ok [] := rfl
theorem e_lst {fa : FA} {xs : List D} (h : fa s = .ok xs) (l : xs.length ≤ 1000) : fLst fa s = .ok (.lst xs) := by
  unfold fLst
  rw [h]
  exact need_pos (szL (by omega))
theorem e_tup {fa : FA} {xs : List D} (h : fa s = .ok xs) (l : xs.length ≤ 1000) : fTup fa s = .ok (.tup xs) := by
  unfold fTup
  rw [h]
  exact need_pos (szL (by omega))
theorem e_jVal {xs : List D} (h : f s = .ok (.lst xs)) : jVal f s = .ok xs := by
  unfold jVal
  rw [h]
  rfl
theorem e_add_L {xs ys : List D} (h1 : f1 s = .ok (.lst xs)) (h2 : f2 s = .ok (.lst ys)) (l : xs.length + ys.length ≤ 1000) : fBin pAdd f1 f2 s = .ok (.lst (xs ++ ys)) := e_bin h1 h2 (by rw [e_add_l, need_pos (szL (by omega))])
theorem e_andB (h : f1 s = .ok (.bl false)) : fAnd f1 f2 s = .ok (.bl false) := by
  unfold fAnd
  rw [h]
  rfl
theorem e_orT {ft fu : FT} (h : ft s = .ok true) : fOrT ft fu s = .ok true := by
  unfold fOrT
  rw [h]
  rfl
theorem e_xf {i : Nat} {cs : Nat → Bool} (h : s[i]? = some (.exc k x)) (e : cs k = true) : fXf i cs s = .ok x := by
  unfold fXf
  rw [h]
  dsimp only
  rw [if_pos e]
theorem e_for_ex {ds : List D} (e : setTF tg d s = some s1) (h : body s1 = .ok (.ex k x s2)) : forF tg body (d :: ds) s = .ok (.ex k x s2) := by
  show (optR (setTF tg d s)).bind _ = _
  rw [e]
  show (body s1).bind _ = _
  rw [h]
  rfl
end
end Dl
set_option Elab.async false
set_option linter.all false
set_option maxRecDepth 100000
set_option maxHeartbeats 400000
namespace Dl
open PySem PySem.Spec L2 Res
end Dl
set_option Elab.async false
set_option linter.all false
set_option maxRecDepth 100000
set_option maxHeartbeats 400000
namespace Dl
open PySem PySem.Spec L2 Res
inductive VS (K : PySem.W.Frag) (ct : CT) (H : Hp) : List Sl → St → Prop
  | nil : VS K ct H [] []
  | un {o : Option V} {ds : List Sl} {σ : St} (r : VS K ct H ds σ) : VS K ct H (.un :: ds) (o :: σ)
  | v {d : D} {v : V} {ds : List Sl} {σ : St} (h : Rep K ct H (fun _ => False) d v) (r : VS K ct H ds σ) : VS K ct H (.v d :: ds) (some v :: σ)
section
variable {K : PySem.W.Frag} {ct : CT} {H H' : Hp} {ds : List Sl} {σ : St} {W : WX}
theorem VS.len (h : VS K ct H ds σ) : ds.length = σ.length := by
  induction h with
  | nil => rfl
  | un _ ih => exact congrArg Nat.succ ih
  | v _ _ ih => exact congrArg Nat.succ ih
theorem VS.at_ (h : VS K ct H ds σ) : ∀ (i : Nat) (s : Sl), ds[i]? = some s → ∃ o, σ[i]? = some o ∧ SlOk K ct H (fun _ => False) 0 s o := by
  induction h with
  | nil =>
    intro i s e
    simp at e
  | un _ ih =>
    intro i s e
    cases i with
    | zero =>
      have e' := Option.some.inj e
      subst e'
      exact ⟨_, rfl, trivial⟩
    | succ i => exact ih i s (by simpa using e)
  | v h _ ih =>
    intro i s e
    cases i with
    | zero =>
      have e' := Option.some.inj e
      subst e'
      exact ⟨_, rfl, _, rfl, h⟩
    | succ i => exact ih i s (by simpa using e)
theorem VS.e (h : VS K ct H ds σ) : StE K ct H (fun _ => False) (fun _ => 0) ds σ := ⟨h.len, h.at_, fun _ z => z.elim⟩
theorem VS.same (s : Same H H') (h : VS K ct H ds σ) : VS K ct H' ds σ := by
  induction h with
  | nil => exact .nil
  | un _ ih => exact .un ih
  | v h _ ih => exact .v (h.same s) ih
end
/-- a comprehension, by its source and its walk -/
theorem e_lc {it : List Sl → Res (List D)} {tg : Tg} {ft : FT} {fe : FE} {own : List Nat} {s : List Sl} {xs ys : List D} (h : it s = .ok xs) (l : xs.length ≤ 1000000) (k : compF tg ft fe (wipeD s own) xs = .ok ys) : fLc it tg ft fe own s = .ok (.lst ys) := by
  unfold fLc
  rw [h]
  show need _ _ = _
  rw [need_pos (szL (by omega)), k]
  rfl
end Dl
set_option Elab.async false
set_option linter.all false
set_option maxRecDepth 100000
set_option maxHeartbeats 400000
namespace Dl
open PySem PySem.Spec L2 Res
end Dl
set_option Elab.async false
set_option linter.all false
set_option maxRecDepth 100000
set_option maxHeartbeats 400000
namespace Dl
open PySem PySem.Spec L2 Res
end Dl
set_option Elab.async false
set_option linter.all false
set_option maxRecDepth 100000
set_option maxHeartbeats 400000
namespace Dl
open PySem PySem.Spec L2 Res
theorem e_zOwn {i : Nat} {fa : FA} {s : List Sl} {xs : List D} (h : fa s = .ok xs) (l : xs.length ≤ 1000000) : zOwn i fa s = .ok (.nx (s.set i (.own xs))) := by
  unfold zOwn sx
  rw [h]
  exact need_pos (szL (by omega))
end Dl
set_option Elab.async false
set_option linter.all false
set_option maxRecDepth 100000
set_option maxHeartbeats 400000
namespace Dl
open PySem PySem.Spec L2 Res
end Dl
set_option Elab.async false
set_option linter.all false
set_option maxRecDepth 100000
set_option maxHeartbeats 400000
namespace Dl
open PySem PySem.Spec L2 Res
end Dl
set_option Elab.async false
set_option linter.all false
set_option maxRecDepth 100000
set_option maxHeartbeats 400000
namespace Dl
open PySem PySem.Spec L2 Res
end Dl
set_option Elab.async false
set_option linter.all false
set_option maxRecDepth 100000
set_option maxHeartbeats 400000
namespace Dl
open PySem PySem.Spec L2 Res
end Dl
set_option Elab.async false
set_option linter.all false
set_option maxRecDepth 100000
set_option maxHeartbeats 400000
namespace Dl
open PySem PySem.Spec L2 Res
end Dl
set_option Elab.async false
set_option linter.all false
set_option maxRecDepth 100000
set_option maxHeartbeats 400000
namespace Dl
open PySem PySem.Spec L2 Res
end Dl
set_option Elab.async false
set_option linter.all false
set_option maxRecDepth 100000
set_option maxHeartbeats 400000
namespace Dl
open PySem PySem.Spec L2 Res
end Dl
set_option Elab.async false
set_option linter.all false
set_option maxRecDepth 100000
set_option maxHeartbeats 400000
namespace Dl
open PySem PySem.Spec L2 Res
noncomputable def gStr1 : List D → Res D
  | [.int i] => need (i.natAbs.log2 < 1920) (.ok (.str (toString i)))
  | _ => .bad
theorem m_str1 : SimC gStr1 bStr1 := by
  intro ds Q E h
  unfold gStr1 at h
  unfold bStr1
  split at h
  · exact wp_need.mp h
  · exact h.elim
noncomputable def gIntT : List D → Res D
  | [.str a] => (optR (PySem.intText? a)).bind fun n => need (a.length ≤ 640) (.ok (.int n))
  | _ => .bad
theorem m_intT : SimC gIntT bIntT := by
  intro ds Q E h
  unfold gIntT at h
  unfold bIntT
  split at h
  · obtain ⟨n, e, q⟩ := wp_optR.mp (wp_bind.mp h)
    obtain ⟨a, b⟩ := wp_need.mp q
    exact ⟨n, e, a, b⟩
  · exact h.elim
noncomputable def kPart (z : Str) : D → Res D
  | .str y => need ((y.length == 0) = false ∧ z.length ≤ sizeLine) (.ok (.tup [.str (Txt.partition z y).1, .str (Txt.partition z y).2.1, .str (Txt.partition z y).2.2]))
  | _ => .bad
theorem m_part : SimM kPart cPart := fun z d Q E h => by
  cases d with
  | str y =>
    obtain ⟨⟨a, b⟩, q⟩ := wp_need.mp h
    exact ⟨a, b, q⟩
  | _ => exact h.elim
theorem e_str1 {i : Int} (h : i.natAbs.log2 < 1920) : gStr1 [.int i] = .ok (.str (toString i)) := need_pos h
theorem e_intT {a : Str} {n : Int} (h : PySem.intText? a = some n) (l : a.length ≤ 640) : gIntT [.str a] = .ok (.int n) := by
  show (optR (PySem.intText? a)).bind _ = _
  rw [h]
  exact need_pos l
theorem e_part {z y : Str} (h : (y.length == 0) = false) (l : z.length ≤ sizeLine) : kPart z (.str y) = .ok (.tup [.str (Txt.partition z y).1, .str (Txt.partition z y).2.1, .str (Txt.partition z y).2.2]) := need_pos ⟨h, l⟩
end Dl
set_option Elab.async false
set_option linter.all false
set_option maxRecDepth 100000
set_option maxHeartbeats 400000
namespace Dl
open PySem PySem.Spec L2 Res
def enumKR (k : Nat) : List D → Res (List D)
  | [.lst xs] => .ok (numbered k xs)
  | _ => .bad
def jEnumK (k : Nat) (f : FA) (s : List Sl) : Res (List D) := (f s).bind (enumKR k)
theorem m_iEnumK (k : Nat) {fa : FA} {ta : TDA} (ha : SimA fa ta) : SimI (jEnumK k fa) (iEnumK k ta) := fun s Q E h => ha s _ E (wp_mono (fun x hx => by
  unfold enumKR at hx
  split at hx
  · exact hx
  · exact hx.elim) (fun _ _ z => z) (wp_bind.mp h))
theorem e_enumK {k : Nat} {f : FE} {s : List Sl} {xs : List D} (h : f s = .ok (.lst xs)) : jEnumK k (fCons f fNil) s = .ok (numbered k xs) := by
  unfold jEnumK fCons fNil
  rw [h]
  rfl
end Dl
set_option Elab.async false
set_option linter.all false
set_option maxRecDepth 100000
set_option maxHeartbeats 400000
namespace Dl
open PySem PySem.Spec L2 Res
end Dl
set_option Elab.async false
set_option linter.all false
set_option maxRecDepth 100000
set_option maxHeartbeats 400000
namespace Dl
open PySem PySem.Spec L2 Res
end Dl
set_option Elab.async false
set_option linter.all false
set_option maxRecDepth 100000
set_option maxHeartbeats 400000
namespace Dl
open PySem PySem.Spec L2 Res
end Dl
set_option Elab.async false
set_option linter.all false
set_option maxRecDepth 100000
set_option maxHeartbeats 400000
namespace Dl
def sg (x : Nat) : Prop := x ≠ 46 ∧ x ≠ 48
def RR (x y : Nat) : Prop := (x = 46 ∨ y ≠ 46) ∧ (sg x → sg y)
inductive Le : List Nat → List Nat → Prop where
  | nil : Le [] []
  | cons {x y : Nat} {xs ys : List Nat} : RR x y → Le xs ys → Le (x :: xs) (y :: ys)
theorem Le.len {a b : List Nat} (h : Le a b) : a.length = b.length := by
  induction h with
  | nil => rfl
  | cons _ _ ih => simp [ih]
theorem Le.drop {a b : List Nat} (h : Le a b) : ∀ n, Le (a.drop n) (b.drop n) := by
  induction h with
  | nil => intro n; simp; exact .nil
  | cons r h ih =>
    intro n
    cases n with
    | zero => exact .cons r h
    | succ n => exact ih n
theorem Le.take {a b : List Nat} (h : Le a b) : ∀ n, Le (a.take n) (b.take n) := by
  induction h with
  | nil => intro n; simp; exact .nil
  | cons r h ih =>
    intro n
    cases n with
    | zero => exact .nil
    | succ n => exact .cons r (ih n)
theorem Le.app {a b c d : List Nat} (h : Le a b) (k : Le c d) : Le (a ++ c) (b ++ d) := by
  induction h with
  | nil => exact k
  | cons r _ ih => exact .cons r ih
theorem Le.at_ {a b : List Nat} (h : Le a b) : ∀ {i x y : Nat}, a[i]? = some x → b[i]? = some y → RR x y := by
  induction h with
  | nil => intro i x y e; simp at e
  | cons r h ih =>
    intro i x y e1 e2
    cases i with
    | zero =>
      simp at e1 e2
      subst e1 e2
      exact r
    | succ i => exact ih (by simpa using e1) (by simpa using e2)
theorem Le.dots {a b : List Nat} (h : Le a b) (s : b.all (· == 46) = true) : a.all (· == 46) = true := by
  induction h with
  | nil => exact s
  | cons r _ ih =>
    rw [List.all_cons, Bool.and_eq_true] at s ⊢
    refine ⟨?_, ih s.2⟩
    have e := s.1
    simp at e ⊢
    rcases r.1 with z | z
    · exact z
    · exact absurd e z
theorem Le.fill {a b : List Nat} (h : Le a b) : Le (filledL a) (filledL b) := by
  unfold filledL
  induction h with
  | nil => exact .nil
  | cons r h ih =>
    rename_i x y xs ys
    refine .cons ?_ ih
    show RR (if x = 46 then 48 else x) (if y = 46 then 48 else y)
    unfold RR sg at *
    split <;> split <;> omega
theorem Le.alldot {a b : List Nat} (s : a.all (· == 46) = true) (h : a.length = b.length) : Le a b := by
  induction a generalizing b with
  | nil =>
    cases b with
    | nil => exact .nil
    | cons y ys => simp at h
  | cons x xs ih =>
    cases b with
    | nil => simp at h
    | cons y ys =>
      rw [List.all_cons, Bool.and_eq_true] at s
      refine .cons ?_ (ih s.2 (by simpa using h))
      have e := s.1
      simp at e
      unfold RR sg
      omega
theorem Le.kept {a b : List Nat} (h : Le a b) : Le (keptL a) (keptL b) := by
  unfold keptL
  by_cases s : a.all (· == 46) = true
  · rw [if_pos s]
    refine Le.alldot s ?_
    split
    · exact h.len
    · rw [filled_len]; exact h.len
  · rw [if_neg s, if_neg fun z => s (h.dots z)]
    exact h.fill
end Dl
set_option Elab.async false
set_option linter.all false
set_option maxRecDepth 100000
set_option maxHeartbeats 400000
namespace Dl
end Dl
set_option Elab.async false
set_option linter.all false
set_option maxRecDepth 100000
set_option maxHeartbeats 400000
namespace Dl
/-- each write fits -/
def fitW (L : Nat) (ws : List (Nat × List Nat)) : Prop := ∀ w ∈ ws, w.1 + w.2.length ≤ L
theorem fitW.take {L : Nat} {ws : List (Nat × List Nat)} (h : fitW L ws) (k : Nat) : fitW L (ws.take k) := fun w hw => h w (List.mem_of_mem_take hw)
end Dl
set_option Elab.async false
set_option linter.all false
set_option maxRecDepth 100000
namespace Dl
open PySem
def digB (c : Nat) : Bool := decide (48 ≤ c) && decide (c ≤ 57)
/-- the number with these figures, if they are written as numbers are -/
def numO (d : List Nat) : Option Nat := if d.all digB && !d.isEmpty && !(d.headD 0 == 48 && decide (1 < d.length)) then some (NumText.digitsVal d) else none
/-- what stands ahead of the first blank, and behind it -/
def cutL (l : List Nat) : List Nat × List Nat := match TL.par [32] [] l with
  | some (p, q) => (p, q)
  | none => (l, [])
theorem cut_at {p q : List Nat} (h : 32 ∉ p) : cutL (p ++ 32 :: q) = (p, q) := by
  unfold cutL
  have := SX.par_head (sep := []) (p := p) q h
  rw [show p ++ 32 :: q = p ++ ([32] ++ q) from rfl, this]
def wFull : List Nat := [102, 117, 108, 108]
def wKeep : List Nat := [107, 101, 101, 112]
def wLean : List Nat := [108, 101, 97, 110]
def wDig : List Nat := [100, 105, 103]
/-- kind and size of the step with this line -/
def stepO (l : List Nat) : Option (Nat × Nat) := if l = wFull then some (0, 0) else match numO (cutL l).2 with
  | none => none
  | some n => if n = 0 then none else if (cutL l).1 = wKeep then some (1, n) else if (cutL l).1 = wLean then some (2, n) else if (cutL l).1 = wDig then some (3, n) else none
def digs (n : Nat) : List Nat := if n < 10 then [48 + n] else [48 + n / 10, 48 + n % 10]
theorem str_digs : ∀ n, n < 100 → Str.ofString (toString ((n : Nat) : Int)) = SX.S (digs n) := by decide +kernel
theorem str_m1 : Str.ofString (toString ((-1 : Int))) = SX.S [45, 49] := by decide +kernel
def goodS : List (List Nat) := wFull :: ([wKeep, wLean, wDig].flatMap fun w => (List.range 30).map fun n => w ++ 32 :: digs (n + 1))
def cds (s : String) : List Nat := (Str.ofString s).cps.toList
theorem cds_S (s : String) : SX.S (cds s) = Str.ofString s := SX.S_tl _
def badS0 : List String := ["", " ", "Full", "full ", " full", "full 1", "ful", "keep", "keep ", "keep 0", "keep 04"] ++ ["keep -1", "keep +1", "keep  4", "keep 4 ", " keep 4", "keep 4.0", "keep a", "Keep 4"] ++ ["kepp 4", "lean", "lean 0", "dig 00", "dig", "dig 1 2", "dig 1,2", "lean_4", "keep4"] ++ ["lean 04", "dig 1_0", "dig 04", "lean +4", "lean -4", "dig 0", "dig ", "lean "] ++ ["4 keep", "keep 1_0"]
theorem good_ok : ∀ l ∈ goodS, (stepO l).isSome = true ∧ 10 ∉ l ∧ l.length ≤ 20 ∧ l ≠ [] := by decide +kernel
theorem bad_ok : ∀ s ∈ badS0, stepO (cds s) = none ∧ 10 ∉ cds s ∧ (cds s).length ≤ 20 := by decide +kernel
theorem bad_more : ∀ l ∈ goodS, (stepO (l ++ [32]) = none ∧ stepO (l ++ [120]) = none) ∧ stepO (32 :: l) = none := by decide +kernel
def celB (c : Nat) : Bool := c == 48 || (decide (97 ≤ c) && decide (c ≤ 122))
/-- the write with this line fits so many cells -/
def fitO (size : Nat) (l : List Nat) : Bool := match numO (cutL l).1 with
  | none => false
  | some n => (cutL l).2.all celB && decide (1 ≤ (cutL l).2.length) && decide (n + (cutL l).2.length ≤ size)
theorem digs_ok : ∀ n, n < 100 → numO (digs n) = some n ∧ 32 ∉ digs n ∧ 10 ∉ digs n ∧ (digs n).length ≤ 2 := by decide +kernel
theorem fit_good {size b : Nat} {t : List Nat} (hb : b < 100) (ht : t.all celB = true) (h1 : 1 ≤ t.length) (h2 : b + t.length ≤ size) : fitO size (digs b ++ 32 :: t) = true := by
  obtain ⟨d1, d2, _⟩ := digs_ok b hb
  unfold fitO
  rw [cut_at d2, d1]
  show (t.all celB && decide (1 ≤ t.length) && decide (b + t.length ≤ size)) = true
  rw [ht, decide_eq_true h1, decide_eq_true h2]
  rfl
def badW (size : Nat) : List (List Nat) := (["", " ", "a", "0", "0 ", "0  a", " 0 a", "0 a ", "00 a", "01 a", "-1 a", "+0 a", "0 ."].map cds ++ ["0 A", "0 a.", "0 a b"].map cds ++ [digs size ++ cds " a", cds "0 " ++ List.replicate (size + 1) 97] ++ ["a 0", "0a", "0=a"].map cds) ++ [(if size = 0 then [45, 49] else digs (size - 1)) ++ cds " aa", digs size ++ cds " aa"] ++ (["0,a", "0 -", "0 1", "1_0 a", "0.0 a"].map cds ++ [List.replicate 40 57 ++ cds " a"])
theorem badW_ok : ∀ n, n < 13 → ∀ l ∈ badW n, fitO n l = false ∧ 10 ∉ l ∧ l.length ≤ 60 := by decide +kernel
theorem join_len {m : Nat} : ∀ {l : List (List Nat)}, (∀ p ∈ l, p.length ≤ m) → (TL.joinL [10] l).length ≤ l.length * (m + 1)
  | [], _ => Nat.zero_le _
  | [p], h => by
    have := h p List.mem_cons_self
    show p.length ≤ 1 * (m + 1)
    omega
  | p :: q :: r, h => by
    have h1 := h p List.mem_cons_self
    have h2 := join_len (l := q :: r) fun x hx => h x (List.mem_cons_of_mem _ hx)
    show (p ++ ([10] ++ TL.joinL [10] (q :: r))).length ≤ (q :: r).length.succ * (m + 1)
    rw [List.length_append, List.length_append, Nat.succ_mul]
    show p.length + (1 + _) ≤ _
    omega
theorem join_snoc : ∀ {l : List (List Nat)}, l ≠ [] → TL.joinL [10] l ++ [10] = TL.joinL [10] (l ++ [[]])
  | [], h => absurd rfl h
  | [p], _ => rfl
  | p :: q :: r, _ => by
    have := join_snoc (l := q :: r) (List.cons_ne_nil _ _)
    show (p ++ ([10] ++ TL.joinL [10] (q :: r))) ++ [10] = p ++ ([10] ++ TL.joinL [10] ((q :: r) ++ [[]]))
    rw [← this, List.append_assoc, List.append_assoc]
theorem lines_of {l : List (List Nat)} (h : l ≠ []) (hn : ∀ p ∈ l, 10 ∉ p) : TL.spl [10] 0 [] (TL.joinL [10] l) = l := SX.spl_join h hn
end Dl
set_option Elab.async false
set_option linter.all false
set_option maxRecDepth 100000
set_option maxHeartbeats 4000000
namespace K81
open PySem PySem.Spec L2 Dl Dl.Hd
theorem subT_ok : ∀ c c' b, subT c c' = some b → c < cn.length ∧ c' < cn.length ∧ (subT c c).isSome = true := by
  intro c c' b h
  unfold subT at h
  split at h
  · rename_i hc
    obtain ⟨h1, h2⟩ := hc
    have e1 : ∀ x ∈ ([7, 8, 9, 10, 11, 12, 13, 14] : List Nat), x < cn.length := by decide
    refine ⟨e1 _ h1, e1 _ h2, ?_⟩
    unfold subT
    rw [if_pos ⟨h1, h1⟩] <;> rfl
  · cases h
noncomputable abbrev ct (K : PySem.W.Frag) : CT := ctK cn nm K
abbrev T0 : EqT := fun _ => none
theorem isiK {K : PySem.W.Frag} (c : Says fa fn K) : IsiOk K (ct K) subT := isB_ok (cn := cn) (nm := nm) (sub := subT) (K := K) (c.fact 95 rfl) subT_ok
theorem sc0 : FnScope ["self", "value"] ["self", "value"] (defScope s0) := ⟨rfl, rfl, rfl, by decide +kernel, rfl, by decide +kernel, by decide +kernel⟩
theorem ok0 {P : Program} {w : World} {K : PySem.W.Frag} {h : Heap} {mg : Str → Option Value} {base : Heap} (X : K.In h) (G : h.Ns mainGlobals mg) (c : Says fa fn K) : ∃ fd, FnOk P w K mg base (L2.CX P w) 1 (He.ma K (He.ga K "InvalidFile") "__init__") fd ["self", "value"] (spX "value" (He.ga K "InvalidFile")) ∧ PySem.W.keepIn K (.ref (He.ma K (He.ga K "InvalidFile") "__init__")) = true ∧ Binds K fd ["self", "value"] [] := by
  obtain ⟨fd, Fd⟩ := c.fun_ 0 (d := d0) rfl
  obtain ⟨T, _, _, hno, _⟩ := exB_ok (c.fact 80 rfl)
  obtain ⟨ds, rd, b⟩ := FunD.binds1 (ps := ["self", "value"]) Fd 2 1 (by intro z; cases z) rfl (fun _ _ _ _ _ _ _ us its hl hi => match us, hl, its, hi with | [_, _], _, [_], _ => ⟨_, rfl, (by first | rfl | kernel_rfl | with_unfolding_all rfl)⟩)
  cases rd
  exact ⟨fd, fn_x Fd sc0 rfl T hno (Or.inl rfl) (Or.inl rfl) rfl rfl rfl rfl (fun _ => rfl), Fd.kp, b⟩
theorem sc1 : FnScope ["self", "value"] ["self", "value"] (defScope s1) := ⟨rfl, rfl, rfl, by decide +kernel, rfl, by decide +kernel, by decide +kernel⟩
theorem ok1 {P : Program} {w : World} {K : PySem.W.Frag} {h : Heap} {mg : Str → Option Value} {base : Heap} (X : K.In h) (G : h.Ns mainGlobals mg) (c : Says fa fn K) : ∃ fd, FnOk P w K mg base (L2.CX P w) 1 (He.ma K (He.ga K "InvalidNumber") "__init__") fd ["self", "value"] (spX "value" (He.ga K "InvalidNumber")) ∧ PySem.W.keepIn K (.ref (He.ma K (He.ga K "InvalidNumber") "__init__")) = true ∧ Binds K fd ["self", "value"] [] := by
  obtain ⟨fd, Fd⟩ := c.fun_ 1 (d := d1) rfl
  obtain ⟨T, _, _, hno, _⟩ := exB_ok (c.fact 81 rfl)
  obtain ⟨ds, rd, b⟩ := FunD.binds1 (ps := ["self", "value"]) Fd 2 1 (by intro z; cases z) rfl (fun _ _ _ _ _ _ _ us its hl hi => match us, hl, its, hi with | [_, _], _, [_], _ => ⟨_, rfl, (by first | rfl | kernel_rfl | with_unfolding_all rfl)⟩)
  cases rd
  exact ⟨fd, fn_x Fd sc1 rfl T hno (Or.inl rfl) (Or.inl rfl) rfl rfl rfl rfl (fun _ => rfl), Fd.kp, b⟩
theorem sc2 : FnScope ["self", "value"] ["self", "value"] (defScope s2) := ⟨rfl, rfl, rfl, by decide +kernel, rfl, by decide +kernel, by decide +kernel⟩
theorem ok2 {P : Program} {w : World} {K : PySem.W.Frag} {h : Heap} {mg : Str → Option Value} {base : Heap} (X : K.In h) (G : h.Ns mainGlobals mg) (c : Says fa fn K) : ∃ fd, FnOk P w K mg base (L2.CX P w) 1 (He.ma K (He.ga K "InvalidScript") "__init__") fd ["self", "value"] (spX "value" (He.ga K "InvalidScript")) ∧ PySem.W.keepIn K (.ref (He.ma K (He.ga K "InvalidScript") "__init__")) = true ∧ Binds K fd ["self", "value"] [] := by
  obtain ⟨fd, Fd⟩ := c.fun_ 2 (d := d2) rfl
  obtain ⟨T, _, _, hno, _⟩ := exB_ok (c.fact 82 rfl)
  obtain ⟨ds, rd, b⟩ := FunD.binds1 (ps := ["self", "value"]) Fd 2 1 (by intro z; cases z) rfl (fun _ _ _ _ _ _ _ us its hl hi => match us, hl, its, hi with | [_, _], _, [_], _ => ⟨_, rfl, (by first | rfl | kernel_rfl | with_unfolding_all rfl)⟩)
  cases rd
  exact ⟨fd, fn_x Fd sc2 rfl T hno (Or.inl rfl) (Or.inl rfl) rfl rfl rfl rfl (fun _ => rfl), Fd.kp, b⟩
theorem sc3 : FnScope ["self", "value"] ["self", "value"] (defScope s3) := ⟨rfl, rfl, rfl, by decide +kernel, rfl, by decide +kernel, by decide +kernel⟩
theorem ok3 {P : Program} {w : World} {K : PySem.W.Frag} {h : Heap} {mg : Str → Option Value} {base : Heap} (X : K.In h) (G : h.Ns mainGlobals mg) (c : Says fa fn K) : ∃ fd, FnOk P w K mg base (L2.CX P w) 1 (He.ma K (He.ga K "InvalidList") "__init__") fd ["self", "value"] (spX "value" (He.ga K "InvalidList")) ∧ PySem.W.keepIn K (.ref (He.ma K (He.ga K "InvalidList") "__init__")) = true ∧ Binds K fd ["self", "value"] [] := by
  obtain ⟨fd, Fd⟩ := c.fun_ 3 (d := d3) rfl
  obtain ⟨T, _, _, hno, _⟩ := exB_ok (c.fact 83 rfl)
  obtain ⟨ds, rd, b⟩ := FunD.binds1 (ps := ["self", "value"]) Fd 2 1 (by intro z; cases z) rfl (fun _ _ _ _ _ _ _ us its hl hi => match us, hl, its, hi with | [_, _], _, [_], _ => ⟨_, rfl, (by first | rfl | kernel_rfl | with_unfolding_all rfl)⟩)
  cases rd
  exact ⟨fd, fn_x Fd sc3 rfl T hno (Or.inl rfl) (Or.inl rfl) rfl rfl rfl rfl (fun _ => rfl), Fd.kp, b⟩
theorem sc4 : FnScope ["self", "value"] ["self", "value"] (defScope s4) := ⟨rfl, rfl, rfl, by decide +kernel, rfl, by decide +kernel, by decide +kernel⟩
theorem ok4 {P : Program} {w : World} {K : PySem.W.Frag} {h : Heap} {mg : Str → Option Value} {base : Heap} (X : K.In h) (G : h.Ns mainGlobals mg) (c : Says fa fn K) : ∃ fd, FnOk P w K mg base (L2.CX P w) 1 (He.ma K (He.ga K "InvalidWrite") "__init__") fd ["self", "value"] (spX "value" (He.ga K "InvalidWrite")) ∧ PySem.W.keepIn K (.ref (He.ma K (He.ga K "InvalidWrite") "__init__")) = true ∧ Binds K fd ["self", "value"] [] := by
  obtain ⟨fd, Fd⟩ := c.fun_ 4 (d := d4) rfl
  obtain ⟨T, _, _, hno, _⟩ := exB_ok (c.fact 84 rfl)
  obtain ⟨ds, rd, b⟩ := FunD.binds1 (ps := ["self", "value"]) Fd 2 1 (by intro z; cases z) rfl (fun _ _ _ _ _ _ _ us its hl hi => match us, hl, its, hi with | [_, _], _, [_], _ => ⟨_, rfl, (by first | rfl | kernel_rfl | with_unfolding_all rfl)⟩)
  cases rd
  exact ⟨fd, fn_x Fd sc4 rfl T hno (Or.inl rfl) (Or.inl rfl) rfl rfl rfl rfl (fun _ => rfl), Fd.kp, b⟩
theorem sc5 : FnScope ["self", "spot"] ["self", "spot"] (defScope s5) := ⟨rfl, rfl, rfl, by decide +kernel, rfl, by decide +kernel, by decide +kernel⟩
theorem ok5 {P : Program} {w : World} {K : PySem.W.Frag} {h : Heap} {mg : Str → Option Value} {base : Heap} (X : K.In h) (G : h.Ns mainGlobals mg) (c : Says fa fn K) : ∃ fd, FnOk P w K mg base (L2.CX P w) 1 (He.ma K (He.ga K "InvalidText") "__init__") fd ["self", "spot"] (spX "spot" (He.ga K "InvalidText")) ∧ PySem.W.keepIn K (.ref (He.ma K (He.ga K "InvalidText") "__init__")) = true ∧ Binds K fd ["self", "spot"] [] ∧ ∃ ds, Vals ((d5.dvs K).drop 0) ds ∧ Binds K fd ["self", "spot"] ds := by
  obtain ⟨fd, Fd⟩ := c.fun_ 5 (d := d5) rfl
  obtain ⟨T, _, _, hno, _⟩ := exB_ok (c.fact 85 rfl)
  have b0 : ∃ ds, Vals ((d5.dvs K).drop 0) ds ∧ Binds K fd ["self", "spot"] ds := FunD.binds1 (ps := ["self", "spot"]) Fd 1 0 (by intro z; cases z) rfl (fun _ _ _ _ _ _ _ us its hl hi => match us, hl, its, hi with | [_], _, [_], _ => ⟨_, rfl, (by first | rfl | kernel_rfl | with_unfolding_all rfl)⟩)
  obtain ⟨ds, rd, b⟩ := FunD.binds1 (ps := ["self", "spot"]) Fd 2 1 (by intro z; cases z) rfl (fun _ _ _ _ _ _ _ us its hl hi => match us, hl, its, hi with | [_, _], _, [_], _ => ⟨_, rfl, (by first | rfl | kernel_rfl | with_unfolding_all rfl)⟩)
  cases rd
  exact ⟨fd, fn_x Fd sc5 rfl T hno (Or.inl rfl) (Or.inl rfl) rfl rfl rfl rfl (fun _ => rfl), Fd.kp, b, b0⟩
theorem sc8 : FnScope ["self"] ["self"] (defScope s8) := ⟨rfl, rfl, rfl, by decide +kernel, rfl, by decide +kernel, by decide +kernel⟩
def t8 : TDS := (sSeq (sRet (dB bLen (aCons (dFld (fun n => if n = 7 then some 0 else none) (dVar 0)) aNil)))
    sNil)
def w8 : Wf := wfOf 1 1 t8
theorem ok8 {P : Program} {w : World} {K : PySem.W.Frag} {h : Heap} {mg : Str → Option Value} {base : Heap} (X : K.In h) (G : h.Ns mainGlobals mg) (c : Says fa fn K) : ∃ fd, FnOk P w K mg base (L2.CX P w) 1 (d8.adr K) fd ["self"] (spD K (ct K) w8) ∧ PySem.W.keepIn K (.ref (d8.adr K)) = true ∧ (∃ ds, Vals ((d8.dvs K).drop 0) ds ∧ Binds K fd ["self"] ds) := by
  obtain ⟨fd, Fd⟩ := c.fun_ 8 (d := d8) rfl

  have S := sc8
  refine ⟨fd, fn_d Fd S rfl rfl (fun cdv A outer s H E hr => ?_), Fd.kp, ⟨[], .nil, FunD.bindsN Fd fun _ _ _ _ _ _ us hl => match us, hl with | [_], _ => rfl⟩⟩
  exact (ds_cons (ds_ret (de_B cd_len (He.free_ok X G (c.fact 48 rfl)) (da_cons (de_fld (de_v 0) (fun n k h => by
      try dsimp only at h
      split at h
      · rename_i en; subst en; cases h; exact ⟨He.cls_ok (c.fact 54 rfl), He.noat_ok (c.fact 56 rfl), rfl⟩
      cases h)) da_nil)))
    ds_nil)
theorem sc10 : FnScope ["self", "other"] ["self", "other"] (defScope s10) := ⟨rfl, rfl, rfl, by decide +kernel, rfl, by decide +kernel, by decide +kernel⟩
def t10 : TDS := (sSeq (sRet (dAnd (dB (bIsi subT) (aCons (dVar 1) (aCons (dC (.cls 7)) aNil))) (dBin (oEqT T0 1) (dFld (fun n => if n = 7 then some 0 else none) (dVar 0)) (dFld (fun n => if n = 7 then some 0 else none) (dVar 1)))))
    sNil)
def w10 : Wf := wfOf 2 2 t10
theorem ok10 {P : Program} {w : World} {K : PySem.W.Frag} {h : Heap} {mg : Str → Option Value} {base : Heap} (X : K.In h) (G : h.Ns mainGlobals mg) (c : Says fa fn K) : ∃ fd, FnOk P w K mg base (L2.CX P w) 2 (d10.adr K) fd ["self", "other"] (spD K (ct K) w10) ∧ PySem.W.keepIn K (.ref (d10.adr K)) = true ∧ (∃ ds, Vals ((d10.dvs K).drop 0) ds ∧ Binds K fd ["self", "other"] ds) := by
  obtain ⟨fd, Fd⟩ := c.fun_ 10 (d := d10) rfl

  have S := sc10
  refine ⟨fd, fn_d Fd S rfl rfl (fun cdv A outer s H E hr => ?_), Fd.kp, ⟨[], .nil, FunD.bindsN Fd fun _ _ _ _ _ _ us hl => match us, hl with | [_, _], _ => rfl⟩⟩
  exact (ds_cons (ds_ret (de_and (de_B (cd_isi (fun _ => rfl) (isiK c)) (He.free_ok X G (c.fact 47 rfl)) (da_cons (de_v 1) (da_cons (de_gcl (c := 7) (He.glo_ok X G (c.fact 6 rfl))) da_nil))) (de_one (de_cmp (od_eqT (T := T0) (n := 1) (takes_of rfl rfl rfl rfl) (fun _ => rfl) (fun _ _ _ h => by cases h) (fun _ _ h => by cases h) (hr.mono (by decide))) (de_fld (de_v 0) (fun n k h => by
      try dsimp only at h
      split at h
      · rename_i en; subst en; cases h; exact ⟨He.cls_ok (c.fact 54 rfl), He.noat_ok (c.fact 56 rfl), rfl⟩
      cases h)) (de_fld (de_v 1) (fun n k h => by
      try dsimp only at h
      split at h
      · rename_i en; subst en; cases h; exact ⟨He.cls_ok (c.fact 54 rfl), He.noat_ok (c.fact 56 rfl), rfl⟩
      cases h))))))
    ds_nil)
theorem sc13 : FnScope ["self"] ["self"] (defScope s13) := ⟨rfl, rfl, rfl, by decide +kernel, rfl, by decide +kernel, by decide +kernel⟩
def t13 : TDS := (sSeq (sRet (dB bLen (aCons (dFld (fun n => if n = 8 then some 1 else none) (dVar 0)) aNil)))
    sNil)
def w13 : Wf := wfOf 1 1 t13
theorem ok13 {P : Program} {w : World} {K : PySem.W.Frag} {h : Heap} {mg : Str → Option Value} {base : Heap} (X : K.In h) (G : h.Ns mainGlobals mg) (c : Says fa fn K) : ∃ fd, FnOk P w K mg base (L2.CX P w) 1 (d13.adr K) fd ["self"] (spD K (ct K) w13) ∧ PySem.W.keepIn K (.ref (d13.adr K)) = true ∧ (∃ ds, Vals ((d13.dvs K).drop 0) ds ∧ Binds K fd ["self"] ds) := by
  obtain ⟨fd, Fd⟩ := c.fun_ 13 (d := d13) rfl

  have S := sc13
  refine ⟨fd, fn_d Fd S rfl rfl (fun cdv A outer s H E hr => ?_), Fd.kp, ⟨[], .nil, FunD.bindsN Fd fun _ _ _ _ _ _ us hl => match us, hl with | [_], _ => rfl⟩⟩
  exact (ds_cons (ds_ret (de_B cd_len (He.free_ok X G (c.fact 48 rfl)) (da_cons (de_fld (de_v 0) (fun n k h => by
      try dsimp only at h
      split at h
      · rename_i en; subst en; cases h; exact ⟨He.cls_ok (c.fact 59 rfl), He.noat_ok (c.fact 62 rfl), rfl⟩
      cases h)) da_nil)))
    ds_nil)
theorem sc16 : FnScope ["self"] ["self"] (defScope s16) := ⟨rfl, rfl, rfl, by decide +kernel, rfl, by decide +kernel, by decide +kernel⟩
def t16 : TDS := (sSeq sNil
    sNil)
def w16 : Wi := wiOf 10 0 0 t16
theorem ok16 {P : Program} {w : World} {K : PySem.W.Frag} {h : Heap} {mg : Str → Option Value} {base : Heap} (X : K.In h) (G : h.Ns mainGlobals mg) (c : Says fa fn K) : ∃ fd, FnOk P w K mg base (L2.CX P w) 1 (d16.adr K) fd ["self"] (spI K (ct K) 10 w16) ∧ PySem.W.keepIn K (.ref (d16.adr K)) = true ∧ (∃ ds, Vals ((d16.dvs K).drop 0) ds ∧ Binds K fd ["self"] ds) := by
  obtain ⟨fd, Fd⟩ := c.fun_ 16 (d := d16) rfl

  have S := sc16
  refine ⟨fd, fn_i Fd S rfl rfl (fun gh cdv A outer s H E hr => ?_), Fd.kp, ⟨[], .nil, FunD.bindsN Fd fun _ _ _ _ _ _ us hl => match us, hl with | [_], _ => rfl⟩⟩
  exact (ds_cons ds_pass
    ds_nil)
theorem sc17 : FnScope ["self", "other"] ["self", "other"] (defScope s17) := ⟨rfl, rfl, rfl, by decide +kernel, rfl, by decide +kernel, by decide +kernel⟩
def t17 : TDS := (sSeq (sIf (tNotD (tTru (dB (bIsi subT) (aCons (dVar 1) (aCons (dC (.cls 10)) aNil))))) (sSeq (sRet (dC (.bl false)))
    sNil) sNil)
    (sSeq (sRet (dC (.bl true)))
    sNil))
def w17 : Wf := wfOf 2 2 t17
theorem ok17 {P : Program} {w : World} {K : PySem.W.Frag} {h : Heap} {mg : Str → Option Value} {base : Heap} (X : K.In h) (G : h.Ns mainGlobals mg) (c : Says fa fn K) : ∃ fd, FnOk P w K mg base (L2.CX P w) 1 (d17.adr K) fd ["self", "other"] (spD K (ct K) w17) ∧ PySem.W.keepIn K (.ref (d17.adr K)) = true ∧ (∃ ds, Vals ((d17.dvs K).drop 0) ds ∧ Binds K fd ["self", "other"] ds) := by
  obtain ⟨fd, Fd⟩ := c.fun_ 17 (d := d17) rfl

  have S := sc17
  refine ⟨fd, fn_d Fd S rfl rfl (fun cdv A outer s H E hr => ?_), Fd.kp, ⟨[], .nil, FunD.bindsN Fd fun _ _ _ _ _ _ us hl => match us, hl with | [_, _], _ => rfl⟩⟩
  exact (ds_cons (ds_if (dt_not (dt_tru (de_B (cd_isi (fun _ => rfl) (isiK c)) (He.free_ok X G (c.fact 47 rfl)) (da_cons (de_v 1) (da_cons (de_gcl (c := 10) (He.glo_ok X G (c.fact 9 rfl))) da_nil))))) (ds_cons (ds_ret de_bl)
    ds_nil) ds_nil)
    (ds_cons (ds_ret de_bl)
    ds_nil))
theorem sc19 : FnScope ["self", "other"] ["self", "other"] (defScope s19) := ⟨rfl, rfl, rfl, by decide +kernel, rfl, by decide +kernel, by decide +kernel⟩
def t19 : TDS := (sSeq (sRet (dAnd (dB (bIsi subT) (aCons (dVar 1) (aCons (dC (.cls 11)) aNil))) (dBin (oEqT T0 1) (dFld (fun n => if n = 11 then some 0 else if n = 12 then some 0 else if n = 13 then some 0 else none) (dVar 0)) (dFld (fun n => if n = 11 then some 0 else if n = 12 then some 0 else if n = 13 then some 0 else none) (dVar 1)))))
    sNil)
def w19 : Wf := wfOf 2 2 t19
theorem ok19 {P : Program} {w : World} {K : PySem.W.Frag} {h : Heap} {mg : Str → Option Value} {base : Heap} (X : K.In h) (G : h.Ns mainGlobals mg) (c : Says fa fn K) : ∃ fd, FnOk P w K mg base (L2.CX P w) 2 (d19.adr K) fd ["self", "other"] (spD K (ct K) w19) ∧ PySem.W.keepIn K (.ref (d19.adr K)) = true ∧ (∃ ds, Vals ((d19.dvs K).drop 0) ds ∧ Binds K fd ["self", "other"] ds) := by
  obtain ⟨fd, Fd⟩ := c.fun_ 19 (d := d19) rfl

  have S := sc19
  refine ⟨fd, fn_d Fd S rfl rfl (fun cdv A outer s H E hr => ?_), Fd.kp, ⟨[], .nil, FunD.bindsN Fd fun _ _ _ _ _ _ us hl => match us, hl with | [_, _], _ => rfl⟩⟩
  exact (ds_cons (ds_ret (de_and (de_B (cd_isi (fun _ => rfl) (isiK c)) (He.free_ok X G (c.fact 47 rfl)) (da_cons (de_v 1) (da_cons (de_gcl (c := 11) (He.glo_ok X G (c.fact 10 rfl))) da_nil))) (de_one (de_cmp (od_eqT (T := T0) (n := 1) (takes_of rfl rfl rfl rfl) (fun _ => rfl) (fun _ _ _ h => by cases h) (fun _ _ h => by cases h) (hr.mono (by decide))) (de_fld (de_v 0) (fun n k h => by
      try dsimp only at h
      split at h
      · rename_i en; subst en; cases h; exact ⟨He.cls_ok (c.fact 66 rfl), He.noat_ok (c.fact 68 rfl), rfl⟩
      split at h
      · rename_i en; subst en; cases h; exact ⟨He.cls_ok (c.fact 69 rfl), He.noat_ok (c.fact 71 rfl), rfl⟩
      split at h
      · rename_i en; subst en; cases h; exact ⟨He.cls_ok (c.fact 72 rfl), He.noat_ok (c.fact 74 rfl), rfl⟩
      cases h)) (de_fld (de_v 1) (fun n k h => by
      try dsimp only at h
      split at h
      · rename_i en; subst en; cases h; exact ⟨He.cls_ok (c.fact 66 rfl), He.noat_ok (c.fact 68 rfl), rfl⟩
      split at h
      · rename_i en; subst en; cases h; exact ⟨He.cls_ok (c.fact 69 rfl), He.noat_ok (c.fact 71 rfl), rfl⟩
      split at h
      · rename_i en; subst en; cases h; exact ⟨He.cls_ok (c.fact 72 rfl), He.noat_ok (c.fact 74 rfl), rfl⟩
      cases h))))))
    ds_nil)
theorem sc21 : FnScope ["self", "other"] ["self", "other"] (defScope s21) := ⟨rfl, rfl, rfl, by decide +kernel, rfl, by decide +kernel, by decide +kernel⟩
def t21 : TDS := (sSeq (sRet (dAnd (dB (bIsi subT) (aCons (dVar 1) (aCons (dC (.cls 12)) aNil))) (dBin (oEqT T0 1) (dFld (fun n => if n = 11 then some 0 else if n = 12 then some 0 else if n = 13 then some 0 else none) (dVar 0)) (dFld (fun n => if n = 11 then some 0 else if n = 12 then some 0 else if n = 13 then some 0 else none) (dVar 1)))))
    sNil)
def w21 : Wf := wfOf 2 2 t21
theorem ok21 {P : Program} {w : World} {K : PySem.W.Frag} {h : Heap} {mg : Str → Option Value} {base : Heap} (X : K.In h) (G : h.Ns mainGlobals mg) (c : Says fa fn K) : ∃ fd, FnOk P w K mg base (L2.CX P w) 2 (d21.adr K) fd ["self", "other"] (spD K (ct K) w21) ∧ PySem.W.keepIn K (.ref (d21.adr K)) = true ∧ (∃ ds, Vals ((d21.dvs K).drop 0) ds ∧ Binds K fd ["self", "other"] ds) := by
  obtain ⟨fd, Fd⟩ := c.fun_ 21 (d := d21) rfl

  have S := sc21
  refine ⟨fd, fn_d Fd S rfl rfl (fun cdv A outer s H E hr => ?_), Fd.kp, ⟨[], .nil, FunD.bindsN Fd fun _ _ _ _ _ _ us hl => match us, hl with | [_, _], _ => rfl⟩⟩
  exact (ds_cons (ds_ret (de_and (de_B (cd_isi (fun _ => rfl) (isiK c)) (He.free_ok X G (c.fact 47 rfl)) (da_cons (de_v 1) (da_cons (de_gcl (c := 12) (He.glo_ok X G (c.fact 11 rfl))) da_nil))) (de_one (de_cmp (od_eqT (T := T0) (n := 1) (takes_of rfl rfl rfl rfl) (fun _ => rfl) (fun _ _ _ h => by cases h) (fun _ _ h => by cases h) (hr.mono (by decide))) (de_fld (de_v 0) (fun n k h => by
      try dsimp only at h
      split at h
      · rename_i en; subst en; cases h; exact ⟨He.cls_ok (c.fact 66 rfl), He.noat_ok (c.fact 68 rfl), rfl⟩
      split at h
      · rename_i en; subst en; cases h; exact ⟨He.cls_ok (c.fact 69 rfl), He.noat_ok (c.fact 71 rfl), rfl⟩
      split at h
      · rename_i en; subst en; cases h; exact ⟨He.cls_ok (c.fact 72 rfl), He.noat_ok (c.fact 74 rfl), rfl⟩
      cases h)) (de_fld (de_v 1) (fun n k h => by
      try dsimp only at h
      split at h
      · rename_i en; subst en; cases h; exact ⟨He.cls_ok (c.fact 66 rfl), He.noat_ok (c.fact 68 rfl), rfl⟩
      split at h
      · rename_i en; subst en; cases h; exact ⟨He.cls_ok (c.fact 69 rfl), He.noat_ok (c.fact 71 rfl), rfl⟩
      split at h
      · rename_i en; subst en; cases h; exact ⟨He.cls_ok (c.fact 72 rfl), He.noat_ok (c.fact 74 rfl), rfl⟩
      cases h))))))
    ds_nil)
theorem sc23 : FnScope ["self", "other"] ["self", "other"] (defScope s23) := ⟨rfl, rfl, rfl, by decide +kernel, rfl, by decide +kernel, by decide +kernel⟩
def t23 : TDS := (sSeq (sRet (dAnd (dB (bIsi subT) (aCons (dVar 1) (aCons (dC (.cls 13)) aNil))) (dBin (oEqT T0 1) (dFld (fun n => if n = 11 then some 0 else if n = 12 then some 0 else if n = 13 then some 0 else none) (dVar 0)) (dFld (fun n => if n = 11 then some 0 else if n = 12 then some 0 else if n = 13 then some 0 else none) (dVar 1)))))
    sNil)
def w23 : Wf := wfOf 2 2 t23
theorem ok23 {P : Program} {w : World} {K : PySem.W.Frag} {h : Heap} {mg : Str → Option Value} {base : Heap} (X : K.In h) (G : h.Ns mainGlobals mg) (c : Says fa fn K) : ∃ fd, FnOk P w K mg base (L2.CX P w) 2 (d23.adr K) fd ["self", "other"] (spD K (ct K) w23) ∧ PySem.W.keepIn K (.ref (d23.adr K)) = true ∧ (∃ ds, Vals ((d23.dvs K).drop 0) ds ∧ Binds K fd ["self", "other"] ds) := by
  obtain ⟨fd, Fd⟩ := c.fun_ 23 (d := d23) rfl

  have S := sc23
  refine ⟨fd, fn_d Fd S rfl rfl (fun cdv A outer s H E hr => ?_), Fd.kp, ⟨[], .nil, FunD.bindsN Fd fun _ _ _ _ _ _ us hl => match us, hl with | [_, _], _ => rfl⟩⟩
  exact (ds_cons (ds_ret (de_and (de_B (cd_isi (fun _ => rfl) (isiK c)) (He.free_ok X G (c.fact 47 rfl)) (da_cons (de_v 1) (da_cons (de_gcl (c := 13) (He.glo_ok X G (c.fact 12 rfl))) da_nil))) (de_one (de_cmp (od_eqT (T := T0) (n := 1) (takes_of rfl rfl rfl rfl) (fun _ => rfl) (fun _ _ _ h => by cases h) (fun _ _ h => by cases h) (hr.mono (by decide))) (de_fld (de_v 0) (fun n k h => by
      try dsimp only at h
      split at h
      · rename_i en; subst en; cases h; exact ⟨He.cls_ok (c.fact 66 rfl), He.noat_ok (c.fact 68 rfl), rfl⟩
      split at h
      · rename_i en; subst en; cases h; exact ⟨He.cls_ok (c.fact 69 rfl), He.noat_ok (c.fact 71 rfl), rfl⟩
      split at h
      · rename_i en; subst en; cases h; exact ⟨He.cls_ok (c.fact 72 rfl), He.noat_ok (c.fact 74 rfl), rfl⟩
      cases h)) (de_fld (de_v 1) (fun n k h => by
      try dsimp only at h
      split at h
      · rename_i en; subst en; cases h; exact ⟨He.cls_ok (c.fact 66 rfl), He.noat_ok (c.fact 68 rfl), rfl⟩
      split at h
      · rename_i en; subst en; cases h; exact ⟨He.cls_ok (c.fact 69 rfl), He.noat_ok (c.fact 71 rfl), rfl⟩
      split at h
      · rename_i en; subst en; cases h; exact ⟨He.cls_ok (c.fact 72 rfl), He.noat_ok (c.fact 74 rfl), rfl⟩
      cases h))))))
    ds_nil)
theorem sc25 : FnScope ["self"] ["self"] (defScope s25) := ⟨rfl, rfl, rfl, by decide +kernel, rfl, by decide +kernel, by decide +kernel⟩
def t25 : TDS := (sSeq (sRet (dB bLen (aCons (dFld (fun n => if n = 14 then some 0 else none) (dVar 0)) aNil)))
    sNil)
def w25 : Wf := wfOf 1 1 t25
theorem ok25 {P : Program} {w : World} {K : PySem.W.Frag} {h : Heap} {mg : Str → Option Value} {base : Heap} (X : K.In h) (G : h.Ns mainGlobals mg) (c : Says fa fn K) : ∃ fd, FnOk P w K mg base (L2.CX P w) 1 (d25.adr K) fd ["self"] (spD K (ct K) w25) ∧ PySem.W.keepIn K (.ref (d25.adr K)) = true ∧ (∃ ds, Vals ((d25.dvs K).drop 0) ds ∧ Binds K fd ["self"] ds) := by
  obtain ⟨fd, Fd⟩ := c.fun_ 25 (d := d25) rfl

  have S := sc25
  refine ⟨fd, fn_d Fd S rfl rfl (fun cdv A outer s H E hr => ?_), Fd.kp, ⟨[], .nil, FunD.bindsN Fd fun _ _ _ _ _ _ us hl => match us, hl with | [_], _ => rfl⟩⟩
  exact (ds_cons (ds_ret (de_B cd_len (He.free_ok X G (c.fact 48 rfl)) (da_cons (de_fld (de_v 0) (fun n k h => by
      try dsimp only at h
      split at h
      · rename_i en; subst en; cases h; exact ⟨He.cls_ok (c.fact 75 rfl), He.noat_ok (c.fact 77 rfl), rfl⟩
      cases h)) da_nil)))
    ds_nil)
def T1 : EqT := (fun n => if n = 7 then some (2, w10) else if n = 10 then some (1, w17) else if n = 11 then some (2, w19) else if n = 12 then some (2, w21) else if n = 13 then some (2, w23) else none)
theorem hT1 : ∀ c, (T1 c).isSome = true → hasE c = true ∧ c < cn.length := by
  intro n h
  unfold T1 at h
  try dsimp only at h
  split at h
  · rename_i en; subst en; exact ⟨rfl, by decide⟩
  split at h
  · rename_i en; subst en; exact ⟨rfl, by decide⟩
  split at h
  · rename_i en; subst en; exact ⟨rfl, by decide⟩
  split at h
  · rename_i en; subst en; exact ⟨rfl, by decide⟩
  split at h
  · rename_i en; subst en; exact ⟨rfl, by decide⟩
  cases h
theorem etK1 {P : Program} {w : World} {K : PySem.W.Frag} {h : Heap} {mg : Str → Option Value} {base : Heap} (X : K.In h) (G : h.Ns mainGlobals mg) (c : Says fa fn K) (Y : Cx) (e1 : Y.prog = P) (e2 : Y.w = w) (e3 : Y.K = K) (e4 : Y.mg = mg) (e5 : Y.base = base) : ∀ n k wf, T1 n = some (k, wf) → EqAtO Y (ct K) T1 n k wf := by
  intro n k wf h
  subst e1 e2 e3 e4 e5
  unfold T1 at h
  try dsimp only at h
  split at h
  · rename_i en; subst en; cases h
    obtain ⟨fd, F, kp, ⟨ds, rd, b⟩⟩ := ok10 (P := Y.prog) (w := Y.w) (base := Y.base) X G c
    cases rd
    exact (eqB_ok (nm := nm) (c.fact 96 rfl) T1 hT1).2 Y _ _ 7 rfl rfl ⟨fd, _, F, b⟩
  split at h
  · rename_i en; subst en; cases h
    obtain ⟨fd, F, kp, ⟨ds, rd, b⟩⟩ := ok17 (P := Y.prog) (w := Y.w) (base := Y.base) X G c
    cases rd
    exact (eqB_ok (nm := nm) (c.fact 96 rfl) T1 hT1).2 Y _ _ 10 rfl rfl ⟨fd, _, F, b⟩
  split at h
  · rename_i en; subst en; cases h
    obtain ⟨fd, F, kp, ⟨ds, rd, b⟩⟩ := ok19 (P := Y.prog) (w := Y.w) (base := Y.base) X G c
    cases rd
    exact (eqB_ok (nm := nm) (c.fact 96 rfl) T1 hT1).2 Y _ _ 11 rfl rfl ⟨fd, _, F, b⟩
  split at h
  · rename_i en; subst en; cases h
    obtain ⟨fd, F, kp, ⟨ds, rd, b⟩⟩ := ok21 (P := Y.prog) (w := Y.w) (base := Y.base) X G c
    cases rd
    exact (eqB_ok (nm := nm) (c.fact 96 rfl) T1 hT1).2 Y _ _ 12 rfl rfl ⟨fd, _, F, b⟩
  split at h
  · rename_i en; subst en; cases h
    obtain ⟨fd, F, kp, ⟨ds, rd, b⟩⟩ := ok23 (P := Y.prog) (w := Y.w) (base := Y.base) X G c
    cases rd
    exact (eqB_ok (nm := nm) (c.fact 96 rfl) T1 hT1).2 Y _ _ 13 rfl rfl ⟨fd, _, F, b⟩
  cases h
theorem apK1 {K : PySem.W.Frag} (c : Says fa fn K) : ApartT T1 (ct K) := (eqB_ok (nm := nm) (c.fact 96 rfl) T1 hT1).1
theorem sc27 : FnScope ["self", "other"] ["self", "other"] (defScope s27) := ⟨rfl, rfl, rfl, by decide +kernel, rfl, by decide +kernel, by decide +kernel⟩
def t27 : TDS := (sSeq (sRet (dAnd (dB (bIsi subT) (aCons (dVar 1) (aCons (dC (.cls 14)) aNil))) (dBin (oEqT T1 5) (dFld (fun n => if n = 14 then some 0 else none) (dVar 0)) (dFld (fun n => if n = 14 then some 0 else none) (dVar 1)))))
    sNil)
def w27 : Wf := wfOf 2 2 t27
theorem ok27 {P : Program} {w : World} {K : PySem.W.Frag} {h : Heap} {mg : Str → Option Value} {base : Heap} (X : K.In h) (G : h.Ns mainGlobals mg) (c : Says fa fn K) : ∃ fd, FnOk P w K mg base (L2.CX P w) 7 (d27.adr K) fd ["self", "other"] (spD K (ct K) w27) ∧ PySem.W.keepIn K (.ref (d27.adr K)) = true ∧ (∃ ds, Vals ((d27.dvs K).drop 0) ds ∧ Binds K fd ["self", "other"] ds) := by
  obtain ⟨fd, Fd⟩ := c.fun_ 27 (d := d27) rfl

  have S := sc27
  refine ⟨fd, fn_d Fd S rfl rfl (fun cdv A outer s H E hr => ?_), Fd.kp, ⟨[], .nil, FunD.bindsN Fd fun _ _ _ _ _ _ us hl => match us, hl with | [_, _], _ => rfl⟩⟩
  exact (ds_cons (ds_ret (de_and (de_B (cd_isi (fun _ => rfl) (isiK c)) (He.free_ok X G (c.fact 47 rfl)) (da_cons (de_v 1) (da_cons (de_gcl (c := 14) (He.glo_ok X G (c.fact 13 rfl))) da_nil))) (de_one (de_cmp (od_eqT (T := T1) (n := 5) (takes_of rfl rfl rfl rfl) (fun _ => rfl) (etK1 X G c _ rfl rfl rfl rfl rfl) (apK1 c) (hr.mono (by decide))) (de_fld (de_v 0) (fun n k h => by
      try dsimp only at h
      split at h
      · rename_i en; subst en; cases h; exact ⟨He.cls_ok (c.fact 75 rfl), He.noat_ok (c.fact 77 rfl), rfl⟩
      cases h)) (de_fld (de_v 1) (fun n k h => by
      try dsimp only at h
      split at h
      · rename_i en; subst en; cases h; exact ⟨He.cls_ok (c.fact 75 rfl), He.noat_ok (c.fact 77 rfl), rfl⟩
      cases h))))))
    ds_nil)
theorem sc28 : FnScope ["value"] ["value"] (defScope s28) := ⟨rfl, rfl, rfl, by decide +kernel, rfl, by decide +kernel, by decide +kernel⟩
def t28 : TDS := (sSeq (sRet (dAnd (dB (bIsi subT) (aCons (dVar 0) (aCons (dC (.ty "int")) aNil))) (dNot (dB (bIsi subT) (aCons (dVar 0) (aCons (dC (.ty "bool")) aNil))))))
    sNil)
def w28 : Wf := wfOf 1 1 t28
theorem ok28 {P : Program} {w : World} {K : PySem.W.Frag} {h : Heap} {mg : Str → Option Value} {base : Heap} (X : K.In h) (G : h.Ns mainGlobals mg) (c : Says fa fn K) : ∃ fd, FnOk P w K mg base (L2.CX P w) 1 (d28.adr K) fd ["value"] (spD K (ct K) w28) ∧ PySem.W.keepIn K (.ref (d28.adr K)) = true ∧ (∃ ds, Vals ((d28.dvs K).drop 0) ds ∧ Binds K fd ["value"] ds) := by
  obtain ⟨fd, Fd⟩ := c.fun_ 28 (d := d28) rfl

  have S := sc28
  refine ⟨fd, fn_d Fd S rfl rfl (fun cdv A outer s H E hr => ?_), Fd.kp, ⟨[], .nil, FunD.bindsN Fd fun _ _ _ _ _ _ us hl => match us, hl with | [_], _ => rfl⟩⟩
  exact (ds_cons (ds_ret (de_and (de_B (cd_isi (fun _ => rfl) (isiK c)) (He.free_ok X G (c.fact 47 rfl)) (da_cons (de_v 0) (da_cons (de_gty (He.free_ok X G (c.fact 46 rfl))) da_nil))) (de_one (de_not (de_B (cd_isi (fun _ => rfl) (isiK c)) (He.free_ok X G (c.fact 47 rfl)) (da_cons (de_v 0) (da_cons (de_gty (He.free_ok X G (c.fact 44 rfl))) da_nil)))))))
    ds_nil)
theorem sc29 : FnScope ["value", "low", "high"] ["value", "low", "high"] (defScope s29) := ⟨rfl, rfl, rfl, by decide +kernel, rfl, by decide +kernel, by decide +kernel⟩
def t29 : TDS := (sSeq (sIf (tOrD (tNotD (tTru (dCall w28 [] (aCons (dVar 0) aNil)))) (tOrD (tVal (dBin oLt (dVar 0) (dVar 1))) (tAndD (tVal (dBin oNotN (dVar 2) (dC .non))) (tVal (dBin oGt (dVar 0) (dVar 2)))))) (sSeq (sRaise 2 (dVar 0))
    sNil) sNil)
    sNil)
def w29 : Wf := wfOf 3 3 t29
theorem ok29 {P : Program} {w : World} {K : PySem.W.Frag} {h : Heap} {mg : Str → Option Value} {base : Heap} (X : K.In h) (G : h.Ns mainGlobals mg) (c : Says fa fn K) : ∃ fd, FnOk P w K mg base (L2.CX P w) 3 (d29.adr K) fd ["value", "low", "high"] (spD K (ct K) w29) ∧ PySem.W.keepIn K (.ref (d29.adr K)) = true ∧ (∃ ds, Vals ((d29.dvs K).drop 0) ds ∧ Binds K fd ["value", "low", "high"] ds) ∧ (∃ ds, Vals ((d29.dvs K).drop 1) ds ∧ Binds K fd ["value", "low", "high"] ds) := by
  obtain ⟨fd, Fd⟩ := c.fun_ 29 (d := d29) rfl
  obtain ⟨fd28, F28, kp28, ⟨db28_0, b28_0⟩⟩ := ok28 (P := P) (w := w) (base := base) X G c
  have f28 := And.intro F28 (And.intro kp28 trivial)
  have f28b0 := b28_0
  obtain ⟨fd1, f1⟩ := ok1 (P := P) (w := w) (base := base) X G c
  have S := sc29
  refine ⟨fd, fn_d Fd S rfl rfl (fun cdv A outer s H E hr => ?_), Fd.kp, FunD.binds1 (ps := ["value", "low", "high"]) Fd 2 0 (by intro z; cases z) rfl (fun _ _ _ _ _ _ _ us its hl hi => match us, hl, its, hi with | [_, _], _, [_], _ => ⟨_, rfl, (by first | rfl | kernel_rfl | with_unfolding_all rfl)⟩), FunD.binds1 (ps := ["value", "low", "high"]) Fd 3 1 (by intro z; cases z) rfl (fun _ _ _ _ _ _ _ us its hl hi => match us, hl, its, hi with | [_, _, _], _, [_], _ => ⟨_, rfl, (by first | rfl | kernel_rfl | with_unfolding_all rfl)⟩)⟩
  exact (ds_cons (ds_if (dt_w (dw_or (dt_not (dt_tru (de_call f28.1 (hr.mono (by decide)) (He.glo_ok X G (c.fact 14 rfl)) f28.2.1 f28b0.2 f28b0.1 (konst_of rfl rfl) (takes_of rfl rfl rfl rfl) (da_cons (de_v 0) da_nil)))) (dw_or (dt_cmp od_lt (de_v 0) (de_v 1)) (dw_or1 (dt_w (dw_and (dt_cmp od_notN (de_v 2) de_non) (dw_and1 (dt_cmp od_gt (de_v 0) (de_v 2))))))))) (ds_cons (ds_raise rfl (takes_of rfl rfl rfl rfl) (exB_ok (c.fact 81 rfl)).1 (exB_ok (c.fact 81 rfl)).2.1 (exB_ok (c.fact 81 rfl)).2.2.1 rfl f1.1 (hr.mono (by decide)) f1.2.2 (He.glo_ok X G (c.fact 1 rfl)) (de_v 0))
    ds_nil) ds_nil)
    ds_nil)
theorem sc30 : FnScope ["value", "signs", "sign"] ["value", "signs"] (defScope s30) := ⟨rfl, rfl, rfl, by decide +kernel, rfl, by decide +kernel, by decide +kernel⟩
def t30 : TDS := (sSeq (sRet (dAnd (dB (bIsi subT) (aCons (dVar 0) (aCons (dC (.ty "str")) aNil))) (dB bAll (aCons (dLc (iVal (dVar 0)) (.nm 2) tYesD (dBin oIn (dVar 2) (dVar 1)) [2]) aNil))))
    sNil)
def w30 : Wf := wfOf 2 3 t30
theorem ok30 {P : Program} {w : World} {K : PySem.W.Frag} {h : Heap} {mg : Str → Option Value} {base : Heap} (X : K.In h) (G : h.Ns mainGlobals mg) (c : Says fa fn K) : ∃ fd, FnOk P w K mg base (L2.CX P w) 1 (d30.adr K) fd ["value", "signs"] (spD K (ct K) w30) ∧ PySem.W.keepIn K (.ref (d30.adr K)) = true ∧ (∃ ds, Vals ((d30.dvs K).drop 0) ds ∧ Binds K fd ["value", "signs"] ds) := by
  obtain ⟨fd, Fd⟩ := c.fun_ 30 (d := d30) rfl

  have S := sc30
  refine ⟨fd, fn_d Fd S rfl rfl (fun cdv A outer s H E hr => ?_), Fd.kp, ⟨[], .nil, FunD.bindsN Fd fun _ _ _ _ _ _ us hl => match us, hl with | [_, _], _ => rfl⟩⟩
  exact (ds_cons (ds_ret (de_and (de_B (cd_isi (fun _ => rfl) (isiK c)) (He.free_ok X G (c.fact 47 rfl)) (da_cons (de_v 0) (da_cons (de_gty (He.free_ok X G (c.fact 52 rfl))) da_nil))) (de_one (de_B (cd_all rfl) (He.free_ok X G (c.fact 43 rfl)) (da_cons (de_lc (own := [("sign", 2)]) (by rfl) S.nd (di_val (de_v 0)) (blkOk_by (by
      first
      | (show blkC ["value", "signs", "sign"] (defScope s30) _ _ = true; decide +kernel)
      | rfl
      | kernel_rfl)) (fun _ _ _ _ _ => (pg_nm S.nd (i := 2) rfl (by first | exact Or.inl rfl | exact Or.inr rfl))) (fun _ _ _ _ _ => dts_nil) (fun _ _ _ _ _ => (de_cmp od_in (de_v 2) (de_v 1))) rfl) da_nil)))))
    ds_nil)
theorem sc31 : FnScope ["value"] ["value"] (defScope s31) := ⟨rfl, rfl, rfl, by decide +kernel, rfl, by decide +kernel, by decide +kernel⟩
def t31 : TDS := (sSeq (sIf (tNotD (tTru (dB (bIsi subT) (aCons (dVar 0) (aCons (dC (.cls 7)) aNil))))) (sSeq (sRaise 1 (dVar 0))
    sNil) sNil)
    sNil)
def w31 : Wf := wfOf 1 1 t31
theorem ok31 {P : Program} {w : World} {K : PySem.W.Frag} {h : Heap} {mg : Str → Option Value} {base : Heap} (X : K.In h) (G : h.Ns mainGlobals mg) (c : Says fa fn K) : ∃ fd, FnOk P w K mg base (L2.CX P w) 3 (d31.adr K) fd ["value"] (spD K (ct K) w31) ∧ PySem.W.keepIn K (.ref (d31.adr K)) = true ∧ (∃ ds, Vals ((d31.dvs K).drop 0) ds ∧ Binds K fd ["value"] ds) := by
  obtain ⟨fd, Fd⟩ := c.fun_ 31 (d := d31) rfl
  obtain ⟨fd0, f0⟩ := ok0 (P := P) (w := w) (base := base) X G c
  have S := sc31
  refine ⟨fd, fn_d Fd S rfl rfl (fun cdv A outer s H E hr => ?_), Fd.kp, ⟨[], .nil, FunD.bindsN Fd fun _ _ _ _ _ _ us hl => match us, hl with | [_], _ => rfl⟩⟩
  exact (ds_cons (ds_if (dt_not (dt_tru (de_B (cd_isi (fun _ => rfl) (isiK c)) (He.free_ok X G (c.fact 47 rfl)) (da_cons (de_v 0) (da_cons (de_gcl (c := 7) (He.glo_ok X G (c.fact 6 rfl))) da_nil))))) (ds_cons (ds_raise rfl (takes_of rfl rfl rfl rfl) (exB_ok (c.fact 80 rfl)).1 (exB_ok (c.fact 80 rfl)).2.1 (exB_ok (c.fact 80 rfl)).2.2.1 rfl f0.1 (hr.mono (by decide)) f0.2.2 (He.glo_ok X G (c.fact 0 rfl)) (de_v 0))
    ds_nil) ds_nil)
    ds_nil)
theorem sc34 : FnScope ["value"] ["value"] (defScope s34) := ⟨rfl, rfl, rfl, by decide +kernel, rfl, by decide +kernel, by decide +kernel⟩
def t34 : TDS := (sSeq (sRet (dAnd (dCall w30 [] (aCons (dVar 0) (aCons (dC (.str ".0abcdefghijklmnopqrstuvwxyz")) aNil))) (dBin oNotIn (dC (.str ".")) (dVar 0))))
    sNil)
def w34 : Wf := wfOf 1 1 t34
theorem ok34 {P : Program} {w : World} {K : PySem.W.Frag} {h : Heap} {mg : Str → Option Value} {base : Heap} (X : K.In h) (G : h.Ns mainGlobals mg) (c : Says fa fn K) : ∃ fd, FnOk P w K mg base (L2.CX P w) 2 (d34.adr K) fd ["value"] (spD K (ct K) w34) ∧ PySem.W.keepIn K (.ref (d34.adr K)) = true ∧ (∃ ds, Vals ((d34.dvs K).drop 0) ds ∧ Binds K fd ["value"] ds) := by
  obtain ⟨fd, Fd⟩ := c.fun_ 34 (d := d34) rfl
  obtain ⟨fd30, F30, kp30, ⟨db30_0, b30_0⟩⟩ := ok30 (P := P) (w := w) (base := base) X G c
  have f30 := And.intro F30 (And.intro kp30 trivial)
  have f30b0 := b30_0
  have S := sc34
  refine ⟨fd, fn_d Fd S rfl rfl (fun cdv A outer s H E hr => ?_), Fd.kp, ⟨[], .nil, FunD.bindsN Fd fun _ _ _ _ _ _ us hl => match us, hl with | [_], _ => rfl⟩⟩
  exact (ds_cons (ds_ret (de_and (de_call f30.1 (hr.mono (by decide)) (He.glo_ok X G (c.fact 16 rfl)) f30.2.1 f30b0.2 f30b0.1 (konst_of rfl rfl) (takes_of rfl rfl rfl rfl) (da_cons (de_v 0) (da_cons (de_gs (He.str_ok X G (c.fact 41 rfl))) da_nil))) (de_one (de_cmp od_notIn (de_gs (He.str_ok X G (c.fact 40 rfl))) (de_v 0)))))
    ds_nil)
theorem sc35 : FnScope ["value", "begin", "text"] ["value"] (defScope s35) := ⟨rfl, rfl, rfl, by decide +kernel, rfl, by decide +kernel, by decide +kernel⟩
def t35 : TDS := (sSeq (sIf (tOrD (tNotD (tTru (dB (bIsi subT) (aCons (dVar 0) (aCons (dC (.ty "tuple")) aNil))))) (tVal (dBin (oNeT T0 1) (dB (bLenO (fun n => if n = 7 then some w8 else if n = 8 then some w13 else if n = 14 then some w25 else none)) (aCons (dVar 0) aNil)) (dC (.int 2))))) (sSeq (sRet (dC (.bl false)))
    sNil) sNil)
    (sSeq (sTg (.tp [1, 2]) (dVar 0))
    (sSeq (sRet (dAnd (dCall w28 [] (aCons (dVar 1) aNil)) (dAnd (dBin oGe (dVar 1) (dC (.int 0))) (dAnd (dCall w34 [] (aCons (dVar 2) aNil)) (dBin oGe (dB (bLenO (fun n => if n = 7 then some w8 else if n = 8 then some w13 else if n = 14 then some w25 else none)) (aCons (dVar 2) aNil)) (dC (.int 1)))))))
    sNil)))
def w35 : Wf := wfOf 1 3 t35
theorem ok35 {P : Program} {w : World} {K : PySem.W.Frag} {h : Heap} {mg : Str → Option Value} {base : Heap} (X : K.In h) (G : h.Ns mainGlobals mg) (c : Says fa fn K) : ∃ fd, FnOk P w K mg base (L2.CX P w) 3 (d35.adr K) fd ["value"] (spD K (ct K) w35) ∧ PySem.W.keepIn K (.ref (d35.adr K)) = true ∧ (∃ ds, Vals ((d35.dvs K).drop 0) ds ∧ Binds K fd ["value"] ds) := by
  obtain ⟨fd, Fd⟩ := c.fun_ 35 (d := d35) rfl
  obtain ⟨fd8, F8, kp8, ⟨db8_0, b8_0⟩⟩ := ok8 (P := P) (w := w) (base := base) X G c
  have f8 := And.intro F8 (And.intro kp8 trivial)
  have f8b0 := b8_0
  obtain ⟨fd13, F13, kp13, ⟨db13_0, b13_0⟩⟩ := ok13 (P := P) (w := w) (base := base) X G c
  have f13 := And.intro F13 (And.intro kp13 trivial)
  have f13b0 := b13_0
  obtain ⟨fd25, F25, kp25, ⟨db25_0, b25_0⟩⟩ := ok25 (P := P) (w := w) (base := base) X G c
  have f25 := And.intro F25 (And.intro kp25 trivial)
  have f25b0 := b25_0
  obtain ⟨fd28, F28, kp28, ⟨db28_0, b28_0⟩⟩ := ok28 (P := P) (w := w) (base := base) X G c
  have f28 := And.intro F28 (And.intro kp28 trivial)
  have f28b0 := b28_0
  obtain ⟨fd34, F34, kp34, ⟨db34_0, b34_0⟩⟩ := ok34 (P := P) (w := w) (base := base) X G c
  have f34 := And.intro F34 (And.intro kp34 trivial)
  have f34b0 := b34_0
  have S := sc35
  refine ⟨fd, fn_d Fd S rfl rfl (fun cdv A outer s H E hr => ?_), Fd.kp, ⟨[], .nil, FunD.bindsN Fd fun _ _ _ _ _ _ us hl => match us, hl with | [_], _ => rfl⟩⟩
  exact (ds_cons (ds_if (dt_w (dw_or (dt_not (dt_tru (de_B (cd_isi (fun _ => rfl) (isiK c)) (He.free_ok X G (c.fact 47 rfl)) (da_cons (de_v 0) (da_cons (de_gty (He.free_ok X G (c.fact 53 rfl))) da_nil))))) (dw_or1 (dt_cmp (od_neT (T := T0) (n := 1) (takes_of rfl rfl rfl rfl) (fun _ => rfl) (fun _ _ _ h => by cases h) (fun _ _ h => by cases h) (hr.mono (by decide))) (de_B (cd_lenO rfl (fun n wf h => by
      try dsimp only at h
      split at h
      · rename_i en; subst en; cases h; exact ⟨⟨_, _, _, _, _, He.meth_ok (c.fact 57 rfl), f8.1, f8b0.1, f8b0.2, (hr.mono (by decide))⟩⟩
      split at h
      · rename_i en; subst en; cases h; exact ⟨⟨_, _, _, _, _, He.meth_ok (c.fact 63 rfl), f13.1, f13b0.1, f13b0.2, (hr.mono (by decide))⟩⟩
      split at h
      · rename_i en; subst en; cases h; exact ⟨⟨_, _, _, _, _, He.meth_ok (c.fact 78 rfl), f25.1, f25b0.1, f25b0.2, (hr.mono (by decide))⟩⟩
      cases h)) (He.free_ok X G (c.fact 48 rfl)) (da_cons (de_v 0) da_nil)) de_int)))) (ds_cons (ds_ret de_bl)
    ds_nil) ds_nil)
    (ds_cons (ds_tg (de_v 0) (pg_tp2 rfl (pg_name S.nd (i := 1) rfl (by first | exact Or.inl rfl | exact Or.inr rfl)) (pg_name S.nd (i := 2) rfl (by first | exact Or.inl rfl | exact Or.inr rfl))))
    (ds_cons (ds_ret (de_and (de_call f28.1 (hr.mono (by decide)) (He.glo_ok X G (c.fact 14 rfl)) f28.2.1 f28b0.2 f28b0.1 (konst_of rfl rfl) (takes_of rfl rfl rfl rfl) (da_cons (de_v 1) da_nil)) (de_and (de_cmp od_ge (de_v 1) de_int) (de_and (de_call f34.1 (hr.mono (by decide)) (He.glo_ok X G (c.fact 20 rfl)) f34.2.1 f34b0.2 f34b0.1 (konst_of rfl rfl) (takes_of rfl rfl rfl rfl) (da_cons (de_v 2) da_nil)) (de_one (de_cmp od_ge (de_B (cd_lenO rfl (fun n wf h => by
      try dsimp only at h
      split at h
      · rename_i en; subst en; cases h; exact ⟨⟨_, _, _, _, _, He.meth_ok (c.fact 57 rfl), f8.1, f8b0.1, f8b0.2, (hr.mono (by decide))⟩⟩
      split at h
      · rename_i en; subst en; cases h; exact ⟨⟨_, _, _, _, _, He.meth_ok (c.fact 63 rfl), f13.1, f13b0.1, f13b0.2, (hr.mono (by decide))⟩⟩
      split at h
      · rename_i en; subst en; cases h; exact ⟨⟨_, _, _, _, _, He.meth_ok (c.fact 78 rfl), f25.1, f25b0.1, f25b0.2, (hr.mono (by decide))⟩⟩
      cases h)) (He.free_ok X G (c.fact 48 rfl)) (da_cons (de_v 2) da_nil)) de_int))))))
    ds_nil)))
theorem sc36 : FnScope ["value", "step"] ["value"] (defScope s36) := ⟨rfl, rfl, rfl, by decide +kernel, rfl, by decide +kernel, by decide +kernel⟩
def t36 : TDS := (sSeq (sRet (dAnd (dB (bIsi subT) (aCons (dVar 0) (aCons (dC (.ty "list")) aNil))) (dB bAll (aCons (dLc (iVal (dVar 0)) (.nm 1) tYesD (dB (bIsi subT) (aCons (dVar 1) (aCons (dC (.cls 9)) aNil))) [1]) aNil))))
    sNil)
def w36 : Wf := wfOf 1 2 t36
theorem ok36 {P : Program} {w : World} {K : PySem.W.Frag} {h : Heap} {mg : Str → Option Value} {base : Heap} (X : K.In h) (G : h.Ns mainGlobals mg) (c : Says fa fn K) : ∃ fd, FnOk P w K mg base (L2.CX P w) 1 (d36.adr K) fd ["value"] (spD K (ct K) w36) ∧ PySem.W.keepIn K (.ref (d36.adr K)) = true ∧ (∃ ds, Vals ((d36.dvs K).drop 0) ds ∧ Binds K fd ["value"] ds) := by
  obtain ⟨fd, Fd⟩ := c.fun_ 36 (d := d36) rfl

  have S := sc36
  refine ⟨fd, fn_d Fd S rfl rfl (fun cdv A outer s H E hr => ?_), Fd.kp, ⟨[], .nil, FunD.bindsN Fd fun _ _ _ _ _ _ us hl => match us, hl with | [_], _ => rfl⟩⟩
  exact (ds_cons (ds_ret (de_and (de_B (cd_isi (fun _ => rfl) (isiK c)) (He.free_ok X G (c.fact 47 rfl)) (da_cons (de_v 0) (da_cons (de_gty (He.free_ok X G (c.fact 49 rfl))) da_nil))) (de_one (de_B (cd_all rfl) (He.free_ok X G (c.fact 43 rfl)) (da_cons (de_lc (own := [("step", 1)]) (by rfl) S.nd (di_val (de_v 0)) (blkOk_by (by
      first
      | (show blkC ["value", "step"] (defScope s36) _ _ = true; decide +kernel)
      | rfl
      | kernel_rfl)) (fun _ _ _ _ _ => (pg_nm S.nd (i := 1) rfl (by first | exact Or.inl rfl | exact Or.inr rfl))) (fun _ _ _ _ _ => dts_nil) (fun _ _ _ _ _ => (de_B (cd_isi (fun _ => rfl) (isiK c)) (He.free_ok X G (c.fact 47 rfl)) (da_cons (de_v 1) (da_cons (de_gcl (c := 9) (He.glo_ok X G (c.fact 8 rfl))) da_nil)))) rfl) da_nil)))))
    ds_nil)
theorem sc39 : FnScope ["text"] ["text"] (defScope s39) := ⟨rfl, rfl, rfl, by decide +kernel, rfl, by decide +kernel, by decide +kernel⟩
def t39 : TDS := (sSeq (sIf (tNotD (tTru (dB (bIsi subT) (aCons (dVar 0) (aCons (dC (.ty "str")) aNil))))) (sSeq (sRaise 6 (dC .non))
    sNil) sNil)
    (sSeq (sRet (dM1 cSplit (dVar 0) (dC (.str "\n"))))
    sNil))
def w39 : Wf := wfOf 1 1 t39
theorem ok39 {P : Program} {w : World} {K : PySem.W.Frag} {h : Heap} {mg : Str → Option Value} {base : Heap} (X : K.In h) (G : h.Ns mainGlobals mg) (c : Says fa fn K) : ∃ fd, FnOk P w K mg base (L2.CX P w) 3 (d39.adr K) fd ["text"] (spD K (ct K) w39) ∧ PySem.W.keepIn K (.ref (d39.adr K)) = true ∧ (∃ ds, Vals ((d39.dvs K).drop 0) ds ∧ Binds K fd ["text"] ds) := by
  obtain ⟨fd, Fd⟩ := c.fun_ 39 (d := d39) rfl
  obtain ⟨fd5, f5⟩ := ok5 (P := P) (w := w) (base := base) X G c
  have S := sc39
  refine ⟨fd, fn_d Fd S rfl rfl (fun cdv A outer s H E hr => ?_), Fd.kp, ⟨[], .nil, FunD.bindsN Fd fun _ _ _ _ _ _ us hl => match us, hl with | [_], _ => rfl⟩⟩
  exact (ds_cons (ds_if (dt_not (dt_tru (de_B (cd_isi (fun _ => rfl) (isiK c)) (He.free_ok X G (c.fact 47 rfl)) (da_cons (de_v 0) (da_cons (de_gty (He.free_ok X G (c.fact 52 rfl))) da_nil))))) (ds_cons (by obtain ⟨_, hd0, hb0⟩ := f5.2.2.2; exact ds_raise0 rfl (takes_of rfl rfl rfl rfl) (exB_ok (c.fact 85 rfl)).1 (exB_ok (c.fact 85 rfl)).2.1 (exB_ok (c.fact 85 rfl)).2.2.1 rfl f5.1 (hr.mono (by decide)) hd0 hb0 (He.glo_ok X G (c.fact 5 rfl)))
    ds_nil) ds_nil)
    (ds_cons (ds_ret (de_split (de_v 0) de_str))
    ds_nil))
theorem sc42 : FnScope ["figures"] ["figures"] (defScope s42) := ⟨rfl, rfl, rfl, by decide +kernel, rfl, by decide +kernel, by decide +kernel⟩
def t42 : TDS := (sSeq (sIf (tOrD (tNotD (tTru (dCall w30 [] (aCons (dVar 0) (aCons (dC (.str "0123456789")) aNil))))) (tOrD (tVal (dBin (oEqT T0 1) (dVar 0) (dC (.str "")))) (tAndD (tVal (dBin (oEqT T0 1) (dBin oIx (dVar 0) (dC (.int 0))) (dC (.str "0")))) (tVal (dBin oGt (dB (bLenO (fun n => if n = 7 then some w8 else if n = 8 then some w13 else if n = 14 then some w25 else none)) (aCons (dVar 0) aNil)) (dC (.int 1))))))) (sSeq (sRet (dC .non))
    sNil) sNil)
    (sSeq (sRet (dB bIntT (aCons (dVar 0) aNil)))
    sNil))
def w42 : Wf := wfOf 1 1 t42
theorem ok42 {P : Program} {w : World} {K : PySem.W.Frag} {h : Heap} {mg : Str → Option Value} {base : Heap} (X : K.In h) (G : h.Ns mainGlobals mg) (c : Says fa fn K) : ∃ fd, FnOk P w K mg base (L2.CX P w) 3 (d42.adr K) fd ["figures"] (spD K (ct K) w42) ∧ PySem.W.keepIn K (.ref (d42.adr K)) = true ∧ (∃ ds, Vals ((d42.dvs K).drop 0) ds ∧ Binds K fd ["figures"] ds) := by
  obtain ⟨fd, Fd⟩ := c.fun_ 42 (d := d42) rfl
  obtain ⟨fd30, F30, kp30, ⟨db30_0, b30_0⟩⟩ := ok30 (P := P) (w := w) (base := base) X G c
  have f30 := And.intro F30 (And.intro kp30 trivial)
  have f30b0 := b30_0
  obtain ⟨fd8, F8, kp8, ⟨db8_0, b8_0⟩⟩ := ok8 (P := P) (w := w) (base := base) X G c
  have f8 := And.intro F8 (And.intro kp8 trivial)
  have f8b0 := b8_0
  obtain ⟨fd13, F13, kp13, ⟨db13_0, b13_0⟩⟩ := ok13 (P := P) (w := w) (base := base) X G c
  have f13 := And.intro F13 (And.intro kp13 trivial)
  have f13b0 := b13_0
  obtain ⟨fd25, F25, kp25, ⟨db25_0, b25_0⟩⟩ := ok25 (P := P) (w := w) (base := base) X G c
  have f25 := And.intro F25 (And.intro kp25 trivial)
  have f25b0 := b25_0
  have S := sc42
  refine ⟨fd, fn_d Fd S rfl rfl (fun cdv A outer s H E hr => ?_), Fd.kp, ⟨[], .nil, FunD.bindsN Fd fun _ _ _ _ _ _ us hl => match us, hl with | [_], _ => rfl⟩⟩
  exact (ds_cons (ds_if (dt_w (dw_or (dt_not (dt_tru (de_call f30.1 (hr.mono (by decide)) (He.glo_ok X G (c.fact 16 rfl)) f30.2.1 f30b0.2 f30b0.1 (konst_of rfl rfl) (takes_of rfl rfl rfl rfl) (da_cons (de_v 0) (da_cons (de_gs (He.str_ok X G (c.fact 42 rfl))) da_nil))))) (dw_or (dt_cmp (od_eqT (T := T0) (n := 1) (takes_of rfl rfl rfl rfl) (fun _ => rfl) (fun _ _ _ h => by cases h) (fun _ _ h => by cases h) (hr.mono (by decide))) (de_v 0) de_str) (dw_or1 (dt_w (dw_and (dt_cmp (od_eqT (T := T0) (n := 1) (takes_of rfl rfl rfl rfl) (fun _ => rfl) (fun _ _ _ h => by cases h) (fun _ _ h => by cases h) (hr.mono (by decide))) (de_ix (de_v 0) de_int) de_str) (dw_and1 (dt_cmp od_gt (de_B (cd_lenO rfl (fun n wf h => by
      try dsimp only at h
      split at h
      · rename_i en; subst en; cases h; exact ⟨⟨_, _, _, _, _, He.meth_ok (c.fact 57 rfl), f8.1, f8b0.1, f8b0.2, (hr.mono (by decide))⟩⟩
      split at h
      · rename_i en; subst en; cases h; exact ⟨⟨_, _, _, _, _, He.meth_ok (c.fact 63 rfl), f13.1, f13b0.1, f13b0.2, (hr.mono (by decide))⟩⟩
      split at h
      · rename_i en; subst en; cases h; exact ⟨⟨_, _, _, _, _, He.meth_ok (c.fact 78 rfl), f25.1, f25b0.1, f25b0.2, (hr.mono (by decide))⟩⟩
      cases h)) (He.free_ok X G (c.fact 48 rfl)) (da_cons (de_v 0) da_nil)) de_int)))))))) (ds_cons (ds_ret de_non)
    ds_nil) ds_nil)
    (ds_cons (ds_ret (de_T cd_intT (He.free_ok X G (c.fact 46 rfl)) (da_cons (de_v 0) da_nil)))
    ds_nil))
theorem sc44 : FnScope ["spring", "many", "digit"] ["spring", "many"] (defScope s44) := ⟨rfl, rfl, rfl, by decide +kernel, rfl, by decide +kernel, by decide +kernel⟩
theorem rdS {K : PySem.W.Frag} {σ : St} {H : Hp} {Q : VK} {a : Addr} {xs : List V} {c : Int} {v : V} (h0 : σ[0]? = some (some (.ref a))) (ha : H a = some (.lst xs)) (hv : atI xs c = some v) (q : Q v H) : tOp (rIx K) (tVar 0) (tC (.int c)) σ H Q :=
  ⟨_, h0, .inl ⟨a, xs, c, v, rfl, rfl, SqL.of ha, hv, q⟩⟩
theorem ok44 {P : Program} {w : World} {K : PySem.W.Frag} {h : Heap} {mg : Str → Option Value} {base : Heap} (X : K.In h) (G : h.Ns mainGlobals mg) (c : Says fa fn K) : ∃ fd, FnOk P w K mg base (L2.CX P w) 1 (d44.adr K) fd ["spring", "many"] (spD K (ct K) wSip) ∧ PySem.W.keepIn K (.ref (d44.adr K)) = true ∧ (∃ ds, Vals ((d44.dvs K).drop 0) ds ∧ Binds K fd ["spring", "many"] ds) := by
  obtain ⟨fd, Fd⟩ := c.fun_ 44 (d := d44) rfl
  have S := sc44
  refine ⟨fd, sip_tok (fun _ => rfl) (Fd.ok S (fun vs H Q E h => ?_) (fun cdv A outer s H vs Q E hr h => ⟨_, pss_cons (ps_set (i := 2) S.nd rfl (Or.inl rfl) (pe_op op_mod (pe_callTy call_int1 (by rfl) (He.free_ok X G (c.fact 46 rfl)) PySem.Pv.boot_int (pa_cons (pe_ix ix_seq (pv 0) pe_int fun _ _ => rfl) pa_nil)) (pv 1)))
    (pss_cons (ps_asg (pe_op op_fdivW (pe_ix ix_seq (pv 0) pe_int fun _ _ => rfl) (pv 1)) (pg_sub (pv 0) pe_int set_list)) (pss_one (ps_ret (pv 2)))), ?_⟩)) rfl, Fd.kp, ⟨[], .nil, FunD.bindsN Fd fun _ _ _ _ _ _ us hl => match us, hl with | [_, _], _ => rfl⟩⟩
  · obtain ⟨a, i, m, rfl, _⟩ := h
    rfl
  · obtain ⟨a, i, m, rfl, ha, hm, hl, q⟩ := h
    have e0 : L2.start ["spring", "many", "digit"] [V.ref a, V.int m] = [some (.ref a), some (.int m), none] := rfl
    rw [e0]
    refine rdS rfl ha rfl (.inl ⟨i, rfl, ?_⟩)
    refine ⟨_, rfl, i, m, rfl, rfl, hm, ?_⟩
    refine rdS rfl ha rfl ⟨_, rfl, i, m, rfl, rfl, ⟨hm, hl⟩, ?_⟩
    refine ⟨_, rfl, a, _, 0, 0, rfl, rfl, ha, rfl, ?_⟩
    exact ⟨_, rfl, q _ _ (Int.emod_nonneg _ (Int.ne_of_gt hm)) (Int.emod_lt_of_pos _ hm)⟩
theorem sc45 : FnScope ["spring", "length", "signs", "at"] ["spring", "length"] (defScope s45) := ⟨rfl, rfl, rfl, by decide +kernel, rfl, by decide +kernel, by decide +kernel⟩
def t45 : TDS := (sSeq (sAsg 2 (dBin oIx (dLst (aCons (dC (.str "..0ab")) (aCons (dC (.str ".0abcd")) (aCons (dC (.str "aab0.")) (aCons (dC (.str "abcdefghijklmnopqrstuvwxyz.0")) aNil))))) (dCall wSip [] (aCons (dVar 0) (aCons (dC (.int 4)) aNil)))))
    (sSeq (sRet (dM1 cJoin (dC (.str "")) (dLc (iR1 (aCons (dVar 1) aNil)) (.nm 3) tYesD (dBin oIx (dVar 2) (dCall wSip [] (aCons (dVar 0) (aCons (dB (bLenO (fun n => if n = 7 then some w8 else if n = 8 then some w13 else if n = 14 then some w25 else none)) (aCons (dVar 2) aNil)) aNil)))) [3])))
    sNil))
def w45 : Wf := wfOf 2 4 t45
theorem ok45 {P : Program} {w : World} {K : PySem.W.Frag} {h : Heap} {mg : Str → Option Value} {base : Heap} (X : K.In h) (G : h.Ns mainGlobals mg) (c : Says fa fn K) : ∃ fd, FnOk P w K mg base (L2.CX P w) 3 (d45.adr K) fd ["spring", "length"] (spD K (ct K) w45) ∧ PySem.W.keepIn K (.ref (d45.adr K)) = true ∧ (∃ ds, Vals ((d45.dvs K).drop 0) ds ∧ Binds K fd ["spring", "length"] ds) := by
  obtain ⟨fd, Fd⟩ := c.fun_ 45 (d := d45) rfl
  obtain ⟨fd44, F44, kp44, ⟨db44_0, b44_0⟩⟩ := ok44 (P := P) (w := w) (base := base) X G c
  have f44 := And.intro F44 (And.intro kp44 trivial)
  have f44b0 := b44_0
  obtain ⟨fd8, F8, kp8, ⟨db8_0, b8_0⟩⟩ := ok8 (P := P) (w := w) (base := base) X G c
  have f8 := And.intro F8 (And.intro kp8 trivial)
  have f8b0 := b8_0
  obtain ⟨fd13, F13, kp13, ⟨db13_0, b13_0⟩⟩ := ok13 (P := P) (w := w) (base := base) X G c
  have f13 := And.intro F13 (And.intro kp13 trivial)
  have f13b0 := b13_0
  obtain ⟨fd25, F25, kp25, ⟨db25_0, b25_0⟩⟩ := ok25 (P := P) (w := w) (base := base) X G c
  have f25 := And.intro F25 (And.intro kp25 trivial)
  have f25b0 := b25_0
  have S := sc45
  refine ⟨fd, fn_d Fd S rfl rfl (fun cdv A outer s H E hr => ?_), Fd.kp, ⟨[], .nil, FunD.bindsN Fd fun _ _ _ _ _ _ us hl => match us, hl with | [_, _], _ => rfl⟩⟩
  exact (ds_cons (ds_asg S.nd (i := 2) rfl (by first | exact Or.inl rfl | exact Or.inr rfl) (de_ix (de_lst (da_cons de_str (da_cons de_str (da_cons de_str (da_cons de_str da_nil))))) (de_call f44.1 (hr.mono (by decide)) (He.glo_ok X G (c.fact 30 rfl)) f44.2.1 f44b0.2 f44b0.1 (konst_of rfl rfl) (takes_of rfl rfl rfl rfl) (da_cons (de_v 0) (da_cons de_int da_nil)))))
    (ds_cons (ds_ret (de_join de_str (de_lc (own := [("at", 3)]) (by rfl) S.nd (di_r1 (by rfl) (He.free_ok X G (c.fact 51 rfl)) (da_cons (de_v 1) da_nil)) (blkOk_by (by
      first
      | (show blkC ["spring", "length", "signs", "at"] (defScope s45) _ _ = true; decide +kernel)
      | rfl
      | kernel_rfl)) (fun _ _ _ _ _ => (pg_nm S.nd (i := 3) rfl (by first | exact Or.inl rfl | exact Or.inr rfl))) (fun _ _ _ _ _ => dts_nil) (fun _ _ _ _ _ => (de_ix (de_v 2) (de_call f44.1 (hr.mono (by decide)) (He.glo_ok X G (c.fact 30 rfl)) f44.2.1 f44b0.2 f44b0.1 (konst_of rfl rfl) Dl.takes0 (da_cons (de_v 0) (da_cons (de_B (cd_lenO rfl (fun n wf h => by
      try dsimp only at h
      split at h
      · rename_i en; subst en; cases h; exact ⟨⟨_, _, _, _, _, He.meth_ok (c.fact 57 rfl), f8.1, f8b0.1, f8b0.2, (hr.mono (by decide))⟩⟩
      split at h
      · rename_i en; subst en; cases h; exact ⟨⟨_, _, _, _, _, He.meth_ok (c.fact 63 rfl), f13.1, f13b0.1, f13b0.2, (hr.mono (by decide))⟩⟩
      split at h
      · rename_i en; subst en; cases h; exact ⟨⟨_, _, _, _, _, He.meth_ok (c.fact 78 rfl), f25.1, f25b0.1, f25b0.2, (hr.mono (by decide))⟩⟩
      cases h)) (He.free_ok X G (c.fact 48 rfl)) (da_cons (de_v 2) da_nil)) da_nil))))) rfl)))
    ds_nil))
theorem sc46 : FnScope ["spring", "length", "signs", "at"] ["spring", "length"] (defScope s46) := ⟨rfl, rfl, rfl, by decide +kernel, rfl, by decide +kernel, by decide +kernel⟩
def t46 : TDS := (sSeq (sAsg 2 (dBin oIx (dLst (aCons (dC (.str "0ab")) (aCons (dC (.str "0abcd")) (aCons (dC (.str "ab")) (aCons (dC (.str "abcdefghijklmnopqrstuvwxyz0")) aNil))))) (dCall wSip [] (aCons (dVar 0) (aCons (dC (.int 4)) aNil)))))
    (sSeq (sRet (dM1 cJoin (dC (.str "")) (dLc (iR1 (aCons (dVar 1) aNil)) (.nm 3) tYesD (dBin oIx (dVar 2) (dCall wSip [] (aCons (dVar 0) (aCons (dB (bLenO (fun n => if n = 7 then some w8 else if n = 8 then some w13 else if n = 14 then some w25 else none)) (aCons (dVar 2) aNil)) aNil)))) [3])))
    sNil))
def w46 : Wf := wfOf 2 4 t46
theorem ok46 {P : Program} {w : World} {K : PySem.W.Frag} {h : Heap} {mg : Str → Option Value} {base : Heap} (X : K.In h) (G : h.Ns mainGlobals mg) (c : Says fa fn K) : ∃ fd, FnOk P w K mg base (L2.CX P w) 3 (d46.adr K) fd ["spring", "length"] (spD K (ct K) w46) ∧ PySem.W.keepIn K (.ref (d46.adr K)) = true ∧ (∃ ds, Vals ((d46.dvs K).drop 0) ds ∧ Binds K fd ["spring", "length"] ds) := by
  obtain ⟨fd, Fd⟩ := c.fun_ 46 (d := d46) rfl
  obtain ⟨fd44, F44, kp44, ⟨db44_0, b44_0⟩⟩ := ok44 (P := P) (w := w) (base := base) X G c
  have f44 := And.intro F44 (And.intro kp44 trivial)
  have f44b0 := b44_0
  obtain ⟨fd8, F8, kp8, ⟨db8_0, b8_0⟩⟩ := ok8 (P := P) (w := w) (base := base) X G c
  have f8 := And.intro F8 (And.intro kp8 trivial)
  have f8b0 := b8_0
  obtain ⟨fd13, F13, kp13, ⟨db13_0, b13_0⟩⟩ := ok13 (P := P) (w := w) (base := base) X G c
  have f13 := And.intro F13 (And.intro kp13 trivial)
  have f13b0 := b13_0
  obtain ⟨fd25, F25, kp25, ⟨db25_0, b25_0⟩⟩ := ok25 (P := P) (w := w) (base := base) X G c
  have f25 := And.intro F25 (And.intro kp25 trivial)
  have f25b0 := b25_0
  have S := sc46
  refine ⟨fd, fn_d Fd S rfl rfl (fun cdv A outer s H E hr => ?_), Fd.kp, ⟨[], .nil, FunD.bindsN Fd fun _ _ _ _ _ _ us hl => match us, hl with | [_, _], _ => rfl⟩⟩
  exact (ds_cons (ds_asg S.nd (i := 2) rfl (by first | exact Or.inl rfl | exact Or.inr rfl) (de_ix (de_lst (da_cons de_str (da_cons de_str (da_cons de_str (da_cons de_str da_nil))))) (de_call f44.1 (hr.mono (by decide)) (He.glo_ok X G (c.fact 30 rfl)) f44.2.1 f44b0.2 f44b0.1 (konst_of rfl rfl) (takes_of rfl rfl rfl rfl) (da_cons (de_v 0) (da_cons de_int da_nil)))))
    (ds_cons (ds_ret (de_join de_str (de_lc (own := [("at", 3)]) (by rfl) S.nd (di_r1 (by rfl) (He.free_ok X G (c.fact 51 rfl)) (da_cons (de_v 1) da_nil)) (blkOk_by (by
      first
      | (show blkC ["spring", "length", "signs", "at"] (defScope s46) _ _ = true; decide +kernel)
      | rfl
      | kernel_rfl)) (fun _ _ _ _ _ => (pg_nm S.nd (i := 3) rfl (by first | exact Or.inl rfl | exact Or.inr rfl))) (fun _ _ _ _ _ => dts_nil) (fun _ _ _ _ _ => (de_ix (de_v 2) (de_call f44.1 (hr.mono (by decide)) (He.glo_ok X G (c.fact 30 rfl)) f44.2.1 f44b0.2 f44b0.1 (konst_of rfl rfl) Dl.takes0 (da_cons (de_v 0) (da_cons (de_B (cd_lenO rfl (fun n wf h => by
      try dsimp only at h
      split at h
      · rename_i en; subst en; cases h; exact ⟨⟨_, _, _, _, _, He.meth_ok (c.fact 57 rfl), f8.1, f8b0.1, f8b0.2, (hr.mono (by decide))⟩⟩
      split at h
      · rename_i en; subst en; cases h; exact ⟨⟨_, _, _, _, _, He.meth_ok (c.fact 63 rfl), f13.1, f13b0.1, f13b0.2, (hr.mono (by decide))⟩⟩
      split at h
      · rename_i en; subst en; cases h; exact ⟨⟨_, _, _, _, _, He.meth_ok (c.fact 78 rfl), f25.1, f25b0.1, f25b0.2, (hr.mono (by decide))⟩⟩
      cases h)) (He.free_ok X G (c.fact 48 rfl)) (da_cons (de_v 2) da_nil)) da_nil))))) rfl)))
    ds_nil))
theorem sc47 : FnScope ["spring", "length", "most", "found", "turn", "begin", "most_cells", "size"] ["spring", "length", "most"] (defScope s47) := ⟨rfl, rfl, rfl, by decide +kernel, rfl, by decide +kernel, by decide +kernel⟩
def t47 : TDS := (sSeq (sOwn 3 aNil)
    (sSeq (sFor (iR1 (aCons (dBin oMul (dCall wSip [] (aCons (dVar 0) (aCons (dBin oAdd (dVar 2) (dC (.int 1))) aNil))) (dB bInt (aCons (dBin oGt (dVar 1) (dC (.int 0))) aNil))) aNil)) (.nm 4) (sSeq (sAsg 5 (dCall wSip [] (aCons (dVar 0) (aCons (dVar 1) aNil))))
    (sSeq (sAsg 6 (dBin oIx (dLst (aCons (dC (.int 1)) (aCons (dC (.int 2)) (aCons (dC (.int 3)) (aCons (dC (.int 9)) aNil))))) (dCall wSip [] (aCons (dVar 0) (aCons (dC (.int 4)) aNil)))))
    (sSeq (sAsg 7 (dBin oAdd (dC (.int 1)) (dCall wSip [] (aCons (dVar 0) (aCons (dB bMin (aCons (dBin oSub (dVar 1) (dVar 5)) (aCons (dVar 6) aNil))) aNil)))))
    (sSeq (sApp 3 (dTup (aCons (dVar 5) (aCons (dCall w46 [] (aCons (dVar 0) (aCons (dVar 7) aNil))) aNil))))
    sNil)))))
    (sSeq (sRetOwn 3)
    sNil)))
def w47 : Wf := wfOf 3 8 t47
theorem ok47 {P : Program} {w : World} {K : PySem.W.Frag} {h : Heap} {mg : Str → Option Value} {base : Heap} (X : K.In h) (G : h.Ns mainGlobals mg) (c : Says fa fn K) : ∃ fd, FnOk P w K mg base (L2.CX P w) 4 (d47.adr K) fd ["spring", "length", "most"] (spD K (ct K) w47) ∧ PySem.W.keepIn K (.ref (d47.adr K)) = true ∧ (∃ ds, Vals ((d47.dvs K).drop 0) ds ∧ Binds K fd ["spring", "length", "most"] ds) := by
  obtain ⟨fd, Fd⟩ := c.fun_ 47 (d := d47) rfl
  obtain ⟨fd44, F44, kp44, ⟨db44_0, b44_0⟩⟩ := ok44 (P := P) (w := w) (base := base) X G c
  have f44 := And.intro F44 (And.intro kp44 trivial)
  have f44b0 := b44_0
  obtain ⟨fd46, F46, kp46, ⟨db46_0, b46_0⟩⟩ := ok46 (P := P) (w := w) (base := base) X G c
  have f46 := And.intro F46 (And.intro kp46 trivial)
  have f46b0 := b46_0
  have S := sc47
  refine ⟨fd, fn_d Fd S rfl rfl (fun cdv A outer s H E hr => ?_), Fd.kp, ⟨[], .nil, FunD.bindsN Fd fun _ _ _ _ _ _ us hl => match us, hl with | [_, _, _], _ => rfl⟩⟩
  exact (ds_cons (ds_own S.nd (i := 3) rfl (by first | exact Or.inl rfl | exact Or.inr rfl) da_nil)
    (ds_cons (ds_for (passes_of rfl) rfl (di_r1 (by rfl) (He.free_ok X G (c.fact 51 rfl)) (da_cons (de_op od_mul (de_call f44.1 (hr.mono (by decide)) (He.glo_ok X G (c.fact 30 rfl)) f44.2.1 f44b0.2 f44b0.1 (konst_of rfl rfl) (takes_of rfl rfl rfl rfl) (da_cons (de_v 0) (da_cons (de_op od_add (de_v 2) de_int) da_nil))) (de_T cd_int (He.free_ok X G (c.fact 46 rfl)) (da_cons (de_cmp od_gt (de_v 1) de_int) da_nil))) da_nil)) (pg_nm S.nd (i := 4) rfl (by first | exact Or.inl rfl | exact Or.inr rfl)) (ds_cons (ds_asg S.nd (i := 5) rfl (by first | exact Or.inl rfl | exact Or.inr rfl) (de_call f44.1 (hr.mono (by decide)) (He.glo_ok X G (c.fact 30 rfl)) f44.2.1 f44b0.2 f44b0.1 (konst_of rfl rfl) (takes_of rfl rfl rfl rfl) (da_cons (de_v 0) (da_cons (de_v 1) da_nil))))
    (ds_cons (ds_asg S.nd (i := 6) rfl (by first | exact Or.inl rfl | exact Or.inr rfl) (de_ix (de_lst (da_cons de_int (da_cons de_int (da_cons de_int (da_cons de_int da_nil))))) (de_call f44.1 (hr.mono (by decide)) (He.glo_ok X G (c.fact 30 rfl)) f44.2.1 f44b0.2 f44b0.1 (konst_of rfl rfl) (takes_of rfl rfl rfl rfl) (da_cons (de_v 0) (da_cons de_int da_nil)))))
    (ds_cons (ds_asg S.nd (i := 7) rfl (by first | exact Or.inl rfl | exact Or.inr rfl) (de_op od_add de_int (de_call f44.1 (hr.mono (by decide)) (He.glo_ok X G (c.fact 30 rfl)) f44.2.1 f44b0.2 f44b0.1 (konst_of rfl rfl) (takes_of rfl rfl rfl rfl) (da_cons (de_v 0) (da_cons (de_B (cd_min rfl) (He.free_ok X G (c.fact 50 rfl)) (da_cons (de_op od_sub (de_v 1) (de_v 5)) (da_cons (de_v 6) da_nil))) da_nil)))))
    (ds_cons (ds_app (i := 3) (pe_bm PySem.F.plainAttrs_list PySem.F.slot_list_append PySem.F.type_list_append mt_append (pe_var (i := 3) rfl (by first | exact Or.inl rfl | exact Or.inr (Or.inl rfl) | exact Or.inr (Or.inr rfl))) (pa_cons (de_tup (da_cons (de_v 5) (da_cons (de_call f46.1 (hr.mono (by decide)) (He.glo_ok X G (c.fact 32 rfl)) f46.2.1 f46b0.2 f46b0.1 (konst_of rfl rfl) (takes_of rfl rfl rfl rfl) (da_cons (de_v 0) (da_cons (de_v 7) da_nil))) da_nil))) pa_nil)))
    ds_nil)))))
    (ds_cons (ds_retOwn (pe_var (i := 3) rfl (by first | exact Or.inl rfl | exact Or.inr (Or.inl rfl) | exact Or.inr (Or.inr rfl))))
    ds_nil)))
theorem sc50 : FnScope ["line", "bad"] ["line"] (defScope s50) := ⟨rfl, rfl, rfl, by decide +kernel, rfl, by decide +kernel, by decide +kernel⟩
def t50 : TDS := (sSeq (sAsg 1 (dLst (aCons (dC (.str "")) (aCons (dC (.str " ")) (aCons (dC (.str "Full")) (aCons (dC (.str "full ")) (aCons (dC (.str " full")) (aCons (dC (.str "full 1")) (aCons (dC (.str "ful")) (aCons (dC (.str "keep")) (aCons (dC (.str "keep ")) (aCons (dC (.str "keep 0")) (aCons (dC (.str "keep 04")) aNil)))))))))))))
    (sSeq (sAsg 1 (dBin oAdd (dVar 1) (dLst (aCons (dC (.str "keep -1")) (aCons (dC (.str "keep +1")) (aCons (dC (.str "keep  4")) (aCons (dC (.str "keep 4 ")) (aCons (dC (.str " keep 4")) (aCons (dC (.str "keep 4.0")) (aCons (dC (.str "keep a")) (aCons (dC (.str "Keep 4")) aNil)))))))))))
    (sSeq (sAsg 1 (dBin oAdd (dVar 1) (dLst (aCons (dC (.str "kepp 4")) (aCons (dC (.str "lean")) (aCons (dC (.str "lean 0")) (aCons (dC (.str "dig 00")) (aCons (dC (.str "dig")) (aCons (dC (.str "dig 1 2")) (aCons (dC (.str "dig 1,2")) (aCons (dC (.str "lean_4")) (aCons (dC (.str "keep4")) aNil))))))))))))
    (sSeq (sAsg 1 (dBin oAdd (dVar 1) (dLst (aCons (dC (.str "lean 04")) (aCons (dC (.str "dig 1_0")) (aCons (dC (.str "dig 04")) (aCons (dC (.str "lean +4")) (aCons (dC (.str "lean -4")) (aCons (dC (.str "dig 0")) (aCons (dC (.str "dig ")) (aCons (dC (.str "lean ")) aNil)))))))))))
    (sSeq (sRet (dBin oAdd (dVar 1) (dLst (aCons (dC (.str "4 keep")) (aCons (dC (.str "keep 1_0")) (aCons (dBin oAdd (dVar 0) (dC (.str " "))) (aCons (dBin oAdd (dVar 0) (dC (.str "x"))) (aCons (dBin oAdd (dC (.str " ")) (dVar 0)) aNil))))))))
    sNil)))))
def w50 : Wf := wfOf 1 2 t50
theorem ok50 {P : Program} {w : World} {K : PySem.W.Frag} {h : Heap} {mg : Str → Option Value} {base : Heap} (X : K.In h) (G : h.Ns mainGlobals mg) (c : Says fa fn K) : ∃ fd, FnOk P w K mg base (L2.CX P w) 1 (d50.adr K) fd ["line"] (spD K (ct K) w50) ∧ PySem.W.keepIn K (.ref (d50.adr K)) = true ∧ (∃ ds, Vals ((d50.dvs K).drop 0) ds ∧ Binds K fd ["line"] ds) := by
  obtain ⟨fd, Fd⟩ := c.fun_ 50 (d := d50) rfl

  have S := sc50
  refine ⟨fd, fn_d Fd S rfl rfl (fun cdv A outer s H E hr => ?_), Fd.kp, ⟨[], .nil, FunD.bindsN Fd fun _ _ _ _ _ _ us hl => match us, hl with | [_], _ => rfl⟩⟩
  exact (ds_cons (ds_asg S.nd (i := 1) rfl (by first | exact Or.inl rfl | exact Or.inr rfl) (de_lst (da_cons de_str (da_cons de_str (da_cons de_str (da_cons de_str (da_cons de_str (da_cons de_str (da_cons de_str (da_cons de_str (da_cons de_str (da_cons de_str (da_cons de_str da_nil)))))))))))))
    (ds_cons (ds_asg S.nd (i := 1) rfl (by first | exact Or.inl rfl | exact Or.inr rfl) (de_op od_add (de_v 1) (de_lst (da_cons de_str (da_cons de_str (da_cons de_str (da_cons de_str (da_cons de_str (da_cons de_str (da_cons de_str (da_cons de_str da_nil)))))))))))
    (ds_cons (ds_asg S.nd (i := 1) rfl (by first | exact Or.inl rfl | exact Or.inr rfl) (de_op od_add (de_v 1) (de_lst (da_cons de_str (da_cons de_str (da_cons de_str (da_cons de_str (da_cons de_str (da_cons de_str (da_cons de_str (da_cons de_str (da_cons de_str da_nil))))))))))))
    (ds_cons (ds_asg S.nd (i := 1) rfl (by first | exact Or.inl rfl | exact Or.inr rfl) (de_op od_add (de_v 1) (de_lst (da_cons de_str (da_cons de_str (da_cons de_str (da_cons de_str (da_cons de_str (da_cons de_str (da_cons de_str (da_cons de_str da_nil)))))))))))
    (ds_cons (ds_ret (de_op od_add (de_v 1) (de_lst (da_cons de_str (da_cons de_str (da_cons (de_op od_add (de_v 0) de_str) (da_cons (de_op od_add (de_v 0) de_str) (da_cons (de_op od_add de_str (de_v 0)) da_nil))))))))
    ds_nil)))))
theorem sc51 : FnScope ["size", "bad"] ["size"] (defScope s51) := ⟨rfl, rfl, rfl, by decide +kernel, rfl, by decide +kernel, by decide +kernel⟩
def t51 : TDS := (sSeq (sAsg 1 (dLst (aCons (dC (.str "")) (aCons (dC (.str " ")) (aCons (dC (.str "a")) (aCons (dC (.str "0")) (aCons (dC (.str "0 ")) (aCons (dC (.str "0  a")) (aCons (dC (.str " 0 a")) (aCons (dC (.str "0 a ")) (aCons (dC (.str "00 a")) (aCons (dC (.str "01 a")) (aCons (dC (.str "-1 a")) (aCons (dC (.str "+0 a")) (aCons (dC (.str "0 .")) aNil)))))))))))))))
    (sSeq (sAsg 1 (dBin oAdd (dVar 1) (dLst (aCons (dC (.str "0 A")) (aCons (dC (.str "0 a.")) (aCons (dC (.str "0 a b")) (aCons (dBin oAdd (dB bStr1 (aCons (dVar 0) aNil)) (dC (.str " a"))) (aCons (dBin oAdd (dC (.str "0 ")) (dBin oMul (dC (.str "a")) (dBin oAdd (dVar 0) (dC (.int 1))))) (aCons (dC (.str "a 0")) (aCons (dC (.str "0a")) (aCons (dC (.str "0=a")) aNil)))))))))))
    (sSeq (sAsg 1 (dBin oAdd (dVar 1) (dLst (aCons (dBin oAdd (dB bStr1 (aCons (dBin oSub (dVar 0) (dC (.int 1))) aNil)) (dC (.str " aa"))) (aCons (dBin oAdd (dB bStr1 (aCons (dVar 0) aNil)) (dC (.str " aa"))) aNil)))))
    (sSeq (sRet (dBin oAdd (dVar 1) (dLst (aCons (dC (.str "0,a")) (aCons (dC (.str "0 -")) (aCons (dC (.str "0 1")) (aCons (dC (.str "1_0 a")) (aCons (dC (.str "0.0 a")) (aCons (dBin oAdd (dBin oMul (dC (.str "9")) (dC (.int 40))) (dC (.str " a"))) aNil)))))))))
    sNil))))
def w51 : Wf := wfOf 1 2 t51
theorem ok51 {P : Program} {w : World} {K : PySem.W.Frag} {h : Heap} {mg : Str → Option Value} {base : Heap} (X : K.In h) (G : h.Ns mainGlobals mg) (c : Says fa fn K) : ∃ fd, FnOk P w K mg base (L2.CX P w) 1 (d51.adr K) fd ["size"] (spD K (ct K) w51) ∧ PySem.W.keepIn K (.ref (d51.adr K)) = true ∧ (∃ ds, Vals ((d51.dvs K).drop 0) ds ∧ Binds K fd ["size"] ds) := by
  obtain ⟨fd, Fd⟩ := c.fun_ 51 (d := d51) rfl

  have S := sc51
  refine ⟨fd, fn_d Fd S rfl rfl (fun cdv A outer s H E hr => ?_), Fd.kp, ⟨[], .nil, FunD.bindsN Fd fun _ _ _ _ _ _ us hl => match us, hl with | [_], _ => rfl⟩⟩
  exact (ds_cons (ds_asg S.nd (i := 1) rfl (by first | exact Or.inl rfl | exact Or.inr rfl) (de_lst (da_cons de_str (da_cons de_str (da_cons de_str (da_cons de_str (da_cons de_str (da_cons de_str (da_cons de_str (da_cons de_str (da_cons de_str (da_cons de_str (da_cons de_str (da_cons de_str (da_cons de_str da_nil)))))))))))))))
    (ds_cons (ds_asg S.nd (i := 1) rfl (by first | exact Or.inl rfl | exact Or.inr rfl) (de_op od_add (de_v 1) (de_lst (da_cons de_str (da_cons de_str (da_cons de_str (da_cons (de_op od_add (de_T cd_str1 (He.free_ok X G (c.fact 52 rfl)) (da_cons (de_v 0) da_nil)) de_str) (da_cons (de_op od_add de_str (de_op od_mul de_str (de_op od_add (de_v 0) de_int))) (da_cons de_str (da_cons de_str (da_cons de_str da_nil)))))))))))
    (ds_cons (ds_asg S.nd (i := 1) rfl (by first | exact Or.inl rfl | exact Or.inr rfl) (de_op od_add (de_v 1) (de_lst (da_cons (de_op od_add (de_T cd_str1 (He.free_ok X G (c.fact 52 rfl)) (da_cons (de_op od_sub (de_v 0) de_int) da_nil)) de_str) (da_cons (de_op od_add (de_T cd_str1 (He.free_ok X G (c.fact 52 rfl)) (da_cons (de_v 0) da_nil)) de_str) da_nil)))))
    (ds_cons (ds_ret (de_op od_add (de_v 1) (de_lst (da_cons de_str (da_cons de_str (da_cons de_str (da_cons de_str (da_cons de_str (da_cons (de_op od_add (de_op od_mul de_str de_int) de_str) da_nil)))))))))
    ds_nil))))
theorem sc6 : FnScope ["self", "cells"] ["self", "cells"] (defScope s6) := ⟨rfl, rfl, rfl, by decide +kernel, rfl, by decide +kernel, by decide +kernel⟩
def t6 : TDS := (sSeq (sIf (tNotD (tTru (dCall w30 [] (aCons (dVar 1) (aCons (dC (.str ".0abcdefghijklmnopqrstuvwxyz")) aNil))))) (sSeq (sRaise 1 (dVar 1))
    sNil) sNil)
    (sSeq (sFld 7 0 "_cells" (dVar 1))
    sNil))
def w6 : Wi := wiOf 7 1 1 t6
theorem ok6 {P : Program} {w : World} {K : PySem.W.Frag} {h : Heap} {mg : Str → Option Value} {base : Heap} (X : K.In h) (G : h.Ns mainGlobals mg) (c : Says fa fn K) : ∃ fd, FnOk P w K mg base (L2.CX P w) 3 (d6.adr K) fd ["self", "cells"] (spI K (ct K) 7 w6) ∧ PySem.W.keepIn K (.ref (d6.adr K)) = true ∧ (∃ ds, Vals ((d6.dvs K).drop 0) ds ∧ Binds K fd ["self", "cells"] ds) ∧ (∃ ds, Vals ((d6.dvs K).drop 1) ds ∧ Binds K fd ["self", "cells"] ds) := by
  obtain ⟨fd, Fd⟩ := c.fun_ 6 (d := d6) rfl
  obtain ⟨fd30, F30, kp30, ⟨db30_0, b30_0⟩⟩ := ok30 (P := P) (w := w) (base := base) X G c
  have f30 := And.intro F30 (And.intro kp30 trivial)
  have f30b0 := b30_0
  obtain ⟨fd0, f0⟩ := ok0 (P := P) (w := w) (base := base) X G c
  have S := sc6
  refine ⟨fd, fn_i Fd S rfl rfl (fun gh cdv A outer s H E hr => ?_), Fd.kp, FunD.binds1 (ps := ["self", "cells"]) Fd 1 0 (by intro z; cases z) rfl (fun _ _ _ _ _ _ _ us its hl hi => match us, hl, its, hi with | [_], _, [_], _ => ⟨_, rfl, (by first | rfl | kernel_rfl | with_unfolding_all rfl)⟩), FunD.binds1 (ps := ["self", "cells"]) Fd 2 1 (by intro z; cases z) rfl (fun _ _ _ _ _ _ _ us its hl hi => match us, hl, its, hi with | [_, _], _, [_], _ => ⟨_, rfl, (by first | rfl | kernel_rfl | with_unfolding_all rfl)⟩)⟩
  exact (ds_cons (ds_if (dt_not (dt_tru (de_call (fn_w gh f30.1) (hr.mono (by decide)) (He.glo_ok X G (c.fact 16 rfl)) f30.2.1 f30b0.2 f30b0.1 (konst_of rfl rfl) (takes_of rfl rfl rfl rfl) (da_cons (de_v 1) (da_cons (de_gs (He.str_ok X G (c.fact 41 rfl))) da_nil))))) (ds_cons (ds_raise rfl (takes_of rfl rfl rfl rfl) (exB_ok (c.fact 80 rfl)).1 (exB_ok (c.fact 80 rfl)).2.1 (exB_ok (c.fact 80 rfl)).2.2.1 rfl f0.1 (hr.mono (by decide)) f0.2.2 (He.glo_ok X G (c.fact 0 rfl)) (de_v 1))
    ds_nil) ds_nil)
    (ds_cons (ds_fldc (c := 7) (pe_var (i := 0) rfl (Or.inl rfl)) (de_v 1) (He.cls_ok (c.fact 54 rfl)) (He.noat_ok (c.fact 56 rfl)))
    ds_nil))
theorem sc9 : FnScope ["self", "at"] ["self", "at"] (defScope s9) := ⟨rfl, rfl, rfl, by decide +kernel, rfl, by decide +kernel, by decide +kernel⟩
def t9 : TDS := (sSeq (sDrop (dCall w29 [] (aCons (dVar 1) (aCons (dC (.int 0)) (aCons (dBin oSub (dB bLen (aCons (dFld (fun n => if n = 7 then some 0 else none) (dVar 0)) aNil)) (dC (.int 1))) aNil)))))
    (sSeq (sRet (dBin oIx (dFld (fun n => if n = 7 then some 0 else none) (dVar 0)) (dVar 1)))
    sNil))
def w9 : Wf := wfOf 2 2 t9
theorem ok9 {P : Program} {w : World} {K : PySem.W.Frag} {h : Heap} {mg : Str → Option Value} {base : Heap} (X : K.In h) (G : h.Ns mainGlobals mg) (c : Says fa fn K) : ∃ fd, FnOk P w K mg base (L2.CX P w) 4 (d9.adr K) fd ["self", "at"] (spD K (ct K) w9) ∧ PySem.W.keepIn K (.ref (d9.adr K)) = true ∧ (∃ ds, Vals ((d9.dvs K).drop 0) ds ∧ Binds K fd ["self", "at"] ds) := by
  obtain ⟨fd, Fd⟩ := c.fun_ 9 (d := d9) rfl
  obtain ⟨fd29, F29, kp29, ⟨db29_0, b29_0⟩, ⟨db29_1, b29_1⟩⟩ := ok29 (P := P) (w := w) (base := base) X G c
  have f29 := And.intro F29 (And.intro kp29 trivial)
  have f29b0 := b29_0
  have f29b1 := b29_1
  have S := sc9
  refine ⟨fd, fn_d Fd S rfl rfl (fun cdv A outer s H E hr => ?_), Fd.kp, ⟨[], .nil, FunD.bindsN Fd fun _ _ _ _ _ _ us hl => match us, hl with | [_, _], _ => rfl⟩⟩
  exact (ds_cons (ds_drop (de_call f29.1 (hr.mono (by decide)) (He.glo_ok X G (c.fact 15 rfl)) f29.2.1 f29b1.2 f29b1.1 (konst_of rfl rfl) (takes_of rfl rfl rfl rfl) (da_cons (de_v 1) (da_cons de_int (da_cons (de_op od_sub (de_B cd_len (He.free_ok X G (c.fact 48 rfl)) (da_cons (de_fld (de_v 0) (fun n k h => by
      try dsimp only at h
      split at h
      · rename_i en; subst en; cases h; exact ⟨He.cls_ok (c.fact 54 rfl), He.noat_ok (c.fact 56 rfl), rfl⟩
      cases h)) da_nil)) de_int) da_nil)))))
    (ds_cons (ds_ret (de_ix (de_fld (de_v 0) (fun n k h => by
      try dsimp only at h
      split at h
      · rename_i en; subst en; cases h; exact ⟨He.cls_ok (c.fact 54 rfl), He.noat_ok (c.fact 56 rfl), rfl⟩
      cases h)) (de_v 1)))
    ds_nil))
theorem sc14 : FnScope ["self", "at"] ["self", "at"] (defScope s14) := ⟨rfl, rfl, rfl, by decide +kernel, rfl, by decide +kernel, by decide +kernel⟩
def t14 : TDS := (sSeq (sDrop (dCall w29 [] (aCons (dVar 1) (aCons (dC (.int 0)) (aCons (dBin oSub (dB bLen (aCons (dFld (fun n => if n = 8 then some 1 else none) (dVar 0)) aNil)) (dC (.int 1))) aNil)))))
    (sSeq (sRet (dBin oIx (dFld (fun n => if n = 8 then some 1 else none) (dVar 0)) (dVar 1)))
    sNil))
def w14 : Wf := wfOf 2 2 t14
theorem ok14 {P : Program} {w : World} {K : PySem.W.Frag} {h : Heap} {mg : Str → Option Value} {base : Heap} (X : K.In h) (G : h.Ns mainGlobals mg) (c : Says fa fn K) : ∃ fd, FnOk P w K mg base (L2.CX P w) 4 (d14.adr K) fd ["self", "at"] (spD K (ct K) w14) ∧ PySem.W.keepIn K (.ref (d14.adr K)) = true ∧ (∃ ds, Vals ((d14.dvs K).drop 0) ds ∧ Binds K fd ["self", "at"] ds) := by
  obtain ⟨fd, Fd⟩ := c.fun_ 14 (d := d14) rfl
  obtain ⟨fd29, F29, kp29, ⟨db29_0, b29_0⟩, ⟨db29_1, b29_1⟩⟩ := ok29 (P := P) (w := w) (base := base) X G c
  have f29 := And.intro F29 (And.intro kp29 trivial)
  have f29b0 := b29_0
  have f29b1 := b29_1
  have S := sc14
  refine ⟨fd, fn_d Fd S rfl rfl (fun cdv A outer s H E hr => ?_), Fd.kp, ⟨[], .nil, FunD.bindsN Fd fun _ _ _ _ _ _ us hl => match us, hl with | [_, _], _ => rfl⟩⟩
  exact (ds_cons (ds_drop (de_call f29.1 (hr.mono (by decide)) (He.glo_ok X G (c.fact 15 rfl)) f29.2.1 f29b1.2 f29b1.1 (konst_of rfl rfl) (takes_of rfl rfl rfl rfl) (da_cons (de_v 1) (da_cons de_int (da_cons (de_op od_sub (de_B cd_len (He.free_ok X G (c.fact 48 rfl)) (da_cons (de_fld (de_v 0) (fun n k h => by
      try dsimp only at h
      split at h
      · rename_i en; subst en; cases h; exact ⟨He.cls_ok (c.fact 59 rfl), He.noat_ok (c.fact 62 rfl), rfl⟩
      cases h)) da_nil)) de_int) da_nil)))))
    (ds_cons (ds_ret (de_ix (de_fld (de_v 0) (fun n k h => by
      try dsimp only at h
      split at h
      · rename_i en; subst en; cases h; exact ⟨He.cls_ok (c.fact 59 rfl), He.noat_ok (c.fact 62 rfl), rfl⟩
      cases h)) (de_v 1)))
    ds_nil))
theorem sc15 : FnScope ["self", "other"] ["self", "other"] (defScope s15) := ⟨rfl, rfl, rfl, by decide +kernel, rfl, by decide +kernel, by decide +kernel⟩
def t15 : TDS := (sSeq (sRet (dAnd (dB (bIsi subT) (aCons (dVar 1) (aCons (dC (.cls 8)) aNil))) (dAnd (dBin (oEqT T1 5) (dFld (fun n => if n = 8 then some 0 else none) (dVar 0)) (dFld (fun n => if n = 8 then some 0 else none) (dVar 1))) (dBin (oEqT T1 5) (dFld (fun n => if n = 8 then some 1 else none) (dVar 0)) (dFld (fun n => if n = 8 then some 1 else none) (dVar 1))))))
    sNil)
def w15 : Wf := wfOf 2 2 t15
theorem ok15 {P : Program} {w : World} {K : PySem.W.Frag} {h : Heap} {mg : Str → Option Value} {base : Heap} (X : K.In h) (G : h.Ns mainGlobals mg) (c : Says fa fn K) : ∃ fd, FnOk P w K mg base (L2.CX P w) 7 (d15.adr K) fd ["self", "other"] (spD K (ct K) w15) ∧ PySem.W.keepIn K (.ref (d15.adr K)) = true ∧ (∃ ds, Vals ((d15.dvs K).drop 0) ds ∧ Binds K fd ["self", "other"] ds) := by
  obtain ⟨fd, Fd⟩ := c.fun_ 15 (d := d15) rfl

  have S := sc15
  refine ⟨fd, fn_d Fd S rfl rfl (fun cdv A outer s H E hr => ?_), Fd.kp, ⟨[], .nil, FunD.bindsN Fd fun _ _ _ _ _ _ us hl => match us, hl with | [_, _], _ => rfl⟩⟩
  exact (ds_cons (ds_ret (de_and (de_B (cd_isi (fun _ => rfl) (isiK c)) (He.free_ok X G (c.fact 47 rfl)) (da_cons (de_v 1) (da_cons (de_gcl (c := 8) (He.glo_ok X G (c.fact 7 rfl))) da_nil))) (de_and (de_cmp (od_eqT (T := T1) (n := 5) (takes_of rfl rfl rfl rfl) (fun _ => rfl) (etK1 X G c _ rfl rfl rfl rfl rfl) (apK1 c) (hr.mono (by decide))) (de_fld (de_v 0) (fun n k h => by
      try dsimp only at h
      split at h
      · rename_i en; subst en; cases h; exact ⟨He.cls_ok (c.fact 59 rfl), He.noat_ok (c.fact 61 rfl), rfl⟩
      cases h)) (de_fld (de_v 1) (fun n k h => by
      try dsimp only at h
      split at h
      · rename_i en; subst en; cases h; exact ⟨He.cls_ok (c.fact 59 rfl), He.noat_ok (c.fact 61 rfl), rfl⟩
      cases h))) (de_one (de_cmp (od_eqT (T := T1) (n := 5) (takes_of rfl rfl rfl rfl) (fun _ => rfl) (etK1 X G c _ rfl rfl rfl rfl rfl) (apK1 c) (hr.mono (by decide))) (de_fld (de_v 0) (fun n k h => by
      try dsimp only at h
      split at h
      · rename_i en; subst en; cases h; exact ⟨He.cls_ok (c.fact 59 rfl), He.noat_ok (c.fact 62 rfl), rfl⟩
      cases h)) (de_fld (de_v 1) (fun n k h => by
      try dsimp only at h
      split at h
      · rename_i en; subst en; cases h; exact ⟨He.cls_ok (c.fact 59 rfl), He.noat_ok (c.fact 62 rfl), rfl⟩
      cases h)))))))
    ds_nil)
theorem sc18 : FnScope ["self", "size"] ["self", "size"] (defScope s18) := ⟨rfl, rfl, rfl, by decide +kernel, rfl, by decide +kernel, by decide +kernel⟩
def t18 : TDS := (sSeq (sDrop (dCall w29 [.non] (aCons (dVar 1) (aCons (dC (.int 1)) aNil))))
    (sSeq (sFld 11 0 "_size" (dVar 1))
    sNil))
def w18 : Wi := wiOf 11 1 1 t18
theorem ok18 {P : Program} {w : World} {K : PySem.W.Frag} {h : Heap} {mg : Str → Option Value} {base : Heap} (X : K.In h) (G : h.Ns mainGlobals mg) (c : Says fa fn K) : ∃ fd, FnOk P w K mg base (L2.CX P w) 4 (d18.adr K) fd ["self", "size"] (spI K (ct K) 11 w18) ∧ PySem.W.keepIn K (.ref (d18.adr K)) = true ∧ (∃ ds, Vals ((d18.dvs K).drop 0) ds ∧ Binds K fd ["self", "size"] ds) := by
  obtain ⟨fd, Fd⟩ := c.fun_ 18 (d := d18) rfl
  obtain ⟨fd29, F29, kp29, ⟨db29_0, b29_0⟩, ⟨db29_1, b29_1⟩⟩ := ok29 (P := P) (w := w) (base := base) X G c
  have f29 := And.intro F29 (And.intro kp29 trivial)
  have f29b0 := b29_0
  have f29b1 := b29_1
  have S := sc18
  refine ⟨fd, fn_i Fd S rfl rfl (fun gh cdv A outer s H E hr => ?_), Fd.kp, ⟨[], .nil, FunD.bindsN Fd fun _ _ _ _ _ _ us hl => match us, hl with | [_, _], _ => rfl⟩⟩
  exact (ds_cons (ds_drop (de_call (fn_w gh f29.1) (hr.mono (by decide)) (He.glo_ok X G (c.fact 15 rfl)) f29.2.1 f29b0.2 f29b0.1 (konst_of rfl rfl) (takes_of rfl rfl rfl rfl) (da_cons (de_v 1) (da_cons de_int da_nil))))
    (ds_cons (ds_fldc (c := 11) (pe_var (i := 0) rfl (Or.inl rfl)) (de_v 1) (He.cls_ok (c.fact 66 rfl)) (He.noat_ok (c.fact 68 rfl)))
    ds_nil))
theorem sc20 : FnScope ["self", "size"] ["self", "size"] (defScope s20) := ⟨rfl, rfl, rfl, by decide +kernel, rfl, by decide +kernel, by decide +kernel⟩
def t20 : TDS := (sSeq (sDrop (dCall w29 [.non] (aCons (dVar 1) (aCons (dC (.int 1)) aNil))))
    (sSeq (sFld 12 0 "_size" (dVar 1))
    sNil))
def w20 : Wi := wiOf 12 1 1 t20
theorem ok20 {P : Program} {w : World} {K : PySem.W.Frag} {h : Heap} {mg : Str → Option Value} {base : Heap} (X : K.In h) (G : h.Ns mainGlobals mg) (c : Says fa fn K) : ∃ fd, FnOk P w K mg base (L2.CX P w) 4 (d20.adr K) fd ["self", "size"] (spI K (ct K) 12 w20) ∧ PySem.W.keepIn K (.ref (d20.adr K)) = true ∧ (∃ ds, Vals ((d20.dvs K).drop 0) ds ∧ Binds K fd ["self", "size"] ds) := by
  obtain ⟨fd, Fd⟩ := c.fun_ 20 (d := d20) rfl
  obtain ⟨fd29, F29, kp29, ⟨db29_0, b29_0⟩, ⟨db29_1, b29_1⟩⟩ := ok29 (P := P) (w := w) (base := base) X G c
  have f29 := And.intro F29 (And.intro kp29 trivial)
  have f29b0 := b29_0
  have f29b1 := b29_1
  have S := sc20
  refine ⟨fd, fn_i Fd S rfl rfl (fun gh cdv A outer s H E hr => ?_), Fd.kp, ⟨[], .nil, FunD.bindsN Fd fun _ _ _ _ _ _ us hl => match us, hl with | [_, _], _ => rfl⟩⟩
  exact (ds_cons (ds_drop (de_call (fn_w gh f29.1) (hr.mono (by decide)) (He.glo_ok X G (c.fact 15 rfl)) f29.2.1 f29b0.2 f29b0.1 (konst_of rfl rfl) (takes_of rfl rfl rfl rfl) (da_cons (de_v 1) (da_cons de_int da_nil))))
    (ds_cons (ds_fldc (c := 12) (pe_var (i := 0) rfl (Or.inl rfl)) (de_v 1) (He.cls_ok (c.fact 69 rfl)) (He.noat_ok (c.fact 71 rfl)))
    ds_nil))
theorem sc22 : FnScope ["self", "size"] ["self", "size"] (defScope s22) := ⟨rfl, rfl, rfl, by decide +kernel, rfl, by decide +kernel, by decide +kernel⟩
def t22 : TDS := (sSeq (sDrop (dCall w29 [.non] (aCons (dVar 1) (aCons (dC (.int 1)) aNil))))
    (sSeq (sFld 13 0 "_size" (dVar 1))
    sNil))
def w22 : Wi := wiOf 13 1 1 t22
theorem ok22 {P : Program} {w : World} {K : PySem.W.Frag} {h : Heap} {mg : Str → Option Value} {base : Heap} (X : K.In h) (G : h.Ns mainGlobals mg) (c : Says fa fn K) : ∃ fd, FnOk P w K mg base (L2.CX P w) 4 (d22.adr K) fd ["self", "size"] (spI K (ct K) 13 w22) ∧ PySem.W.keepIn K (.ref (d22.adr K)) = true ∧ (∃ ds, Vals ((d22.dvs K).drop 0) ds ∧ Binds K fd ["self", "size"] ds) := by
  obtain ⟨fd, Fd⟩ := c.fun_ 22 (d := d22) rfl
  obtain ⟨fd29, F29, kp29, ⟨db29_0, b29_0⟩, ⟨db29_1, b29_1⟩⟩ := ok29 (P := P) (w := w) (base := base) X G c
  have f29 := And.intro F29 (And.intro kp29 trivial)
  have f29b0 := b29_0
  have f29b1 := b29_1
  have S := sc22
  refine ⟨fd, fn_i Fd S rfl rfl (fun gh cdv A outer s H E hr => ?_), Fd.kp, ⟨[], .nil, FunD.bindsN Fd fun _ _ _ _ _ _ us hl => match us, hl with | [_, _], _ => rfl⟩⟩
  exact (ds_cons (ds_drop (de_call (fn_w gh f29.1) (hr.mono (by decide)) (He.glo_ok X G (c.fact 15 rfl)) f29.2.1 f29b0.2 f29b0.1 (konst_of rfl rfl) (takes_of rfl rfl rfl rfl) (da_cons (de_v 1) (da_cons de_int da_nil))))
    (ds_cons (ds_fldc (c := 13) (pe_var (i := 0) rfl (Or.inl rfl)) (de_v 1) (He.cls_ok (c.fact 72 rfl)) (He.noat_ok (c.fact 74 rfl)))
    ds_nil))
theorem sc24 : FnScope ["self", "steps"] ["self", "steps"] (defScope s24) := ⟨rfl, rfl, rfl, by decide +kernel, rfl, by decide +kernel, by decide +kernel⟩
def t24 : TDS := (sSeq (sIf (tAndD (tVal (dBin oNotN (dVar 1) (dC .non))) (tNotD (tTru (dCall w36 [] (aCons (dVar 1) aNil))))) (sSeq (sRaise 3 (dVar 1))
    sNil) sNil)
    (sSeq (sFld 14 0 "_steps" (dIf (tVal (dBin oIsN (dVar 1) (dC .non))) (dTup aNil) (dB bTuple (aCons (dVar 1) aNil))))
    sNil))
def w24 : Wi := wiOf 14 1 1 t24
theorem ok24 {P : Program} {w : World} {K : PySem.W.Frag} {h : Heap} {mg : Str → Option Value} {base : Heap} (X : K.In h) (G : h.Ns mainGlobals mg) (c : Says fa fn K) : ∃ fd, FnOk P w K mg base (L2.CX P w) 3 (d24.adr K) fd ["self", "steps"] (spI K (ct K) 14 w24) ∧ PySem.W.keepIn K (.ref (d24.adr K)) = true ∧ (∃ ds, Vals ((d24.dvs K).drop 0) ds ∧ Binds K fd ["self", "steps"] ds) ∧ (∃ ds, Vals ((d24.dvs K).drop 1) ds ∧ Binds K fd ["self", "steps"] ds) := by
  obtain ⟨fd, Fd⟩ := c.fun_ 24 (d := d24) rfl
  obtain ⟨fd36, F36, kp36, ⟨db36_0, b36_0⟩⟩ := ok36 (P := P) (w := w) (base := base) X G c
  have f36 := And.intro F36 (And.intro kp36 trivial)
  have f36b0 := b36_0
  obtain ⟨fd2, f2⟩ := ok2 (P := P) (w := w) (base := base) X G c
  have S := sc24
  refine ⟨fd, fn_i Fd S rfl rfl (fun gh cdv A outer s H E hr => ?_), Fd.kp, FunD.binds1 (ps := ["self", "steps"]) Fd 1 0 (by intro z; cases z) rfl (fun _ _ _ _ _ _ _ us its hl hi => match us, hl, its, hi with | [_], _, [_], _ => ⟨_, rfl, (by first | rfl | kernel_rfl | with_unfolding_all rfl)⟩), FunD.binds1 (ps := ["self", "steps"]) Fd 2 1 (by intro z; cases z) rfl (fun _ _ _ _ _ _ _ us its hl hi => match us, hl, its, hi with | [_, _], _, [_], _ => ⟨_, rfl, (by first | rfl | kernel_rfl | with_unfolding_all rfl)⟩)⟩
  exact (ds_cons (ds_if (dt_w (dw_and (dt_cmp od_notN (de_v 1) de_non) (dw_and1 (dt_not (dt_tru (de_call (fn_w gh f36.1) (hr.mono (by decide)) (He.glo_ok X G (c.fact 22 rfl)) f36.2.1 f36b0.2 f36b0.1 (konst_of rfl rfl) (takes_of rfl rfl rfl rfl) (da_cons (de_v 1) da_nil))))))) (ds_cons (ds_raise rfl (takes_of rfl rfl rfl rfl) (exB_ok (c.fact 82 rfl)).1 (exB_ok (c.fact 82 rfl)).2.1 (exB_ok (c.fact 82 rfl)).2.2.1 rfl f2.1 (hr.mono (by decide)) f2.2.2 (He.glo_ok X G (c.fact 2 rfl)) (de_v 1))
    ds_nil) ds_nil)
    (ds_cons (ds_fldc (c := 14) (pe_var (i := 0) rfl (Or.inl rfl)) (de_if (dt_cmp od_isN (de_v 1) de_non) (de_tup da_nil) (de_T cd_tuple (He.free_ok X G (c.fact 53 rfl)) (da_cons (de_v 1) da_nil))) (He.cls_ok (c.fact 75 rfl)) (He.noat_ok (c.fact 77 rfl)))
    ds_nil))
theorem sc26 : FnScope ["self", "at"] ["self", "at"] (defScope s26) := ⟨rfl, rfl, rfl, by decide +kernel, rfl, by decide +kernel, by decide +kernel⟩
def t26 : TDS := (sSeq (sDrop (dCall w29 [] (aCons (dVar 1) (aCons (dC (.int 0)) (aCons (dBin oSub (dB bLen (aCons (dFld (fun n => if n = 14 then some 0 else none) (dVar 0)) aNil)) (dC (.int 1))) aNil)))))
    (sSeq (sRet (dBin oIx (dFld (fun n => if n = 14 then some 0 else none) (dVar 0)) (dVar 1)))
    sNil))
def w26 : Wf := wfOf 2 2 t26
theorem ok26 {P : Program} {w : World} {K : PySem.W.Frag} {h : Heap} {mg : Str → Option Value} {base : Heap} (X : K.In h) (G : h.Ns mainGlobals mg) (c : Says fa fn K) : ∃ fd, FnOk P w K mg base (L2.CX P w) 4 (d26.adr K) fd ["self", "at"] (spD K (ct K) w26) ∧ PySem.W.keepIn K (.ref (d26.adr K)) = true ∧ (∃ ds, Vals ((d26.dvs K).drop 0) ds ∧ Binds K fd ["self", "at"] ds) := by
  obtain ⟨fd, Fd⟩ := c.fun_ 26 (d := d26) rfl
  obtain ⟨fd29, F29, kp29, ⟨db29_0, b29_0⟩, ⟨db29_1, b29_1⟩⟩ := ok29 (P := P) (w := w) (base := base) X G c
  have f29 := And.intro F29 (And.intro kp29 trivial)
  have f29b0 := b29_0
  have f29b1 := b29_1
  have S := sc26
  refine ⟨fd, fn_d Fd S rfl rfl (fun cdv A outer s H E hr => ?_), Fd.kp, ⟨[], .nil, FunD.bindsN Fd fun _ _ _ _ _ _ us hl => match us, hl with | [_, _], _ => rfl⟩⟩
  exact (ds_cons (ds_drop (de_call f29.1 (hr.mono (by decide)) (He.glo_ok X G (c.fact 15 rfl)) f29.2.1 f29b1.2 f29b1.1 (konst_of rfl rfl) (takes_of rfl rfl rfl rfl) (da_cons (de_v 1) (da_cons de_int (da_cons (de_op od_sub (de_B cd_len (He.free_ok X G (c.fact 48 rfl)) (da_cons (de_fld (de_v 0) (fun n k h => by
      try dsimp only at h
      split at h
      · rename_i en; subst en; cases h; exact ⟨He.cls_ok (c.fact 75 rfl), He.noat_ok (c.fact 77 rfl), rfl⟩
      cases h)) da_nil)) de_int) da_nil)))))
    (ds_cons (ds_ret (de_ix (de_fld (de_v 0) (fun n k h => by
      try dsimp only at h
      split at h
      · rename_i en; subst en; cases h; exact ⟨He.cls_ok (c.fact 75 rfl), He.noat_ok (c.fact 77 rfl), rfl⟩
      cases h)) (de_v 1)))
    ds_nil))
theorem sc33 : FnScope ["value", "file"] ["value", "file"] (defScope s33) := ⟨rfl, rfl, rfl, by decide +kernel, rfl, by decide +kernel, by decide +kernel⟩
def t33 : TDS := (sSeq (sRet (dAnd (dCall w35 [] (aCons (dVar 0) aNil)) (dBin oLe (dBin oAdd (dBin oIx (dVar 0) (dC (.int 0))) (dB (bLenO (fun n => if n = 7 then some w8 else if n = 8 then some w13 else if n = 14 then some w25 else none)) (aCons (dBin oIx (dVar 0) (dC (.int 1))) aNil))) (dB (bLenO (fun n => if n = 7 then some w8 else if n = 8 then some w13 else if n = 14 then some w25 else none)) (aCons (dVar 1) aNil)))))
    sNil)
def w33 : Wf := wfOf 2 2 t33
theorem ok33 {P : Program} {w : World} {K : PySem.W.Frag} {h : Heap} {mg : Str → Option Value} {base : Heap} (X : K.In h) (G : h.Ns mainGlobals mg) (c : Says fa fn K) : ∃ fd, FnOk P w K mg base (L2.CX P w) 4 (d33.adr K) fd ["value", "file"] (spD K (ct K) w33) ∧ PySem.W.keepIn K (.ref (d33.adr K)) = true ∧ (∃ ds, Vals ((d33.dvs K).drop 0) ds ∧ Binds K fd ["value", "file"] ds) := by
  obtain ⟨fd, Fd⟩ := c.fun_ 33 (d := d33) rfl
  obtain ⟨fd35, F35, kp35, ⟨db35_0, b35_0⟩⟩ := ok35 (P := P) (w := w) (base := base) X G c
  have f35 := And.intro F35 (And.intro kp35 trivial)
  have f35b0 := b35_0
  obtain ⟨fd8, F8, kp8, ⟨db8_0, b8_0⟩⟩ := ok8 (P := P) (w := w) (base := base) X G c
  have f8 := And.intro F8 (And.intro kp8 trivial)
  have f8b0 := b8_0
  obtain ⟨fd13, F13, kp13, ⟨db13_0, b13_0⟩⟩ := ok13 (P := P) (w := w) (base := base) X G c
  have f13 := And.intro F13 (And.intro kp13 trivial)
  have f13b0 := b13_0
  obtain ⟨fd25, F25, kp25, ⟨db25_0, b25_0⟩⟩ := ok25 (P := P) (w := w) (base := base) X G c
  have f25 := And.intro F25 (And.intro kp25 trivial)
  have f25b0 := b25_0
  have S := sc33
  refine ⟨fd, fn_d Fd S rfl rfl (fun cdv A outer s H E hr => ?_), Fd.kp, ⟨[], .nil, FunD.bindsN Fd fun _ _ _ _ _ _ us hl => match us, hl with | [_, _], _ => rfl⟩⟩
  exact (ds_cons (ds_ret (de_and (de_call f35.1 (hr.mono (by decide)) (He.glo_ok X G (c.fact 21 rfl)) f35.2.1 f35b0.2 f35b0.1 (konst_of rfl rfl) (takes_of rfl rfl rfl rfl) (da_cons (de_v 0) da_nil)) (de_one (de_cmp od_le (de_op od_add (de_ix (de_v 0) de_int) (de_B (cd_lenO rfl (fun n wf h => by
      try dsimp only at h
      split at h
      · rename_i en; subst en; cases h; exact ⟨⟨_, _, _, _, _, He.meth_ok (c.fact 57 rfl), f8.1, f8b0.1, f8b0.2, (hr.mono (by decide))⟩⟩
      split at h
      · rename_i en; subst en; cases h; exact ⟨⟨_, _, _, _, _, He.meth_ok (c.fact 63 rfl), f13.1, f13b0.1, f13b0.2, (hr.mono (by decide))⟩⟩
      split at h
      · rename_i en; subst en; cases h; exact ⟨⟨_, _, _, _, _, He.meth_ok (c.fact 78 rfl), f25.1, f25b0.1, f25b0.2, (hr.mono (by decide))⟩⟩
      cases h)) (He.free_ok X G (c.fact 48 rfl)) (da_cons (de_ix (de_v 0) de_int) da_nil))) (de_B (cd_lenO rfl (fun n wf h => by
      try dsimp only at h
      split at h
      · rename_i en; subst en; cases h; exact ⟨⟨_, _, _, _, _, He.meth_ok (c.fact 57 rfl), f8.1, f8b0.1, f8b0.2, (hr.mono (by decide))⟩⟩
      split at h
      · rename_i en; subst en; cases h; exact ⟨⟨_, _, _, _, _, He.meth_ok (c.fact 63 rfl), f13.1, f13b0.1, f13b0.2, (hr.mono (by decide))⟩⟩
      split at h
      · rename_i en; subst en; cases h; exact ⟨⟨_, _, _, _, _, He.meth_ok (c.fact 78 rfl), f25.1, f25b0.1, f25b0.2, (hr.mono (by decide))⟩⟩
      cases h)) (He.free_ok X G (c.fact 48 rfl)) (da_cons (de_v 1) da_nil))))))
    ds_nil)
theorem sc40 : FnScope ["line", "word", "_", "figures", "size"] ["line"] (defScope s40) := ⟨rfl, rfl, rfl, by decide +kernel, rfl, by decide +kernel, by decide +kernel⟩
def t40 : TDS := (sSeq (sIf (tVal (dBin (oEqT T0 1) (dVar 0) (dC (.str "full")))) (sSeq (sRet (dMake 10 (nm.getD 10 []) w16 [] aNil))
    sNil) sNil)
    (sSeq (sTg (.tp [1, 2, 3]) (dM1 cPart (dVar 0) (dC (.str " "))))
    (sSeq (sAsg 4 (dCall w42 [] (aCons (dVar 3) aNil)))
    (sSeq (sIf (tOrD (tVal (dBin oIsN (dVar 4) (dC .non))) (tVal (dBin (oEqT T0 1) (dVar 4) (dC (.int 0))))) (sSeq (sRet (dC .non))
    sNil) sNil)
    (sSeq (sIf (tVal (dBin (oEqT T0 1) (dVar 1) (dC (.str "keep")))) (sSeq (sRet (dMake 11 (nm.getD 11 []) w18 [] (aCons (dVar 4) aNil)))
    sNil) sNil)
    (sSeq (sIf (tVal (dBin (oEqT T0 1) (dVar 1) (dC (.str "lean")))) (sSeq (sRet (dMake 12 (nm.getD 12 []) w20 [] (aCons (dVar 4) aNil)))
    sNil) sNil)
    (sSeq (sRet (dIf (tVal (dBin (oEqT T0 1) (dVar 1) (dC (.str "dig")))) (dMake 13 (nm.getD 13 []) w22 [] (aCons (dVar 4) aNil)) (dC .non)))
    sNil)))))))
def w40 : Wf := wfOf 1 5 t40
theorem ok40 {P : Program} {w : World} {K : PySem.W.Frag} {h : Heap} {mg : Str → Option Value} {base : Heap} (X : K.In h) (G : h.Ns mainGlobals mg) (c : Says fa fn K) : ∃ fd, FnOk P w K mg base (L2.CX P w) 6 (d40.adr K) fd ["line"] (spD K (ct K) w40) ∧ PySem.W.keepIn K (.ref (d40.adr K)) = true ∧ (∃ ds, Vals ((d40.dvs K).drop 0) ds ∧ Binds K fd ["line"] ds) := by
  obtain ⟨fd, Fd⟩ := c.fun_ 40 (d := d40) rfl
  obtain ⟨fd16, F16, kp16, ⟨db16_0, b16_0⟩⟩ := ok16 (P := P) (w := w) (base := base) X G c
  have f16 := And.intro F16 (And.intro kp16 trivial)
  have f16b0 := b16_0
  obtain ⟨fd42, F42, kp42, ⟨db42_0, b42_0⟩⟩ := ok42 (P := P) (w := w) (base := base) X G c
  have f42 := And.intro F42 (And.intro kp42 trivial)
  have f42b0 := b42_0
  obtain ⟨fd18, F18, kp18, ⟨db18_0, b18_0⟩⟩ := ok18 (P := P) (w := w) (base := base) X G c
  have f18 := And.intro F18 (And.intro kp18 trivial)
  have f18b0 := b18_0
  obtain ⟨fd20, F20, kp20, ⟨db20_0, b20_0⟩⟩ := ok20 (P := P) (w := w) (base := base) X G c
  have f20 := And.intro F20 (And.intro kp20 trivial)
  have f20b0 := b20_0
  obtain ⟨fd22, F22, kp22, ⟨db22_0, b22_0⟩⟩ := ok22 (P := P) (w := w) (base := base) X G c
  have f22 := And.intro F22 (And.intro kp22 trivial)
  have f22b0 := b22_0
  have S := sc40
  refine ⟨fd, fn_d Fd S rfl rfl (fun cdv A outer s H E hr => ?_), Fd.kp, ⟨[], .nil, FunD.bindsN Fd fun _ _ _ _ _ _ us hl => match us, hl with | [_], _ => rfl⟩⟩
  exact (ds_cons (ds_if (dt_cmp (od_eqT (T := T0) (n := 1) (takes_of rfl rfl rfl rfl) (fun _ => rfl) (fun _ _ _ h => by cases h) (fun _ _ h => by cases h) (hr.mono (by decide))) (de_v 0) de_str) (ds_cons (ds_ret (de_make0 (c := 10) rfl (He.mkr_ok (c.fact 65 rfl)) f16.1 (hr.mono (by decide)) (He.glo_ok X G (c.fact 9 rfl)) f16b0.2 f16b0.1 (konst_of rfl rfl) (takes_of rfl rfl rfl rfl)))
    ds_nil) ds_nil)
    (ds_cons (ds_tg (de_partition (de_v 0) de_str) (pg_tp3 rfl (pg_name S.nd (i := 1) rfl (by first | exact Or.inl rfl | exact Or.inr rfl)) (pg_name S.nd (i := 2) rfl (by first | exact Or.inl rfl | exact Or.inr rfl)) (pg_name S.nd (i := 3) rfl (by first | exact Or.inl rfl | exact Or.inr rfl))))
    (ds_cons (ds_asg S.nd (i := 4) rfl (by first | exact Or.inl rfl | exact Or.inr rfl) (de_call f42.1 (hr.mono (by decide)) (He.glo_ok X G (c.fact 28 rfl)) f42.2.1 f42b0.2 f42b0.1 (konst_of rfl rfl) (takes_of rfl rfl rfl rfl) (da_cons (de_v 3) da_nil)))
    (ds_cons (ds_if (dt_w (dw_or (dt_cmp od_isN (de_v 4) de_non) (dw_or1 (dt_cmp (od_eqT (T := T0) (n := 1) (takes_of rfl rfl rfl rfl) (fun _ => rfl) (fun _ _ _ h => by cases h) (fun _ _ h => by cases h) (hr.mono (by decide))) (de_v 4) de_int)))) (ds_cons (ds_ret de_non)
    ds_nil) ds_nil)
    (ds_cons (ds_if (dt_cmp (od_eqT (T := T0) (n := 1) (takes_of rfl rfl rfl rfl) (fun _ => rfl) (fun _ _ _ h => by cases h) (fun _ _ h => by cases h) (hr.mono (by decide))) (de_v 1) de_str) (ds_cons (ds_ret (de_make (c := 11) rfl (He.mkr_ok (c.fact 67 rfl)) f18.1 (hr.mono (by decide)) (He.glo_ok X G (c.fact 10 rfl)) f18b0.2 f18b0.1 (konst_of rfl rfl) (takes_of rfl rfl rfl rfl) (da_cons (de_v 4) da_nil)))
    ds_nil) ds_nil)
    (ds_cons (ds_if (dt_cmp (od_eqT (T := T0) (n := 1) (takes_of rfl rfl rfl rfl) (fun _ => rfl) (fun _ _ _ h => by cases h) (fun _ _ h => by cases h) (hr.mono (by decide))) (de_v 1) de_str) (ds_cons (ds_ret (de_make (c := 12) rfl (He.mkr_ok (c.fact 70 rfl)) f20.1 (hr.mono (by decide)) (He.glo_ok X G (c.fact 11 rfl)) f20b0.2 f20b0.1 (konst_of rfl rfl) (takes_of rfl rfl rfl rfl) (da_cons (de_v 4) da_nil)))
    ds_nil) ds_nil)
    (ds_cons (ds_ret (de_if (dt_cmp (od_eqT (T := T0) (n := 1) (takes_of rfl rfl rfl rfl) (fun _ => rfl) (fun _ _ _ h => by cases h) (fun _ _ h => by cases h) (hr.mono (by decide))) (de_v 1) de_str) (de_make (c := 13) rfl (He.mkr_ok (c.fact 73 rfl)) f22.1 (hr.mono (by decide)) (He.glo_ok X G (c.fact 12 rfl)) f22b0.2 f22b0.1 (konst_of rfl rfl) (takes_of rfl rfl rfl rfl) (da_cons (de_v 4) da_nil)) de_non))
    ds_nil)))))))
theorem sc41 : FnScope ["line", "figures", "_", "text"] ["line"] (defScope s41) := ⟨rfl, rfl, rfl, by decide +kernel, rfl, by decide +kernel, by decide +kernel⟩
def t41 : TDS := (sSeq (sTg (.tp [1, 2, 3]) (dM1 cPart (dVar 0) (dC (.str " "))))
    (sSeq (sRet (dTup (aCons (dCall w42 [] (aCons (dVar 1) aNil)) (aCons (dVar 3) aNil))))
    sNil))
def w41 : Wf := wfOf 1 4 t41
theorem ok41 {P : Program} {w : World} {K : PySem.W.Frag} {h : Heap} {mg : Str → Option Value} {base : Heap} (X : K.In h) (G : h.Ns mainGlobals mg) (c : Says fa fn K) : ∃ fd, FnOk P w K mg base (L2.CX P w) 4 (d41.adr K) fd ["line"] (spD K (ct K) w41) ∧ PySem.W.keepIn K (.ref (d41.adr K)) = true ∧ (∃ ds, Vals ((d41.dvs K).drop 0) ds ∧ Binds K fd ["line"] ds) := by
  obtain ⟨fd, Fd⟩ := c.fun_ 41 (d := d41) rfl
  obtain ⟨fd42, F42, kp42, ⟨db42_0, b42_0⟩⟩ := ok42 (P := P) (w := w) (base := base) X G c
  have f42 := And.intro F42 (And.intro kp42 trivial)
  have f42b0 := b42_0
  have S := sc41
  refine ⟨fd, fn_d Fd S rfl rfl (fun cdv A outer s H E hr => ?_), Fd.kp, ⟨[], .nil, FunD.bindsN Fd fun _ _ _ _ _ _ us hl => match us, hl with | [_], _ => rfl⟩⟩
  exact (ds_cons (ds_tg (de_partition (de_v 0) de_str) (pg_tp3 rfl (pg_name S.nd (i := 1) rfl (by first | exact Or.inl rfl | exact Or.inr rfl)) (pg_name S.nd (i := 2) rfl (by first | exact Or.inl rfl | exact Or.inr rfl)) (pg_name S.nd (i := 3) rfl (by first | exact Or.inl rfl | exact Or.inr rfl))))
    (ds_cons (ds_ret (de_tup (da_cons (de_call f42.1 (hr.mono (by decide)) (He.glo_ok X G (c.fact 28 rfl)) f42.2.1 f42b0.2 f42b0.1 (konst_of rfl rfl) (takes_of rfl rfl rfl rfl) (da_cons (de_v 1) da_nil)) (da_cons (de_v 3) da_nil))))
    ds_nil))
theorem sc43 : FnScope ["script", "at", "cell", "great", "high", "low", "held", "turn"] ["script", "at"] (defScope s43) := ⟨rfl, rfl, rfl, by decide +kernel, rfl, by decide +kernel, by decide +kernel⟩
def t43 : TDS := (sSeq (sAsg 2 (dBin oAdd (dBin oMul (dC (.int 17)) (dVar 1)) (dC (.int 3))))
    (sSeq (sIf (tVal (dBin oLt (dVar 1) (dB (bLenO (fun n => if n = 7 then some w8 else if n = 8 then some w13 else if n = 14 then some w25 else none)) (aCons (dVar 0) aNil)))) (sSeq (sAsg 2 (dIxO (fun n => if n = 7 then some w9 else if n = 8 then some w14 else if n = 14 then some w26 else none) (dVar 0) (dVar 1)))
    sNil) sNil)
    (sSeq (sIf (tVal (dBin oGe (dVar 2) (dBin oPow (dC (.int 10)) (dC (.int 18))))) (sSeq (sAsg 3 (dBin oMul (dBin oMul (dBin oMul (dBin oPow (dC (.int 10)) (dC (.int 60))) (dBin oPow (dC (.int 10)) (dC (.int 60)))) (dBin oPow (dC (.int 10)) (dC (.int 60)))) (dBin oPow (dC (.int 10)) (dC (.int 60)))))
    (sSeq (sRetL (aCons (dBin oMod (dB bInt (aCons (dBin oSub (dVar 2) (dBin oPow (dC (.int 10)) (dC (.int 18)))) aNil)) (dBin oMul (dVar 3) (dVar 3))) aNil))
    sNil)) sNil)
    (sSeq (sPar2 4 5 (aCons (dBin oMod (dB bInt (aCons (dBin oAdd (dVar 2) (dBin oMul (dC (.int 3)) (dVar 1))) aNil)) (dC (.int 2147483543))) (aCons (dBin oMod (dB bInt (aCons (dVar 2) aNil)) (dC (.int 2147483497))) aNil)))
    (sSeq (sAsg 6 (dC (.int 0)))
    (sSeq (sFor (iR1 (aCons (dC (.int 46)) aNil)) (.nm 7) (sSeq (sAsg 4 (dBin oMod (dB bInt (aCons (dBin oAdd (dBin oAdd (dBin oAdd (dBin oMul (dVar 4) (dC (.int 39373))) (dBin oMul (dVar 7) (dC (.int 977)))) (dBin oMul (dC (.int 4099)) (dVar 1))) (dC (.int 5))) aNil)) (dC (.int 2147483543))))
    (sSeq (sAsg 5 (dBin oMod (dB bInt (aCons (dBin oAdd (dBin oAdd (dBin oMul (dVar 5) (dVar 5)) (dBin oMul (dC (.int 48611)) (dVar 7))) (dC (.int 2713))) aNil)) (dC (.int 2147483497))))
    (sSeq (sAsg 6 (dBin oAdd (dBin oMul (dVar 6) (dC (.int 2147483496))) (dBin oMod (dB bInt (aCons (dBin oAdd (dBin oMul (dVar 4) (dVar 5)) (dBin oMul (dC (.int 31)) (dVar 7))) aNil)) (dC (.int 2147483496)))))
    sNil))))
    (sSeq (sRetL (aCons (dVar 6) aNil))
    sNil)))))))
def w43 : Wf := wSpr (wnOf 2 8 t43)
theorem ok43 {P : Program} {w : World} {K : PySem.W.Frag} {h : Heap} {mg : Str → Option Value} {base : Heap} (X : K.In h) (G : h.Ns mainGlobals mg) (c : Says fa fn K) : ∃ fd, FnOk P w K mg base (L2.CX P w) 6 (d43.adr K) fd ["script", "at"] (spD K (ct K) w43) ∧ PySem.W.keepIn K (.ref (d43.adr K)) = true ∧ (∃ ds, Vals ((d43.dvs K).drop 0) ds ∧ Binds K fd ["script", "at"] ds) := by
  obtain ⟨fd, Fd⟩ := c.fun_ 43 (d := d43) rfl
  obtain ⟨fd8, F8, kp8, ⟨db8_0, b8_0⟩⟩ := ok8 (P := P) (w := w) (base := base) X G c
  have f8 := And.intro F8 (And.intro kp8 trivial)
  have f8b0 := b8_0
  obtain ⟨fd13, F13, kp13, ⟨db13_0, b13_0⟩⟩ := ok13 (P := P) (w := w) (base := base) X G c
  have f13 := And.intro F13 (And.intro kp13 trivial)
  have f13b0 := b13_0
  obtain ⟨fd25, F25, kp25, ⟨db25_0, b25_0⟩⟩ := ok25 (P := P) (w := w) (base := base) X G c
  have f25 := And.intro F25 (And.intro kp25 trivial)
  have f25b0 := b25_0
  obtain ⟨fd9, F9, kp9, ⟨db9_0, b9_0⟩⟩ := ok9 (P := P) (w := w) (base := base) X G c
  have f9 := And.intro F9 (And.intro kp9 trivial)
  have f9b0 := b9_0
  obtain ⟨fd14, F14, kp14, ⟨db14_0, b14_0⟩⟩ := ok14 (P := P) (w := w) (base := base) X G c
  have f14 := And.intro F14 (And.intro kp14 trivial)
  have f14b0 := b14_0
  obtain ⟨fd26, F26, kp26, ⟨db26_0, b26_0⟩⟩ := ok26 (P := P) (w := w) (base := base) X G c
  have f26 := And.intro F26 (And.intro kp26 trivial)
  have f26b0 := b26_0
  have S := sc43
  refine ⟨fd, spring_tok (fun _ => rfl) (fn_n Fd S rfl rfl (fun cdv A outer s H E hr => ?_)), Fd.kp, ⟨[], .nil, FunD.bindsN Fd fun _ _ _ _ _ _ us hl => match us, hl with | [_, _], _ => rfl⟩⟩
  exact (ds_cons (ds_asg S.nd (i := 2) rfl (by first | exact Or.inl rfl | exact Or.inr rfl) (de_op od_add (de_op od_mul de_int (de_v 1)) de_int))
    (ds_cons (ds_if (dt_cmp od_lt (de_v 1) (de_B (cd_lenO rfl (fun n wf h => by
      try dsimp only at h
      split at h
      · rename_i en; subst en; cases h; exact ⟨⟨_, _, _, _, _, He.meth_ok (c.fact 57 rfl), f8.1, f8b0.1, f8b0.2, (hr.mono (by decide))⟩⟩
      split at h
      · rename_i en; subst en; cases h; exact ⟨⟨_, _, _, _, _, He.meth_ok (c.fact 63 rfl), f13.1, f13b0.1, f13b0.2, (hr.mono (by decide))⟩⟩
      split at h
      · rename_i en; subst en; cases h; exact ⟨⟨_, _, _, _, _, He.meth_ok (c.fact 78 rfl), f25.1, f25b0.1, f25b0.2, (hr.mono (by decide))⟩⟩
      cases h)) (He.free_ok X G (c.fact 48 rfl)) (da_cons (de_v 0) da_nil))) (ds_cons (ds_asg S.nd (i := 2) rfl (by first | exact Or.inl rfl | exact Or.inr rfl) (de_ixO (fun n wf h => by
      try dsimp only at h
      split at h
      · rename_i en; subst en; cases h; exact ⟨⟨_, _, _, _, He.meth_ok (c.fact 58 rfl), (c.fact 92 rfl), f9.1, (hr.mono (by decide)), (by obtain ⟨_, _⟩ := And.intro f9b0.1 f9b0.2; cases f9b0.1; exact f9b0.2)⟩⟩
      split at h
      · rename_i en; subst en; cases h; exact ⟨⟨_, _, _, _, He.meth_ok (c.fact 64 rfl), (c.fact 93 rfl), f14.1, (hr.mono (by decide)), (by obtain ⟨_, _⟩ := And.intro f14b0.1 f14b0.2; cases f14b0.1; exact f14b0.2)⟩⟩
      split at h
      · rename_i en; subst en; cases h; exact ⟨⟨_, _, _, _, He.meth_ok (c.fact 79 rfl), (c.fact 94 rfl), f26.1, (hr.mono (by decide)), (by obtain ⟨_, _⟩ := And.intro f26b0.1 f26b0.2; cases f26b0.1; exact f26b0.2)⟩⟩
      cases h) (takes_of rfl rfl rfl rfl) (de_v 0) (de_v 1)))
    ds_nil) ds_nil)
    (ds_cons (ds_if (dt_cmp od_ge (de_v 2) (de_op od_pow de_int de_int)) (ds_cons (ds_asg S.nd (i := 3) rfl (by first | exact Or.inl rfl | exact Or.inr rfl) (de_op od_mul (de_op od_mul (de_op od_mul (de_op od_pow de_int de_int) (de_op od_pow de_int de_int)) (de_op od_pow de_int de_int)) (de_op od_pow de_int de_int)))
    (ds_cons (ds_retL (da_cons (de_op od_mod (de_T cd_int (He.free_ok X G (c.fact 46 rfl)) (da_cons (de_op od_sub (de_v 2) (de_op od_pow de_int de_int)) da_nil)) (de_op od_mul (de_v 3) (de_v 3))) da_nil))
    ds_nil)) ds_nil)
    (ds_cons (ds_par2 (i := 4) (j := 5) rfl S.nd rfl rfl rfl rfl (da_cons (de_op od_mod (de_T cd_int (He.free_ok X G (c.fact 46 rfl)) (da_cons (de_op od_add (de_v 2) (de_op od_mul de_int (de_v 1))) da_nil)) de_int) (da_cons (de_op od_mod (de_T cd_int (He.free_ok X G (c.fact 46 rfl)) (da_cons (de_v 2) da_nil)) de_int) da_nil)))
    (ds_cons (ds_asg S.nd (i := 6) rfl (by first | exact Or.inl rfl | exact Or.inr rfl) de_int)
    (ds_cons (ds_for (passes_of rfl) rfl (di_r1 (by rfl) (He.free_ok X G (c.fact 51 rfl)) (da_cons de_int da_nil)) (pg_nm S.nd (i := 7) rfl (by first | exact Or.inl rfl | exact Or.inr rfl)) (ds_cons (ds_asg S.nd (i := 4) rfl (by first | exact Or.inl rfl | exact Or.inr rfl) (de_op od_mod (de_T cd_int (He.free_ok X G (c.fact 46 rfl)) (da_cons (de_op od_add (de_op od_add (de_op od_add (de_op od_mul (de_v 4) de_int) (de_op od_mul (de_v 7) de_int)) (de_op od_mul de_int (de_v 1))) de_int) da_nil)) de_int))
    (ds_cons (ds_asg S.nd (i := 5) rfl (by first | exact Or.inl rfl | exact Or.inr rfl) (de_op od_mod (de_T cd_int (He.free_ok X G (c.fact 46 rfl)) (da_cons (de_op od_add (de_op od_add (de_op od_mul (de_v 5) (de_v 5)) (de_op od_mul de_int (de_v 7))) de_int) da_nil)) de_int))
    (ds_cons (ds_asg S.nd (i := 6) rfl (by first | exact Or.inl rfl | exact Or.inr rfl) (de_op od_add (de_op od_mul (de_v 6) de_int) (de_op od_mod (de_T cd_int (He.free_ok X G (c.fact 46 rfl)) (da_cons (de_op od_add (de_op od_mul (de_v 4) (de_v 5)) (de_op od_mul de_int (de_v 7))) da_nil)) de_int)))
    ds_nil))))
    (ds_cons (ds_retL (da_cons (de_v 6) da_nil))
    ds_nil)))))))
def TQ : EqT := (fun n => if n = 7 then some (2, w10) else if n = 8 then some (7, w15) else if n = 10 then some (1, w17) else if n = 11 then some (2, w19) else if n = 12 then some (2, w21) else if n = 13 then some (2, w23) else if n = 14 then some (7, w27) else none)
theorem hTQ : ∀ c, (TQ c).isSome = true → hasE c = true ∧ c < cn.length := by
  intro n h
  unfold TQ at h
  try dsimp only at h
  split at h
  · rename_i en; subst en; exact ⟨rfl, by decide⟩
  split at h
  · rename_i en; subst en; exact ⟨rfl, by decide⟩
  split at h
  · rename_i en; subst en; exact ⟨rfl, by decide⟩
  split at h
  · rename_i en; subst en; exact ⟨rfl, by decide⟩
  split at h
  · rename_i en; subst en; exact ⟨rfl, by decide⟩
  split at h
  · rename_i en; subst en; exact ⟨rfl, by decide⟩
  split at h
  · rename_i en; subst en; exact ⟨rfl, by decide⟩
  cases h
theorem etK {P : Program} {w : World} {K : PySem.W.Frag} {h : Heap} {mg : Str → Option Value} {base : Heap} (X : K.In h) (G : h.Ns mainGlobals mg) (c : Says fa fn K) (Y : Cx) (e1 : Y.prog = P) (e2 : Y.w = w) (e3 : Y.K = K) (e4 : Y.mg = mg) (e5 : Y.base = base) : ∀ n k wf, TQ n = some (k, wf) → EqAtO Y (ct K) TQ n k wf := by
  intro n k wf h
  subst e1 e2 e3 e4 e5
  unfold TQ at h
  try dsimp only at h
  split at h
  · rename_i en; subst en; cases h
    obtain ⟨fd, F, kp, ⟨ds, rd, b⟩⟩ := ok10 (P := Y.prog) (w := Y.w) (base := Y.base) X G c
    cases rd
    exact (eqB_ok (nm := nm) (c.fact 96 rfl) TQ hTQ).2 Y _ _ 7 rfl rfl ⟨fd, _, F, b⟩
  split at h
  · rename_i en; subst en; cases h
    obtain ⟨fd, F, kp, ⟨ds, rd, b⟩⟩ := ok15 (P := Y.prog) (w := Y.w) (base := Y.base) X G c
    cases rd
    exact (eqB_ok (nm := nm) (c.fact 96 rfl) TQ hTQ).2 Y _ _ 8 rfl rfl ⟨fd, _, F, b⟩
  split at h
  · rename_i en; subst en; cases h
    obtain ⟨fd, F, kp, ⟨ds, rd, b⟩⟩ := ok17 (P := Y.prog) (w := Y.w) (base := Y.base) X G c
    cases rd
    exact (eqB_ok (nm := nm) (c.fact 96 rfl) TQ hTQ).2 Y _ _ 10 rfl rfl ⟨fd, _, F, b⟩
  split at h
  · rename_i en; subst en; cases h
    obtain ⟨fd, F, kp, ⟨ds, rd, b⟩⟩ := ok19 (P := Y.prog) (w := Y.w) (base := Y.base) X G c
    cases rd
    exact (eqB_ok (nm := nm) (c.fact 96 rfl) TQ hTQ).2 Y _ _ 11 rfl rfl ⟨fd, _, F, b⟩
  split at h
  · rename_i en; subst en; cases h
    obtain ⟨fd, F, kp, ⟨ds, rd, b⟩⟩ := ok21 (P := Y.prog) (w := Y.w) (base := Y.base) X G c
    cases rd
    exact (eqB_ok (nm := nm) (c.fact 96 rfl) TQ hTQ).2 Y _ _ 12 rfl rfl ⟨fd, _, F, b⟩
  split at h
  · rename_i en; subst en; cases h
    obtain ⟨fd, F, kp, ⟨ds, rd, b⟩⟩ := ok23 (P := Y.prog) (w := Y.w) (base := Y.base) X G c
    cases rd
    exact (eqB_ok (nm := nm) (c.fact 96 rfl) TQ hTQ).2 Y _ _ 13 rfl rfl ⟨fd, _, F, b⟩
  split at h
  · rename_i en; subst en; cases h
    obtain ⟨fd, F, kp, ⟨ds, rd, b⟩⟩ := ok27 (P := Y.prog) (w := Y.w) (base := Y.base) X G c
    cases rd
    exact (eqB_ok (nm := nm) (c.fact 96 rfl) TQ hTQ).2 Y _ _ 14 rfl rfl ⟨fd, _, F, b⟩
  cases h
theorem apK {K : PySem.W.Frag} (c : Says fa fn K) : ApartT TQ (ct K) := (eqB_ok (nm := nm) (c.fact 96 rfl) TQ hTQ).1
theorem sc49 : FnScope ["spring", "lines", "turn", "word"] ["spring"] (defScope s49) := ⟨rfl, rfl, rfl, by decide +kernel, rfl, by decide +kernel, by decide +kernel⟩
def t49 : TDS := (sSeq (sOwn 1 aNil)
    (sSeq (sFor (iR1 (aCons (dBin oAdd (dC (.int 1)) (dCall wSip [] (aCons (dVar 0) (aCons (dC (.int 8)) aNil)))) aNil)) (.nm 2) (sSeq (sAsg 3 (dBin oIx (dLst (aCons (dC (.str "full")) (aCons (dC (.str "keep ")) (aCons (dC (.str "lean ")) (aCons (dC (.str "dig ")) aNil))))) (dCall wSip [] (aCons (dVar 0) (aCons (dC (.int 4)) aNil)))))
    (sSeq (sApp 1 (dBin oAdd (dVar 3) (dBin oMul (dB bStr1 (aCons (dBin oAdd (dC (.int 1)) (dCall wSip [] (aCons (dVar 0) (aCons (dC (.int 30)) aNil)))) aNil)) (dB bInt (aCons (dBin (oNeT TQ 10) (dVar 3) (dC (.str "full"))) aNil)))))
    sNil)))
    (sSeq (sRetOwn 1)
    sNil)))
def w49 : Wf := wfOf 1 4 t49
theorem ok49 {P : Program} {w : World} {K : PySem.W.Frag} {h : Heap} {mg : Str → Option Value} {base : Heap} (X : K.In h) (G : h.Ns mainGlobals mg) (c : Says fa fn K) : ∃ fd, FnOk P w K mg base (L2.CX P w) 12 (d49.adr K) fd ["spring"] (spD K (ct K) w49) ∧ PySem.W.keepIn K (.ref (d49.adr K)) = true ∧ (∃ ds, Vals ((d49.dvs K).drop 0) ds ∧ Binds K fd ["spring"] ds) := by
  obtain ⟨fd, Fd⟩ := c.fun_ 49 (d := d49) rfl
  obtain ⟨fd44, F44, kp44, ⟨db44_0, b44_0⟩⟩ := ok44 (P := P) (w := w) (base := base) X G c
  have f44 := And.intro F44 (And.intro kp44 trivial)
  have f44b0 := b44_0
  have S := sc49
  refine ⟨fd, fn_d Fd S rfl rfl (fun cdv A outer s H E hr => ?_), Fd.kp, ⟨[], .nil, FunD.bindsN Fd fun _ _ _ _ _ _ us hl => match us, hl with | [_], _ => rfl⟩⟩
  exact (ds_cons (ds_own S.nd (i := 1) rfl (by first | exact Or.inl rfl | exact Or.inr rfl) da_nil)
    (ds_cons (ds_for (passes_of rfl) rfl (di_r1 (by rfl) (He.free_ok X G (c.fact 51 rfl)) (da_cons (de_op od_add de_int (de_call f44.1 (hr.mono (by decide)) (He.glo_ok X G (c.fact 30 rfl)) f44.2.1 f44b0.2 f44b0.1 (konst_of rfl rfl) (takes_of rfl rfl rfl rfl) (da_cons (de_v 0) (da_cons de_int da_nil)))) da_nil)) (pg_nm S.nd (i := 2) rfl (by first | exact Or.inl rfl | exact Or.inr rfl)) (ds_cons (ds_asg S.nd (i := 3) rfl (by first | exact Or.inl rfl | exact Or.inr rfl) (de_ix (de_lst (da_cons de_str (da_cons de_str (da_cons de_str (da_cons de_str da_nil))))) (de_call f44.1 (hr.mono (by decide)) (He.glo_ok X G (c.fact 30 rfl)) f44.2.1 f44b0.2 f44b0.1 (konst_of rfl rfl) (takes_of rfl rfl rfl rfl) (da_cons (de_v 0) (da_cons de_int da_nil)))))
    (ds_cons (ds_app (i := 1) (pe_bm PySem.F.plainAttrs_list PySem.F.slot_list_append PySem.F.type_list_append mt_append (pe_var (i := 1) rfl (by first | exact Or.inl rfl | exact Or.inr (Or.inl rfl) | exact Or.inr (Or.inr rfl))) (pa_cons (de_op od_add (de_v 3) (de_op od_mul (de_T cd_str1 (He.free_ok X G (c.fact 52 rfl)) (da_cons (de_op od_add de_int (de_call f44.1 (hr.mono (by decide)) (He.glo_ok X G (c.fact 30 rfl)) f44.2.1 f44b0.2 f44b0.1 (konst_of rfl rfl) (takes_of rfl rfl rfl rfl) (da_cons (de_v 0) (da_cons de_int da_nil)))) da_nil)) (de_T cd_int (He.free_ok X G (c.fact 46 rfl)) (da_cons (de_cmp (od_neT (T := TQ) (n := 10) (takes_of rfl rfl rfl rfl) (fun _ => rfl) (etK X G c _ rfl rfl rfl rfl rfl) (apK c) (hr.mono (by decide))) (de_v 3) de_str) da_nil)))) pa_nil)))
    ds_nil)))
    (ds_cons (ds_retOwn (pe_var (i := 1) rfl (by first | exact Or.inl rfl | exact Or.inr (Or.inl rfl) | exact Or.inr (Or.inr rfl))))
    ds_nil)))
theorem sc32 : FnScope ["value", "file"] ["value", "file"] (defScope s32) := ⟨rfl, rfl, rfl, by decide +kernel, rfl, by decide +kernel, by decide +kernel⟩
def t32 : TDS := (sSeq (sIf (tNotD (tTru (dCall w33 [] (aCons (dVar 0) (aCons (dVar 1) aNil))))) (sSeq (sRaise 5 (dVar 0))
    sNil) sNil)
    sNil)
def w32 : Wf := wfOf 2 2 t32
theorem ok32 {P : Program} {w : World} {K : PySem.W.Frag} {h : Heap} {mg : Str → Option Value} {base : Heap} (X : K.In h) (G : h.Ns mainGlobals mg) (c : Says fa fn K) : ∃ fd, FnOk P w K mg base (L2.CX P w) 5 (d32.adr K) fd ["value", "file"] (spD K (ct K) w32) ∧ PySem.W.keepIn K (.ref (d32.adr K)) = true ∧ (∃ ds, Vals ((d32.dvs K).drop 0) ds ∧ Binds K fd ["value", "file"] ds) := by
  obtain ⟨fd, Fd⟩ := c.fun_ 32 (d := d32) rfl
  obtain ⟨fd33, F33, kp33, ⟨db33_0, b33_0⟩⟩ := ok33 (P := P) (w := w) (base := base) X G c
  have f33 := And.intro F33 (And.intro kp33 trivial)
  have f33b0 := b33_0
  obtain ⟨fd4, f4⟩ := ok4 (P := P) (w := w) (base := base) X G c
  have S := sc32
  refine ⟨fd, fn_d Fd S rfl rfl (fun cdv A outer s H E hr => ?_), Fd.kp, ⟨[], .nil, FunD.bindsN Fd fun _ _ _ _ _ _ us hl => match us, hl with | [_, _], _ => rfl⟩⟩
  exact (ds_cons (ds_if (dt_not (dt_tru (de_call f33.1 (hr.mono (by decide)) (He.glo_ok X G (c.fact 19 rfl)) f33.2.1 f33b0.2 f33b0.1 (konst_of rfl rfl) (takes_of rfl rfl rfl rfl) (da_cons (de_v 0) (da_cons (de_v 1) da_nil))))) (ds_cons (ds_raise rfl (takes_of rfl rfl rfl rfl) (exB_ok (c.fact 84 rfl)).1 (exB_ok (c.fact 84 rfl)).2.1 (exB_ok (c.fact 84 rfl)).2.2.1 rfl f4.1 (hr.mono (by decide)) f4.2.2 (He.glo_ok X G (c.fact 4 rfl)) (de_v 0))
    ds_nil) ds_nil)
    ds_nil)
theorem sc37 : FnScope ["text", "lines", "steps", "spot", "line", "step"] ["text"] (defScope s37) := ⟨rfl, rfl, rfl, by decide +kernel, rfl, by decide +kernel, by decide +kernel⟩
def t37 : TDS := (sSeq (sAsg 1 (dCall w39 [] (aCons (dVar 0) aNil)))
    (sSeq (sIf (tVal (dBin (oEqT T0 1) (dVar 1) (dLst (aCons (dC (.str "")) aNil)))) (sSeq (sRet (dMake 14 (nm.getD 14 []) w24 [.non] aNil))
    sNil) sNil)
    (sSeq (sOwn 2 aNil)
    (sSeq (sFor (iEnumK 1 (aCons (dVar 1) aNil)) (.tp [3, 4]) (sSeq (sAsg 5 (dCall w40 [] (aCons (dVar 4) aNil)))
    (sSeq (sIf (tVal (dBin oIsN (dVar 5) (dC .non))) (sSeq (sRaise 6 (dVar 3))
    sNil) sNil)
    (sSeq (sApp 2 (dVar 5))
    sNil))))
    (sSeq (sRel 2 (sRet (dMake 14 (nm.getD 14 []) w24 [] (aCons (dVar 2) aNil))))
    sNil)))))
def w37 : Wf := wfOf 1 6 t37
theorem ok37 {P : Program} {w : World} {K : PySem.W.Frag} {h : Heap} {mg : Str → Option Value} {base : Heap} (X : K.In h) (G : h.Ns mainGlobals mg) (c : Says fa fn K) : ∃ fd, FnOk P w K mg base (L2.CX P w) 7 (d37.adr K) fd ["text"] (spD K (ct K) w37) ∧ PySem.W.keepIn K (.ref (d37.adr K)) = true ∧ (∃ ds, Vals ((d37.dvs K).drop 0) ds ∧ Binds K fd ["text"] ds) := by
  obtain ⟨fd, Fd⟩ := c.fun_ 37 (d := d37) rfl
  obtain ⟨fd39, F39, kp39, ⟨db39_0, b39_0⟩⟩ := ok39 (P := P) (w := w) (base := base) X G c
  have f39 := And.intro F39 (And.intro kp39 trivial)
  have f39b0 := b39_0
  obtain ⟨fd24, F24, kp24, ⟨db24_0, b24_0⟩, ⟨db24_1, b24_1⟩⟩ := ok24 (P := P) (w := w) (base := base) X G c
  have f24 := And.intro F24 (And.intro kp24 trivial)
  have f24b0 := b24_0
  have f24b1 := b24_1
  obtain ⟨fd40, F40, kp40, ⟨db40_0, b40_0⟩⟩ := ok40 (P := P) (w := w) (base := base) X G c
  have f40 := And.intro F40 (And.intro kp40 trivial)
  have f40b0 := b40_0
  obtain ⟨fd5, f5⟩ := ok5 (P := P) (w := w) (base := base) X G c
  have S := sc37
  refine ⟨fd, fn_d Fd S rfl rfl (fun cdv A outer s H E hr => ?_), Fd.kp, ⟨[], .nil, FunD.bindsN Fd fun _ _ _ _ _ _ us hl => match us, hl with | [_], _ => rfl⟩⟩
  exact (ds_cons (ds_asg S.nd (i := 1) rfl (by first | exact Or.inl rfl | exact Or.inr rfl) (de_call f39.1 (hr.mono (by decide)) (He.glo_ok X G (c.fact 25 rfl)) f39.2.1 f39b0.2 f39b0.1 (konst_of rfl rfl) (takes_of rfl rfl rfl rfl) (da_cons (de_v 0) da_nil)))
    (ds_cons (ds_if (dt_cmp (od_eqT (T := T0) (n := 1) (takes_of rfl rfl rfl rfl) (fun _ => rfl) (fun _ _ _ h => by cases h) (fun _ _ h => by cases h) (hr.mono (by decide))) (de_v 1) (de_lst (da_cons de_str da_nil))) (ds_cons (ds_ret (de_make0 (c := 14) rfl (He.mkr_ok (c.fact 76 rfl)) f24.1 (hr.mono (by decide)) (He.glo_ok X G (c.fact 13 rfl)) f24b0.2 f24b0.1 (konst_of rfl rfl) (takes_of rfl rfl rfl rfl)))
    ds_nil) ds_nil)
    (ds_cons (ds_own S.nd (i := 2) rfl (by first | exact Or.inl rfl | exact Or.inr rfl) da_nil)
    (ds_cons (ds_for (passes_of rfl) rfl (di_enumK (k := 1) (by rfl) (He.free_ok X G (c.fact 45 rfl)) (da_cons (de_v 1) da_nil) (dk_cons de_int dk_nil) (by decide)) (pg_tp2 rfl (pg_name S.nd (i := 3) rfl (by first | exact Or.inl rfl | exact Or.inr rfl)) (pg_name S.nd (i := 4) rfl (by first | exact Or.inl rfl | exact Or.inr rfl))) (ds_cons (ds_asg S.nd (i := 5) rfl (by first | exact Or.inl rfl | exact Or.inr rfl) (de_call f40.1 (hr.mono (by decide)) (He.glo_ok X G (c.fact 26 rfl)) f40.2.1 f40b0.2 f40b0.1 (konst_of rfl rfl) (takes_of rfl rfl rfl rfl) (da_cons (de_v 4) da_nil)))
    (ds_cons (ds_if (dt_cmp od_isN (de_v 5) de_non) (ds_cons (ds_raise rfl (takes_of rfl rfl rfl rfl) (exB_ok (c.fact 85 rfl)).1 (exB_ok (c.fact 85 rfl)).2.1 (exB_ok (c.fact 85 rfl)).2.2.1 rfl f5.1 (hr.mono (by decide)) f5.2.2.1 (He.glo_ok X G (c.fact 5 rfl)) (de_v 3))
    ds_nil) ds_nil)
    (ds_cons (ds_app (i := 2) (pe_bm PySem.F.plainAttrs_list PySem.F.slot_list_append PySem.F.type_list_append mt_append (pe_var (i := 2) rfl (by first | exact Or.inl rfl | exact Or.inr (Or.inl rfl) | exact Or.inr (Or.inr rfl))) (pa_cons (de_v 5) pa_nil)))
    ds_nil))))
    (ds_cons (ds_rel 2 (ds_ret (de_make (c := 14) rfl (He.mkr_ok (c.fact 76 rfl)) f24.1 (hr.mono (by decide)) (He.glo_ok X G (c.fact 13 rfl)) f24b1.2 f24b1.1 (konst_of rfl rfl) (takes_of rfl rfl rfl rfl) (da_cons (de_v 2) da_nil))))
    ds_nil)))))
theorem sc11 : FnScope ["self", "file", "writes", "write"] ["self", "file", "writes"] (defScope s11) := ⟨rfl, rfl, rfl, by decide +kernel, rfl, by decide +kernel, by decide +kernel⟩
def t11 : TDS := (sSeq (sDrop (dCall w31 [] (aCons (dVar 1) aNil)))
    (sSeq (sIf (tAndD (tVal (dBin oNotN (dVar 2) (dC .non))) (tNotD (tTru (dB (bIsi subT) (aCons (dVar 2) (aCons (dC (.ty "list")) aNil)))))) (sSeq (sRaise 4 (dVar 2))
    sNil) sNil)
    (sSeq (sFld 8 0 "_file" (dVar 1))
    (sSeq (sFld 8 0 "_writes" (dIf (tVal (dBin oIsN (dVar 2) (dC .non))) (dTup aNil) (dB bTuple (aCons (dVar 2) aNil))))
    (sSeq (sFor (iVal (dFldI 0 8 "_writes")) (.nm 3) (sSeq (sDrop (dCall w32 [] (aCons (dVar 3) (aCons (dVar 1) aNil))))
    sNil))
    sNil)))))
def w11 : Wi := wiOf 8 2 3 t11
theorem ok11 {P : Program} {w : World} {K : PySem.W.Frag} {h : Heap} {mg : Str → Option Value} {base : Heap} (X : K.In h) (G : h.Ns mainGlobals mg) (c : Says fa fn K) : ∃ fd, FnOk P w K mg base (L2.CX P w) 6 (d11.adr K) fd ["self", "file", "writes"] (spI K (ct K) 8 w11) ∧ PySem.W.keepIn K (.ref (d11.adr K)) = true ∧ (∃ ds, Vals ((d11.dvs K).drop 0) ds ∧ Binds K fd ["self", "file", "writes"] ds) ∧ (∃ ds, Vals ((d11.dvs K).drop 1) ds ∧ Binds K fd ["self", "file", "writes"] ds) := by
  obtain ⟨fd, Fd⟩ := c.fun_ 11 (d := d11) rfl
  obtain ⟨fd31, F31, kp31, ⟨db31_0, b31_0⟩⟩ := ok31 (P := P) (w := w) (base := base) X G c
  have f31 := And.intro F31 (And.intro kp31 trivial)
  have f31b0 := b31_0
  obtain ⟨fd3, f3⟩ := ok3 (P := P) (w := w) (base := base) X G c
  obtain ⟨fd32, F32, kp32, ⟨db32_0, b32_0⟩⟩ := ok32 (P := P) (w := w) (base := base) X G c
  have f32 := And.intro F32 (And.intro kp32 trivial)
  have f32b0 := b32_0
  have S := sc11
  refine ⟨fd, fn_i Fd S rfl rfl (fun gh cdv A outer s H E hr => ?_), Fd.kp, FunD.binds1 (ps := ["self", "file", "writes"]) Fd 2 0 (by intro z; cases z) rfl (fun _ _ _ _ _ _ _ us its hl hi => match us, hl, its, hi with | [_, _], _, [_], _ => ⟨_, rfl, (by first | rfl | kernel_rfl | with_unfolding_all rfl)⟩), FunD.binds1 (ps := ["self", "file", "writes"]) Fd 3 1 (by intro z; cases z) rfl (fun _ _ _ _ _ _ _ us its hl hi => match us, hl, its, hi with | [_, _, _], _, [_], _ => ⟨_, rfl, (by first | rfl | kernel_rfl | with_unfolding_all rfl)⟩)⟩
  exact (ds_cons (ds_drop (de_call (fn_w gh f31.1) (hr.mono (by decide)) (He.glo_ok X G (c.fact 17 rfl)) f31.2.1 f31b0.2 f31b0.1 (konst_of rfl rfl) (takes_of rfl rfl rfl rfl) (da_cons (de_v 1) da_nil)))
    (ds_cons (ds_if (dt_w (dw_and (dt_cmp od_notN (de_v 2) de_non) (dw_and1 (dt_not (dt_tru (de_B (cd_isi (fun _ => rfl) (isiK c).w) (He.free_ok X G (c.fact 47 rfl)) (da_cons (de_v 2) (da_cons (de_gty (He.free_ok X G (c.fact 49 rfl))) da_nil)))))))) (ds_cons (ds_raise rfl (takes_of rfl rfl rfl rfl) (exB_ok (c.fact 83 rfl)).1 (exB_ok (c.fact 83 rfl)).2.1 (exB_ok (c.fact 83 rfl)).2.2.1 rfl f3.1 (hr.mono (by decide)) f3.2.2 (He.glo_ok X G (c.fact 3 rfl)) (de_v 2))
    ds_nil) ds_nil)
    (ds_cons (ds_fldc (c := 8) (pe_var (i := 0) rfl (Or.inl rfl)) (de_v 1) (He.cls_ok (c.fact 59 rfl)) (He.noat_ok (c.fact 61 rfl)))
    (ds_cons (ds_fldc (c := 8) (pe_var (i := 0) rfl (Or.inl rfl)) (de_if (dt_cmp od_isN (de_v 2) de_non) (de_tup da_nil) (de_T cd_tuple (He.free_ok X G (c.fact 53 rfl)) (da_cons (de_v 2) da_nil))) (He.cls_ok (c.fact 59 rfl)) (He.noat_ok (c.fact 62 rfl)))
    (ds_cons (ds_for (passes_of rfl) rfl (di_val (de_fldI (c := 8) (pe_var (i := 0) rfl (Or.inl rfl)) (He.cls_ok (c.fact 59 rfl)) (He.noat_ok (c.fact 62 rfl)))) (pg_nm S.nd (i := 3) rfl (by first | exact Or.inl rfl | exact Or.inr rfl)) (ds_cons (ds_drop (de_call (fn_w gh f32.1) (hr.mono (by decide)) (He.glo_ok X G (c.fact 18 rfl)) f32.2.1 f32b0.2 f32b0.1 (konst_of rfl rfl) (takes_of rfl rfl rfl rfl) (da_cons (de_v 3) (da_cons (de_v 1) da_nil))))
    ds_nil))
    ds_nil)))))
theorem sc38 : FnScope ["text", "lines", "file", "writes", "spot", "line", "write"] ["text"] (defScope s38) := ⟨rfl, rfl, rfl, by decide +kernel, rfl, by decide +kernel, by decide +kernel⟩
def t38 : TDS := (sSeq (sAsg 1 (dCall w39 [] (aCons (dVar 0) aNil)))
    (sSeq (sIf (tNotD (tTru (dCall w30 [] (aCons (dBin oIx (dVar 1) (dC (.int 0))) (aCons (dC (.str ".0abcdefghijklmnopqrstuvwxyz")) aNil))))) (sSeq (sRaise 6 (dC (.int 1)))
    sNil) sNil)
    (sSeq (sAsg 2 (dMake 7 (nm.getD 7 []) w6 [] (aCons (dBin oIx (dVar 1) (dC (.int 0))) aNil)))
    (sSeq (sOwn 3 aNil)
    (sSeq (sFor (iEnumK 2 (aCons (dSl (dVar 1) (oSome (dC (.int 1))) oNone) aNil)) (.tp [4, 5]) (sSeq (sAsg 6 (dCall w41 [] (aCons (dVar 5) aNil)))
    (sSeq (sIf (tNotD (tTru (dCall w33 [] (aCons (dVar 6) (aCons (dVar 2) aNil))))) (sSeq (sRaise 6 (dVar 4))
    sNil) sNil)
    (sSeq (sApp 3 (dVar 6))
    sNil))))
    (sSeq (sRel 3 (sRet (dMake 8 (nm.getD 8 []) w11 [] (aCons (dVar 2) (aCons (dVar 3) aNil)))))
    sNil))))))
def w38 : Wf := wfOf 1 7 t38
theorem ok38 {P : Program} {w : World} {K : PySem.W.Frag} {h : Heap} {mg : Str → Option Value} {base : Heap} (X : K.In h) (G : h.Ns mainGlobals mg) (c : Says fa fn K) : ∃ fd, FnOk P w K mg base (L2.CX P w) 8 (d38.adr K) fd ["text"] (spD K (ct K) w38) ∧ PySem.W.keepIn K (.ref (d38.adr K)) = true ∧ (∃ ds, Vals ((d38.dvs K).drop 0) ds ∧ Binds K fd ["text"] ds) := by
  obtain ⟨fd, Fd⟩ := c.fun_ 38 (d := d38) rfl
  obtain ⟨fd39, F39, kp39, ⟨db39_0, b39_0⟩⟩ := ok39 (P := P) (w := w) (base := base) X G c
  have f39 := And.intro F39 (And.intro kp39 trivial)
  have f39b0 := b39_0
  obtain ⟨fd30, F30, kp30, ⟨db30_0, b30_0⟩⟩ := ok30 (P := P) (w := w) (base := base) X G c
  have f30 := And.intro F30 (And.intro kp30 trivial)
  have f30b0 := b30_0
  obtain ⟨fd5, f5⟩ := ok5 (P := P) (w := w) (base := base) X G c
  obtain ⟨fd6, F6, kp6, ⟨db6_0, b6_0⟩, ⟨db6_1, b6_1⟩⟩ := ok6 (P := P) (w := w) (base := base) X G c
  have f6 := And.intro F6 (And.intro kp6 trivial)
  have f6b0 := b6_0
  have f6b1 := b6_1
  obtain ⟨fd41, F41, kp41, ⟨db41_0, b41_0⟩⟩ := ok41 (P := P) (w := w) (base := base) X G c
  have f41 := And.intro F41 (And.intro kp41 trivial)
  have f41b0 := b41_0
  obtain ⟨fd33, F33, kp33, ⟨db33_0, b33_0⟩⟩ := ok33 (P := P) (w := w) (base := base) X G c
  have f33 := And.intro F33 (And.intro kp33 trivial)
  have f33b0 := b33_0
  obtain ⟨fd11, F11, kp11, ⟨db11_0, b11_0⟩, ⟨db11_1, b11_1⟩⟩ := ok11 (P := P) (w := w) (base := base) X G c
  have f11 := And.intro F11 (And.intro kp11 trivial)
  have f11b0 := b11_0
  have f11b1 := b11_1
  have S := sc38
  refine ⟨fd, fn_d Fd S rfl rfl (fun cdv A outer s H E hr => ?_), Fd.kp, ⟨[], .nil, FunD.bindsN Fd fun _ _ _ _ _ _ us hl => match us, hl with | [_], _ => rfl⟩⟩
  exact (ds_cons (ds_asg S.nd (i := 1) rfl (by first | exact Or.inl rfl | exact Or.inr rfl) (de_call f39.1 (hr.mono (by decide)) (He.glo_ok X G (c.fact 25 rfl)) f39.2.1 f39b0.2 f39b0.1 (konst_of rfl rfl) (takes_of rfl rfl rfl rfl) (da_cons (de_v 0) da_nil)))
    (ds_cons (ds_if (dt_not (dt_tru (de_call f30.1 (hr.mono (by decide)) (He.glo_ok X G (c.fact 16 rfl)) f30.2.1 f30b0.2 f30b0.1 (konst_of rfl rfl) (takes_of rfl rfl rfl rfl) (da_cons (de_ix (de_v 1) de_int) (da_cons (de_gs (He.str_ok X G (c.fact 41 rfl))) da_nil))))) (ds_cons (ds_raise rfl (takes_of rfl rfl rfl rfl) (exB_ok (c.fact 85 rfl)).1 (exB_ok (c.fact 85 rfl)).2.1 (exB_ok (c.fact 85 rfl)).2.2.1 rfl f5.1 (hr.mono (by decide)) f5.2.2.1 (He.glo_ok X G (c.fact 5 rfl)) de_int)
    ds_nil) ds_nil)
    (ds_cons (ds_asg S.nd (i := 2) rfl (by first | exact Or.inl rfl | exact Or.inr rfl) (de_make (c := 7) rfl (He.mkr_ok (c.fact 55 rfl)) f6.1 (hr.mono (by decide)) (He.glo_ok X G (c.fact 6 rfl)) f6b1.2 f6b1.1 (konst_of rfl rfl) (takes_of rfl rfl rfl rfl) (da_cons (de_ix (de_v 1) de_int) da_nil)))
    (ds_cons (ds_own S.nd (i := 3) rfl (by first | exact Or.inl rfl | exact Or.inr rfl) da_nil)
    (ds_cons (ds_for (passes_of rfl) rfl (di_enumK (k := 2) (by rfl) (He.free_ok X G (c.fact 45 rfl)) (da_cons (de_sl (de_v 1) (do_some de_int) do_none) da_nil) (dk_cons de_int dk_nil) (by decide)) (pg_tp2 rfl (pg_name S.nd (i := 4) rfl (by first | exact Or.inl rfl | exact Or.inr rfl)) (pg_name S.nd (i := 5) rfl (by first | exact Or.inl rfl | exact Or.inr rfl))) (ds_cons (ds_asg S.nd (i := 6) rfl (by first | exact Or.inl rfl | exact Or.inr rfl) (de_call f41.1 (hr.mono (by decide)) (He.glo_ok X G (c.fact 27 rfl)) f41.2.1 f41b0.2 f41b0.1 (konst_of rfl rfl) (takes_of rfl rfl rfl rfl) (da_cons (de_v 5) da_nil)))
    (ds_cons (ds_if (dt_not (dt_tru (de_call f33.1 (hr.mono (by decide)) (He.glo_ok X G (c.fact 19 rfl)) f33.2.1 f33b0.2 f33b0.1 (konst_of rfl rfl) (takes_of rfl rfl rfl rfl) (da_cons (de_v 6) (da_cons (de_v 2) da_nil))))) (ds_cons (ds_raise rfl (takes_of rfl rfl rfl rfl) (exB_ok (c.fact 85 rfl)).1 (exB_ok (c.fact 85 rfl)).2.1 (exB_ok (c.fact 85 rfl)).2.2.1 rfl f5.1 (hr.mono (by decide)) f5.2.2.1 (He.glo_ok X G (c.fact 5 rfl)) (de_v 4))
    ds_nil) ds_nil)
    (ds_cons (ds_app (i := 3) (pe_bm PySem.F.plainAttrs_list PySem.F.slot_list_append PySem.F.type_list_append mt_append (pe_var (i := 3) rfl (by first | exact Or.inl rfl | exact Or.inr (Or.inl rfl) | exact Or.inr (Or.inr rfl))) (pa_cons (de_v 6) pa_nil)))
    ds_nil))))
    (ds_cons (ds_rel 3 (ds_ret (de_make (c := 8) rfl (He.mkr_ok (c.fact 60 rfl)) f11.1 (hr.mono (by decide)) (He.glo_ok X G (c.fact 7 rfl)) f11b1.2 f11b1.1 (konst_of rfl rfl) (takes_of rfl rfl rfl rfl) (da_cons (de_v 2) (da_cons (de_v 3) da_nil)))))
    ds_nil))))))
theorem sc48 : FnScope ["way", "value", "found", "e"] ["way", "value"] (defScope s48) := ⟨rfl, rfl, rfl, by decide +kernel, rfl, by decide +kernel, by decide +kernel⟩
def t48 : TDS := (sSeq (sAsg 2 (dLst (aCons (dC (.str "read")) aNil)))
    (sSeq (sTry (fun n => if n = 1 then some false else if n = 2 then some false else if n = 3 then some false else if n = 4 then some false else if n = 5 then some false else if n = 6 then some true else none) 3 (sSeq (sIf (tVal (dBin (oEqT TQ 10) (dVar 0) (dC (.int 0)))) (sSeq (sDrop (dCall w37 [] (aCons (dVar 1) aNil)))
    sNil) (sSeq (sDrop (dCall w38 [] (aCons (dVar 1) aNil)))
    sNil))
    sNil) (sSeq (sAsg 2 (dLst (aCons (dXf 3 fun k => k == 6) aNil)))
    sNil))
    (sSeq (sRet (dVar 2))
    sNil)))
def w48 : Wf := wfOf 2 4 t48
theorem ok48 {P : Program} {w : World} {K : PySem.W.Frag} {h : Heap} {mg : Str → Option Value} {base : Heap} (X : K.In h) (G : h.Ns mainGlobals mg) (c : Says fa fn K) : ∃ fd, FnOk P w K mg base (L2.CX P w) 12 (d48.adr K) fd ["way", "value"] (spD K (ct K) w48) ∧ PySem.W.keepIn K (.ref (d48.adr K)) = true ∧ (∃ ds, Vals ((d48.dvs K).drop 0) ds ∧ Binds K fd ["way", "value"] ds) := by
  obtain ⟨fd, Fd⟩ := c.fun_ 48 (d := d48) rfl
  obtain ⟨fd37, F37, kp37, ⟨db37_0, b37_0⟩⟩ := ok37 (P := P) (w := w) (base := base) X G c
  have f37 := And.intro F37 (And.intro kp37 trivial)
  have f37b0 := b37_0
  obtain ⟨fd38, F38, kp38, ⟨db38_0, b38_0⟩⟩ := ok38 (P := P) (w := w) (base := base) X G c
  have f38 := And.intro F38 (And.intro kp38 trivial)
  have f38b0 := b38_0
  have S := sc48
  refine ⟨fd, fn_d Fd S rfl rfl (fun cdv A outer s H E hr => ?_), Fd.kp, ⟨[], .nil, FunD.bindsN Fd fun _ _ _ _ _ _ us hl => match us, hl with | [_, _], _ => rfl⟩⟩
  exact (ds_cons (ds_asg S.nd (i := 2) rfl (by first | exact Or.inl rfl | exact Or.inr rfl) (de_lst (da_cons de_str da_nil)))
    (ds_cons (ds_try (i := 3) (c := 6) (fun n => if n = 1 then some false else if n = 2 then some false else if n = 3 then some false else if n = 4 then some false else if n = 5 then some false else if n = 6 then some true else none) rfl rfl S.nd rfl rfl ⟨rfl, by decide, .inl (He.glo_ok X G (c.fact 5 rfl))⟩ (takes_of rfl rfl rfl rfl) (fun n b h => by
      try dsimp only at h
      split at h
      · rename_i en; subst en; cases h; exact He.exm_ok (c.fact 86 rfl)
      split at h
      · rename_i en; subst en; cases h; exact He.exm_ok (c.fact 87 rfl)
      split at h
      · rename_i en; subst en; cases h; exact He.exm_ok (c.fact 88 rfl)
      split at h
      · rename_i en; subst en; cases h; exact He.exm_ok (c.fact 89 rfl)
      split at h
      · rename_i en; subst en; cases h; exact He.exm_ok (c.fact 90 rfl)
      split at h
      · rename_i en; subst en; cases h; exact He.exm_ok (c.fact 91 rfl)
      cases h) (fun W pn xe tk hp => (ds_cons (ds_if (dt_cmp (od_eqT (T := TQ) (n := 10) tk (fun _ => rfl) (etK X G c _ rfl rfl rfl rfl rfl) (apK c) (hr.mono (by decide))) (de_v 0) de_int) (ds_cons (ds_drop (de_call f37.1 (hr.mono (by decide)) (He.glo_ok X G (c.fact 23 rfl)) f37.2.1 f37b0.2 f37b0.1 (konst_of rfl rfl) tk (da_cons (de_v 1) da_nil)))
    ds_nil) (ds_cons (ds_drop (de_call f38.1 (hr.mono (by decide)) (He.glo_ok X G (c.fact 24 rfl)) f38.2.1 f38b0.2 f38b0.1 (konst_of rfl rfl) tk (da_cons (de_v 1) da_nil)))
    ds_nil))
    ds_nil)) (fun gh oe pn hz hv => (ds_cons (ds_asg S.nd (i := 2) rfl (by first | exact Or.inl rfl | exact Or.inr rfl) (de_lst (da_cons (de_xf (c := 6) (fun k => k == 6) (fun k hk => by simpa using hk) rfl hz hv (exB_ok (c.fact 85 rfl)).2.2.2.2 (exB_ok (c.fact 85 rfl)).2.2.2.1 rfl) da_nil)))
    ds_nil)))
    (ds_cons (ds_ret (de_v 2))
    ds_nil)))
theorem sc52 : FnScope ["spring", "way", "lines", "first", "bad", "line", "k", "behind", "text"] ["spring", "way", "lines", "first", "bad"] (defScope s52) := ⟨rfl, rfl, rfl, by decide +kernel, rfl, by decide +kernel, by decide +kernel⟩
def t52 : TDS := (sSeq (sFor (iVal (dVar 4)) (.nm 5) (sSeq (sAsg 6 (dBin oAdd (dVar 3) (dCall wSip [] (aCons (dVar 0) (aCons (dBin oSub (dBin oAdd (dB (bLenO (fun n => if n = 7 then some w8 else if n = 8 then some w13 else if n = 14 then some w25 else none)) (aCons (dVar 2) aNil)) (dC (.int 1))) (dVar 3)) aNil)))))
    (sSeq (sAsg 7 (dBin oIx (dLst (aCons (dSl (dVar 2) (oSome (dVar 6)) oNone) (aCons (dSl (dVar 2) (oSome (dBin oAdd (dVar 6) (dC (.int 1)))) oNone) (aCons (dLst aNil) (aCons (dLst (aCons (dC (.str "x")) (aCons (dC (.str "")) aNil))) aNil))))) (dCall wSip [] (aCons (dVar 0) (aCons (dC (.int 4)) aNil)))))
    (sSeq (sAsg 8 (dM1 cJoin (dC (.str "\n")) (dBin oAdd (dBin oAdd (dSl (dVar 2) oNone (oSome (dVar 6))) (dLst (aCons (dVar 5) aNil))) (dVar 7))))
    (sSeq (sIf (tAndD (tVal (dBin (oNeT TQ 10) (dVar 8) (dC (.str "")))) (tVal (dBin (oNeT TQ 10) (dCall w48 [] (aCons (dVar 1) (aCons (dVar 8) aNil))) (dLst (aCons (dBin oAdd (dVar 6) (dC (.int 1))) aNil))))) (sSeq (sRet (dC (.bl false)))
    sNil) sNil)
    sNil)))))
    (sSeq (sRet (dC (.bl true)))
    sNil))
def w52 : Wf := wfOf 5 9 t52
theorem ok52 {P : Program} {w : World} {K : PySem.W.Frag} {h : Heap} {mg : Str → Option Value} {base : Heap} (X : K.In h) (G : h.Ns mainGlobals mg) (c : Says fa fn K) : ∃ fd, FnOk P w K mg base (L2.CX P w) 13 (d52.adr K) fd ["spring", "way", "lines", "first", "bad"] (spD K (ct K) w52) ∧ PySem.W.keepIn K (.ref (d52.adr K)) = true ∧ (∃ ds, Vals ((d52.dvs K).drop 0) ds ∧ Binds K fd ["spring", "way", "lines", "first", "bad"] ds) := by
  obtain ⟨fd, Fd⟩ := c.fun_ 52 (d := d52) rfl
  obtain ⟨fd44, F44, kp44, ⟨db44_0, b44_0⟩⟩ := ok44 (P := P) (w := w) (base := base) X G c
  have f44 := And.intro F44 (And.intro kp44 trivial)
  have f44b0 := b44_0
  obtain ⟨fd8, F8, kp8, ⟨db8_0, b8_0⟩⟩ := ok8 (P := P) (w := w) (base := base) X G c
  have f8 := And.intro F8 (And.intro kp8 trivial)
  have f8b0 := b8_0
  obtain ⟨fd13, F13, kp13, ⟨db13_0, b13_0⟩⟩ := ok13 (P := P) (w := w) (base := base) X G c
  have f13 := And.intro F13 (And.intro kp13 trivial)
  have f13b0 := b13_0
  obtain ⟨fd25, F25, kp25, ⟨db25_0, b25_0⟩⟩ := ok25 (P := P) (w := w) (base := base) X G c
  have f25 := And.intro F25 (And.intro kp25 trivial)
  have f25b0 := b25_0
  obtain ⟨fd48, F48, kp48, ⟨db48_0, b48_0⟩⟩ := ok48 (P := P) (w := w) (base := base) X G c
  have f48 := And.intro F48 (And.intro kp48 trivial)
  have f48b0 := b48_0
  have S := sc52
  refine ⟨fd, fn_d Fd S rfl rfl (fun cdv A outer s H E hr => ?_), Fd.kp, ⟨[], .nil, FunD.bindsN Fd fun _ _ _ _ _ _ us hl => match us, hl with | [_, _, _, _, _], _ => rfl⟩⟩
  exact (ds_cons (ds_for (passes_of rfl) rfl (di_val (de_v 4)) (pg_nm S.nd (i := 5) rfl (by first | exact Or.inl rfl | exact Or.inr rfl)) (ds_cons (ds_asg S.nd (i := 6) rfl (by first | exact Or.inl rfl | exact Or.inr rfl) (de_op od_add (de_v 3) (de_call f44.1 (hr.mono (by decide)) (He.glo_ok X G (c.fact 30 rfl)) f44.2.1 f44b0.2 f44b0.1 (konst_of rfl rfl) (takes_of rfl rfl rfl rfl) (da_cons (de_v 0) (da_cons (de_op od_sub (de_op od_add (de_B (cd_lenO rfl (fun n wf h => by
      try dsimp only at h
      split at h
      · rename_i en; subst en; cases h; exact ⟨⟨_, _, _, _, _, He.meth_ok (c.fact 57 rfl), f8.1, f8b0.1, f8b0.2, (hr.mono (by decide))⟩⟩
      split at h
      · rename_i en; subst en; cases h; exact ⟨⟨_, _, _, _, _, He.meth_ok (c.fact 63 rfl), f13.1, f13b0.1, f13b0.2, (hr.mono (by decide))⟩⟩
      split at h
      · rename_i en; subst en; cases h; exact ⟨⟨_, _, _, _, _, He.meth_ok (c.fact 78 rfl), f25.1, f25b0.1, f25b0.2, (hr.mono (by decide))⟩⟩
      cases h)) (He.free_ok X G (c.fact 48 rfl)) (da_cons (de_v 2) da_nil)) de_int) (de_v 3)) da_nil)))))
    (ds_cons (ds_asg S.nd (i := 7) rfl (by first | exact Or.inl rfl | exact Or.inr rfl) (de_ix (de_lst (da_cons (de_sl (de_v 2) (do_some (de_v 6)) do_none) (da_cons (de_sl (de_v 2) (do_some (de_op od_add (de_v 6) de_int)) do_none) (da_cons (de_lst da_nil) (da_cons (de_lst (da_cons de_str (da_cons de_str da_nil))) da_nil))))) (de_call f44.1 (hr.mono (by decide)) (He.glo_ok X G (c.fact 30 rfl)) f44.2.1 f44b0.2 f44b0.1 (konst_of rfl rfl) (takes_of rfl rfl rfl rfl) (da_cons (de_v 0) (da_cons de_int da_nil)))))
    (ds_cons (ds_asg S.nd (i := 8) rfl (by first | exact Or.inl rfl | exact Or.inr rfl) (de_join de_str (de_op od_add (de_op od_add (de_sl (de_v 2) do_none (do_some (de_v 6))) (de_lst (da_cons (de_v 5) da_nil))) (de_v 7))))
    (ds_cons (ds_if (dt_w (dw_and (dt_cmp (od_neT (T := TQ) (n := 10) (takes_of rfl rfl rfl rfl) (fun _ => rfl) (etK X G c _ rfl rfl rfl rfl rfl) (apK c) (hr.mono (by decide))) (de_v 8) de_str) (dw_and1 (dt_cmp (od_neT (T := TQ) (n := 10) (takes_of rfl rfl rfl rfl) (fun _ => rfl) (etK X G c _ rfl rfl rfl rfl rfl) (apK c) (hr.mono (by decide))) (de_call f48.1 (hr.mono (by decide)) (He.glo_ok X G (c.fact 34 rfl)) f48.2.1 f48b0.2 f48b0.1 (konst_of rfl rfl) (takes_of rfl rfl rfl rfl) (da_cons (de_v 1) (da_cons (de_v 8) da_nil))) (de_lst (da_cons (de_op od_add (de_v 6) de_int) da_nil)))))) (ds_cons (ds_ret de_bl)
    ds_nil) ds_nil)
    ds_nil)))))
    (ds_cons (ds_ret de_bl)
    ds_nil))
theorem sc53 : FnScope ["script", "at", "spring", "lines", "cells", "writes", "rows", "head", "value", "begin", "text"] ["script"] (defScope s53) := ⟨rfl, rfl, rfl, by decide +kernel, rfl, by decide +kernel, by decide +kernel⟩
def t53 : TDS := (sSeq (sFor (iR1 (aCons (dC (.int 2)) aNil)) (.nm 1) (sSeq (sAsg 2 (dCall w43 [] (aCons (dVar 0) (aCons (dVar 1) aNil))))
    (sSeq (sAsg 3 (dCall w49 [] (aCons (dVar 2) aNil)))
    (sSeq (sIf (tNotD (tTru (dCall w52 [] (aCons (dVar 2) (aCons (dC (.int 0)) (aCons (dVar 3) (aCons (dC (.int 0)) (aCons (dCall w50 [] (aCons (dBin oIx (dVar 3) (dC (.int 0))) aNil)) aNil)))))))) (sSeq (sRet (dC (.bl false)))
    sNil) sNil)
    (sSeq (sIf (tOrD (tVal (dBin (oNeT TQ 10) (dCall w48 [] (aCons (dC (.int 0)) (aCons (dM1 cJoin (dC (.str "\n")) (dVar 3)) aNil))) (dLst (aCons (dC (.str "read")) aNil)))) (tVal (dBin (oNeT TQ 10) (dCall w48 [] (aCons (dC (.int 0)) (aCons (dBin oAdd (dM1 cJoin (dC (.str "\n")) (dVar 3)) (dC (.str "\n"))) aNil))) (dLst (aCons (dBin oAdd (dB (bLenO (fun n => if n = 7 then some w8 else if n = 8 then some w13 else if n = 14 then some w25 else none)) (aCons (dVar 3) aNil)) (dC (.int 1))) aNil))))) (sSeq (sRet (dC (.bl false)))
    sNil) sNil)
    (sSeq (sAsg 4 (dCall w45 [] (aCons (dVar 2) (aCons (dCall wSip [] (aCons (dVar 2) (aCons (dC (.int 13)) aNil))) aNil))))
    (sSeq (sAsg 5 (dCall w47 [] (aCons (dVar 2) (aCons (dB (bLenO (fun n => if n = 7 then some w8 else if n = 8 then some w13 else if n = 14 then some w25 else none)) (aCons (dVar 4) aNil)) (aCons (dC (.int 6)) aNil)))))
    (sSeq (sAsg 6 (dBin oAdd (dLst (aCons (dVar 4) aNil)) (dLc (iVal (dVar 5)) (.tp [9, 10]) tYesD (dBin oAdd (dBin oAdd (dB bStr1 (aCons (dVar 9) aNil)) (dC (.str " "))) (dVar 10)) [9, 10])))
    (sSeq (sIf (tNotD (tTru (dCall w52 [] (aCons (dVar 2) (aCons (dC (.int 1)) (aCons (dVar 6) (aCons (dC (.int 1)) (aCons (dCall w51 [] (aCons (dB (bLenO (fun n => if n = 7 then some w8 else if n = 8 then some w13 else if n = 14 then some w25 else none)) (aCons (dVar 4) aNil)) aNil)) aNil)))))))) (sSeq (sRet (dC (.bl false)))
    sNil) sNil)
    (sSeq (sFor (iVal (dLst (aCons (dC (.str "A")) (aCons (dC (.str "a b")) (aCons (dBin oAdd (dVar 4) (dC (.str " "))) (aCons (dBin oAdd (dVar 4) (dC (.str "-"))) (aCons (dBin oAdd (dC (.str " ")) (dVar 4)) (aCons (dC (.str "0 a")) (aCons (dC (.str "1")) aNil))))))))) (.nm 7) (sSeq (sIf (tVal (dBin (oNeT TQ 10) (dCall w48 [] (aCons (dC (.int 1)) (aCons (dM1 cJoin (dC (.str "\n")) (dBin oAdd (dLst (aCons (dVar 7) aNil)) (dSl (dVar 6) (oSome (dC (.int 1))) oNone))) aNil))) (dLst (aCons (dC (.int 1)) aNil)))) (sSeq (sRet (dC (.bl false)))
    sNil) sNil)
    sNil))
    (sSeq (sIf (tOrD (tVal (dBin (oNeT TQ 10) (dCall w48 [] (aCons (dC (.int 1)) (aCons (dM1 cJoin (dC (.str "\n")) (dVar 6)) aNil))) (dLst (aCons (dC (.str "read")) aNil)))) (tVal (dBin (oNeT TQ 10) (dCall w48 [] (aCons (dC (.int 1)) (aCons (dBin oAdd (dM1 cJoin (dC (.str "\n")) (dVar 6)) (dC (.str "\n"))) aNil))) (dLst (aCons (dBin oAdd (dB (bLenO (fun n => if n = 7 then some w8 else if n = 8 then some w13 else if n = 14 then some w25 else none)) (aCons (dVar 6) aNil)) (dC (.int 1))) aNil))))) (sSeq (sRet (dC (.bl false)))
    sNil) sNil)
    (sSeq (sFor (iVal (dLst (aCons (dC .non) (aCons (dC (.int 0)) (aCons (dVar 3) (aCons (dB bTuple (aCons (dVar 3) aNil)) (aCons (dC (.tok 7)) (aCons (dC (.bl true)) (aCons (dMake 7 (nm.getD 7 []) w6 [] (aCons (dVar 4) aNil)) (aCons (dMake 8 (nm.getD 8 []) w11 [] (aCons (dMake 7 (nm.getD 7 []) w6 [] (aCons (dVar 4) aNil)) (aCons (dVar 5) aNil))) aNil)))))))))) (.nm 8) (sSeq (sIf (tOrD (tVal (dBin (oNeT TQ 10) (dCall w48 [] (aCons (dC (.int 0)) (aCons (dVar 8) aNil))) (dLst (aCons (dC .non) aNil)))) (tVal (dBin (oNeT TQ 10) (dCall w48 [] (aCons (dC (.int 1)) (aCons (dVar 8) aNil))) (dLst (aCons (dC .non) aNil))))) (sSeq (sRet (dC (.bl false)))
    sNil) sNil)
    sNil))
    sNil))))))))))))
    (sSeq (sRet (dAnd (dBin (oEqT TQ 10) (dCall w48 [] (aCons (dC (.int 0)) (aCons (dC (.str "\n")) aNil))) (dLst (aCons (dC (.int 1)) aNil))) (dAnd (dBin (oEqT TQ 10) (dCall w48 [] (aCons (dC (.int 1)) (aCons (dC (.str "\n")) aNil))) (dLst (aCons (dC (.int 2)) aNil))) (dBin (oEqT TQ 10) (dCall w48 [] (aCons (dC (.int 0)) (aCons (dC (.str "")) aNil))) (dLst (aCons (dC (.str "read")) aNil))))))
    sNil))
def w53 : Wf := wfOf 1 11 t53
theorem okL {P : Program} {w : World} {K : PySem.W.Frag} {h : Heap} {mg : Str → Option Value} {base : Heap} (X : K.In h) (G : h.Ns mainGlobals mg) (c : Says fa fn K) {fd : FuncData} (Fd : FunD K d53.nam d53.qua d53.par d53.bod d53.sco (d53.dvs K) [] (d53.adr K) fd) : FnOk P w K mg base (L2.CX P w) 14 (d53.adr K) fd ["script"] (spD K (ct K) w53) := by
  obtain ⟨fd43, F43, kp43, ⟨db43_0, b43_0⟩⟩ := ok43 (P := P) (w := w) (base := base) X G c
  have f43 := And.intro F43 (And.intro kp43 trivial)
  have f43b0 := b43_0
  obtain ⟨fd49, F49, kp49, ⟨db49_0, b49_0⟩⟩ := ok49 (P := P) (w := w) (base := base) X G c
  have f49 := And.intro F49 (And.intro kp49 trivial)
  have f49b0 := b49_0
  obtain ⟨fd52, F52, kp52, ⟨db52_0, b52_0⟩⟩ := ok52 (P := P) (w := w) (base := base) X G c
  have f52 := And.intro F52 (And.intro kp52 trivial)
  have f52b0 := b52_0
  obtain ⟨fd50, F50, kp50, ⟨db50_0, b50_0⟩⟩ := ok50 (P := P) (w := w) (base := base) X G c
  have f50 := And.intro F50 (And.intro kp50 trivial)
  have f50b0 := b50_0
  obtain ⟨fd48, F48, kp48, ⟨db48_0, b48_0⟩⟩ := ok48 (P := P) (w := w) (base := base) X G c
  have f48 := And.intro F48 (And.intro kp48 trivial)
  have f48b0 := b48_0
  obtain ⟨fd8, F8, kp8, ⟨db8_0, b8_0⟩⟩ := ok8 (P := P) (w := w) (base := base) X G c
  have f8 := And.intro F8 (And.intro kp8 trivial)
  have f8b0 := b8_0
  obtain ⟨fd13, F13, kp13, ⟨db13_0, b13_0⟩⟩ := ok13 (P := P) (w := w) (base := base) X G c
  have f13 := And.intro F13 (And.intro kp13 trivial)
  have f13b0 := b13_0
  obtain ⟨fd25, F25, kp25, ⟨db25_0, b25_0⟩⟩ := ok25 (P := P) (w := w) (base := base) X G c
  have f25 := And.intro F25 (And.intro kp25 trivial)
  have f25b0 := b25_0
  obtain ⟨fd45, F45, kp45, ⟨db45_0, b45_0⟩⟩ := ok45 (P := P) (w := w) (base := base) X G c
  have f45 := And.intro F45 (And.intro kp45 trivial)
  have f45b0 := b45_0
  obtain ⟨fd44, F44, kp44, ⟨db44_0, b44_0⟩⟩ := ok44 (P := P) (w := w) (base := base) X G c
  have f44 := And.intro F44 (And.intro kp44 trivial)
  have f44b0 := b44_0
  obtain ⟨fd47, F47, kp47, ⟨db47_0, b47_0⟩⟩ := ok47 (P := P) (w := w) (base := base) X G c
  have f47 := And.intro F47 (And.intro kp47 trivial)
  have f47b0 := b47_0
  obtain ⟨fd51, F51, kp51, ⟨db51_0, b51_0⟩⟩ := ok51 (P := P) (w := w) (base := base) X G c
  have f51 := And.intro F51 (And.intro kp51 trivial)
  have f51b0 := b51_0
  obtain ⟨fd6, F6, kp6, ⟨db6_0, b6_0⟩, ⟨db6_1, b6_1⟩⟩ := ok6 (P := P) (w := w) (base := base) X G c
  have f6 := And.intro F6 (And.intro kp6 trivial)
  have f6b0 := b6_0
  have f6b1 := b6_1
  obtain ⟨fd11, F11, kp11, ⟨db11_0, b11_0⟩, ⟨db11_1, b11_1⟩⟩ := ok11 (P := P) (w := w) (base := base) X G c
  have f11 := And.intro F11 (And.intro kp11 trivial)
  have f11b0 := b11_0
  have f11b1 := b11_1
  have S := sc53
  refine fn_d Fd S rfl rfl (fun cdv A outer s H E hr => ?_)
  exact (ds_cons (ds_for (passes_of rfl) rfl (di_r1 (by rfl) (He.free_ok X G (c.fact 51 rfl)) (da_cons de_int da_nil)) (pg_nm S.nd (i := 1) rfl (by first | exact Or.inl rfl | exact Or.inr rfl)) (ds_cons (ds_asg S.nd (i := 2) rfl (by first | exact Or.inl rfl | exact Or.inr rfl) (de_call f43.1 (hr.mono (by decide)) (He.glo_ok X G (c.fact 29 rfl)) f43.2.1 f43b0.2 f43b0.1 (konst_of rfl rfl) (takes_of rfl rfl rfl rfl) (da_cons (de_v 0) (da_cons (de_v 1) da_nil))))
    (ds_cons (ds_asg S.nd (i := 3) rfl (by first | exact Or.inl rfl | exact Or.inr rfl) (de_call f49.1 (hr.mono (by decide)) (He.glo_ok X G (c.fact 35 rfl)) f49.2.1 f49b0.2 f49b0.1 (konst_of rfl rfl) (takes_of rfl rfl rfl rfl) (da_cons (de_v 2) da_nil)))
    (ds_cons (ds_if (dt_not (dt_tru (de_call f52.1 (hr.mono (by decide)) (He.glo_ok X G (c.fact 38 rfl)) f52.2.1 f52b0.2 f52b0.1 (konst_of rfl rfl) (takes_of rfl rfl rfl rfl) (da_cons (de_v 2) (da_cons de_int (da_cons (de_v 3) (da_cons de_int (da_cons (de_call f50.1 (hr.mono (by decide)) (He.glo_ok X G (c.fact 36 rfl)) f50.2.1 f50b0.2 f50b0.1 (konst_of rfl rfl) (takes_of rfl rfl rfl rfl) (da_cons (de_ix (de_v 3) de_int) da_nil)) da_nil)))))))) (ds_cons (ds_ret de_bl)
    ds_nil) ds_nil)
    (ds_cons (ds_if (dt_w (dw_or (dt_cmp (od_neT (T := TQ) (n := 10) (takes_of rfl rfl rfl rfl) (fun _ => rfl) (etK X G c _ rfl rfl rfl rfl rfl) (apK c) (hr.mono (by decide))) (de_call f48.1 (hr.mono (by decide)) (He.glo_ok X G (c.fact 34 rfl)) f48.2.1 f48b0.2 f48b0.1 (konst_of rfl rfl) (takes_of rfl rfl rfl rfl) (da_cons de_int (da_cons (de_join de_str (de_v 3)) da_nil))) (de_lst (da_cons de_str da_nil))) (dw_or1 (dt_cmp (od_neT (T := TQ) (n := 10) (takes_of rfl rfl rfl rfl) (fun _ => rfl) (etK X G c _ rfl rfl rfl rfl rfl) (apK c) (hr.mono (by decide))) (de_call f48.1 (hr.mono (by decide)) (He.glo_ok X G (c.fact 34 rfl)) f48.2.1 f48b0.2 f48b0.1 (konst_of rfl rfl) (takes_of rfl rfl rfl rfl) (da_cons de_int (da_cons (de_op od_add (de_join de_str (de_v 3)) de_str) da_nil))) (de_lst (da_cons (de_op od_add (de_B (cd_lenO rfl (fun n wf h => by
      try dsimp only at h
      split at h
      · rename_i en; subst en; cases h; exact ⟨⟨_, _, _, _, _, He.meth_ok (c.fact 57 rfl), f8.1, f8b0.1, f8b0.2, (hr.mono (by decide))⟩⟩
      split at h
      · rename_i en; subst en; cases h; exact ⟨⟨_, _, _, _, _, He.meth_ok (c.fact 63 rfl), f13.1, f13b0.1, f13b0.2, (hr.mono (by decide))⟩⟩
      split at h
      · rename_i en; subst en; cases h; exact ⟨⟨_, _, _, _, _, He.meth_ok (c.fact 78 rfl), f25.1, f25b0.1, f25b0.2, (hr.mono (by decide))⟩⟩
      cases h)) (He.free_ok X G (c.fact 48 rfl)) (da_cons (de_v 3) da_nil)) de_int) da_nil)))))) (ds_cons (ds_ret de_bl)
    ds_nil) ds_nil)
    (ds_cons (ds_asg S.nd (i := 4) rfl (by first | exact Or.inl rfl | exact Or.inr rfl) (de_call f45.1 (hr.mono (by decide)) (He.glo_ok X G (c.fact 31 rfl)) f45.2.1 f45b0.2 f45b0.1 (konst_of rfl rfl) (takes_of rfl rfl rfl rfl) (da_cons (de_v 2) (da_cons (de_call f44.1 (hr.mono (by decide)) (He.glo_ok X G (c.fact 30 rfl)) f44.2.1 f44b0.2 f44b0.1 (konst_of rfl rfl) (takes_of rfl rfl rfl rfl) (da_cons (de_v 2) (da_cons de_int da_nil))) da_nil))))
    (ds_cons (ds_asg S.nd (i := 5) rfl (by first | exact Or.inl rfl | exact Or.inr rfl) (de_call f47.1 (hr.mono (by decide)) (He.glo_ok X G (c.fact 33 rfl)) f47.2.1 f47b0.2 f47b0.1 (konst_of rfl rfl) (takes_of rfl rfl rfl rfl) (da_cons (de_v 2) (da_cons (de_B (cd_lenO rfl (fun n wf h => by
      try dsimp only at h
      split at h
      · rename_i en; subst en; cases h; exact ⟨⟨_, _, _, _, _, He.meth_ok (c.fact 57 rfl), f8.1, f8b0.1, f8b0.2, (hr.mono (by decide))⟩⟩
      split at h
      · rename_i en; subst en; cases h; exact ⟨⟨_, _, _, _, _, He.meth_ok (c.fact 63 rfl), f13.1, f13b0.1, f13b0.2, (hr.mono (by decide))⟩⟩
      split at h
      · rename_i en; subst en; cases h; exact ⟨⟨_, _, _, _, _, He.meth_ok (c.fact 78 rfl), f25.1, f25b0.1, f25b0.2, (hr.mono (by decide))⟩⟩
      cases h)) (He.free_ok X G (c.fact 48 rfl)) (da_cons (de_v 4) da_nil)) (da_cons de_int da_nil)))))
    (ds_cons (ds_asg S.nd (i := 6) rfl (by first | exact Or.inl rfl | exact Or.inr rfl) (de_op od_add (de_lst (da_cons (de_v 4) da_nil)) (de_lc (own := [("begin", 9), ("text", 10)]) (by rfl) S.nd (di_val (de_v 5)) (blkOk_by (by
      first
      | (show blkC ["script", "at", "spring", "lines", "cells", "writes", "rows", "head", "value", "begin", "text"] (defScope s53) _ _ = true; decide +kernel)
      | rfl
      | kernel_rfl)) (fun _ _ _ _ _ => (pg_tp2 rfl (pg_name S.nd (i := 9) rfl (by first | exact Or.inl rfl | exact Or.inr rfl)) (pg_name S.nd (i := 10) rfl (by first | exact Or.inl rfl | exact Or.inr rfl)))) (fun _ _ _ _ _ => dts_nil) (fun _ _ _ _ _ => (de_op od_add (de_op od_add (de_T cd_str1 (He.free_ok X G (c.fact 52 rfl)) (da_cons (de_v 9) da_nil)) de_str) (de_v 10))) rfl)))
    (ds_cons (ds_if (dt_not (dt_tru (de_call f52.1 (hr.mono (by decide)) (He.glo_ok X G (c.fact 38 rfl)) f52.2.1 f52b0.2 f52b0.1 (konst_of rfl rfl) (takes_of rfl rfl rfl rfl) (da_cons (de_v 2) (da_cons de_int (da_cons (de_v 6) (da_cons de_int (da_cons (de_call f51.1 (hr.mono (by decide)) (He.glo_ok X G (c.fact 37 rfl)) f51.2.1 f51b0.2 f51b0.1 (konst_of rfl rfl) (takes_of rfl rfl rfl rfl) (da_cons (de_B (cd_lenO rfl (fun n wf h => by
      try dsimp only at h
      split at h
      · rename_i en; subst en; cases h; exact ⟨⟨_, _, _, _, _, He.meth_ok (c.fact 57 rfl), f8.1, f8b0.1, f8b0.2, (hr.mono (by decide))⟩⟩
      split at h
      · rename_i en; subst en; cases h; exact ⟨⟨_, _, _, _, _, He.meth_ok (c.fact 63 rfl), f13.1, f13b0.1, f13b0.2, (hr.mono (by decide))⟩⟩
      split at h
      · rename_i en; subst en; cases h; exact ⟨⟨_, _, _, _, _, He.meth_ok (c.fact 78 rfl), f25.1, f25b0.1, f25b0.2, (hr.mono (by decide))⟩⟩
      cases h)) (He.free_ok X G (c.fact 48 rfl)) (da_cons (de_v 4) da_nil)) da_nil)) da_nil)))))))) (ds_cons (ds_ret de_bl)
    ds_nil) ds_nil)
    (ds_cons (ds_for (passes_of rfl) rfl (di_val (de_lst (da_cons de_str (da_cons de_str (da_cons (de_op od_add (de_v 4) de_str) (da_cons (de_op od_add (de_v 4) de_str) (da_cons (de_op od_add de_str (de_v 4)) (da_cons de_str (da_cons de_str da_nil))))))))) (pg_nm S.nd (i := 7) rfl (by first | exact Or.inl rfl | exact Or.inr rfl)) (ds_cons (ds_if (dt_cmp (od_neT (T := TQ) (n := 10) (takes_of rfl rfl rfl rfl) (fun _ => rfl) (etK X G c _ rfl rfl rfl rfl rfl) (apK c) (hr.mono (by decide))) (de_call f48.1 (hr.mono (by decide)) (He.glo_ok X G (c.fact 34 rfl)) f48.2.1 f48b0.2 f48b0.1 (konst_of rfl rfl) (takes_of rfl rfl rfl rfl) (da_cons de_int (da_cons (de_join de_str (de_op od_add (de_lst (da_cons (de_v 7) da_nil)) (de_sl (de_v 6) (do_some de_int) do_none))) da_nil))) (de_lst (da_cons de_int da_nil))) (ds_cons (ds_ret de_bl)
    ds_nil) ds_nil)
    ds_nil))
    (ds_cons (ds_if (dt_w (dw_or (dt_cmp (od_neT (T := TQ) (n := 10) (takes_of rfl rfl rfl rfl) (fun _ => rfl) (etK X G c _ rfl rfl rfl rfl rfl) (apK c) (hr.mono (by decide))) (de_call f48.1 (hr.mono (by decide)) (He.glo_ok X G (c.fact 34 rfl)) f48.2.1 f48b0.2 f48b0.1 (konst_of rfl rfl) (takes_of rfl rfl rfl rfl) (da_cons de_int (da_cons (de_join de_str (de_v 6)) da_nil))) (de_lst (da_cons de_str da_nil))) (dw_or1 (dt_cmp (od_neT (T := TQ) (n := 10) (takes_of rfl rfl rfl rfl) (fun _ => rfl) (etK X G c _ rfl rfl rfl rfl rfl) (apK c) (hr.mono (by decide))) (de_call f48.1 (hr.mono (by decide)) (He.glo_ok X G (c.fact 34 rfl)) f48.2.1 f48b0.2 f48b0.1 (konst_of rfl rfl) (takes_of rfl rfl rfl rfl) (da_cons de_int (da_cons (de_op od_add (de_join de_str (de_v 6)) de_str) da_nil))) (de_lst (da_cons (de_op od_add (de_B (cd_lenO rfl (fun n wf h => by
      try dsimp only at h
      split at h
      · rename_i en; subst en; cases h; exact ⟨⟨_, _, _, _, _, He.meth_ok (c.fact 57 rfl), f8.1, f8b0.1, f8b0.2, (hr.mono (by decide))⟩⟩
      split at h
      · rename_i en; subst en; cases h; exact ⟨⟨_, _, _, _, _, He.meth_ok (c.fact 63 rfl), f13.1, f13b0.1, f13b0.2, (hr.mono (by decide))⟩⟩
      split at h
      · rename_i en; subst en; cases h; exact ⟨⟨_, _, _, _, _, He.meth_ok (c.fact 78 rfl), f25.1, f25b0.1, f25b0.2, (hr.mono (by decide))⟩⟩
      cases h)) (He.free_ok X G (c.fact 48 rfl)) (da_cons (de_v 6) da_nil)) de_int) da_nil)))))) (ds_cons (ds_ret de_bl)
    ds_nil) ds_nil)
    (ds_cons (ds_for (passes_of rfl) rfl (di_val (de_lst (da_cons de_non (da_cons de_int (da_cons (de_v 3) (da_cons (de_T cd_tuple (He.free_ok X G (c.fact 53 rfl)) (da_cons (de_v 3) da_nil)) (da_cons (de_dict fun _ => rfl) (da_cons de_bl (da_cons (de_make (c := 7) rfl (He.mkr_ok (c.fact 55 rfl)) f6.1 (hr.mono (by decide)) (He.glo_ok X G (c.fact 6 rfl)) f6b1.2 f6b1.1 (konst_of rfl rfl) (takes_of rfl rfl rfl rfl) (da_cons (de_v 4) da_nil)) (da_cons (de_make (c := 8) rfl (He.mkr_ok (c.fact 60 rfl)) f11.1 (hr.mono (by decide)) (He.glo_ok X G (c.fact 7 rfl)) f11b1.2 f11b1.1 (konst_of rfl rfl) (takes_of rfl rfl rfl rfl) (da_cons (de_make (c := 7) rfl (He.mkr_ok (c.fact 55 rfl)) f6.1 (hr.mono (by decide)) (He.glo_ok X G (c.fact 6 rfl)) f6b1.2 f6b1.1 (konst_of rfl rfl) (takes_of rfl rfl rfl rfl) (da_cons (de_v 4) da_nil)) (da_cons (de_v 5) da_nil))) da_nil)))))))))) (pg_nm S.nd (i := 8) rfl (by first | exact Or.inl rfl | exact Or.inr rfl)) (ds_cons (ds_if (dt_w (dw_or (dt_cmp (od_neT (T := TQ) (n := 10) (takes_of rfl rfl rfl rfl) (fun _ => rfl) (etK X G c _ rfl rfl rfl rfl rfl) (apK c) (hr.mono (by decide))) (de_call f48.1 (hr.mono (by decide)) (He.glo_ok X G (c.fact 34 rfl)) f48.2.1 f48b0.2 f48b0.1 (konst_of rfl rfl) (takes_of rfl rfl rfl rfl) (da_cons de_int (da_cons (de_v 8) da_nil))) (de_lst (da_cons de_non da_nil))) (dw_or1 (dt_cmp (od_neT (T := TQ) (n := 10) (takes_of rfl rfl rfl rfl) (fun _ => rfl) (etK X G c _ rfl rfl rfl rfl rfl) (apK c) (hr.mono (by decide))) (de_call f48.1 (hr.mono (by decide)) (He.glo_ok X G (c.fact 34 rfl)) f48.2.1 f48b0.2 f48b0.1 (konst_of rfl rfl) (takes_of rfl rfl rfl rfl) (da_cons de_int (da_cons (de_v 8) da_nil))) (de_lst (da_cons de_non da_nil)))))) (ds_cons (ds_ret de_bl)
    ds_nil) ds_nil)
    ds_nil))
    ds_nil))))))))))))
    (ds_cons (ds_ret (de_and (de_cmp (od_eqT (T := TQ) (n := 10) (takes_of rfl rfl rfl rfl) (fun _ => rfl) (etK X G c _ rfl rfl rfl rfl rfl) (apK c) (hr.mono (by decide))) (de_call f48.1 (hr.mono (by decide)) (He.glo_ok X G (c.fact 34 rfl)) f48.2.1 f48b0.2 f48b0.1 (konst_of rfl rfl) (takes_of rfl rfl rfl rfl) (da_cons de_int (da_cons de_str da_nil))) (de_lst (da_cons de_int da_nil))) (de_and (de_cmp (od_eqT (T := TQ) (n := 10) (takes_of rfl rfl rfl rfl) (fun _ => rfl) (etK X G c _ rfl rfl rfl rfl rfl) (apK c) (hr.mono (by decide))) (de_call f48.1 (hr.mono (by decide)) (He.glo_ok X G (c.fact 34 rfl)) f48.2.1 f48b0.2 f48b0.1 (konst_of rfl rfl) (takes_of rfl rfl rfl rfl) (da_cons de_int (da_cons de_str da_nil))) (de_lst (da_cons de_int da_nil))) (de_one (de_cmp (od_eqT (T := TQ) (n := 10) (takes_of rfl rfl rfl rfl) (fun _ => rfl) (etK X G c _ rfl rfl rfl rfl rfl) (apK c) (hr.mono (by decide))) (de_call f48.1 (hr.mono (by decide)) (He.glo_ok X G (c.fact 34 rfl)) f48.2.1 f48b0.2 f48b0.1 (konst_of rfl rfl) (takes_of rfl rfl rfl rfl) (da_cons de_int (da_cons de_str da_nil))) (de_lst (da_cons de_str da_nil)))))))
    ds_nil))
end K81
set_option Elab.async false
set_option linter.all false
set_option maxRecDepth 100000
set_option maxHeartbeats 4000000
namespace K81
open PySem PySem.Spec L2 Dl Dl.Hd
noncomputable def f_File_len : FS := 
  (zSeq (zRet (fB gLen (fCons (fFld (fun n => if n = 7 then some 0 else none) (fVar 0)) fNil))) zNil)
noncomputable def g_File_len : FW := fDef 1 1 f_File_len
theorem m_File_len_ : SimW g_File_len w8 := m_def 1 1 (m_sSeq (m_sRet (m_B m_len (m_Cons (m_Fld (fun n => if n = 7 then some 0 else none) (m_Var 0)) m_Nil))) m_sNil)
noncomputable def f_History_len : FS := 
  (zSeq (zRet (fB gLen (fCons (fFld (fun n => if n = 8 then some 1 else none) (fVar 0)) fNil))) zNil)
noncomputable def g_History_len : FW := fDef 1 1 f_History_len
theorem m_History_len_ : SimW g_History_len w13 := m_def 1 1 (m_sSeq (m_sRet (m_B m_len (m_Cons (m_Fld (fun n => if n = 8 then some 1 else none) (m_Var 0)) m_Nil))) m_sNil)
noncomputable def f_Full_init : FS := 
  (zSeq zNil zNil)
noncomputable def g_Full_init : FI := fIni 10 0 0 f_Full_init
theorem m_Full_init_ : SimWi g_Full_init w16 := m_ini 10 0 0 (m_sSeq m_sNil m_sNil)
noncomputable def f_Script_len : FS := 
  (zSeq (zRet (fB gLen (fCons (fFld (fun n => if n = 14 then some 0 else none) (fVar 0)) fNil))) zNil)
noncomputable def g_Script_len : FW := fDef 1 1 f_Script_len
theorem m_Script_len_ : SimW g_Script_len w25 := m_def 1 1 (m_sSeq (m_sRet (m_B m_len (m_Cons (m_Fld (fun n => if n = 14 then some 0 else none) (m_Var 0)) m_Nil))) m_sNil)
noncomputable def f_is_whole : FS := 
  (zSeq (zRet (fAnd (fB (gIsi subT) (fCons (fVar 0) (fCons (fC (.ty "int")) fNil))) (fNot (fB (gIsi subT) (fCons (fVar 0) (fCons (fC (.ty "bool")) fNil)))))) zNil)
noncomputable def g_is_whole : FW := fDef 1 1 f_is_whole
theorem m_is_whole_ : SimW g_is_whole w28 := m_def 1 1 (m_sSeq (m_sRet (m_And (m_B (m_isi subT) (m_Cons (m_Var 0) (m_Cons (m_C (.ty "int")) m_Nil))) (m_Not (m_B (m_isi subT) (m_Cons (m_Var 0) (m_Cons (m_C (.ty "bool")) m_Nil)))))) m_sNil)
noncomputable def f_check_number : FS := 
  (zSeq (zIf (fOrT (fNotT (fTru (fCall g_is_whole [] (fCons (fVar 0) fNil)))) (fOrT (fVal (fBin pLt (fVar 0) (fVar 1))) (fAndT (fVal (fBin pNotN (fVar 2) (fC .non))) (fVal (fBin pGt (fVar 0) (fVar 2)))))) 
  (zSeq (zRaise 2 (fVar 0)) zNil) zNil) zNil)
noncomputable def g_check_number : FW := fDef 3 3 f_check_number
theorem m_check_number_ : SimW g_check_number w29 := m_def 3 3 (m_sSeq (m_sIf (m_OrT (m_NotT (m_Tru (m_Call m_is_whole_ [] (m_Cons (m_Var 0) m_Nil)))) (m_OrT (m_Val (m_Bin m_lt (m_Var 0) (m_Var 1))) (m_AndT (m_Val (m_Bin m_notN (m_Var 2) (m_C .non))) (m_Val (m_Bin m_gt (m_Var 0) (m_Var 2)))))) (m_sSeq (m_sRaise 2 (m_Var 0)) m_sNil) m_sNil) m_sNil)
noncomputable def f_is_row : FS := 
  (zSeq (zRet (fAnd (fB (gIsi subT) (fCons (fVar 0) (fCons (fC (.ty "str")) fNil))) (fB gAll (fCons (fLc (jVal (fVar 0)) (.nm 2) fYes (fBin pIn (fVar 2) (fVar 1)) [2]) fNil)))) zNil)
noncomputable def g_is_row : FW := fDef 2 3 f_is_row
theorem m_is_row_ : SimW g_is_row w30 := m_def 2 3 (m_sSeq (m_sRet (m_And (m_B (m_isi subT) (m_Cons (m_Var 0) (m_Cons (m_C (.ty "str")) m_Nil))) (m_B m_all (m_Cons (m_Lc (m_iVal (m_Var 0)) (.nm 2) m_Yes (m_Bin m_in (m_Var 2) (m_Var 1)) [2]) m_Nil)))) m_sNil)
noncomputable def f_check_file : FS := 
  (zSeq (zIf (fNotT (fTru (fB (gIsi subT) (fCons (fVar 0) (fCons (fC (.cls 7)) fNil))))) 
  (zSeq (zRaise 1 (fVar 0)) zNil) zNil) zNil)
noncomputable def g_check_file : FW := fDef 1 1 f_check_file
theorem m_check_file_ : SimW g_check_file w31 := m_def 1 1 (m_sSeq (m_sIf (m_NotT (m_Tru (m_B (m_isi subT) (m_Cons (m_Var 0) (m_Cons (m_C (.cls 7)) m_Nil))))) (m_sSeq (m_sRaise 1 (m_Var 0)) m_sNil) m_sNil) m_sNil)
noncomputable def f__is_content : FS := 
  (zSeq (zRet (fAnd (fCall g_is_row [] (fCons (fVar 0) (fCons (fC (.str ".0abcdefghijklmnopqrstuvwxyz")) fNil))) (fBin pNotIn (fC (.str ".")) (fVar 0)))) zNil)
noncomputable def g__is_content : FW := fDef 1 1 f__is_content
theorem m__is_content_ : SimW g__is_content w34 := m_def 1 1 (m_sSeq (m_sRet (m_And (m_Call m_is_row_ [] (m_Cons (m_Var 0) (m_Cons (m_C (.str ".0abcdefghijklmnopqrstuvwxyz")) m_Nil))) (m_Bin m_notIn (m_C (.str ".")) (m_Var 0)))) m_sNil)
noncomputable def f__is_write : FS := 
  (zSeq (zIf (fOrT (fNotT (fTru (fB (gIsi subT) (fCons (fVar 0) (fCons (fC (.ty "tuple")) fNil))))) (fVal (fBin (pNeT T0 1) (fB (gLenO (fun n => if n = 7 then some g_File_len else if n = 8 then some g_History_len else if n = 14 then some g_Script_len else none)) (fCons (fVar 0) fNil)) (fC (.int 2))))) 
  (zSeq (zRet (fC (.bl false))) zNil) zNil) 
  (zSeq (zTg (.tp [1, 2]) (fVar 0)) 
  (zSeq (zRet (fAnd (fCall g_is_whole [] (fCons (fVar 1) fNil)) (fAnd (fBin pGe (fVar 1) (fC (.int 0))) (fAnd (fCall g__is_content [] (fCons (fVar 2) fNil)) (fBin pGe (fB (gLenO (fun n => if n = 7 then some g_File_len else if n = 8 then some g_History_len else if n = 14 then some g_Script_len else none)) (fCons (fVar 2) fNil)) (fC (.int 1))))))) zNil)))
noncomputable def g__is_write : FW := fDef 1 3 f__is_write
theorem m__is_write_ : SimW g__is_write w35 := m_def 1 3 (m_sSeq (m_sIf (m_OrT (m_NotT (m_Tru (m_B (m_isi subT) (m_Cons (m_Var 0) (m_Cons (m_C (.ty "tuple")) m_Nil))))) (m_Val (m_Bin (m_neT T0 1) (m_B (m_lenO (tb_cons 7 m_File_len_ (tb_cons 8 m_History_len_ (tb_cons 14 m_Script_len_ tb_nil)))) (m_Cons (m_Var 0) m_Nil)) (m_C (.int 2))))) (m_sSeq (m_sRet (m_C (.bl false))) m_sNil) m_sNil) (m_sSeq (m_sTg (.tp [1, 2]) (m_Var 0)) (m_sSeq (m_sRet (m_And (m_Call m_is_whole_ [] (m_Cons (m_Var 1) m_Nil)) (m_And (m_Bin m_ge (m_Var 1) (m_C (.int 0))) (m_And (m_Call m__is_content_ [] (m_Cons (m_Var 2) m_Nil)) (m_Bin m_ge (m_B (m_lenO (tb_cons 7 m_File_len_ (tb_cons 8 m_History_len_ (tb_cons 14 m_Script_len_ tb_nil)))) (m_Cons (m_Var 2) m_Nil)) (m_C (.int 1))))))) m_sNil)))
noncomputable def f__is_list_of_steps : FS := 
  (zSeq (zRet (fAnd (fB (gIsi subT) (fCons (fVar 0) (fCons (fC (.ty "list")) fNil))) (fB gAll (fCons (fLc (jVal (fVar 0)) (.nm 1) fYes (fB (gIsi subT) (fCons (fVar 1) (fCons (fC (.cls 9)) fNil))) [1]) fNil)))) zNil)
noncomputable def g__is_list_of_steps : FW := fDef 1 2 f__is_list_of_steps
theorem m__is_list_of_steps_ : SimW g__is_list_of_steps w36 := m_def 1 2 (m_sSeq (m_sRet (m_And (m_B (m_isi subT) (m_Cons (m_Var 0) (m_Cons (m_C (.ty "list")) m_Nil))) (m_B m_all (m_Cons (m_Lc (m_iVal (m_Var 0)) (.nm 1) m_Yes (m_B (m_isi subT) (m_Cons (m_Var 1) (m_Cons (m_C (.cls 9)) m_Nil))) [1]) m_Nil)))) m_sNil)
noncomputable def f__lines : FS := 
  (zSeq (zIf (fNotT (fTru (fB (gIsi subT) (fCons (fVar 0) (fCons (fC (.ty "str")) fNil))))) 
  (zSeq (zRaise 6 (fC .non)) zNil) zNil) 
  (zSeq (zRet (fM1 kSplit (fVar 0) (fC (.str "\n")))) zNil))
noncomputable def g__lines : FW := fDef 1 1 f__lines
theorem m__lines_ : SimW g__lines w39 := m_def 1 1 (m_sSeq (m_sIf (m_NotT (m_Tru (m_B (m_isi subT) (m_Cons (m_Var 0) (m_Cons (m_C (.ty "str")) m_Nil))))) (m_sSeq (m_sRaise 6 (m_C .non)) m_sNil) m_sNil) (m_sSeq (m_sRet (m_M1 m_split (m_Var 0) (m_C (.str "\n")))) m_sNil))
noncomputable def f__number_of : FS := 
  (zSeq (zIf (fOrT (fNotT (fTru (fCall g_is_row [] (fCons (fVar 0) (fCons (fC (.str "0123456789")) fNil))))) (fOrT (fVal (fBin (pEqT T0 1) (fVar 0) (fC (.str "")))) (fAndT (fVal (fBin (pEqT T0 1) (fBin pIx (fVar 0) (fC (.int 0))) (fC (.str "0")))) (fVal (fBin pGt (fB (gLenO (fun n => if n = 7 then some g_File_len else if n = 8 then some g_History_len else if n = 14 then some g_Script_len else none)) (fCons (fVar 0) fNil)) (fC (.int 1))))))) 
  (zSeq (zRet (fC .non)) zNil) zNil) 
  (zSeq (zRet (fB gIntT (fCons (fVar 0) fNil))) zNil))
noncomputable def g__number_of : FW := fDef 1 1 f__number_of
theorem m__number_of_ : SimW g__number_of w42 := m_def 1 1 (m_sSeq (m_sIf (m_OrT (m_NotT (m_Tru (m_Call m_is_row_ [] (m_Cons (m_Var 0) (m_Cons (m_C (.str "0123456789")) m_Nil))))) (m_OrT (m_Val (m_Bin (m_eqT T0 1) (m_Var 0) (m_C (.str "")))) (m_AndT (m_Val (m_Bin (m_eqT T0 1) (m_Bin m_ix (m_Var 0) (m_C (.int 0))) (m_C (.str "0")))) (m_Val (m_Bin m_gt (m_B (m_lenO (tb_cons 7 m_File_len_ (tb_cons 8 m_History_len_ (tb_cons 14 m_Script_len_ tb_nil)))) (m_Cons (m_Var 0) m_Nil)) (m_C (.int 1))))))) (m_sSeq (m_sRet (m_C .non)) m_sNil) m_sNil) (m_sSeq (m_sRet (m_B m_intT (m_Cons (m_Var 0) m_Nil))) m_sNil))
noncomputable def f__law_cells : FS := 
  (zSeq (zAsg 2 (fBin pIx (fLst (fCons (fC (.str "..0ab")) (fCons (fC (.str ".0abcd")) (fCons (fC (.str "aab0.")) (fCons (fC (.str "abcdefghijklmnopqrstuvwxyz.0")) fNil))))) (fCall gSip [] (fCons (fVar 0) (fCons (fC (.int 4)) fNil))))) 
  (zSeq (zRet (fM1 kJoin (fC (.str "")) (fLc (jR1 (fCons (fVar 1) fNil)) (.nm 3) fYes (fBin pIx (fVar 2) (fCall gSip [] (fCons (fVar 0) (fCons (fB (gLenO (fun n => if n = 7 then some g_File_len else if n = 8 then some g_History_len else if n = 14 then some g_Script_len else none)) (fCons (fVar 2) fNil)) fNil)))) [3]))) zNil))
noncomputable def g__law_cells : FW := fDef 2 4 f__law_cells
theorem m__law_cells_ : SimW g__law_cells w45 := m_def 2 4 (m_sSeq (m_sAsg 2 (m_Bin m_ix (m_Lst (m_Cons (m_C (.str "..0ab")) (m_Cons (m_C (.str ".0abcd")) (m_Cons (m_C (.str "aab0.")) (m_Cons (m_C (.str "abcdefghijklmnopqrstuvwxyz.0")) m_Nil))))) (m_Call m_sip [] (m_Cons (m_Var 0) (m_Cons (m_C (.int 4)) m_Nil))))) (m_sSeq (m_sRet (m_M1 m_join (m_C (.str "")) (m_Lc (m_iR1 (m_Cons (m_Var 1) m_Nil)) (.nm 3) m_Yes (m_Bin m_ix (m_Var 2) (m_Call m_sip [] (m_Cons (m_Var 0) (m_Cons (m_B (m_lenO (tb_cons 7 m_File_len_ (tb_cons 8 m_History_len_ (tb_cons 14 m_Script_len_ tb_nil)))) (m_Cons (m_Var 2) m_Nil)) m_Nil)))) [3]))) m_sNil))
noncomputable def f__law_text : FS := 
  (zSeq (zAsg 2 (fBin pIx (fLst (fCons (fC (.str "0ab")) (fCons (fC (.str "0abcd")) (fCons (fC (.str "ab")) (fCons (fC (.str "abcdefghijklmnopqrstuvwxyz0")) fNil))))) (fCall gSip [] (fCons (fVar 0) (fCons (fC (.int 4)) fNil))))) 
  (zSeq (zRet (fM1 kJoin (fC (.str "")) (fLc (jR1 (fCons (fVar 1) fNil)) (.nm 3) fYes (fBin pIx (fVar 2) (fCall gSip [] (fCons (fVar 0) (fCons (fB (gLenO (fun n => if n = 7 then some g_File_len else if n = 8 then some g_History_len else if n = 14 then some g_Script_len else none)) (fCons (fVar 2) fNil)) fNil)))) [3]))) zNil))
noncomputable def g__law_text : FW := fDef 2 4 f__law_text
theorem m__law_text_ : SimW g__law_text w46 := m_def 2 4 (m_sSeq (m_sAsg 2 (m_Bin m_ix (m_Lst (m_Cons (m_C (.str "0ab")) (m_Cons (m_C (.str "0abcd")) (m_Cons (m_C (.str "ab")) (m_Cons (m_C (.str "abcdefghijklmnopqrstuvwxyz0")) m_Nil))))) (m_Call m_sip [] (m_Cons (m_Var 0) (m_Cons (m_C (.int 4)) m_Nil))))) (m_sSeq (m_sRet (m_M1 m_join (m_C (.str "")) (m_Lc (m_iR1 (m_Cons (m_Var 1) m_Nil)) (.nm 3) m_Yes (m_Bin m_ix (m_Var 2) (m_Call m_sip [] (m_Cons (m_Var 0) (m_Cons (m_B (m_lenO (tb_cons 7 m_File_len_ (tb_cons 8 m_History_len_ (tb_cons 14 m_Script_len_ tb_nil)))) (m_Cons (m_Var 2) m_Nil)) m_Nil)))) [3]))) m_sNil))
noncomputable def f__law_writes : FS := 
  (zSeq (zOwn 3 fNil) 
  (zSeq (zFor (jR1 (fCons (fBin pMul (fCall gSip [] (fCons (fVar 0) (fCons (fBin pAdd (fVar 2) (fC (.int 1))) fNil))) (fB gInt (fCons (fBin pGt (fVar 1) (fC (.int 0))) fNil))) fNil)) (.nm 4) 
  (zSeq (zAsg 5 (fCall gSip [] (fCons (fVar 0) (fCons (fVar 1) fNil)))) 
  (zSeq (zAsg 6 (fBin pIx (fLst (fCons (fC (.int 1)) (fCons (fC (.int 2)) (fCons (fC (.int 3)) (fCons (fC (.int 9)) fNil))))) (fCall gSip [] (fCons (fVar 0) (fCons (fC (.int 4)) fNil))))) 
  (zSeq (zAsg 7 (fBin pAdd (fC (.int 1)) (fCall gSip [] (fCons (fVar 0) (fCons (fB gMin (fCons (fBin pSub (fVar 1) (fVar 5)) (fCons (fVar 6) fNil))) fNil))))) 
  (zSeq (zApp 3 (fTup (fCons (fVar 5) (fCons (fCall g__law_text [] (fCons (fVar 0) (fCons (fVar 7) fNil))) fNil)))) zNil))))) 
  (zSeq (zRetOwn 3) zNil)))
noncomputable def g__law_writes : FW := fDef 3 8 f__law_writes
theorem m__law_writes_ : SimW g__law_writes w47 := m_def 3 8 (m_sSeq (m_sOwn 3 m_Nil) (m_sSeq (m_sFor (m_iR1 (m_Cons (m_Bin m_mul (m_Call m_sip [] (m_Cons (m_Var 0) (m_Cons (m_Bin m_add (m_Var 2) (m_C (.int 1))) m_Nil))) (m_B m_int (m_Cons (m_Bin m_gt (m_Var 1) (m_C (.int 0))) m_Nil))) m_Nil)) (.nm 4) (m_sSeq (m_sAsg 5 (m_Call m_sip [] (m_Cons (m_Var 0) (m_Cons (m_Var 1) m_Nil)))) (m_sSeq (m_sAsg 6 (m_Bin m_ix (m_Lst (m_Cons (m_C (.int 1)) (m_Cons (m_C (.int 2)) (m_Cons (m_C (.int 3)) (m_Cons (m_C (.int 9)) m_Nil))))) (m_Call m_sip [] (m_Cons (m_Var 0) (m_Cons (m_C (.int 4)) m_Nil))))) (m_sSeq (m_sAsg 7 (m_Bin m_add (m_C (.int 1)) (m_Call m_sip [] (m_Cons (m_Var 0) (m_Cons (m_B m_min (m_Cons (m_Bin m_sub (m_Var 1) (m_Var 5)) (m_Cons (m_Var 6) m_Nil))) m_Nil))))) (m_sSeq (m_sApp 3 (m_Tup (m_Cons (m_Var 5) (m_Cons (m_Call m__law_text_ [] (m_Cons (m_Var 0) (m_Cons (m_Var 7) m_Nil))) m_Nil)))) m_sNil))))) (m_sSeq (m_sRetOwn 3) m_sNil)))
noncomputable def f__law_no_steps : FS := 
  (zSeq (zAsg 1 (fLst (fCons (fC (.str "")) (fCons (fC (.str " ")) (fCons (fC (.str "Full")) (fCons (fC (.str "full ")) (fCons (fC (.str " full")) (fCons (fC (.str "full 1")) (fCons (fC (.str "ful")) (fCons (fC (.str "keep")) (fCons (fC (.str "keep ")) (fCons (fC (.str "keep 0")) (fCons (fC (.str "keep 04")) fNil))))))))))))) 
  (zSeq (zAsg 1 (fBin pAdd (fVar 1) (fLst (fCons (fC (.str "keep -1")) (fCons (fC (.str "keep +1")) (fCons (fC (.str "keep  4")) (fCons (fC (.str "keep 4 ")) (fCons (fC (.str " keep 4")) (fCons (fC (.str "keep 4.0")) (fCons (fC (.str "keep a")) (fCons (fC (.str "Keep 4")) fNil))))))))))) 
  (zSeq (zAsg 1 (fBin pAdd (fVar 1) (fLst (fCons (fC (.str "kepp 4")) (fCons (fC (.str "lean")) (fCons (fC (.str "lean 0")) (fCons (fC (.str "dig 00")) (fCons (fC (.str "dig")) (fCons (fC (.str "dig 1 2")) (fCons (fC (.str "dig 1,2")) (fCons (fC (.str "lean_4")) (fCons (fC (.str "keep4")) fNil)))))))))))) 
  (zSeq (zAsg 1 (fBin pAdd (fVar 1) (fLst (fCons (fC (.str "lean 04")) (fCons (fC (.str "dig 1_0")) (fCons (fC (.str "dig 04")) (fCons (fC (.str "lean +4")) (fCons (fC (.str "lean -4")) (fCons (fC (.str "dig 0")) (fCons (fC (.str "dig ")) (fCons (fC (.str "lean ")) fNil))))))))))) 
  (zSeq (zRet (fBin pAdd (fVar 1) (fLst (fCons (fC (.str "4 keep")) (fCons (fC (.str "keep 1_0")) (fCons (fBin pAdd (fVar 0) (fC (.str " "))) (fCons (fBin pAdd (fVar 0) (fC (.str "x"))) (fCons (fBin pAdd (fC (.str " ")) (fVar 0)) fNil)))))))) zNil)))))
noncomputable def g__law_no_steps : FW := fDef 1 2 f__law_no_steps
theorem m__law_no_steps_ : SimW g__law_no_steps w50 := m_def 1 2 (m_sSeq (m_sAsg 1 (m_Lst (m_Cons (m_C (.str "")) (m_Cons (m_C (.str " ")) (m_Cons (m_C (.str "Full")) (m_Cons (m_C (.str "full ")) (m_Cons (m_C (.str " full")) (m_Cons (m_C (.str "full 1")) (m_Cons (m_C (.str "ful")) (m_Cons (m_C (.str "keep")) (m_Cons (m_C (.str "keep ")) (m_Cons (m_C (.str "keep 0")) (m_Cons (m_C (.str "keep 04")) m_Nil))))))))))))) (m_sSeq (m_sAsg 1 (m_Bin m_add (m_Var 1) (m_Lst (m_Cons (m_C (.str "keep -1")) (m_Cons (m_C (.str "keep +1")) (m_Cons (m_C (.str "keep  4")) (m_Cons (m_C (.str "keep 4 ")) (m_Cons (m_C (.str " keep 4")) (m_Cons (m_C (.str "keep 4.0")) (m_Cons (m_C (.str "keep a")) (m_Cons (m_C (.str "Keep 4")) m_Nil))))))))))) (m_sSeq (m_sAsg 1 (m_Bin m_add (m_Var 1) (m_Lst (m_Cons (m_C (.str "kepp 4")) (m_Cons (m_C (.str "lean")) (m_Cons (m_C (.str "lean 0")) (m_Cons (m_C (.str "dig 00")) (m_Cons (m_C (.str "dig")) (m_Cons (m_C (.str "dig 1 2")) (m_Cons (m_C (.str "dig 1,2")) (m_Cons (m_C (.str "lean_4")) (m_Cons (m_C (.str "keep4")) m_Nil)))))))))))) (m_sSeq (m_sAsg 1 (m_Bin m_add (m_Var 1) (m_Lst (m_Cons (m_C (.str "lean 04")) (m_Cons (m_C (.str "dig 1_0")) (m_Cons (m_C (.str "dig 04")) (m_Cons (m_C (.str "lean +4")) (m_Cons (m_C (.str "lean -4")) (m_Cons (m_C (.str "dig 0")) (m_Cons (m_C (.str "dig ")) (m_Cons (m_C (.str "lean ")) m_Nil))))))))))) (m_sSeq (m_sRet (m_Bin m_add (m_Var 1) (m_Lst (m_Cons (m_C (.str "4 keep")) (m_Cons (m_C (.str "keep 1_0")) (m_Cons (m_Bin m_add (m_Var 0) (m_C (.str " "))) (m_Cons (m_Bin m_add (m_Var 0) (m_C (.str "x"))) (m_Cons (m_Bin m_add (m_C (.str " ")) (m_Var 0)) m_Nil)))))))) m_sNil)))))
noncomputable def f__law_no_writes : FS := 
  (zSeq (zAsg 1 (fLst (fCons (fC (.str "")) (fCons (fC (.str " ")) (fCons (fC (.str "a")) (fCons (fC (.str "0")) (fCons (fC (.str "0 ")) (fCons (fC (.str "0  a")) (fCons (fC (.str " 0 a")) (fCons (fC (.str "0 a ")) (fCons (fC (.str "00 a")) (fCons (fC (.str "01 a")) (fCons (fC (.str "-1 a")) (fCons (fC (.str "+0 a")) (fCons (fC (.str "0 .")) fNil))))))))))))))) 
  (zSeq (zAsg 1 (fBin pAdd (fVar 1) (fLst (fCons (fC (.str "0 A")) (fCons (fC (.str "0 a.")) (fCons (fC (.str "0 a b")) (fCons (fBin pAdd (fB gStr1 (fCons (fVar 0) fNil)) (fC (.str " a"))) (fCons (fBin pAdd (fC (.str "0 ")) (fBin pMul (fC (.str "a")) (fBin pAdd (fVar 0) (fC (.int 1))))) (fCons (fC (.str "a 0")) (fCons (fC (.str "0a")) (fCons (fC (.str "0=a")) fNil))))))))))) 
  (zSeq (zAsg 1 (fBin pAdd (fVar 1) (fLst (fCons (fBin pAdd (fB gStr1 (fCons (fBin pSub (fVar 0) (fC (.int 1))) fNil)) (fC (.str " aa"))) (fCons (fBin pAdd (fB gStr1 (fCons (fVar 0) fNil)) (fC (.str " aa"))) fNil))))) 
  (zSeq (zRet (fBin pAdd (fVar 1) (fLst (fCons (fC (.str "0,a")) (fCons (fC (.str "0 -")) (fCons (fC (.str "0 1")) (fCons (fC (.str "1_0 a")) (fCons (fC (.str "0.0 a")) (fCons (fBin pAdd (fBin pMul (fC (.str "9")) (fC (.int 40))) (fC (.str " a"))) fNil))))))))) zNil))))
noncomputable def g__law_no_writes : FW := fDef 1 2 f__law_no_writes
theorem m__law_no_writes_ : SimW g__law_no_writes w51 := m_def 1 2 (m_sSeq (m_sAsg 1 (m_Lst (m_Cons (m_C (.str "")) (m_Cons (m_C (.str " ")) (m_Cons (m_C (.str "a")) (m_Cons (m_C (.str "0")) (m_Cons (m_C (.str "0 ")) (m_Cons (m_C (.str "0  a")) (m_Cons (m_C (.str " 0 a")) (m_Cons (m_C (.str "0 a ")) (m_Cons (m_C (.str "00 a")) (m_Cons (m_C (.str "01 a")) (m_Cons (m_C (.str "-1 a")) (m_Cons (m_C (.str "+0 a")) (m_Cons (m_C (.str "0 .")) m_Nil))))))))))))))) (m_sSeq (m_sAsg 1 (m_Bin m_add (m_Var 1) (m_Lst (m_Cons (m_C (.str "0 A")) (m_Cons (m_C (.str "0 a.")) (m_Cons (m_C (.str "0 a b")) (m_Cons (m_Bin m_add (m_B m_str1 (m_Cons (m_Var 0) m_Nil)) (m_C (.str " a"))) (m_Cons (m_Bin m_add (m_C (.str "0 ")) (m_Bin m_mul (m_C (.str "a")) (m_Bin m_add (m_Var 0) (m_C (.int 1))))) (m_Cons (m_C (.str "a 0")) (m_Cons (m_C (.str "0a")) (m_Cons (m_C (.str "0=a")) m_Nil))))))))))) (m_sSeq (m_sAsg 1 (m_Bin m_add (m_Var 1) (m_Lst (m_Cons (m_Bin m_add (m_B m_str1 (m_Cons (m_Bin m_sub (m_Var 0) (m_C (.int 1))) m_Nil)) (m_C (.str " aa"))) (m_Cons (m_Bin m_add (m_B m_str1 (m_Cons (m_Var 0) m_Nil)) (m_C (.str " aa"))) m_Nil))))) (m_sSeq (m_sRet (m_Bin m_add (m_Var 1) (m_Lst (m_Cons (m_C (.str "0,a")) (m_Cons (m_C (.str "0 -")) (m_Cons (m_C (.str "0 1")) (m_Cons (m_C (.str "1_0 a")) (m_Cons (m_C (.str "0.0 a")) (m_Cons (m_Bin m_add (m_Bin m_mul (m_C (.str "9")) (m_C (.int 40))) (m_C (.str " a"))) m_Nil))))))))) m_sNil))))
noncomputable def f_File_init : FS := 
  (zSeq (zIf (fNotT (fTru (fCall g_is_row [] (fCons (fVar 1) (fCons (fC (.str ".0abcdefghijklmnopqrstuvwxyz")) fNil))))) 
  (zSeq (zRaise 1 (fVar 1)) zNil) zNil) 
  (zSeq (zFld 7 0 "_cells" (fVar 1)) zNil))
noncomputable def g_File_init : FI := fIni 7 1 1 f_File_init
theorem m_File_init_ : SimWi g_File_init w6 := m_ini 7 1 1 (m_sSeq (m_sIf (m_NotT (m_Tru (m_Call m_is_row_ [] (m_Cons (m_Var 1) (m_Cons (m_C (.str ".0abcdefghijklmnopqrstuvwxyz")) m_Nil))))) (m_sSeq (m_sRaise 1 (m_Var 1)) m_sNil) m_sNil) (m_sSeq (m_sFld 7 0 "_cells" (m_Var 1)) m_sNil))
noncomputable def f_File_getitem : FS := 
  (zSeq (zDrop (fCall g_check_number [] (fCons (fVar 1) (fCons (fC (.int 0)) (fCons (fBin pSub (fB gLen (fCons (fFld (fun n => if n = 7 then some 0 else none) (fVar 0)) fNil)) (fC (.int 1))) fNil))))) 
  (zSeq (zRet (fBin pIx (fFld (fun n => if n = 7 then some 0 else none) (fVar 0)) (fVar 1))) zNil))
noncomputable def g_File_getitem : FW := fDef 2 2 f_File_getitem
theorem m_File_getitem_ : SimW g_File_getitem w9 := m_def 2 2 (m_sSeq (m_sDrop (m_Call m_check_number_ [] (m_Cons (m_Var 1) (m_Cons (m_C (.int 0)) (m_Cons (m_Bin m_sub (m_B m_len (m_Cons (m_Fld (fun n => if n = 7 then some 0 else none) (m_Var 0)) m_Nil)) (m_C (.int 1))) m_Nil))))) (m_sSeq (m_sRet (m_Bin m_ix (m_Fld (fun n => if n = 7 then some 0 else none) (m_Var 0)) (m_Var 1))) m_sNil))
noncomputable def f_History_getitem : FS := 
  (zSeq (zDrop (fCall g_check_number [] (fCons (fVar 1) (fCons (fC (.int 0)) (fCons (fBin pSub (fB gLen (fCons (fFld (fun n => if n = 8 then some 1 else none) (fVar 0)) fNil)) (fC (.int 1))) fNil))))) 
  (zSeq (zRet (fBin pIx (fFld (fun n => if n = 8 then some 1 else none) (fVar 0)) (fVar 1))) zNil))
noncomputable def g_History_getitem : FW := fDef 2 2 f_History_getitem
theorem m_History_getitem_ : SimW g_History_getitem w14 := m_def 2 2 (m_sSeq (m_sDrop (m_Call m_check_number_ [] (m_Cons (m_Var 1) (m_Cons (m_C (.int 0)) (m_Cons (m_Bin m_sub (m_B m_len (m_Cons (m_Fld (fun n => if n = 8 then some 1 else none) (m_Var 0)) m_Nil)) (m_C (.int 1))) m_Nil))))) (m_sSeq (m_sRet (m_Bin m_ix (m_Fld (fun n => if n = 8 then some 1 else none) (m_Var 0)) (m_Var 1))) m_sNil))
noncomputable def f_Keep_init : FS := 
  (zSeq (zDrop (fCall g_check_number [.non] (fCons (fVar 1) (fCons (fC (.int 1)) fNil)))) 
  (zSeq (zFld 11 0 "_size" (fVar 1)) zNil))
noncomputable def g_Keep_init : FI := fIni 11 1 1 f_Keep_init
theorem m_Keep_init_ : SimWi g_Keep_init w18 := m_ini 11 1 1 (m_sSeq (m_sDrop (m_Call m_check_number_ [.non] (m_Cons (m_Var 1) (m_Cons (m_C (.int 1)) m_Nil)))) (m_sSeq (m_sFld 11 0 "_size" (m_Var 1)) m_sNil))
noncomputable def f_Lean_init : FS := 
  (zSeq (zDrop (fCall g_check_number [.non] (fCons (fVar 1) (fCons (fC (.int 1)) fNil)))) 
  (zSeq (zFld 12 0 "_size" (fVar 1)) zNil))
noncomputable def g_Lean_init : FI := fIni 12 1 1 f_Lean_init
theorem m_Lean_init_ : SimWi g_Lean_init w20 := m_ini 12 1 1 (m_sSeq (m_sDrop (m_Call m_check_number_ [.non] (m_Cons (m_Var 1) (m_Cons (m_C (.int 1)) m_Nil)))) (m_sSeq (m_sFld 12 0 "_size" (m_Var 1)) m_sNil))
noncomputable def f_Dig_init : FS := 
  (zSeq (zDrop (fCall g_check_number [.non] (fCons (fVar 1) (fCons (fC (.int 1)) fNil)))) 
  (zSeq (zFld 13 0 "_size" (fVar 1)) zNil))
noncomputable def g_Dig_init : FI := fIni 13 1 1 f_Dig_init
theorem m_Dig_init_ : SimWi g_Dig_init w22 := m_ini 13 1 1 (m_sSeq (m_sDrop (m_Call m_check_number_ [.non] (m_Cons (m_Var 1) (m_Cons (m_C (.int 1)) m_Nil)))) (m_sSeq (m_sFld 13 0 "_size" (m_Var 1)) m_sNil))
noncomputable def f_Script_init : FS := 
  (zSeq (zIf (fAndT (fVal (fBin pNotN (fVar 1) (fC .non))) (fNotT (fTru (fCall g__is_list_of_steps [] (fCons (fVar 1) fNil))))) 
  (zSeq (zRaise 3 (fVar 1)) zNil) zNil) 
  (zSeq (zFld 14 0 "_steps" (fIfE (fVal (fBin pIsN (fVar 1) (fC .non))) (fTup fNil) (fB gTuple (fCons (fVar 1) fNil)))) zNil))
noncomputable def g_Script_init : FI := fIni 14 1 1 f_Script_init
theorem m_Script_init_ : SimWi g_Script_init w24 := m_ini 14 1 1 (m_sSeq (m_sIf (m_AndT (m_Val (m_Bin m_notN (m_Var 1) (m_C .non))) (m_NotT (m_Tru (m_Call m__is_list_of_steps_ [] (m_Cons (m_Var 1) m_Nil))))) (m_sSeq (m_sRaise 3 (m_Var 1)) m_sNil) m_sNil) (m_sSeq (m_sFld 14 0 "_steps" (m_IfE (m_Val (m_Bin m_isN (m_Var 1) (m_C .non))) (m_Tup m_Nil) (m_B m_tuple (m_Cons (m_Var 1) m_Nil)))) m_sNil))
noncomputable def f_Script_getitem : FS := 
  (zSeq (zDrop (fCall g_check_number [] (fCons (fVar 1) (fCons (fC (.int 0)) (fCons (fBin pSub (fB gLen (fCons (fFld (fun n => if n = 14 then some 0 else none) (fVar 0)) fNil)) (fC (.int 1))) fNil))))) 
  (zSeq (zRet (fBin pIx (fFld (fun n => if n = 14 then some 0 else none) (fVar 0)) (fVar 1))) zNil))
noncomputable def g_Script_getitem : FW := fDef 2 2 f_Script_getitem
theorem m_Script_getitem_ : SimW g_Script_getitem w26 := m_def 2 2 (m_sSeq (m_sDrop (m_Call m_check_number_ [] (m_Cons (m_Var 1) (m_Cons (m_C (.int 0)) (m_Cons (m_Bin m_sub (m_B m_len (m_Cons (m_Fld (fun n => if n = 14 then some 0 else none) (m_Var 0)) m_Nil)) (m_C (.int 1))) m_Nil))))) (m_sSeq (m_sRet (m_Bin m_ix (m_Fld (fun n => if n = 14 then some 0 else none) (m_Var 0)) (m_Var 1))) m_sNil))
noncomputable def f_is_fitting : FS := 
  (zSeq (zRet (fAnd (fCall g__is_write [] (fCons (fVar 0) fNil)) (fBin pLe (fBin pAdd (fBin pIx (fVar 0) (fC (.int 0))) (fB (gLenO (fun n => if n = 7 then some g_File_len else if n = 8 then some g_History_len else if n = 14 then some g_Script_len else none)) (fCons (fBin pIx (fVar 0) (fC (.int 1))) fNil))) (fB (gLenO (fun n => if n = 7 then some g_File_len else if n = 8 then some g_History_len else if n = 14 then some g_Script_len else none)) (fCons (fVar 1) fNil))))) zNil)
noncomputable def g_is_fitting : FW := fDef 2 2 f_is_fitting
theorem m_is_fitting_ : SimW g_is_fitting w33 := m_def 2 2 (m_sSeq (m_sRet (m_And (m_Call m__is_write_ [] (m_Cons (m_Var 0) m_Nil)) (m_Bin m_le (m_Bin m_add (m_Bin m_ix (m_Var 0) (m_C (.int 0))) (m_B (m_lenO (tb_cons 7 m_File_len_ (tb_cons 8 m_History_len_ (tb_cons 14 m_Script_len_ tb_nil)))) (m_Cons (m_Bin m_ix (m_Var 0) (m_C (.int 1))) m_Nil))) (m_B (m_lenO (tb_cons 7 m_File_len_ (tb_cons 8 m_History_len_ (tb_cons 14 m_Script_len_ tb_nil)))) (m_Cons (m_Var 1) m_Nil))))) m_sNil)
noncomputable def f__step_of : FS := 
  (zSeq (zIf (fVal (fBin (pEqT T0 1) (fVar 0) (fC (.str "full")))) 
  (zSeq (zRet (fMake 10 (nm.getD 10 []) g_Full_init [] fNil)) zNil) zNil) 
  (zSeq (zTg (.tp [1, 2, 3]) (fM1 kPart (fVar 0) (fC (.str " ")))) 
  (zSeq (zAsg 4 (fCall g__number_of [] (fCons (fVar 3) fNil))) 
  (zSeq (zIf (fOrT (fVal (fBin pIsN (fVar 4) (fC .non))) (fVal (fBin (pEqT T0 1) (fVar 4) (fC (.int 0))))) 
  (zSeq (zRet (fC .non)) zNil) zNil) 
  (zSeq (zIf (fVal (fBin (pEqT T0 1) (fVar 1) (fC (.str "keep")))) 
  (zSeq (zRet (fMake 11 (nm.getD 11 []) g_Keep_init [] (fCons (fVar 4) fNil))) zNil) zNil) 
  (zSeq (zIf (fVal (fBin (pEqT T0 1) (fVar 1) (fC (.str "lean")))) 
  (zSeq (zRet (fMake 12 (nm.getD 12 []) g_Lean_init [] (fCons (fVar 4) fNil))) zNil) zNil) 
  (zSeq (zRet (fIfE (fVal (fBin (pEqT T0 1) (fVar 1) (fC (.str "dig")))) (fMake 13 (nm.getD 13 []) g_Dig_init [] (fCons (fVar 4) fNil)) (fC .non))) zNil)))))))
noncomputable def g__step_of : FW := fDef 1 5 f__step_of
theorem m__step_of_ : SimW g__step_of w40 := m_def 1 5 (m_sSeq (m_sIf (m_Val (m_Bin (m_eqT T0 1) (m_Var 0) (m_C (.str "full")))) (m_sSeq (m_sRet (m_Make 10 (nm.getD 10 []) m_Full_init_ [] m_Nil)) m_sNil) m_sNil) (m_sSeq (m_sTg (.tp [1, 2, 3]) (m_M1 m_part (m_Var 0) (m_C (.str " ")))) (m_sSeq (m_sAsg 4 (m_Call m__number_of_ [] (m_Cons (m_Var 3) m_Nil))) (m_sSeq (m_sIf (m_OrT (m_Val (m_Bin m_isN (m_Var 4) (m_C .non))) (m_Val (m_Bin (m_eqT T0 1) (m_Var 4) (m_C (.int 0))))) (m_sSeq (m_sRet (m_C .non)) m_sNil) m_sNil) (m_sSeq (m_sIf (m_Val (m_Bin (m_eqT T0 1) (m_Var 1) (m_C (.str "keep")))) (m_sSeq (m_sRet (m_Make 11 (nm.getD 11 []) m_Keep_init_ [] (m_Cons (m_Var 4) m_Nil))) m_sNil) m_sNil) (m_sSeq (m_sIf (m_Val (m_Bin (m_eqT T0 1) (m_Var 1) (m_C (.str "lean")))) (m_sSeq (m_sRet (m_Make 12 (nm.getD 12 []) m_Lean_init_ [] (m_Cons (m_Var 4) m_Nil))) m_sNil) m_sNil) (m_sSeq (m_sRet (m_IfE (m_Val (m_Bin (m_eqT T0 1) (m_Var 1) (m_C (.str "dig")))) (m_Make 13 (nm.getD 13 []) m_Dig_init_ [] (m_Cons (m_Var 4) m_Nil)) (m_C .non))) m_sNil)))))))
noncomputable def f__write_of : FS := 
  (zSeq (zTg (.tp [1, 2, 3]) (fM1 kPart (fVar 0) (fC (.str " ")))) 
  (zSeq (zRet (fTup (fCons (fCall g__number_of [] (fCons (fVar 1) fNil)) (fCons (fVar 3) fNil)))) zNil))
noncomputable def g__write_of : FW := fDef 1 4 f__write_of
theorem m__write_of_ : SimW g__write_of w41 := m_def 1 4 (m_sSeq (m_sTg (.tp [1, 2, 3]) (m_M1 m_part (m_Var 0) (m_C (.str " ")))) (m_sSeq (m_sRet (m_Tup (m_Cons (m_Call m__number_of_ [] (m_Cons (m_Var 1) m_Nil)) (m_Cons (m_Var 3) m_Nil)))) m_sNil))
noncomputable def f__law_spring : FS := 
  (zSeq (zAsg 2 (fBin pAdd (fBin pMul (fC (.int 17)) (fVar 1)) (fC (.int 3)))) 
  (zSeq (zIf (fVal (fBin pLt (fVar 1) (fB (gLenO (fun n => if n = 7 then some g_File_len else if n = 8 then some g_History_len else if n = 14 then some g_Script_len else none)) (fCons (fVar 0) fNil)))) 
  (zSeq (zAsg 2 (fIxO (fun n => if n = 7 then some g_File_getitem else if n = 8 then some g_History_getitem else if n = 14 then some g_Script_getitem else none) (fVar 0) (fVar 1))) zNil) zNil) 
  (zSeq (zIf (fVal (fBin pGe (fVar 2) (fBin pPow (fC (.int 10)) (fC (.int 18))))) 
  (zSeq (zAsg 3 (fBin pMul (fBin pMul (fBin pMul (fBin pPow (fC (.int 10)) (fC (.int 60))) (fBin pPow (fC (.int 10)) (fC (.int 60)))) (fBin pPow (fC (.int 10)) (fC (.int 60)))) (fBin pPow (fC (.int 10)) (fC (.int 60))))) 
  (zSeq (zRetL (fCons (fBin pMod (fB gInt (fCons (fBin pSub (fVar 2) (fBin pPow (fC (.int 10)) (fC (.int 18)))) fNil)) (fBin pMul (fVar 3) (fVar 3))) fNil)) zNil)) zNil) 
  (zSeq (zPar2 4 5 (fCons (fBin pMod (fB gInt (fCons (fBin pAdd (fVar 2) (fBin pMul (fC (.int 3)) (fVar 1))) fNil)) (fC (.int 2147483543))) (fCons (fBin pMod (fB gInt (fCons (fVar 2) fNil)) (fC (.int 2147483497))) fNil))) 
  (zSeq (zAsg 6 (fC (.int 0))) 
  (zSeq (zFor (jR1 (fCons (fC (.int 46)) fNil)) (.nm 7) 
  (zSeq (zAsg 4 (fBin pMod (fB gInt (fCons (fBin pAdd (fBin pAdd (fBin pAdd (fBin pMul (fVar 4) (fC (.int 39373))) (fBin pMul (fVar 7) (fC (.int 977)))) (fBin pMul (fC (.int 4099)) (fVar 1))) (fC (.int 5))) fNil)) (fC (.int 2147483543)))) 
  (zSeq (zAsg 5 (fBin pMod (fB gInt (fCons (fBin pAdd (fBin pAdd (fBin pMul (fVar 5) (fVar 5)) (fBin pMul (fC (.int 48611)) (fVar 7))) (fC (.int 2713))) fNil)) (fC (.int 2147483497)))) 
  (zSeq (zAsg 6 (fBin pAdd (fBin pMul (fVar 6) (fC (.int 2147483496))) (fBin pMod (fB gInt (fCons (fBin pAdd (fBin pMul (fVar 4) (fVar 5)) (fBin pMul (fC (.int 31)) (fVar 7))) fNil)) (fC (.int 2147483496))))) zNil)))) 
  (zSeq (zRetL (fCons (fVar 6) fNil)) zNil)))))))
noncomputable def g__law_spring : FW := fSpr 2 8 f__law_spring
theorem m__law_spring_ : SimW g__law_spring w43 := m_spr 2 8 (m_sSeq (m_sAsg 2 (m_Bin m_add (m_Bin m_mul (m_C (.int 17)) (m_Var 1)) (m_C (.int 3)))) (m_sSeq (m_sIf (m_Val (m_Bin m_lt (m_Var 1) (m_B (m_lenO (tb_cons 7 m_File_len_ (tb_cons 8 m_History_len_ (tb_cons 14 m_Script_len_ tb_nil)))) (m_Cons (m_Var 0) m_Nil)))) (m_sSeq (m_sAsg 2 (m_IxO (tb_cons 7 m_File_getitem_ (tb_cons 8 m_History_getitem_ (tb_cons 14 m_Script_getitem_ tb_nil))) (m_Var 0) (m_Var 1))) m_sNil) m_sNil) (m_sSeq (m_sIf (m_Val (m_Bin m_ge (m_Var 2) (m_Bin m_pow (m_C (.int 10)) (m_C (.int 18))))) (m_sSeq (m_sAsg 3 (m_Bin m_mul (m_Bin m_mul (m_Bin m_mul (m_Bin m_pow (m_C (.int 10)) (m_C (.int 60))) (m_Bin m_pow (m_C (.int 10)) (m_C (.int 60)))) (m_Bin m_pow (m_C (.int 10)) (m_C (.int 60)))) (m_Bin m_pow (m_C (.int 10)) (m_C (.int 60))))) (m_sSeq (m_sRetL (m_Cons (m_Bin m_mod (m_B m_int (m_Cons (m_Bin m_sub (m_Var 2) (m_Bin m_pow (m_C (.int 10)) (m_C (.int 18)))) m_Nil)) (m_Bin m_mul (m_Var 3) (m_Var 3))) m_Nil)) m_sNil)) m_sNil) (m_sSeq (m_sPar2 4 5 (m_Cons (m_Bin m_mod (m_B m_int (m_Cons (m_Bin m_add (m_Var 2) (m_Bin m_mul (m_C (.int 3)) (m_Var 1))) m_Nil)) (m_C (.int 2147483543))) (m_Cons (m_Bin m_mod (m_B m_int (m_Cons (m_Var 2) m_Nil)) (m_C (.int 2147483497))) m_Nil))) (m_sSeq (m_sAsg 6 (m_C (.int 0))) (m_sSeq (m_sFor (m_iR1 (m_Cons (m_C (.int 46)) m_Nil)) (.nm 7) (m_sSeq (m_sAsg 4 (m_Bin m_mod (m_B m_int (m_Cons (m_Bin m_add (m_Bin m_add (m_Bin m_add (m_Bin m_mul (m_Var 4) (m_C (.int 39373))) (m_Bin m_mul (m_Var 7) (m_C (.int 977)))) (m_Bin m_mul (m_C (.int 4099)) (m_Var 1))) (m_C (.int 5))) m_Nil)) (m_C (.int 2147483543)))) (m_sSeq (m_sAsg 5 (m_Bin m_mod (m_B m_int (m_Cons (m_Bin m_add (m_Bin m_add (m_Bin m_mul (m_Var 5) (m_Var 5)) (m_Bin m_mul (m_C (.int 48611)) (m_Var 7))) (m_C (.int 2713))) m_Nil)) (m_C (.int 2147483497)))) (m_sSeq (m_sAsg 6 (m_Bin m_add (m_Bin m_mul (m_Var 6) (m_C (.int 2147483496))) (m_Bin m_mod (m_B m_int (m_Cons (m_Bin m_add (m_Bin m_mul (m_Var 4) (m_Var 5)) (m_Bin m_mul (m_C (.int 31)) (m_Var 7))) m_Nil)) (m_C (.int 2147483496))))) m_sNil)))) (m_sSeq (m_sRetL (m_Cons (m_Var 6) m_Nil)) m_sNil)))))))
noncomputable def f__law_steps : FS := 
  (zSeq (zOwn 1 fNil) 
  (zSeq (zFor (jR1 (fCons (fBin pAdd (fC (.int 1)) (fCall gSip [] (fCons (fVar 0) (fCons (fC (.int 8)) fNil)))) fNil)) (.nm 2) 
  (zSeq (zAsg 3 (fBin pIx (fLst (fCons (fC (.str "full")) (fCons (fC (.str "keep ")) (fCons (fC (.str "lean ")) (fCons (fC (.str "dig ")) fNil))))) (fCall gSip [] (fCons (fVar 0) (fCons (fC (.int 4)) fNil))))) 
  (zSeq (zApp 1 (fBin pAdd (fVar 3) (fBin pMul (fB gStr1 (fCons (fBin pAdd (fC (.int 1)) (fCall gSip [] (fCons (fVar 0) (fCons (fC (.int 30)) fNil)))) fNil)) (fB gInt (fCons (fBin (pNeT TQ 10) (fVar 3) (fC (.str "full"))) fNil))))) zNil))) 
  (zSeq (zRetOwn 1) zNil)))
noncomputable def g__law_steps : FW := fDef 1 4 f__law_steps
theorem m__law_steps_ : SimW g__law_steps w49 := m_def 1 4 (m_sSeq (m_sOwn 1 m_Nil) (m_sSeq (m_sFor (m_iR1 (m_Cons (m_Bin m_add (m_C (.int 1)) (m_Call m_sip [] (m_Cons (m_Var 0) (m_Cons (m_C (.int 8)) m_Nil)))) m_Nil)) (.nm 2) (m_sSeq (m_sAsg 3 (m_Bin m_ix (m_Lst (m_Cons (m_C (.str "full")) (m_Cons (m_C (.str "keep ")) (m_Cons (m_C (.str "lean ")) (m_Cons (m_C (.str "dig ")) m_Nil))))) (m_Call m_sip [] (m_Cons (m_Var 0) (m_Cons (m_C (.int 4)) m_Nil))))) (m_sSeq (m_sApp 1 (m_Bin m_add (m_Var 3) (m_Bin m_mul (m_B m_str1 (m_Cons (m_Bin m_add (m_C (.int 1)) (m_Call m_sip [] (m_Cons (m_Var 0) (m_Cons (m_C (.int 30)) m_Nil)))) m_Nil)) (m_B m_int (m_Cons (m_Bin (m_neT TQ 10) (m_Var 3) (m_C (.str "full"))) m_Nil))))) m_sNil))) (m_sSeq (m_sRetOwn 1) m_sNil)))
noncomputable def f_check_write : FS := 
  (zSeq (zIf (fNotT (fTru (fCall g_is_fitting [] (fCons (fVar 0) (fCons (fVar 1) fNil))))) 
  (zSeq (zRaise 5 (fVar 0)) zNil) zNil) zNil)
noncomputable def g_check_write : FW := fDef 2 2 f_check_write
theorem m_check_write_ : SimW g_check_write w32 := m_def 2 2 (m_sSeq (m_sIf (m_NotT (m_Tru (m_Call m_is_fitting_ [] (m_Cons (m_Var 0) (m_Cons (m_Var 1) m_Nil))))) (m_sSeq (m_sRaise 5 (m_Var 0)) m_sNil) m_sNil) m_sNil)
noncomputable def f_read_script : FS := 
  (zSeq (zAsg 1 (fCall g__lines [] (fCons (fVar 0) fNil))) 
  (zSeq (zIf (fVal (fBin (pEqT T0 1) (fVar 1) (fLst (fCons (fC (.str "")) fNil)))) 
  (zSeq (zRet (fMake 14 (nm.getD 14 []) g_Script_init [.non] fNil)) zNil) zNil) 
  (zSeq (zOwn 2 fNil) 
  (zSeq (zFor (jEnumK 1 (fCons (fVar 1) fNil)) (.tp [3, 4]) 
  (zSeq (zAsg 5 (fCall g__step_of [] (fCons (fVar 4) fNil))) 
  (zSeq (zIf (fVal (fBin pIsN (fVar 5) (fC .non))) 
  (zSeq (zRaise 6 (fVar 3)) zNil) zNil) 
  (zSeq (zApp 2 (fVar 5)) zNil)))) 
  (zSeq (zRel 2 (zRet (fMake 14 (nm.getD 14 []) g_Script_init [] (fCons (fVar 2) fNil)))) zNil)))))
noncomputable def g_read_script : FW := fDef 1 6 f_read_script
theorem m_read_script_ : SimW g_read_script w37 := m_def 1 6 (m_sSeq (m_sAsg 1 (m_Call m__lines_ [] (m_Cons (m_Var 0) m_Nil))) (m_sSeq (m_sIf (m_Val (m_Bin (m_eqT T0 1) (m_Var 1) (m_Lst (m_Cons (m_C (.str "")) m_Nil)))) (m_sSeq (m_sRet (m_Make 14 (nm.getD 14 []) m_Script_init_ [.non] m_Nil)) m_sNil) m_sNil) (m_sSeq (m_sOwn 2 m_Nil) (m_sSeq (m_sFor (m_iEnumK 1 (m_Cons (m_Var 1) m_Nil)) (.tp [3, 4]) (m_sSeq (m_sAsg 5 (m_Call m__step_of_ [] (m_Cons (m_Var 4) m_Nil))) (m_sSeq (m_sIf (m_Val (m_Bin m_isN (m_Var 5) (m_C .non))) (m_sSeq (m_sRaise 6 (m_Var 3)) m_sNil) m_sNil) (m_sSeq (m_sApp 2 (m_Var 5)) m_sNil)))) (m_sSeq (m_sRel 2 (m_sRet (m_Make 14 (nm.getD 14 []) m_Script_init_ [] (m_Cons (m_Var 2) m_Nil)))) m_sNil)))))
noncomputable def f_History_init : FS := 
  (zSeq (zDrop (fCall g_check_file [] (fCons (fVar 1) fNil))) 
  (zSeq (zIf (fAndT (fVal (fBin pNotN (fVar 2) (fC .non))) (fNotT (fTru (fB (gIsi subT) (fCons (fVar 2) (fCons (fC (.ty "list")) fNil)))))) 
  (zSeq (zRaise 4 (fVar 2)) zNil) zNil) 
  (zSeq (zFld 8 0 "_file" (fVar 1)) 
  (zSeq (zFld 8 0 "_writes" (fIfE (fVal (fBin pIsN (fVar 2) (fC .non))) (fTup fNil) (fB gTuple (fCons (fVar 2) fNil)))) 
  (zSeq (zFor (jVal (fFldI 0 8 "_writes")) (.nm 3) 
  (zSeq (zDrop (fCall g_check_write [] (fCons (fVar 3) (fCons (fVar 1) fNil)))) zNil)) zNil)))))
noncomputable def g_History_init : FI := fIni 8 2 3 f_History_init
theorem m_History_init_ : SimWi g_History_init w11 := m_ini 8 2 3 (m_sSeq (m_sDrop (m_Call m_check_file_ [] (m_Cons (m_Var 1) m_Nil))) (m_sSeq (m_sIf (m_AndT (m_Val (m_Bin m_notN (m_Var 2) (m_C .non))) (m_NotT (m_Tru (m_B (m_isi subT) (m_Cons (m_Var 2) (m_Cons (m_C (.ty "list")) m_Nil)))))) (m_sSeq (m_sRaise 4 (m_Var 2)) m_sNil) m_sNil) (m_sSeq (m_sFld 8 0 "_file" (m_Var 1)) (m_sSeq (m_sFld 8 0 "_writes" (m_IfE (m_Val (m_Bin m_isN (m_Var 2) (m_C .non))) (m_Tup m_Nil) (m_B m_tuple (m_Cons (m_Var 2) m_Nil)))) (m_sSeq (m_sFor (m_iVal (m_FldI 0 8 "_writes")) (.nm 3) (m_sSeq (m_sDrop (m_Call m_check_write_ [] (m_Cons (m_Var 3) (m_Cons (m_Var 1) m_Nil)))) m_sNil)) m_sNil)))))
noncomputable def f_read_history : FS := 
  (zSeq (zAsg 1 (fCall g__lines [] (fCons (fVar 0) fNil))) 
  (zSeq (zIf (fNotT (fTru (fCall g_is_row [] (fCons (fBin pIx (fVar 1) (fC (.int 0))) (fCons (fC (.str ".0abcdefghijklmnopqrstuvwxyz")) fNil))))) 
  (zSeq (zRaise 6 (fC (.int 1))) zNil) zNil) 
  (zSeq (zAsg 2 (fMake 7 (nm.getD 7 []) g_File_init [] (fCons (fBin pIx (fVar 1) (fC (.int 0))) fNil))) 
  (zSeq (zOwn 3 fNil) 
  (zSeq (zFor (jEnumK 2 (fCons (fSl (fVar 1) (fOSome (fC (.int 1))) fONone) fNil)) (.tp [4, 5]) 
  (zSeq (zAsg 6 (fCall g__write_of [] (fCons (fVar 5) fNil))) 
  (zSeq (zIf (fNotT (fTru (fCall g_is_fitting [] (fCons (fVar 6) (fCons (fVar 2) fNil))))) 
  (zSeq (zRaise 6 (fVar 4)) zNil) zNil) 
  (zSeq (zApp 3 (fVar 6)) zNil)))) 
  (zSeq (zRel 3 (zRet (fMake 8 (nm.getD 8 []) g_History_init [] (fCons (fVar 2) (fCons (fVar 3) fNil))))) zNil))))))
noncomputable def g_read_history : FW := fDef 1 7 f_read_history
theorem m_read_history_ : SimW g_read_history w38 := m_def 1 7 (m_sSeq (m_sAsg 1 (m_Call m__lines_ [] (m_Cons (m_Var 0) m_Nil))) (m_sSeq (m_sIf (m_NotT (m_Tru (m_Call m_is_row_ [] (m_Cons (m_Bin m_ix (m_Var 1) (m_C (.int 0))) (m_Cons (m_C (.str ".0abcdefghijklmnopqrstuvwxyz")) m_Nil))))) (m_sSeq (m_sRaise 6 (m_C (.int 1))) m_sNil) m_sNil) (m_sSeq (m_sAsg 2 (m_Make 7 (nm.getD 7 []) m_File_init_ [] (m_Cons (m_Bin m_ix (m_Var 1) (m_C (.int 0))) m_Nil))) (m_sSeq (m_sOwn 3 m_Nil) (m_sSeq (m_sFor (m_iEnumK 2 (m_Cons (m_Sl (m_Var 1) (m_OSome (m_C (.int 1))) m_ONone) m_Nil)) (.tp [4, 5]) (m_sSeq (m_sAsg 6 (m_Call m__write_of_ [] (m_Cons (m_Var 5) m_Nil))) (m_sSeq (m_sIf (m_NotT (m_Tru (m_Call m_is_fitting_ [] (m_Cons (m_Var 6) (m_Cons (m_Var 2) m_Nil))))) (m_sSeq (m_sRaise 6 (m_Var 4)) m_sNil) m_sNil) (m_sSeq (m_sApp 3 (m_Var 6)) m_sNil)))) (m_sSeq (m_sRel 3 (m_sRet (m_Make 8 (nm.getD 8 []) m_History_init_ [] (m_Cons (m_Var 2) (m_Cons (m_Var 3) m_Nil))))) m_sNil))))))
noncomputable def f__law_spot : FS := 
  (zSeq (zAsg 2 (fLst (fCons (fC (.str "read")) fNil))) 
  (zSeq (zTry (fun n => if n = 1 then some false else if n = 2 then some false else if n = 3 then some false else if n = 4 then some false else if n = 5 then some false else if n = 6 then some true else none) 3 
  (zSeq (zIf (fVal (fBin (pEqT TQ 10) (fVar 0) (fC (.int 0)))) 
  (zSeq (zDrop (fCall g_read_script [] (fCons (fVar 1) fNil))) zNil) 
  (zSeq (zDrop (fCall g_read_history [] (fCons (fVar 1) fNil))) zNil)) zNil) 
  (zSeq (zAsg 2 (fLst (fCons (fXf 3 (fun k => k == 6)) fNil))) zNil)) 
  (zSeq (zRet (fVar 2)) zNil)))
noncomputable def g__law_spot : FW := fDef 2 4 f__law_spot
theorem m__law_spot_ : SimW g__law_spot w48 := m_def 2 4 (m_sSeq (m_sAsg 2 (m_Lst (m_Cons (m_C (.str "read")) m_Nil))) (m_sSeq (m_sTry (fun n => if n = 1 then some false else if n = 2 then some false else if n = 3 then some false else if n = 4 then some false else if n = 5 then some false else if n = 6 then some true else none) 3 (m_sSeq (m_sIf (m_Val (m_Bin (m_eqT TQ 10) (m_Var 0) (m_C (.int 0)))) (m_sSeq (m_sDrop (m_Call m_read_script_ [] (m_Cons (m_Var 1) m_Nil))) m_sNil) (m_sSeq (m_sDrop (m_Call m_read_history_ [] (m_Cons (m_Var 1) m_Nil))) m_sNil)) m_sNil) (m_sSeq (m_sAsg 2 (m_Lst (m_Cons (m_Xf 3 (fun k => k == 6)) m_Nil))) m_sNil)) (m_sSeq (m_sRet (m_Var 2)) m_sNil)))
noncomputable def f__law_all_told : FS := 
  (zSeq (zFor (jVal (fVar 4)) (.nm 5) 
  (zSeq (zAsg 6 (fBin pAdd (fVar 3) (fCall gSip [] (fCons (fVar 0) (fCons (fBin pSub (fBin pAdd (fB (gLenO (fun n => if n = 7 then some g_File_len else if n = 8 then some g_History_len else if n = 14 then some g_Script_len else none)) (fCons (fVar 2) fNil)) (fC (.int 1))) (fVar 3)) fNil))))) 
  (zSeq (zAsg 7 (fBin pIx (fLst (fCons (fSl (fVar 2) (fOSome (fVar 6)) fONone) (fCons (fSl (fVar 2) (fOSome (fBin pAdd (fVar 6) (fC (.int 1)))) fONone) (fCons (fLst fNil) (fCons (fLst (fCons (fC (.str "x")) (fCons (fC (.str "")) fNil))) fNil))))) (fCall gSip [] (fCons (fVar 0) (fCons (fC (.int 4)) fNil))))) 
  (zSeq (zAsg 8 (fM1 kJoin (fC (.str "\n")) (fBin pAdd (fBin pAdd (fSl (fVar 2) fONone (fOSome (fVar 6))) (fLst (fCons (fVar 5) fNil))) (fVar 7)))) 
  (zSeq (zIf (fAndT (fVal (fBin (pNeT TQ 10) (fVar 8) (fC (.str "")))) (fVal (fBin (pNeT TQ 10) (fCall g__law_spot [] (fCons (fVar 1) (fCons (fVar 8) fNil))) (fLst (fCons (fBin pAdd (fVar 6) (fC (.int 1))) fNil))))) 
  (zSeq (zRet (fC (.bl false))) zNil) zNil) zNil))))) 
  (zSeq (zRet (fC (.bl true))) zNil))
noncomputable def g__law_all_told : FW := fDef 5 9 f__law_all_told
theorem m__law_all_told_ : SimW g__law_all_told w52 := m_def 5 9 (m_sSeq (m_sFor (m_iVal (m_Var 4)) (.nm 5) (m_sSeq (m_sAsg 6 (m_Bin m_add (m_Var 3) (m_Call m_sip [] (m_Cons (m_Var 0) (m_Cons (m_Bin m_sub (m_Bin m_add (m_B (m_lenO (tb_cons 7 m_File_len_ (tb_cons 8 m_History_len_ (tb_cons 14 m_Script_len_ tb_nil)))) (m_Cons (m_Var 2) m_Nil)) (m_C (.int 1))) (m_Var 3)) m_Nil))))) (m_sSeq (m_sAsg 7 (m_Bin m_ix (m_Lst (m_Cons (m_Sl (m_Var 2) (m_OSome (m_Var 6)) m_ONone) (m_Cons (m_Sl (m_Var 2) (m_OSome (m_Bin m_add (m_Var 6) (m_C (.int 1)))) m_ONone) (m_Cons (m_Lst m_Nil) (m_Cons (m_Lst (m_Cons (m_C (.str "x")) (m_Cons (m_C (.str "")) m_Nil))) m_Nil))))) (m_Call m_sip [] (m_Cons (m_Var 0) (m_Cons (m_C (.int 4)) m_Nil))))) (m_sSeq (m_sAsg 8 (m_M1 m_join (m_C (.str "\n")) (m_Bin m_add (m_Bin m_add (m_Sl (m_Var 2) m_ONone (m_OSome (m_Var 6))) (m_Lst (m_Cons (m_Var 5) m_Nil))) (m_Var 7)))) (m_sSeq (m_sIf (m_AndT (m_Val (m_Bin (m_neT TQ 10) (m_Var 8) (m_C (.str "")))) (m_Val (m_Bin (m_neT TQ 10) (m_Call m__law_spot_ [] (m_Cons (m_Var 1) (m_Cons (m_Var 8) m_Nil))) (m_Lst (m_Cons (m_Bin m_add (m_Var 6) (m_C (.int 1))) m_Nil))))) (m_sSeq (m_sRet (m_C (.bl false))) m_sNil) m_sNil) m_sNil))))) (m_sSeq (m_sRet (m_C (.bl true))) m_sNil))
noncomputable def f_law : FS := 
  (zSeq (zFor (jR1 (fCons (fC (.int 2)) fNil)) (.nm 1) 
  (zSeq (zAsg 2 (fCall g__law_spring [] (fCons (fVar 0) (fCons (fVar 1) fNil)))) 
  (zSeq (zAsg 3 (fCall g__law_steps [] (fCons (fVar 2) fNil))) 
  (zSeq (zIf (fNotT (fTru (fCall g__law_all_told [] (fCons (fVar 2) (fCons (fC (.int 0)) (fCons (fVar 3) (fCons (fC (.int 0)) (fCons (fCall g__law_no_steps [] (fCons (fBin pIx (fVar 3) (fC (.int 0))) fNil)) fNil)))))))) 
  (zSeq (zRet (fC (.bl false))) zNil) zNil) 
  (zSeq (zIf (fOrT (fVal (fBin (pNeT TQ 10) (fCall g__law_spot [] (fCons (fC (.int 0)) (fCons (fM1 kJoin (fC (.str "\n")) (fVar 3)) fNil))) (fLst (fCons (fC (.str "read")) fNil)))) (fVal (fBin (pNeT TQ 10) (fCall g__law_spot [] (fCons (fC (.int 0)) (fCons (fBin pAdd (fM1 kJoin (fC (.str "\n")) (fVar 3)) (fC (.str "\n"))) fNil))) (fLst (fCons (fBin pAdd (fB (gLenO (fun n => if n = 7 then some g_File_len else if n = 8 then some g_History_len else if n = 14 then some g_Script_len else none)) (fCons (fVar 3) fNil)) (fC (.int 1))) fNil))))) 
  (zSeq (zRet (fC (.bl false))) zNil) zNil) 
  (zSeq (zAsg 4 (fCall g__law_cells [] (fCons (fVar 2) (fCons (fCall gSip [] (fCons (fVar 2) (fCons (fC (.int 13)) fNil))) fNil)))) 
  (zSeq (zAsg 5 (fCall g__law_writes [] (fCons (fVar 2) (fCons (fB (gLenO (fun n => if n = 7 then some g_File_len else if n = 8 then some g_History_len else if n = 14 then some g_Script_len else none)) (fCons (fVar 4) fNil)) (fCons (fC (.int 6)) fNil))))) 
  (zSeq (zAsg 6 (fBin pAdd (fLst (fCons (fVar 4) fNil)) (fLc (jVal (fVar 5)) (.tp [9, 10]) fYes (fBin pAdd (fBin pAdd (fB gStr1 (fCons (fVar 9) fNil)) (fC (.str " "))) (fVar 10)) [9, 10]))) 
  (zSeq (zIf (fNotT (fTru (fCall g__law_all_told [] (fCons (fVar 2) (fCons (fC (.int 1)) (fCons (fVar 6) (fCons (fC (.int 1)) (fCons (fCall g__law_no_writes [] (fCons (fB (gLenO (fun n => if n = 7 then some g_File_len else if n = 8 then some g_History_len else if n = 14 then some g_Script_len else none)) (fCons (fVar 4) fNil)) fNil)) fNil)))))))) 
  (zSeq (zRet (fC (.bl false))) zNil) zNil) 
  (zSeq (zFor (jVal (fLst (fCons (fC (.str "A")) (fCons (fC (.str "a b")) (fCons (fBin pAdd (fVar 4) (fC (.str " "))) (fCons (fBin pAdd (fVar 4) (fC (.str "-"))) (fCons (fBin pAdd (fC (.str " ")) (fVar 4)) (fCons (fC (.str "0 a")) (fCons (fC (.str "1")) fNil))))))))) (.nm 7) 
  (zSeq (zIf (fVal (fBin (pNeT TQ 10) (fCall g__law_spot [] (fCons (fC (.int 1)) (fCons (fM1 kJoin (fC (.str "\n")) (fBin pAdd (fLst (fCons (fVar 7) fNil)) (fSl (fVar 6) (fOSome (fC (.int 1))) fONone))) fNil))) (fLst (fCons (fC (.int 1)) fNil)))) 
  (zSeq (zRet (fC (.bl false))) zNil) zNil) zNil)) 
  (zSeq (zIf (fOrT (fVal (fBin (pNeT TQ 10) (fCall g__law_spot [] (fCons (fC (.int 1)) (fCons (fM1 kJoin (fC (.str "\n")) (fVar 6)) fNil))) (fLst (fCons (fC (.str "read")) fNil)))) (fVal (fBin (pNeT TQ 10) (fCall g__law_spot [] (fCons (fC (.int 1)) (fCons (fBin pAdd (fM1 kJoin (fC (.str "\n")) (fVar 6)) (fC (.str "\n"))) fNil))) (fLst (fCons (fBin pAdd (fB (gLenO (fun n => if n = 7 then some g_File_len else if n = 8 then some g_History_len else if n = 14 then some g_Script_len else none)) (fCons (fVar 6) fNil)) (fC (.int 1))) fNil))))) 
  (zSeq (zRet (fC (.bl false))) zNil) zNil) 
  (zSeq (zFor (jVal (fLst (fCons (fC .non) (fCons (fC (.int 0)) (fCons (fVar 3) (fCons (fB gTuple (fCons (fVar 3) fNil)) (fCons (fC (.tok 7)) (fCons (fC (.bl true)) (fCons (fMake 7 (nm.getD 7 []) g_File_init [] (fCons (fVar 4) fNil)) (fCons (fMake 8 (nm.getD 8 []) g_History_init [] (fCons (fMake 7 (nm.getD 7 []) g_File_init [] (fCons (fVar 4) fNil)) (fCons (fVar 5) fNil))) fNil)))))))))) (.nm 8) 
  (zSeq (zIf (fOrT (fVal (fBin (pNeT TQ 10) (fCall g__law_spot [] (fCons (fC (.int 0)) (fCons (fVar 8) fNil))) (fLst (fCons (fC .non) fNil)))) (fVal (fBin (pNeT TQ 10) (fCall g__law_spot [] (fCons (fC (.int 1)) (fCons (fVar 8) fNil))) (fLst (fCons (fC .non) fNil))))) 
  (zSeq (zRet (fC (.bl false))) zNil) zNil) zNil)) zNil)))))))))))) 
  (zSeq (zRet (fAnd (fBin (pEqT TQ 10) (fCall g__law_spot [] (fCons (fC (.int 0)) (fCons (fC (.str "\n")) fNil))) (fLst (fCons (fC (.int 1)) fNil))) (fAnd (fBin (pEqT TQ 10) (fCall g__law_spot [] (fCons (fC (.int 1)) (fCons (fC (.str "\n")) fNil))) (fLst (fCons (fC (.int 2)) fNil))) (fBin (pEqT TQ 10) (fCall g__law_spot [] (fCons (fC (.int 0)) (fCons (fC (.str "")) fNil))) (fLst (fCons (fC (.str "read")) fNil)))))) zNil))
noncomputable def g_law : FW := fDef 1 11 f_law
theorem m_law_ : SimW g_law w53 := m_def 1 11 (m_sSeq (m_sFor (m_iR1 (m_Cons (m_C (.int 2)) m_Nil)) (.nm 1) (m_sSeq (m_sAsg 2 (m_Call m__law_spring_ [] (m_Cons (m_Var 0) (m_Cons (m_Var 1) m_Nil)))) (m_sSeq (m_sAsg 3 (m_Call m__law_steps_ [] (m_Cons (m_Var 2) m_Nil))) (m_sSeq (m_sIf (m_NotT (m_Tru (m_Call m__law_all_told_ [] (m_Cons (m_Var 2) (m_Cons (m_C (.int 0)) (m_Cons (m_Var 3) (m_Cons (m_C (.int 0)) (m_Cons (m_Call m__law_no_steps_ [] (m_Cons (m_Bin m_ix (m_Var 3) (m_C (.int 0))) m_Nil)) m_Nil)))))))) (m_sSeq (m_sRet (m_C (.bl false))) m_sNil) m_sNil) (m_sSeq (m_sIf (m_OrT (m_Val (m_Bin (m_neT TQ 10) (m_Call m__law_spot_ [] (m_Cons (m_C (.int 0)) (m_Cons (m_M1 m_join (m_C (.str "\n")) (m_Var 3)) m_Nil))) (m_Lst (m_Cons (m_C (.str "read")) m_Nil)))) (m_Val (m_Bin (m_neT TQ 10) (m_Call m__law_spot_ [] (m_Cons (m_C (.int 0)) (m_Cons (m_Bin m_add (m_M1 m_join (m_C (.str "\n")) (m_Var 3)) (m_C (.str "\n"))) m_Nil))) (m_Lst (m_Cons (m_Bin m_add (m_B (m_lenO (tb_cons 7 m_File_len_ (tb_cons 8 m_History_len_ (tb_cons 14 m_Script_len_ tb_nil)))) (m_Cons (m_Var 3) m_Nil)) (m_C (.int 1))) m_Nil))))) (m_sSeq (m_sRet (m_C (.bl false))) m_sNil) m_sNil) (m_sSeq (m_sAsg 4 (m_Call m__law_cells_ [] (m_Cons (m_Var 2) (m_Cons (m_Call m_sip [] (m_Cons (m_Var 2) (m_Cons (m_C (.int 13)) m_Nil))) m_Nil)))) (m_sSeq (m_sAsg 5 (m_Call m__law_writes_ [] (m_Cons (m_Var 2) (m_Cons (m_B (m_lenO (tb_cons 7 m_File_len_ (tb_cons 8 m_History_len_ (tb_cons 14 m_Script_len_ tb_nil)))) (m_Cons (m_Var 4) m_Nil)) (m_Cons (m_C (.int 6)) m_Nil))))) (m_sSeq (m_sAsg 6 (m_Bin m_add (m_Lst (m_Cons (m_Var 4) m_Nil)) (m_Lc (m_iVal (m_Var 5)) (.tp [9, 10]) m_Yes (m_Bin m_add (m_Bin m_add (m_B m_str1 (m_Cons (m_Var 9) m_Nil)) (m_C (.str " "))) (m_Var 10)) [9, 10]))) (m_sSeq (m_sIf (m_NotT (m_Tru (m_Call m__law_all_told_ [] (m_Cons (m_Var 2) (m_Cons (m_C (.int 1)) (m_Cons (m_Var 6) (m_Cons (m_C (.int 1)) (m_Cons (m_Call m__law_no_writes_ [] (m_Cons (m_B (m_lenO (tb_cons 7 m_File_len_ (tb_cons 8 m_History_len_ (tb_cons 14 m_Script_len_ tb_nil)))) (m_Cons (m_Var 4) m_Nil)) m_Nil)) m_Nil)))))))) (m_sSeq (m_sRet (m_C (.bl false))) m_sNil) m_sNil) (m_sSeq (m_sFor (m_iVal (m_Lst (m_Cons (m_C (.str "A")) (m_Cons (m_C (.str "a b")) (m_Cons (m_Bin m_add (m_Var 4) (m_C (.str " "))) (m_Cons (m_Bin m_add (m_Var 4) (m_C (.str "-"))) (m_Cons (m_Bin m_add (m_C (.str " ")) (m_Var 4)) (m_Cons (m_C (.str "0 a")) (m_Cons (m_C (.str "1")) m_Nil))))))))) (.nm 7) (m_sSeq (m_sIf (m_Val (m_Bin (m_neT TQ 10) (m_Call m__law_spot_ [] (m_Cons (m_C (.int 1)) (m_Cons (m_M1 m_join (m_C (.str "\n")) (m_Bin m_add (m_Lst (m_Cons (m_Var 7) m_Nil)) (m_Sl (m_Var 6) (m_OSome (m_C (.int 1))) m_ONone))) m_Nil))) (m_Lst (m_Cons (m_C (.int 1)) m_Nil)))) (m_sSeq (m_sRet (m_C (.bl false))) m_sNil) m_sNil) m_sNil)) (m_sSeq (m_sIf (m_OrT (m_Val (m_Bin (m_neT TQ 10) (m_Call m__law_spot_ [] (m_Cons (m_C (.int 1)) (m_Cons (m_M1 m_join (m_C (.str "\n")) (m_Var 6)) m_Nil))) (m_Lst (m_Cons (m_C (.str "read")) m_Nil)))) (m_Val (m_Bin (m_neT TQ 10) (m_Call m__law_spot_ [] (m_Cons (m_C (.int 1)) (m_Cons (m_Bin m_add (m_M1 m_join (m_C (.str "\n")) (m_Var 6)) (m_C (.str "\n"))) m_Nil))) (m_Lst (m_Cons (m_Bin m_add (m_B (m_lenO (tb_cons 7 m_File_len_ (tb_cons 8 m_History_len_ (tb_cons 14 m_Script_len_ tb_nil)))) (m_Cons (m_Var 6) m_Nil)) (m_C (.int 1))) m_Nil))))) (m_sSeq (m_sRet (m_C (.bl false))) m_sNil) m_sNil) (m_sSeq (m_sFor (m_iVal (m_Lst (m_Cons (m_C .non) (m_Cons (m_C (.int 0)) (m_Cons (m_Var 3) (m_Cons (m_B m_tuple (m_Cons (m_Var 3) m_Nil)) (m_Cons (m_C (.tok 7)) (m_Cons (m_C (.bl true)) (m_Cons (m_Make 7 (nm.getD 7 []) m_File_init_ [] (m_Cons (m_Var 4) m_Nil)) (m_Cons (m_Make 8 (nm.getD 8 []) m_History_init_ [] (m_Cons (m_Make 7 (nm.getD 7 []) m_File_init_ [] (m_Cons (m_Var 4) m_Nil)) (m_Cons (m_Var 5) m_Nil))) m_Nil)))))))))) (.nm 8) (m_sSeq (m_sIf (m_OrT (m_Val (m_Bin (m_neT TQ 10) (m_Call m__law_spot_ [] (m_Cons (m_C (.int 0)) (m_Cons (m_Var 8) m_Nil))) (m_Lst (m_Cons (m_C .non) m_Nil)))) (m_Val (m_Bin (m_neT TQ 10) (m_Call m__law_spot_ [] (m_Cons (m_C (.int 1)) (m_Cons (m_Var 8) m_Nil))) (m_Lst (m_Cons (m_C .non) m_Nil))))) (m_sSeq (m_sRet (m_C (.bl false))) m_sNil) m_sNil) m_sNil)) m_sNil)))))))))))) (m_sSeq (m_sRet (m_And (m_Bin (m_eqT TQ 10) (m_Call m__law_spot_ [] (m_Cons (m_C (.int 0)) (m_Cons (m_C (.str "\n")) m_Nil))) (m_Lst (m_Cons (m_C (.int 1)) m_Nil))) (m_And (m_Bin (m_eqT TQ 10) (m_Call m__law_spot_ [] (m_Cons (m_C (.int 1)) (m_Cons (m_C (.str "\n")) m_Nil))) (m_Lst (m_Cons (m_C (.int 2)) m_Nil))) (m_Bin (m_eqT TQ 10) (m_Call m__law_spot_ [] (m_Cons (m_C (.int 0)) (m_Cons (m_C (.str "")) m_Nil))) (m_Lst (m_Cons (m_C (.str "read")) m_Nil)))))) m_sNil))
end K81
set_option Elab.async false
set_option linter.all false
set_option exponentiation.threshold 4000
set_option maxRecDepth 100000
set_option maxHeartbeats 1000000
namespace K81
open PySem PySem.Spec L2 Dl Dl.Hd Res
abbrev valD (v : D) : Bool := valS subT v
theorem g_whole {v : D} (hv : valD v = true) : g_is_whole [v] = .ok (.bl (isW v)) := by
  have e1 := isi_ty' (m := "int") hv (by decide)
  have e2 := isi_ty' (m := "bool") hv (by decide)
  simp only [g_is_whole, f_is_whole, fVar,fC,fBin,fNil,fCons,fTup,fLst,fONone,fOSome,fSl,fVal,fTru,fNotT,fAndT,fOrT,fNot,fAnd,fOr,fIfE,fB,fM1,fCall,fMeth,fMake,fProp,fFld,fXf,fNeg,fRepl,fFr,frzS,frz1,flatD,fFrT,jVal,jR1,jR2,jR3,jEnumL,fYes,fLc,zNil,zSeq,zAsg,zOwn,zOwnL,zDrop,zApp,zRet,zRetN,zRetL,zRetOwn,zIf,zBreak,zCont,zRaise,zTg,zPar2,zPar3,zFld,zSetSl,zFor,zTry,sx,setTF,setM,fDef,fIni,fPur,startD,Dl.isNon,plainB,wipeD,fChain,hNil,hCons,jEnumS,fOpO,fIxO,jObj,zOwnE,zPar2E,zTg3E,zOwnN,zPar2N,zTg3N,zSetIx,fRev,fRevS,fLR1,fLR2,fCallK,fBor,fBorT,e_asI,e_asB,e_tru_non,e_tru_bl,e_tru_int,e_tru_str,e_tru_lst,e_tru_tup,e_tru_scr,e_sl_lst,e_sl_str,e_sl_tup,e_some,e_none,e_it_lst,e_it_tup,e_it_str,e_it_scr,e_r1,e_r2,e_en,e_thenS_nx,e_thenS_rt,e_thenS_rn,e_thenS_bk,e_thenS_cn,e_thenS_ex,e_afterS_nx,e_afterS_rt,e_afterS_rn,e_afterS_bk,e_afterS_cn,e_afterS_ex,e_su_nx,e_su_rt,e_su_bk,e_su_cn,e_ca_nx,e_ca_bk,e_ca_cn,e_ca_rt,e_ca_ex,e_end_nx,e_end_rt,e_end_rn,e_end_ex,e_endN_rn,e_endN_ex,e_endI_ex,e_endI_nx,e_len_str,e_len_lst,e_len_tup,e_len_scr,e_list_lst,e_list_tup,e_list_scr,e_list_str,e_tuple_lst,e_tuple_tup,e_int_int,e_int_bl,e_bool_int,e_bool_bl,e_sum,e_all,e_any,e_min,e_max,e_join_l,e_join_t,e_count,e_strip,e_split,e_add_i,e_add_s,e_add_l,e_add_t,e_sub,e_mul_i,e_mul_s,e_mul_l,e_mul_t,e_is_bl,e_not_bl,e_mod,e_div,e_pow,e_cmp,e_isN_non,e_notN_non,e_isN_bl,e_notN_bl,e_isN_int,e_notN_int,e_isN_str,e_notN_str,e_isN_lst,e_notN_lst,e_isN_tup,e_notN_tup,e_isN_obj,e_notN_obj,e_isN_scr,e_notN_scr,e_isN_tok,e_notN_tok,e_ix_l,e_ix_t,e_ix_s,e_ix_n,e_in1,e_kBl,e_enS,e_repl,e_neg,e_gcd,e_lcm,e_lenO_str,e_lenO_lst,e_lenO_tup,e_lenO_scr,e_op_int,e_op_str,e_op_lst,e_op_tup,e_ixO_str,e_ixO_scr,e_ixO_lst,e_ixO_tup,e_it_lst',e_it_tup',e_it_str',e_rev,e_revS,e_lr1,e_lr2,e_sorted,e_ownF_lst,e_ownF_non,e_par2F,e_triF,e_setIx,lis_cons,lis_nil,lisO_un,lisO_int,lisO_str,lisO_bl,lisO_non,bind_ok,bind_exc,bind_bad,bind_ask,cat,noex,need_true,reduceIte,Nat.reduceEqDiff,if_true,if_false,Bool.false_eq_true,List.getElem?_cons_zero,List.getElem?_cons_succ,List.map_cons,List.map_nil,List.replicate,List.cons_append,List.nil_append,List.append_nil,List.length_cons,List.length_nil,List.set_cons_zero,List.set_cons_succ, e1, e2]
  cases v with
  | tok k =>
    have e : k = 7 := by simpa [valS] using hv
    subst e
    simp [isK, kindD, isiB, isW, fVar,fC,fBin,fNil,fCons,fTup,fLst,fONone,fOSome,fSl,fVal,fTru,fNotT,fAndT,fOrT,fNot,fAnd,fOr,fIfE,fB,fM1,fCall,fMeth,fMake,fProp,fFld,fXf,fNeg,fRepl,fFr,frzS,frz1,flatD,fFrT,jVal,jR1,jR2,jR3,jEnumL,fYes,fLc,zNil,zSeq,zAsg,zOwn,zOwnL,zDrop,zApp,zRet,zRetN,zRetL,zRetOwn,zIf,zBreak,zCont,zRaise,zTg,zPar2,zPar3,zFld,zSetSl,zFor,zTry,sx,setTF,setM,fDef,fIni,fPur,startD,Dl.isNon,plainB,wipeD,fChain,hNil,hCons,jEnumS,fOpO,fIxO,jObj,zOwnE,zPar2E,zTg3E,zOwnN,zPar2N,zTg3N,zSetIx,fRev,fRevS,fLR1,fLR2,fCallK,fBor,fBorT,e_asI,e_asB,e_tru_non,e_tru_bl,e_tru_int,e_tru_str,e_tru_lst,e_tru_tup,e_tru_scr,e_sl_lst,e_sl_str,e_sl_tup,e_some,e_none,e_it_lst,e_it_tup,e_it_str,e_it_scr,e_r1,e_r2,e_en,e_thenS_nx,e_thenS_rt,e_thenS_rn,e_thenS_bk,e_thenS_cn,e_thenS_ex,e_afterS_nx,e_afterS_rt,e_afterS_rn,e_afterS_bk,e_afterS_cn,e_afterS_ex,e_su_nx,e_su_rt,e_su_bk,e_su_cn,e_ca_nx,e_ca_bk,e_ca_cn,e_ca_rt,e_ca_ex,e_end_nx,e_end_rt,e_end_rn,e_end_ex,e_endN_rn,e_endN_ex,e_endI_ex,e_endI_nx,e_len_str,e_len_lst,e_len_tup,e_len_scr,e_list_lst,e_list_tup,e_list_scr,e_list_str,e_tuple_lst,e_tuple_tup,e_int_int,e_int_bl,e_bool_int,e_bool_bl,e_sum,e_all,e_any,e_min,e_max,e_join_l,e_join_t,e_count,e_strip,e_split,e_add_i,e_add_s,e_add_l,e_add_t,e_sub,e_mul_i,e_mul_s,e_mul_l,e_mul_t,e_is_bl,e_not_bl,e_mod,e_div,e_pow,e_cmp,e_isN_non,e_notN_non,e_isN_bl,e_notN_bl,e_isN_int,e_notN_int,e_isN_str,e_notN_str,e_isN_lst,e_notN_lst,e_isN_tup,e_notN_tup,e_isN_obj,e_notN_obj,e_isN_scr,e_notN_scr,e_isN_tok,e_notN_tok,e_ix_l,e_ix_t,e_ix_s,e_ix_n,e_in1,e_kBl,e_enS,e_repl,e_neg,e_gcd,e_lcm,e_lenO_str,e_lenO_lst,e_lenO_tup,e_lenO_scr,e_op_int,e_op_str,e_op_lst,e_op_tup,e_ixO_str,e_ixO_scr,e_ixO_lst,e_ixO_tup,e_it_lst',e_it_tup',e_it_str',e_rev,e_revS,e_lr1,e_lr2,e_sorted,e_ownF_lst,e_ownF_non,e_par2F,e_triF,e_setIx,lis_cons,lis_nil,lisO_un,lisO_int,lisO_str,lisO_bl,lisO_non,bind_ok,bind_exc,bind_bad,bind_ask,cat,noex,need_true,reduceIte,Nat.reduceEqDiff,if_true,if_false,Bool.false_eq_true,List.getElem?_cons_zero,List.getElem?_cons_succ,List.map_cons,List.map_nil,List.replicate,List.cons_append,List.nil_append,List.append_nil,List.length_cons,List.length_nil,List.set_cons_zero,List.set_cons_succ]
  | _ => first | (cases hv; done) | simp [isK, kindD, isiB, isW, fVar,fC,fBin,fNil,fCons,fTup,fLst,fONone,fOSome,fSl,fVal,fTru,fNotT,fAndT,fOrT,fNot,fAnd,fOr,fIfE,fB,fM1,fCall,fMeth,fMake,fProp,fFld,fXf,fNeg,fRepl,fFr,frzS,frz1,flatD,fFrT,jVal,jR1,jR2,jR3,jEnumL,fYes,fLc,zNil,zSeq,zAsg,zOwn,zOwnL,zDrop,zApp,zRet,zRetN,zRetL,zRetOwn,zIf,zBreak,zCont,zRaise,zTg,zPar2,zPar3,zFld,zSetSl,zFor,zTry,sx,setTF,setM,fDef,fIni,fPur,startD,Dl.isNon,plainB,wipeD,fChain,hNil,hCons,jEnumS,fOpO,fIxO,jObj,zOwnE,zPar2E,zTg3E,zOwnN,zPar2N,zTg3N,zSetIx,fRev,fRevS,fLR1,fLR2,fCallK,fBor,fBorT,e_asI,e_asB,e_tru_non,e_tru_bl,e_tru_int,e_tru_str,e_tru_lst,e_tru_tup,e_tru_scr,e_sl_lst,e_sl_str,e_sl_tup,e_some,e_none,e_it_lst,e_it_tup,e_it_str,e_it_scr,e_r1,e_r2,e_en,e_thenS_nx,e_thenS_rt,e_thenS_rn,e_thenS_bk,e_thenS_cn,e_thenS_ex,e_afterS_nx,e_afterS_rt,e_afterS_rn,e_afterS_bk,e_afterS_cn,e_afterS_ex,e_su_nx,e_su_rt,e_su_bk,e_su_cn,e_ca_nx,e_ca_bk,e_ca_cn,e_ca_rt,e_ca_ex,e_end_nx,e_end_rt,e_end_rn,e_end_ex,e_endN_rn,e_endN_ex,e_endI_ex,e_endI_nx,e_len_str,e_len_lst,e_len_tup,e_len_scr,e_list_lst,e_list_tup,e_list_scr,e_list_str,e_tuple_lst,e_tuple_tup,e_int_int,e_int_bl,e_bool_int,e_bool_bl,e_sum,e_all,e_any,e_min,e_max,e_join_l,e_join_t,e_count,e_strip,e_split,e_add_i,e_add_s,e_add_l,e_add_t,e_sub,e_mul_i,e_mul_s,e_mul_l,e_mul_t,e_is_bl,e_not_bl,e_mod,e_div,e_pow,e_cmp,e_isN_non,e_notN_non,e_isN_bl,e_notN_bl,e_isN_int,e_notN_int,e_isN_str,e_notN_str,e_isN_lst,e_notN_lst,e_isN_tup,e_notN_tup,e_isN_obj,e_notN_obj,e_isN_scr,e_notN_scr,e_isN_tok,e_notN_tok,e_ix_l,e_ix_t,e_ix_s,e_ix_n,e_in1,e_kBl,e_enS,e_repl,e_neg,e_gcd,e_lcm,e_lenO_str,e_lenO_lst,e_lenO_tup,e_lenO_scr,e_op_int,e_op_str,e_op_lst,e_op_tup,e_ixO_str,e_ixO_scr,e_ixO_lst,e_ixO_tup,e_it_lst',e_it_tup',e_it_str',e_rev,e_revS,e_lr1,e_lr2,e_sorted,e_ownF_lst,e_ownF_non,e_par2F,e_triF,e_setIx,lis_cons,lis_nil,lisO_un,lisO_int,lisO_str,lisO_bl,lisO_non,bind_ok,bind_exc,bind_bad,bind_ask,cat,noex,need_true,reduceIte,Nat.reduceEqDiff,if_true,if_false,Bool.false_eq_true,List.getElem?_cons_zero,List.getElem?_cons_succ,List.map_cons,List.map_nil,List.replicate,List.cons_append,List.nil_append,List.append_nil,List.length_cons,List.length_nil,List.set_cons_zero,List.set_cons_succ]
theorem g_check {v : D} {lo : Int} {hi : Option Int} (hv : valD v = true) : g_check_number [v, .int lo, opD hi] = if inBd v lo hi then .ok .non else .exc 2 v := by
  have e := g_whole hv
  simp only [g_check_number, f_check_number, fVar,fC,fBin,fNil,fCons,fTup,fLst,fONone,fOSome,asI,fSl,sliceD,asB,truR,fVal,fTru,fNotT,fAndT,fOrT,fNot,fAnd,fOr,fIfE,fB,fM1,fCall,fMeth,fMake,fProp,fFld,optR,fXf,fNeg,fRepl,fFr,frzS,frz1,flatD,fFrT,jVal,itR,jR1,jR2,jR3,rng1,rng2,rng3,jEnumL,enumR,fYes,fLc,zNil,zSeq,zAsg,zOwn,zOwnL,zDrop,zApp,zRet,zRetN,zRetL,zRetOwn,zIf,zBreak,zCont,zRaise,zTg,zPar2,zPar3,zFld,zSetSl,zFor,zTry,sx,thenS,afterS,suiteF,caughtF,setTF,setM,fDef,fIni,fPur,endR,endI,endN,startD,gLen,gList,gTuple,gInt,gBool,gSum,gAll,gAny,gMin,gMax,gIsi,pAdd,pSub,pMul,pMod,pDiv,pPow,pCmp,pIsN,pNotN,Dl.isNon,isiD,kindD,isiB,plainB,wipeD,fChain,hNil,hCons,jEnumS,fOpO,fIxO,jObj,zOwnE,zPar2E,zTg3E,zOwnN,zPar2N,zTg3N,zSetIx,fRev,fRevS,fLR1,fLR2,fCallK,fBor,fBorT,Res.bind_ok,Res.bind_exc,Res.bind_bad,Res.bind_ask,Res.cat,Res.noex,Res.need_true,reduceIte,Nat.reduceEqDiff,if_true,if_false,Bool.false_eq_true,List.getElem?_cons_zero,List.getElem?_cons_succ,List.map_cons,List.map_nil,List.replicate,List.cons_append,List.nil_append,List.append_nil,List.length_cons,List.length_nil,List.set_cons_zero,List.set_cons_succ]
  rw [e]
  cases v <;> cases hi <;> simp [isW, inBd, opD, fVar,fC,fBin,fNil,fCons,fTup,fLst,fONone,fOSome,asI,fSl,sliceD,asB,truR,fVal,fTru,fNotT,fAndT,fOrT,fNot,fAnd,fOr,fIfE,fB,fM1,fCall,fMeth,fMake,fProp,fFld,optR,fXf,fNeg,fRepl,fFr,frzS,frz1,flatD,fFrT,jVal,itR,jR1,jR2,jR3,rng1,rng2,rng3,jEnumL,enumR,fYes,fLc,zNil,zSeq,zAsg,zOwn,zOwnL,zDrop,zApp,zRet,zRetN,zRetL,zRetOwn,zIf,zBreak,zCont,zRaise,zTg,zPar2,zPar3,zFld,zSetSl,zFor,zTry,sx,thenS,afterS,suiteF,caughtF,setTF,setM,fDef,fIni,fPur,endR,endI,endN,startD,gLen,gList,gTuple,gInt,gBool,gSum,gAll,gAny,gMin,gMax,gIsi,pAdd,pSub,pMul,pMod,pDiv,pPow,pCmp,pIsN,pNotN,Dl.isNon,isiD,kindD,isiB,plainB,wipeD,fChain,hNil,hCons,jEnumS,fOpO,fIxO,jObj,zOwnE,zPar2E,zTg3E,zOwnN,zPar2N,zTg3N,zSetIx,fRev,fRevS,fLR1,fLR2,fCallK,fBor,fBorT,Res.bind_ok,Res.bind_exc,Res.bind_bad,Res.bind_ask,Res.cat,Res.noex,Res.need_true,reduceIte,Nat.reduceEqDiff,if_true,if_false,Bool.false_eq_true,List.getElem?_cons_zero,List.getElem?_cons_succ,List.map_cons,List.map_nil,List.replicate,List.cons_append,List.nil_append,List.append_nil,List.length_cons,List.length_nil,List.set_cons_zero,List.set_cons_succ]
  · rename_i i
    by_cases h : i < lo
    · simp [h, Int.not_le.mpr h, fVar,fC,fBin,fNil,fCons,fTup,fLst,fONone,fOSome,asI,fSl,sliceD,asB,truR,fVal,fTru,fNotT,fAndT,fOrT,fNot,fAnd,fOr,fIfE,fB,fM1,fCall,fMeth,fMake,fProp,fFld,optR,fXf,fNeg,fRepl,fFr,frzS,frz1,flatD,fFrT,jVal,itR,jR1,jR2,jR3,rng1,rng2,rng3,jEnumL,enumR,fYes,fLc,zNil,zSeq,zAsg,zOwn,zOwnL,zDrop,zApp,zRet,zRetN,zRetL,zRetOwn,zIf,zBreak,zCont,zRaise,zTg,zPar2,zPar3,zFld,zSetSl,zFor,zTry,sx,thenS,afterS,suiteF,caughtF,setTF,setM,fDef,fIni,fPur,endR,endI,endN,startD,gLen,gList,gTuple,gInt,gBool,gSum,gAll,gAny,gMin,gMax,gIsi,pAdd,pSub,pMul,pMod,pDiv,pPow,pCmp,pIsN,pNotN,Dl.isNon,isiD,kindD,isiB,plainB,wipeD,fChain,hNil,hCons,jEnumS,fOpO,fIxO,jObj,zOwnE,zPar2E,zTg3E,zOwnN,zPar2N,zTg3N,zSetIx,fRev,fRevS,fLR1,fLR2,fCallK,fBor,fBorT,Res.bind_ok,Res.bind_exc,Res.bind_bad,Res.bind_ask,Res.cat,Res.noex,Res.need_true,reduceIte,Nat.reduceEqDiff,if_true,if_false,Bool.false_eq_true,List.getElem?_cons_zero,List.getElem?_cons_succ,List.map_cons,List.map_nil,List.replicate,List.cons_append,List.nil_append,List.append_nil,List.length_cons,List.length_nil,List.set_cons_zero,List.set_cons_succ]
    · simp [h, Int.not_lt.mp h, fVar,fC,fBin,fNil,fCons,fTup,fLst,fONone,fOSome,asI,fSl,sliceD,asB,truR,fVal,fTru,fNotT,fAndT,fOrT,fNot,fAnd,fOr,fIfE,fB,fM1,fCall,fMeth,fMake,fProp,fFld,optR,fXf,fNeg,fRepl,fFr,frzS,frz1,flatD,fFrT,jVal,itR,jR1,jR2,jR3,rng1,rng2,rng3,jEnumL,enumR,fYes,fLc,zNil,zSeq,zAsg,zOwn,zOwnL,zDrop,zApp,zRet,zRetN,zRetL,zRetOwn,zIf,zBreak,zCont,zRaise,zTg,zPar2,zPar3,zFld,zSetSl,zFor,zTry,sx,thenS,afterS,suiteF,caughtF,setTF,setM,fDef,fIni,fPur,endR,endI,endN,startD,gLen,gList,gTuple,gInt,gBool,gSum,gAll,gAny,gMin,gMax,gIsi,pAdd,pSub,pMul,pMod,pDiv,pPow,pCmp,pIsN,pNotN,Dl.isNon,isiD,kindD,isiB,plainB,wipeD,fChain,hNil,hCons,jEnumS,fOpO,fIxO,jObj,zOwnE,zPar2E,zTg3E,zOwnN,zPar2N,zTg3N,zSetIx,fRev,fRevS,fLR1,fLR2,fCallK,fBor,fBorT,Res.bind_ok,Res.bind_exc,Res.bind_bad,Res.bind_ask,Res.cat,Res.noex,Res.need_true,reduceIte,Nat.reduceEqDiff,if_true,if_false,Bool.false_eq_true,List.getElem?_cons_zero,List.getElem?_cons_succ,List.map_cons,List.map_nil,List.replicate,List.cons_append,List.nil_append,List.append_nil,List.length_cons,List.length_nil,List.set_cons_zero,List.set_cons_succ]
  · rename_i i j
    by_cases h : i < lo
    · simp [h, Int.not_le.mpr h, fVar,fC,fBin,fNil,fCons,fTup,fLst,fONone,fOSome,asI,fSl,sliceD,asB,truR,fVal,fTru,fNotT,fAndT,fOrT,fNot,fAnd,fOr,fIfE,fB,fM1,fCall,fMeth,fMake,fProp,fFld,optR,fXf,fNeg,fRepl,fFr,frzS,frz1,flatD,fFrT,jVal,itR,jR1,jR2,jR3,rng1,rng2,rng3,jEnumL,enumR,fYes,fLc,zNil,zSeq,zAsg,zOwn,zOwnL,zDrop,zApp,zRet,zRetN,zRetL,zRetOwn,zIf,zBreak,zCont,zRaise,zTg,zPar2,zPar3,zFld,zSetSl,zFor,zTry,sx,thenS,afterS,suiteF,caughtF,setTF,setM,fDef,fIni,fPur,endR,endI,endN,startD,gLen,gList,gTuple,gInt,gBool,gSum,gAll,gAny,gMin,gMax,gIsi,pAdd,pSub,pMul,pMod,pDiv,pPow,pCmp,pIsN,pNotN,Dl.isNon,isiD,kindD,isiB,plainB,wipeD,fChain,hNil,hCons,jEnumS,fOpO,fIxO,jObj,zOwnE,zPar2E,zTg3E,zOwnN,zPar2N,zTg3N,zSetIx,fRev,fRevS,fLR1,fLR2,fCallK,fBor,fBorT,Res.bind_ok,Res.bind_exc,Res.bind_bad,Res.bind_ask,Res.cat,Res.noex,Res.need_true,reduceIte,Nat.reduceEqDiff,if_true,if_false,Bool.false_eq_true,List.getElem?_cons_zero,List.getElem?_cons_succ,List.map_cons,List.map_nil,List.replicate,List.cons_append,List.nil_append,List.append_nil,List.length_cons,List.length_nil,List.set_cons_zero,List.set_cons_succ]
    · by_cases h2 : j < i
      · simp [h, Int.not_lt.mp h, h2, Int.not_le.mpr h2, fVar,fC,fBin,fNil,fCons,fTup,fLst,fONone,fOSome,asI,fSl,sliceD,asB,truR,fVal,fTru,fNotT,fAndT,fOrT,fNot,fAnd,fOr,fIfE,fB,fM1,fCall,fMeth,fMake,fProp,fFld,optR,fXf,fNeg,fRepl,fFr,frzS,frz1,flatD,fFrT,jVal,itR,jR1,jR2,jR3,rng1,rng2,rng3,jEnumL,enumR,fYes,fLc,zNil,zSeq,zAsg,zOwn,zOwnL,zDrop,zApp,zRet,zRetN,zRetL,zRetOwn,zIf,zBreak,zCont,zRaise,zTg,zPar2,zPar3,zFld,zSetSl,zFor,zTry,sx,thenS,afterS,suiteF,caughtF,setTF,setM,fDef,fIni,fPur,endR,endI,endN,startD,gLen,gList,gTuple,gInt,gBool,gSum,gAll,gAny,gMin,gMax,gIsi,pAdd,pSub,pMul,pMod,pDiv,pPow,pCmp,pIsN,pNotN,Dl.isNon,isiD,kindD,isiB,plainB,wipeD,fChain,hNil,hCons,jEnumS,fOpO,fIxO,jObj,zOwnE,zPar2E,zTg3E,zOwnN,zPar2N,zTg3N,zSetIx,fRev,fRevS,fLR1,fLR2,fCallK,fBor,fBorT,Res.bind_ok,Res.bind_exc,Res.bind_bad,Res.bind_ask,Res.cat,Res.noex,Res.need_true,reduceIte,Nat.reduceEqDiff,if_true,if_false,Bool.false_eq_true,List.getElem?_cons_zero,List.getElem?_cons_succ,List.map_cons,List.map_nil,List.replicate,List.cons_append,List.nil_append,List.append_nil,List.length_cons,List.length_nil,List.set_cons_zero,List.set_cons_succ]
      · simp [h, Int.not_lt.mp h, h2, Int.not_lt.mp h2, fVar,fC,fBin,fNil,fCons,fTup,fLst,fONone,fOSome,asI,fSl,sliceD,asB,truR,fVal,fTru,fNotT,fAndT,fOrT,fNot,fAnd,fOr,fIfE,fB,fM1,fCall,fMeth,fMake,fProp,fFld,optR,fXf,fNeg,fRepl,fFr,frzS,frz1,flatD,fFrT,jVal,itR,jR1,jR2,jR3,rng1,rng2,rng3,jEnumL,enumR,fYes,fLc,zNil,zSeq,zAsg,zOwn,zOwnL,zDrop,zApp,zRet,zRetN,zRetL,zRetOwn,zIf,zBreak,zCont,zRaise,zTg,zPar2,zPar3,zFld,zSetSl,zFor,zTry,sx,thenS,afterS,suiteF,caughtF,setTF,setM,fDef,fIni,fPur,endR,endI,endN,startD,gLen,gList,gTuple,gInt,gBool,gSum,gAll,gAny,gMin,gMax,gIsi,pAdd,pSub,pMul,pMod,pDiv,pPow,pCmp,pIsN,pNotN,Dl.isNon,isiD,kindD,isiB,plainB,wipeD,fChain,hNil,hCons,jEnumS,fOpO,fIxO,jObj,zOwnE,zPar2E,zTg3E,zOwnN,zPar2N,zTg3N,zSetIx,fRev,fRevS,fLR1,fLR2,fCallK,fBor,fBorT,Res.bind_ok,Res.bind_exc,Res.bind_bad,Res.bind_ask,Res.cat,Res.noex,Res.need_true,reduceIte,Nat.reduceEqDiff,if_true,if_false,Bool.false_eq_true,List.getElem?_cons_zero,List.getElem?_cons_succ,List.map_cons,List.map_nil,List.replicate,List.cons_append,List.nil_append,List.append_nil,List.length_cons,List.length_nil,List.set_cons_zero,List.set_cons_succ]
theorem check1 {v : D} {lo : Int} (hv : valD v = true) : g_check_number [v, .int lo, .non] = if inBd v lo none then .ok .non else .exc 2 v := g_check (hi := none) hv
theorem inBd_up {i lo : Int} (h0 : lo ≤ i) : inBd (.int i) lo none = true := by simp [inBd, h0]
abbrev CE : Str := ".0abcdefghijklmnopqrstuvwxyz"
def rowB (z : Str) : Bool := z.cps.toList.all fun c => decide (c ∈ CE.cps.toList)
theorem chk (z : Str) : (chrs z).length ≤ sizeLine ↔ z.length ≤ sizeLine := by rw [chrs_len]
theorem g_row {z : Str} (hz : z.length ≤ sizeLine) : g_is_row [.str z, .str CE] = .ok (.bl (rowB z)) := by
  simp only [g_is_row, f_is_row, fVar,fC,fBin,fNil,fCons,fTup,fLst,fONone,fOSome,asI,fSl,sliceD,asB,truR,fVal,fTru,fNotT,fAndT,fOrT,fNot,fAnd,fOr,fIfE,fB,fM1,fCall,fMeth,fMake,fProp,fFld,optR,fXf,fNeg,fRepl,fFr,frzS,frz1,flatD,fFrT,jVal,itR,jR1,jR2,jR3,rng1,rng2,rng3,jEnumL,enumR,fYes,fLc,zNil,zSeq,zAsg,zOwn,zOwnL,zDrop,zApp,zRet,zRetN,zRetL,zRetOwn,zIf,zBreak,zCont,zRaise,zTg,zPar2,zPar3,zFld,zSetSl,zFor,zTry,sx,thenS,afterS,suiteF,caughtF,setTF,setM,fDef,fIni,fPur,endR,endI,endN,startD,gLen,gList,gTuple,gInt,gBool,gSum,gAll,gAny,gMin,gMax,gIsi,pAdd,pSub,pMul,pMod,pDiv,pPow,pCmp,pIsN,pNotN,Dl.isNon,isiD,kindD,isiB,plainB,wipeD,fChain,hNil,hCons,jEnumS,fOpO,fIxO,jObj,zOwnE,zPar2E,zTg3E,zOwnN,zPar2N,zTg3N,zSetIx,fRev,fRevS,fLR1,fLR2,fCallK,fBor,fBorT,Res.bind_ok,Res.bind_exc,Res.bind_bad,Res.bind_ask,Res.cat,Res.noex,Res.need_true,reduceIte,Nat.reduceEqDiff,if_true,if_false,Bool.false_eq_true,List.getElem?_cons_zero,List.getElem?_cons_succ,List.map_cons,List.map_nil,List.replicate,List.cons_append,List.nil_append,List.append_nil,List.length_cons,List.length_nil,List.set_cons_zero,List.set_cons_succ, chk, hz]
  unfold chrs
  rw [comp_mapG (f := fun c => .bl (decide (c ∈ CE.cps.toList))) fun c hc => by simp [fVar,fC,fBin,fNil,fCons,fTup,fLst,fONone,fOSome,asI,fSl,sliceD,asB,truR,fVal,fTru,fNotT,fAndT,fOrT,fNot,fAnd,fOr,fIfE,fB,fM1,fCall,fMeth,fMake,fProp,fFld,optR,fXf,fNeg,fRepl,fFr,frzS,frz1,flatD,fFrT,jVal,itR,jR1,jR2,jR3,rng1,rng2,rng3,jEnumL,enumR,fYes,fLc,zNil,zSeq,zAsg,zOwn,zOwnL,zDrop,zApp,zRet,zRetN,zRetL,zRetOwn,zIf,zBreak,zCont,zRaise,zTg,zPar2,zPar3,zFld,zSetSl,zFor,zTry,sx,thenS,afterS,suiteF,caughtF,setTF,setM,fDef,fIni,fPur,endR,endI,endN,startD,gLen,gList,gTuple,gInt,gBool,gSum,gAll,gAny,gMin,gMax,gIsi,pAdd,pSub,pMul,pMod,pDiv,pPow,pCmp,pIsN,pNotN,Dl.isNon,isiD,kindD,isiB,plainB,wipeD,fChain,hNil,hCons,jEnumS,fOpO,fIxO,jObj,zOwnE,zPar2E,zTg3E,zOwnN,zPar2N,zTg3N,zSetIx,fRev,fRevS,fLR1,fLR2,fCallK,fBor,fBorT,Res.bind_ok,Res.bind_exc,Res.bind_bad,Res.bind_ask,Res.cat,Res.noex,Res.need_true,reduceIte,Nat.reduceEqDiff,if_true,if_false,Bool.false_eq_true,List.getElem?_cons_zero,List.getElem?_cons_succ,List.map_cons,List.map_nil,List.replicate,List.cons_append,List.nil_append,List.append_nil,List.length_cons,List.length_nil,List.set_cons_zero,List.set_cons_succ, pInW]]
  simp only [fVar,fC,fBin,fNil,fCons,fTup,fLst,fONone,fOSome,asI,fSl,sliceD,asB,truR,fVal,fTru,fNotT,fAndT,fOrT,fNot,fAnd,fOr,fIfE,fB,fM1,fCall,fMeth,fMake,fProp,fFld,optR,fXf,fNeg,fRepl,fFr,frzS,frz1,flatD,fFrT,jVal,itR,jR1,jR2,jR3,rng1,rng2,rng3,jEnumL,enumR,fYes,fLc,zNil,zSeq,zAsg,zOwn,zOwnL,zDrop,zApp,zRet,zRetN,zRetL,zRetOwn,zIf,zBreak,zCont,zRaise,zTg,zPar2,zPar3,zFld,zSetSl,zFor,zTry,sx,thenS,afterS,suiteF,caughtF,setTF,setM,fDef,fIni,fPur,endR,endI,endN,startD,gLen,gList,gTuple,gInt,gBool,gSum,gAll,gAny,gMin,gMax,gIsi,pAdd,pSub,pMul,pMod,pDiv,pPow,pCmp,pIsN,pNotN,Dl.isNon,isiD,kindD,isiB,plainB,wipeD,fChain,hNil,hCons,jEnumS,fOpO,fIxO,jObj,zOwnE,zPar2E,zTg3E,zOwnN,zPar2N,zTg3N,zSetIx,fRev,fRevS,fLR1,fLR2,fCallK,fBor,fBorT,Res.bind_ok,Res.bind_exc,Res.bind_bad,Res.bind_ask,Res.cat,Res.noex,Res.need_true,reduceIte,Nat.reduceEqDiff,if_true,if_false,Bool.false_eq_true,List.getElem?_cons_zero,List.getElem?_cons_succ,List.map_cons,List.map_nil,List.replicate,List.cons_append,List.nil_append,List.append_nil,List.length_cons,List.length_nil,List.set_cons_zero,List.set_cons_succ, toBls_mapG, all_mapId]
  rfl
abbrev fileD (z : Str) : D := .obj 7 [.str z]
theorem g_File {z : Str} (hz : z.length ≤ sizeLine) : g_File_init [.str z] = if rowB z then .ok [("_cells", .str z)] else .exc 1 (.str z) := by
  simp only [g_File_init, f_File_init, fVar,fC,fBin,fNil,fCons,fTup,fLst,fONone,fOSome,asI,fSl,sliceD,asB,truR,fVal,fTru,fNotT,fAndT,fOrT,fNot,fAnd,fOr,fIfE,fB,fM1,fCall,fMeth,fMake,fProp,fFld,optR,fXf,fNeg,fRepl,fFr,frzS,frz1,flatD,fFrT,jVal,itR,jR1,jR2,jR3,rng1,rng2,rng3,jEnumL,enumR,fYes,fLc,zNil,zSeq,zAsg,zOwn,zOwnL,zDrop,zApp,zRet,zRetN,zRetL,zRetOwn,zIf,zBreak,zCont,zRaise,zTg,zPar2,zPar3,zFld,zSetSl,zFor,zTry,sx,thenS,afterS,suiteF,caughtF,setTF,setM,fDef,fIni,fPur,endR,endI,endN,startD,gLen,gList,gTuple,gInt,gBool,gSum,gAll,gAny,gMin,gMax,gIsi,pAdd,pSub,pMul,pMod,pDiv,pPow,pCmp,pIsN,pNotN,Dl.isNon,isiD,kindD,isiB,plainB,wipeD,fChain,hNil,hCons,jEnumS,fOpO,fIxO,jObj,zOwnE,zPar2E,zTg3E,zOwnN,zPar2N,zTg3N,zSetIx,fRev,fRevS,fLR1,fLR2,fCallK,fBor,fBorT,Res.bind_ok,Res.bind_exc,Res.bind_bad,Res.bind_ask,Res.cat,Res.noex,Res.need_true,reduceIte,Nat.reduceEqDiff,if_true,if_false,Bool.false_eq_true,List.getElem?_cons_zero,List.getElem?_cons_succ,List.map_cons,List.map_nil,List.replicate,List.cons_append,List.nil_append,List.append_nil,List.length_cons,List.length_nil,List.set_cons_zero,List.set_cons_succ, g_row hz]
  cases rowB z <;> simp [fVar,fC,fBin,fNil,fCons,fTup,fLst,fONone,fOSome,asI,fSl,sliceD,asB,truR,fVal,fTru,fNotT,fAndT,fOrT,fNot,fAnd,fOr,fIfE,fB,fM1,fCall,fMeth,fMake,fProp,fFld,optR,fXf,fNeg,fRepl,fFr,frzS,frz1,flatD,fFrT,jVal,itR,jR1,jR2,jR3,rng1,rng2,rng3,jEnumL,enumR,fYes,fLc,zNil,zSeq,zAsg,zOwn,zOwnL,zDrop,zApp,zRet,zRetN,zRetL,zRetOwn,zIf,zBreak,zCont,zRaise,zTg,zPar2,zPar3,zFld,zSetSl,zFor,zTry,sx,thenS,afterS,suiteF,caughtF,setTF,setM,fDef,fIni,fPur,endR,endI,endN,startD,gLen,gList,gTuple,gInt,gBool,gSum,gAll,gAny,gMin,gMax,gIsi,pAdd,pSub,pMul,pMod,pDiv,pPow,pCmp,pIsN,pNotN,Dl.isNon,isiD,kindD,isiB,plainB,wipeD,fChain,hNil,hCons,jEnumS,fOpO,fIxO,jObj,zOwnE,zPar2E,zTg3E,zOwnN,zPar2N,zTg3N,zSetIx,fRev,fRevS,fLR1,fLR2,fCallK,fBor,fBorT,Res.bind_ok,Res.bind_exc,Res.bind_bad,Res.bind_ask,Res.cat,Res.noex,Res.need_true,reduceIte,Nat.reduceEqDiff,if_true,if_false,Bool.false_eq_true,List.getElem?_cons_zero,List.getElem?_cons_succ,List.map_cons,List.map_nil,List.replicate,List.cons_append,List.nil_append,List.append_nil,List.length_cons,List.length_nil,List.set_cons_zero,List.set_cons_succ]
theorem nmF {r : Res D} : need ([Str.ofString "_cells"] = nm[7]?.getD []) r = r := need_pos rfl
theorem dot : (".": Str) = ⟨#[46]⟩ := by decide +kernel
theorem nought : ("0": Str) = ⟨#[48]⟩ := by decide +kernel
theorem g_len {z : Str} (h : z.length ≤ 16777216) : g_File_len [fileD z] = .ok (.int z.length) := by
  have hz : z.length ≤ sizeLine := szL h
  simp only [g_File_len, f_File_len, fVar,fC,fBin,fNil,fCons,fTup,fLst,fONone,fOSome,fSl,fVal,fTru,fNotT,fAndT,fOrT,fNot,fAnd,fOr,fIfE,fB,fM1,fCall,fMeth,fMake,fProp,fFld,fXf,fNeg,fRepl,fFr,frzS,frz1,flatD,fFrT,jVal,jR1,jR2,jR3,jEnumL,fYes,fLc,zNil,zSeq,zAsg,zOwn,zOwnL,zDrop,zApp,zRet,zRetN,zRetL,zRetOwn,zIf,zBreak,zCont,zRaise,zTg,zPar2,zPar3,zFld,zSetSl,zFor,zTry,sx,setTF,setM,fDef,fIni,fPur,startD,Dl.isNon,plainB,wipeD,fChain,hNil,hCons,jEnumS,fOpO,fIxO,jObj,zOwnE,zPar2E,zTg3E,zOwnN,zPar2N,zTg3N,zSetIx,fRev,fRevS,fLR1,fLR2,fCallK,fBor,fBorT,e_asI,e_asB,e_tru_non,e_tru_bl,e_tru_int,e_tru_str,e_tru_lst,e_tru_tup,e_tru_scr,e_sl_lst,e_sl_str,e_sl_tup,e_some,e_none,e_it_lst,e_it_tup,e_it_str,e_it_scr,e_r1,e_r2,e_en,e_thenS_nx,e_thenS_rt,e_thenS_rn,e_thenS_bk,e_thenS_cn,e_thenS_ex,e_afterS_nx,e_afterS_rt,e_afterS_rn,e_afterS_bk,e_afterS_cn,e_afterS_ex,e_su_nx,e_su_rt,e_su_bk,e_su_cn,e_ca_nx,e_ca_bk,e_ca_cn,e_ca_rt,e_ca_ex,e_end_nx,e_end_rt,e_end_rn,e_end_ex,e_endN_rn,e_endN_ex,e_endI_ex,e_endI_nx,e_len_str,e_len_lst,e_len_tup,e_len_scr,e_list_lst,e_list_tup,e_list_scr,e_list_str,e_tuple_lst,e_tuple_tup,e_int_int,e_int_bl,e_bool_int,e_bool_bl,e_sum,e_all,e_any,e_min,e_max,e_join_l,e_join_t,e_count,e_strip,e_split,e_add_i,e_add_s,e_add_l,e_add_t,e_sub,e_mul_i,e_mul_s,e_mul_l,e_mul_t,e_is_bl,e_not_bl,e_mod,e_div,e_pow,e_cmp,e_isN_non,e_notN_non,e_isN_bl,e_notN_bl,e_isN_int,e_notN_int,e_isN_str,e_notN_str,e_isN_lst,e_notN_lst,e_isN_tup,e_notN_tup,e_isN_obj,e_notN_obj,e_isN_scr,e_notN_scr,e_isN_tok,e_notN_tok,e_ix_l,e_ix_t,e_ix_s,e_ix_n,e_in1,e_kBl,e_enS,e_repl,e_neg,e_gcd,e_lcm,e_lenO_str,e_lenO_lst,e_lenO_tup,e_lenO_scr,e_op_int,e_op_str,e_op_lst,e_op_tup,e_ixO_str,e_ixO_scr,e_ixO_lst,e_ixO_tup,e_it_lst',e_it_tup',e_it_str',e_rev,e_revS,e_lr1,e_lr2,e_sorted,e_ownF_lst,e_ownF_non,e_par2F,e_triF,e_setIx,lis_cons,lis_nil,lisO_un,lisO_int,lisO_str,lisO_bl,lisO_non,bind_ok,bind_exc,bind_bad,bind_ask,cat,noex,need_true,reduceIte,Nat.reduceEqDiff,if_true,if_false,Bool.false_eq_true,List.getElem?_cons_zero,List.getElem?_cons_succ,List.map_cons,List.map_nil,List.replicate,List.cons_append,List.nil_append,List.append_nil,List.length_cons,List.length_nil,List.set_cons_zero,List.set_cons_succ]
  rw [need_pos hz]
  simp [fVar,fC,fBin,fNil,fCons,fTup,fLst,fONone,fOSome,fSl,fVal,fTru,fNotT,fAndT,fOrT,fNot,fAnd,fOr,fIfE,fB,fM1,fCall,fMeth,fMake,fProp,fFld,fXf,fNeg,fRepl,fFr,frzS,frz1,flatD,fFrT,jVal,jR1,jR2,jR3,jEnumL,fYes,fLc,zNil,zSeq,zAsg,zOwn,zOwnL,zDrop,zApp,zRet,zRetN,zRetL,zRetOwn,zIf,zBreak,zCont,zRaise,zTg,zPar2,zPar3,zFld,zSetSl,zFor,zTry,sx,setTF,setM,fDef,fIni,fPur,startD,Dl.isNon,plainB,wipeD,fChain,hNil,hCons,jEnumS,fOpO,fIxO,jObj,zOwnE,zPar2E,zTg3E,zOwnN,zPar2N,zTg3N,zSetIx,fRev,fRevS,fLR1,fLR2,fCallK,fBor,fBorT,e_asI,e_asB,e_tru_non,e_tru_bl,e_tru_int,e_tru_str,e_tru_lst,e_tru_tup,e_tru_scr,e_sl_lst,e_sl_str,e_sl_tup,e_some,e_none,e_it_lst,e_it_tup,e_it_str,e_it_scr,e_r1,e_r2,e_en,e_thenS_nx,e_thenS_rt,e_thenS_rn,e_thenS_bk,e_thenS_cn,e_thenS_ex,e_afterS_nx,e_afterS_rt,e_afterS_rn,e_afterS_bk,e_afterS_cn,e_afterS_ex,e_su_nx,e_su_rt,e_su_bk,e_su_cn,e_ca_nx,e_ca_bk,e_ca_cn,e_ca_rt,e_ca_ex,e_end_nx,e_end_rt,e_end_rn,e_end_ex,e_endN_rn,e_endN_ex,e_endI_ex,e_endI_nx,e_len_str,e_len_lst,e_len_tup,e_len_scr,e_list_lst,e_list_tup,e_list_scr,e_list_str,e_tuple_lst,e_tuple_tup,e_int_int,e_int_bl,e_bool_int,e_bool_bl,e_sum,e_all,e_any,e_min,e_max,e_join_l,e_join_t,e_count,e_strip,e_split,e_add_i,e_add_s,e_add_l,e_add_t,e_sub,e_mul_i,e_mul_s,e_mul_l,e_mul_t,e_is_bl,e_not_bl,e_mod,e_div,e_pow,e_cmp,e_isN_non,e_notN_non,e_isN_bl,e_notN_bl,e_isN_int,e_notN_int,e_isN_str,e_notN_str,e_isN_lst,e_notN_lst,e_isN_tup,e_notN_tup,e_isN_obj,e_notN_obj,e_isN_scr,e_notN_scr,e_isN_tok,e_notN_tok,e_ix_l,e_ix_t,e_ix_s,e_ix_n,e_in1,e_kBl,e_enS,e_repl,e_neg,e_gcd,e_lcm,e_lenO_str,e_lenO_lst,e_lenO_tup,e_lenO_scr,e_op_int,e_op_str,e_op_lst,e_op_tup,e_ixO_str,e_ixO_scr,e_ixO_lst,e_ixO_tup,e_it_lst',e_it_tup',e_it_str',e_rev,e_revS,e_lr1,e_lr2,e_sorted,e_ownF_lst,e_ownF_non,e_par2F,e_triF,e_setIx,lis_cons,lis_nil,lisO_un,lisO_int,lisO_str,lisO_bl,lisO_non,bind_ok,bind_exc,bind_bad,bind_ask,cat,noex,need_true,reduceIte,Nat.reduceEqDiff,if_true,if_false,Bool.false_eq_true,List.getElem?_cons_zero,List.getElem?_cons_succ,List.map_cons,List.map_nil,List.replicate,List.cons_append,List.nil_append,List.append_nil,List.length_cons,List.length_nil,List.set_cons_zero,List.set_cons_succ]
theorem row_S {a : List Nat} : rowB (SX.S a) = a.all fun c => decide (c ∈ CE.cps.toList) := rfl
theorem g_play_end {a : List Nat} (hl : a.length ≤ 1000) (hr : rowB (SX.S a) = true) : g_File_init [.str (SX.S a)] = .ok [("_cells", .str (SX.S a))] := by
  rw [g_File (by rw [SX.S_len]; exact szL (by omega)), if_pos hr]
theorem mk_file {f : FE} {s : List Sl} {a : List Nat} (hl : a.length ≤ 1000) (hr : rowB (SX.S a) = true) (e : f s = .ok (.str (SX.S a))) : fMake 7 (nm.getD 7 []) g_File_init [] (fCons f fNil) s = .ok (fileD (SX.S a)) := by
  simp only [fVar,fC,fBin,fNil,fCons,fTup,fLst,fONone,fOSome,fSl,fVal,fTru,fNotT,fAndT,fOrT,fNot,fAnd,fOr,fIfE,fB,fM1,fCall,fMeth,fMake,fProp,fFld,fXf,fNeg,fRepl,fFr,frzS,frz1,flatD,fFrT,jVal,jR1,jR2,jR3,jEnumL,fYes,fLc,zNil,zSeq,zAsg,zOwn,zOwnL,zDrop,zApp,zRet,zRetN,zRetL,zRetOwn,zIf,zBreak,zCont,zRaise,zTg,zPar2,zPar3,zFld,zSetSl,zFor,zTry,sx,setTF,setM,fDef,fIni,fPur,startD,Dl.isNon,plainB,wipeD,fChain,hNil,hCons,jEnumS,fOpO,fIxO,jObj,zOwnE,zPar2E,zTg3E,zOwnN,zPar2N,zTg3N,zSetIx,fRev,fRevS,fLR1,fLR2,fCallK,fBor,fBorT,e_asI,e_asB,e_tru_non,e_tru_bl,e_tru_int,e_tru_str,e_tru_lst,e_tru_tup,e_tru_scr,e_sl_lst,e_sl_str,e_sl_tup,e_some,e_none,e_it_lst,e_it_tup,e_it_str,e_it_scr,e_r1,e_r2,e_en,e_thenS_nx,e_thenS_rt,e_thenS_rn,e_thenS_bk,e_thenS_cn,e_thenS_ex,e_afterS_nx,e_afterS_rt,e_afterS_rn,e_afterS_bk,e_afterS_cn,e_afterS_ex,e_su_nx,e_su_rt,e_su_bk,e_su_cn,e_ca_nx,e_ca_bk,e_ca_cn,e_ca_rt,e_ca_ex,e_end_nx,e_end_rt,e_end_rn,e_end_ex,e_endN_rn,e_endN_ex,e_endI_ex,e_endI_nx,e_len_str,e_len_lst,e_len_tup,e_len_scr,e_list_lst,e_list_tup,e_list_scr,e_list_str,e_tuple_lst,e_tuple_tup,e_int_int,e_int_bl,e_bool_int,e_bool_bl,e_sum,e_all,e_any,e_min,e_max,e_join_l,e_join_t,e_count,e_strip,e_split,e_add_i,e_add_s,e_add_l,e_add_t,e_sub,e_mul_i,e_mul_s,e_mul_l,e_mul_t,e_is_bl,e_not_bl,e_mod,e_div,e_pow,e_cmp,e_isN_non,e_notN_non,e_isN_bl,e_notN_bl,e_isN_int,e_notN_int,e_isN_str,e_notN_str,e_isN_lst,e_notN_lst,e_isN_tup,e_notN_tup,e_isN_obj,e_notN_obj,e_isN_scr,e_notN_scr,e_isN_tok,e_notN_tok,e_ix_l,e_ix_t,e_ix_s,e_ix_n,e_in1,e_kBl,e_enS,e_repl,e_neg,e_gcd,e_lcm,e_lenO_str,e_lenO_lst,e_lenO_tup,e_lenO_scr,e_op_int,e_op_str,e_op_lst,e_op_tup,e_ixO_str,e_ixO_scr,e_ixO_lst,e_ixO_tup,e_it_lst',e_it_tup',e_it_str',e_rev,e_revS,e_lr1,e_lr2,e_sorted,e_ownF_lst,e_ownF_non,e_par2F,e_triF,e_setIx,lis_cons,lis_nil,lisO_un,lisO_int,lisO_str,lisO_bl,lisO_non,bind_ok,bind_exc,bind_bad,bind_ask,cat,noex,need_true,reduceIte,Nat.reduceEqDiff,if_true,if_false,Bool.false_eq_true,List.getElem?_cons_zero,List.getElem?_cons_succ,List.map_cons,List.map_nil,List.replicate,List.cons_append,List.nil_append,List.append_nil,List.length_cons,List.length_nil,List.set_cons_zero,List.set_cons_succ, e, g_play_end hl hr, List.getD_eq_getElem?_getD, nmF]
theorem sp_num {i m : Int} (hm : 0 < m) (h : m ≤ 2 ^ 31) : 0 ≤ i % m ∧ i % m < 2 ^ 31 := by
  have h0 := Int.emod_nonneg i (Int.ne_of_gt hm)
  have h1 := Int.emod_lt_of_pos i hm
  omega
theorem spring_ok {ns : List Int} {at_ : Int} (h : 0 ≤ at_) (h2 : at_ ≤ 100) : (g__law_spring [.scr ns, .int at_]).wp (fun d => d = .tok 1) NoX := by
  refine w_spr rfl ?_
  unfold f__law_spring
  refine w_seq ?_
  simp only [fVar,fC,fBin,fNil,fCons,fTup,fLst,fONone,fOSome,fSl,fVal,fTru,fNotT,fAndT,fOrT,fNot,fAnd,fOr,fIfE,fB,fM1,fCall,fMeth,fMake,fProp,fFld,fXf,fNeg,fRepl,fFr,frzS,frz1,flatD,fFrT,jVal,jR1,jR2,jR3,jEnumL,fYes,fLc,zAsg,zOwn,zOwnL,zDrop,zApp,zRet,zRetN,zRetL,zRetOwn,zIf,zBreak,zCont,zRaise,zTg,zPar2,zPar3,zFld,zSetSl,zFor,zTry,setTF,setM,fDef,fIni,fPur,startD,Dl.isNon,plainB,wipeD,fChain,hNil,hCons,jEnumS,fOpO,fIxO,jObj,zOwnE,zPar2E,zTg3E,zOwnN,zPar2N,zTg3N,zSetIx,fRev,fRevS,fLR1,fLR2,fCallK,fBor,fBorT,e_asI,e_asB,e_tru_non,e_tru_bl,e_tru_int,e_tru_str,e_tru_lst,e_tru_tup,e_tru_scr,e_sl_lst,e_sl_str,e_sl_tup,e_some,e_none,e_it_lst,e_it_tup,e_it_str,e_it_scr,e_r1,e_r2,e_en,e_thenS_nx,e_thenS_rt,e_thenS_rn,e_thenS_bk,e_thenS_cn,e_thenS_ex,e_afterS_nx,e_afterS_rt,e_afterS_rn,e_afterS_bk,e_afterS_cn,e_afterS_ex,e_su_nx,e_su_rt,e_su_bk,e_su_cn,e_ca_nx,e_ca_bk,e_ca_cn,e_ca_rt,e_ca_ex,e_end_nx,e_end_rt,e_end_rn,e_end_ex,e_endN_rn,e_endN_ex,e_endI_ex,e_endI_nx,e_len_str,e_len_lst,e_len_tup,e_len_scr,e_list_lst,e_list_tup,e_list_scr,e_list_str,e_tuple_lst,e_tuple_tup,e_int_int,e_int_bl,e_bool_int,e_bool_bl,e_sum,e_all,e_any,e_min,e_max,e_join_l,e_join_t,e_count,e_strip,e_split,e_add_i,e_add_s,e_add_l,e_add_t,e_sub,e_mul_i,e_mul_s,e_mul_l,e_mul_t,e_is_bl,e_not_bl,e_mod,e_div,e_pow,e_cmp,e_isN_non,e_notN_non,e_isN_bl,e_notN_bl,e_isN_int,e_notN_int,e_isN_str,e_notN_str,e_isN_lst,e_notN_lst,e_isN_tup,e_notN_tup,e_isN_obj,e_notN_obj,e_isN_scr,e_notN_scr,e_isN_tok,e_notN_tok,e_ix_l,e_ix_t,e_ix_s,e_ix_n,e_in1,e_kBl,e_enS,e_repl,e_neg,e_gcd,e_lcm,e_lenO_str,e_lenO_lst,e_lenO_tup,e_lenO_scr,e_op_int,e_op_str,e_op_lst,e_op_tup,e_ixO_str,e_ixO_scr,e_ixO_lst,e_ixO_tup,e_it_lst',e_it_tup',e_it_str',e_rev,e_revS,e_lr1,e_lr2,e_sorted,e_ownF_lst,e_ownF_non,e_par2F,e_triF,e_setIx,lis_cons,lis_nil,lisO_un,lisO_int,lisO_str,lisO_bl,lisO_non,w_sx,w_nil,w_ok,w_exc,w_bad,wp_bind,wp_noex,wp_cat,wp_need,true_and,and_true,bind_ok,bind_exc,bind_bad,bind_ask,cat,noex,reduceIte,Nat.reduceEqDiff,if_true,if_false,Bool.false_eq_true,List.getElem?_cons_zero,List.getElem?_cons_succ,List.map_cons,List.map_nil,List.replicate,List.cons_append,List.nil_append,List.append_nil,List.length_cons,List.length_nil,List.set_cons_zero,List.set_cons_succ]
  refine ⟨cmul_ok 10 10 (by decide) (by omega) (by decide), ?_⟩
  refine w_seq ?_
  refine wp_ex (P := fun fl => ∃ c : Int, fl = .nx [.v (.scr ns), .v (.int at_), .v (.int c), .un, .un, .un, .un, .un]) ?_ ?_
  · by_cases hl : at_ < ns.length
    · obtain ⟨c, e, _⟩ := atI_in (l := ns) h hl
      refine ⟨_, e_ifT (e_val (e_bin rfl (e_b1 rfl e_lenO_scr) (lt_t hl))) (e_seq (e_zAsg (d := .int c) ?_) rfl), c, rfl⟩
      simp only [fVar,fC,fBin,fNil,fCons,fTup,fLst,fONone,fOSome,fSl,fVal,fTru,fNotT,fAndT,fOrT,fNot,fAnd,fOr,fIfE,fB,fM1,fCall,fMeth,fMake,fProp,fFld,fXf,fNeg,fRepl,fFr,frzS,frz1,flatD,fFrT,jVal,jR1,jR2,jR3,jEnumL,fYes,fLc,zNil,zSeq,zAsg,zOwn,zOwnL,zDrop,zApp,zRet,zRetN,zRetL,zRetOwn,zIf,zBreak,zCont,zRaise,zTg,zPar2,zPar3,zFld,zSetSl,zFor,zTry,sx,setTF,setM,fDef,fIni,fPur,startD,Dl.isNon,plainB,wipeD,fChain,hNil,hCons,jEnumS,fOpO,fIxO,jObj,zOwnE,zPar2E,zTg3E,zOwnN,zPar2N,zTg3N,zSetIx,fRev,fRevS,fLR1,fLR2,fCallK,fBor,fBorT,e_asI,e_asB,e_tru_non,e_tru_bl,e_tru_int,e_tru_str,e_tru_lst,e_tru_tup,e_tru_scr,e_sl_lst,e_sl_str,e_sl_tup,e_some,e_none,e_it_lst,e_it_tup,e_it_str,e_it_scr,e_r1,e_r2,e_en,e_thenS_nx,e_thenS_rt,e_thenS_rn,e_thenS_bk,e_thenS_cn,e_thenS_ex,e_afterS_nx,e_afterS_rt,e_afterS_rn,e_afterS_bk,e_afterS_cn,e_afterS_ex,e_su_nx,e_su_rt,e_su_bk,e_su_cn,e_ca_nx,e_ca_bk,e_ca_cn,e_ca_rt,e_ca_ex,e_end_nx,e_end_rt,e_end_rn,e_end_ex,e_endN_rn,e_endN_ex,e_endI_ex,e_endI_nx,e_len_str,e_len_lst,e_len_tup,e_len_scr,e_list_lst,e_list_tup,e_list_scr,e_list_str,e_tuple_lst,e_tuple_tup,e_int_int,e_int_bl,e_bool_int,e_bool_bl,e_sum,e_all,e_any,e_min,e_max,e_join_l,e_join_t,e_count,e_strip,e_split,e_add_i,e_add_s,e_add_l,e_add_t,e_sub,e_mul_i,e_mul_s,e_mul_l,e_mul_t,e_is_bl,e_not_bl,e_mod,e_div,e_pow,e_cmp,e_isN_non,e_notN_non,e_isN_bl,e_notN_bl,e_isN_int,e_notN_int,e_isN_str,e_notN_str,e_isN_lst,e_notN_lst,e_isN_tup,e_notN_tup,e_isN_obj,e_notN_obj,e_isN_scr,e_notN_scr,e_isN_tok,e_notN_tok,e_ix_l,e_ix_t,e_ix_s,e_ix_n,e_in1,e_kBl,e_enS,e_repl,e_neg,e_gcd,e_lcm,e_lenO_str,e_lenO_lst,e_lenO_tup,e_lenO_scr,e_op_int,e_op_str,e_op_lst,e_op_tup,e_ixO_str,e_ixO_scr,e_ixO_lst,e_ixO_tup,e_it_lst',e_it_tup',e_it_str',e_rev,e_revS,e_lr1,e_lr2,e_sorted,e_ownF_lst,e_ownF_non,e_par2F,e_triF,e_setIx,lis_cons,lis_nil,lisO_un,lisO_int,lisO_str,lisO_bl,lisO_non,bind_ok,bind_exc,bind_bad,bind_ask,cat,noex,need_true,reduceIte,Nat.reduceEqDiff,if_true,if_false,Bool.false_eq_true,List.getElem?_cons_zero,List.getElem?_cons_succ,List.map_cons,List.map_nil,List.replicate,List.cons_append,List.nil_append,List.append_nil,List.length_cons,List.length_nil,List.set_cons_zero,List.set_cons_succ, e, Option.map_some, optR]
    · exact ⟨_, e_ifF (e_val (e_bin rfl (e_b1 rfl e_lenO_scr) (lt_f hl))) rfl, _, rfl⟩
  rintro _ ⟨c, rfl⟩
  have t18 : CPowX 10 18 := cpow_ok (k := 4) (by decide) (by decide) (by decide)
  have t60 : CPowX 10 60 := cpow_ok (k := 4) (by decide) (by decide) (by decide)
  simp only [e_thenS_nx]
  refine w_seq ?_
  by_cases hc : (10 : Int) ^ (18 : Int).toNat ≤ c
  · have b60 : ((10 : Int) ^ (60 : Int).toNat).natAbs < 2 ^ 200 := by decide +kernel
    have m2 : CMulX ((10 : Int) ^ (60 : Int).toNat) ((10 : Int) ^ (60 : Int).toNat) := cmul_ok 200 200 b60 b60 (by decide)
    have b120 : ((10 : Int) ^ (60 : Int).toNat * (10 : Int) ^ (60 : Int).toNat).natAbs < 2 ^ 400 := by decide +kernel
    have m3 := cmul_ok 400 200 b120 b60 (by decide)
    have b180 : ((10 : Int) ^ (60 : Int).toNat * (10 : Int) ^ (60 : Int).toNat * (10 : Int) ^ (60 : Int).toNat).natAbs < 2 ^ 600 := by decide +kernel
    have m4 := cmul_ok 600 200 b180 b60 (by decide)
    have b240 : ((10 : Int) ^ (60 : Int).toNat * (10 : Int) ^ (60 : Int).toNat * (10 : Int) ^ (60 : Int).toNat * (10 : Int) ^ (60 : Int).toNat).natAbs < 2 ^ 800 := by decide +kernel
    have m5 := cmul_ok 800 800 b240 b240 (by decide)
    have p5 : (0 : Int) < (10 : Int) ^ (60 : Int).toNat * (10 : Int) ^ (60 : Int).toNat * (10 : Int) ^ (60 : Int).toNat * (10 : Int) ^ (60 : Int).toNat * ((10 : Int) ^ (60 : Int).toNat * (10 : Int) ^ (60 : Int).toNat * (10 : Int) ^ (60 : Int).toNat * (10 : Int) ^ (60 : Int).toNat) := by decide +kernel
    have d1 : decide ((10 : Int) ^ (18 : Int).toNat ≤ c) = true := decide_eq_true hc
    simp only [fVar,fC,fBin,fNil,fCons,fTup,fLst,fONone,fOSome,fSl,fVal,fTru,fNotT,fAndT,fOrT,fNot,fAnd,fOr,fIfE,fB,fM1,fCall,fMeth,fMake,fProp,fFld,fXf,fNeg,fRepl,fFr,frzS,frz1,flatD,fFrT,jVal,jR1,jR2,jR3,jEnumL,fYes,fLc,zAsg,zOwn,zOwnL,zDrop,zApp,zRet,zRetN,zRetL,zRetOwn,zIf,zBreak,zCont,zRaise,zTg,zPar2,zPar3,zFld,zSetSl,zFor,zTry,setTF,setM,fDef,fIni,fPur,startD,Dl.isNon,plainB,wipeD,fChain,hNil,hCons,jEnumS,fOpO,fIxO,jObj,zOwnE,zPar2E,zTg3E,zOwnN,zPar2N,zTg3N,zSetIx,fRev,fRevS,fLR1,fLR2,fCallK,fBor,fBorT,e_asI,e_asB,e_tru_non,e_tru_bl,e_tru_int,e_tru_str,e_tru_lst,e_tru_tup,e_tru_scr,e_sl_lst,e_sl_str,e_sl_tup,e_some,e_none,e_it_lst,e_it_tup,e_it_str,e_it_scr,e_r1,e_r2,e_en,e_thenS_nx,e_thenS_rt,e_thenS_rn,e_thenS_bk,e_thenS_cn,e_thenS_ex,e_afterS_nx,e_afterS_rt,e_afterS_rn,e_afterS_bk,e_afterS_cn,e_afterS_ex,e_su_nx,e_su_rt,e_su_bk,e_su_cn,e_ca_nx,e_ca_bk,e_ca_cn,e_ca_rt,e_ca_ex,e_end_nx,e_end_rt,e_end_rn,e_end_ex,e_endN_rn,e_endN_ex,e_endI_ex,e_endI_nx,e_len_str,e_len_lst,e_len_tup,e_len_scr,e_list_lst,e_list_tup,e_list_scr,e_list_str,e_tuple_lst,e_tuple_tup,e_int_int,e_int_bl,e_bool_int,e_bool_bl,e_sum,e_all,e_any,e_min,e_max,e_join_l,e_join_t,e_count,e_strip,e_split,e_add_i,e_add_s,e_add_l,e_add_t,e_sub,e_mul_i,e_mul_s,e_mul_l,e_mul_t,e_is_bl,e_not_bl,e_mod,e_div,e_pow,e_cmp,e_isN_non,e_notN_non,e_isN_bl,e_notN_bl,e_isN_int,e_notN_int,e_isN_str,e_notN_str,e_isN_lst,e_notN_lst,e_isN_tup,e_notN_tup,e_isN_obj,e_notN_obj,e_isN_scr,e_notN_scr,e_isN_tok,e_notN_tok,e_ix_l,e_ix_t,e_ix_s,e_ix_n,e_in1,e_kBl,e_enS,e_repl,e_neg,e_gcd,e_lcm,e_lenO_str,e_lenO_lst,e_lenO_tup,e_lenO_scr,e_op_int,e_op_str,e_op_lst,e_op_tup,e_ixO_str,e_ixO_scr,e_ixO_lst,e_ixO_tup,e_it_lst',e_it_tup',e_it_str',e_rev,e_revS,e_lr1,e_lr2,e_sorted,e_ownF_lst,e_ownF_non,e_par2F,e_triF,e_setIx,lis_cons,lis_nil,lisO_un,lisO_int,lisO_str,lisO_bl,lisO_non,w_sx,w_nil,w_ok,w_exc,w_bad,wp_bind,wp_noex,wp_cat,wp_need,true_and,and_true,bind_ok,bind_exc,bind_bad,bind_ask,cat,noex,reduceIte,Nat.reduceEqDiff,if_true,if_false,Bool.false_eq_true,List.getElem?_cons_zero,List.getElem?_cons_succ,List.map_cons,List.map_nil,List.replicate,List.cons_append,List.nil_append,List.append_nil,List.length_cons,List.length_nil,List.set_cons_zero,List.set_cons_succ, d1]
    refine ⟨t18, ?_⟩
    refine w_seq ?_
    simp only [fVar,fC,fBin,fNil,fCons,fTup,fLst,fONone,fOSome,fSl,fVal,fTru,fNotT,fAndT,fOrT,fNot,fAnd,fOr,fIfE,fB,fM1,fCall,fMeth,fMake,fProp,fFld,fXf,fNeg,fRepl,fFr,frzS,frz1,flatD,fFrT,jVal,jR1,jR2,jR3,jEnumL,fYes,fLc,zAsg,zOwn,zOwnL,zDrop,zApp,zRet,zRetN,zRetL,zRetOwn,zIf,zBreak,zCont,zRaise,zTg,zPar2,zPar3,zFld,zSetSl,zFor,zTry,setTF,setM,fDef,fIni,fPur,startD,Dl.isNon,plainB,wipeD,fChain,hNil,hCons,jEnumS,fOpO,fIxO,jObj,zOwnE,zPar2E,zTg3E,zOwnN,zPar2N,zTg3N,zSetIx,fRev,fRevS,fLR1,fLR2,fCallK,fBor,fBorT,e_asI,e_asB,e_tru_non,e_tru_bl,e_tru_int,e_tru_str,e_tru_lst,e_tru_tup,e_tru_scr,e_sl_lst,e_sl_str,e_sl_tup,e_some,e_none,e_it_lst,e_it_tup,e_it_str,e_it_scr,e_r1,e_r2,e_en,e_thenS_nx,e_thenS_rt,e_thenS_rn,e_thenS_bk,e_thenS_cn,e_thenS_ex,e_afterS_nx,e_afterS_rt,e_afterS_rn,e_afterS_bk,e_afterS_cn,e_afterS_ex,e_su_nx,e_su_rt,e_su_bk,e_su_cn,e_ca_nx,e_ca_bk,e_ca_cn,e_ca_rt,e_ca_ex,e_end_nx,e_end_rt,e_end_rn,e_end_ex,e_endN_rn,e_endN_ex,e_endI_ex,e_endI_nx,e_len_str,e_len_lst,e_len_tup,e_len_scr,e_list_lst,e_list_tup,e_list_scr,e_list_str,e_tuple_lst,e_tuple_tup,e_int_int,e_int_bl,e_bool_int,e_bool_bl,e_sum,e_all,e_any,e_min,e_max,e_join_l,e_join_t,e_count,e_strip,e_split,e_add_i,e_add_s,e_add_l,e_add_t,e_sub,e_mul_i,e_mul_s,e_mul_l,e_mul_t,e_is_bl,e_not_bl,e_mod,e_div,e_pow,e_cmp,e_isN_non,e_notN_non,e_isN_bl,e_notN_bl,e_isN_int,e_notN_int,e_isN_str,e_notN_str,e_isN_lst,e_notN_lst,e_isN_tup,e_notN_tup,e_isN_obj,e_notN_obj,e_isN_scr,e_notN_scr,e_isN_tok,e_notN_tok,e_ix_l,e_ix_t,e_ix_s,e_ix_n,e_in1,e_kBl,e_enS,e_repl,e_neg,e_gcd,e_lcm,e_lenO_str,e_lenO_lst,e_lenO_tup,e_lenO_scr,e_op_int,e_op_str,e_op_lst,e_op_tup,e_ixO_str,e_ixO_scr,e_ixO_lst,e_ixO_tup,e_it_lst',e_it_tup',e_it_str',e_rev,e_revS,e_lr1,e_lr2,e_sorted,e_ownF_lst,e_ownF_non,e_par2F,e_triF,e_setIx,lis_cons,lis_nil,lisO_un,lisO_int,lisO_str,lisO_bl,lisO_non,w_sx,w_nil,w_ok,w_exc,w_bad,wp_bind,wp_noex,wp_cat,wp_need,true_and,and_true,bind_ok,bind_exc,bind_bad,bind_ask,cat,noex,reduceIte,Nat.reduceEqDiff,if_true,if_false,Bool.false_eq_true,List.getElem?_cons_zero,List.getElem?_cons_succ,List.map_cons,List.map_nil,List.replicate,List.cons_append,List.nil_append,List.append_nil,List.length_cons,List.length_nil,List.set_cons_zero,List.set_cons_succ]
    refine ⟨t60, t60, m2, t60, m3, t60, m4, ?_⟩
    refine w_seq ?_
    simp only [fVar,fC,fBin,fNil,fCons,fTup,fLst,fONone,fOSome,fSl,fVal,fTru,fNotT,fAndT,fOrT,fNot,fAnd,fOr,fIfE,fB,fM1,fCall,fMeth,fMake,fProp,fFld,fXf,fNeg,fRepl,fFr,frzS,frz1,flatD,fFrT,jVal,jR1,jR2,jR3,jEnumL,fYes,fLc,zAsg,zOwn,zOwnL,zDrop,zApp,zRet,zRetN,zRetL,zRetOwn,zIf,zBreak,zCont,zRaise,zTg,zPar2,zPar3,zFld,zSetSl,zFor,zTry,setTF,setM,fDef,fIni,fPur,startD,Dl.isNon,plainB,wipeD,fChain,hNil,hCons,jEnumS,fOpO,fIxO,jObj,zOwnE,zPar2E,zTg3E,zOwnN,zPar2N,zTg3N,zSetIx,fRev,fRevS,fLR1,fLR2,fCallK,fBor,fBorT,e_asI,e_asB,e_tru_non,e_tru_bl,e_tru_int,e_tru_str,e_tru_lst,e_tru_tup,e_tru_scr,e_sl_lst,e_sl_str,e_sl_tup,e_some,e_none,e_it_lst,e_it_tup,e_it_str,e_it_scr,e_r1,e_r2,e_en,e_thenS_nx,e_thenS_rt,e_thenS_rn,e_thenS_bk,e_thenS_cn,e_thenS_ex,e_afterS_nx,e_afterS_rt,e_afterS_rn,e_afterS_bk,e_afterS_cn,e_afterS_ex,e_su_nx,e_su_rt,e_su_bk,e_su_cn,e_ca_nx,e_ca_bk,e_ca_cn,e_ca_rt,e_ca_ex,e_end_nx,e_end_rt,e_end_rn,e_end_ex,e_endN_rn,e_endN_ex,e_endI_ex,e_endI_nx,e_len_str,e_len_lst,e_len_tup,e_len_scr,e_list_lst,e_list_tup,e_list_scr,e_list_str,e_tuple_lst,e_tuple_tup,e_int_int,e_int_bl,e_bool_int,e_bool_bl,e_sum,e_all,e_any,e_min,e_max,e_join_l,e_join_t,e_count,e_strip,e_split,e_add_i,e_add_s,e_add_l,e_add_t,e_sub,e_mul_i,e_mul_s,e_mul_l,e_mul_t,e_is_bl,e_not_bl,e_mod,e_div,e_pow,e_cmp,e_isN_non,e_notN_non,e_isN_bl,e_notN_bl,e_isN_int,e_notN_int,e_isN_str,e_notN_str,e_isN_lst,e_notN_lst,e_isN_tup,e_notN_tup,e_isN_obj,e_notN_obj,e_isN_scr,e_notN_scr,e_isN_tok,e_notN_tok,e_ix_l,e_ix_t,e_ix_s,e_ix_n,e_in1,e_kBl,e_enS,e_repl,e_neg,e_gcd,e_lcm,e_lenO_str,e_lenO_lst,e_lenO_tup,e_lenO_scr,e_op_int,e_op_str,e_op_lst,e_op_tup,e_ixO_str,e_ixO_scr,e_ixO_lst,e_ixO_tup,e_it_lst',e_it_tup',e_it_str',e_rev,e_revS,e_lr1,e_lr2,e_sorted,e_ownF_lst,e_ownF_non,e_par2F,e_triF,e_setIx,lis_cons,lis_nil,lisO_un,lisO_int,lisO_str,lisO_bl,lisO_non,w_sx,w_nil,w_ok,w_exc,w_bad,wp_bind,wp_noex,wp_cat,wp_need,true_and,and_true,bind_ok,bind_exc,bind_bad,bind_ask,cat,noex,reduceIte,Nat.reduceEqDiff,if_true,if_false,Bool.false_eq_true,List.getElem?_cons_zero,List.getElem?_cons_succ,List.map_cons,List.map_nil,List.replicate,List.cons_append,List.nil_append,List.append_nil,List.length_cons,List.length_nil,List.set_cons_zero,List.set_cons_succ]
    exact ⟨t18, m5, p5, szL (by decide)⟩
  · have d1 : decide ((10 : Int) ^ (18 : Int).toNat ≤ c) = false := decide_eq_false hc
    simp only [fVar,fC,fBin,fNil,fCons,fTup,fLst,fONone,fOSome,fSl,fVal,fTru,fNotT,fAndT,fOrT,fNot,fAnd,fOr,fIfE,fB,fM1,fCall,fMeth,fMake,fProp,fFld,fXf,fNeg,fRepl,fFr,frzS,frz1,flatD,fFrT,jVal,jR1,jR2,jR3,jEnumL,fYes,fLc,zAsg,zOwn,zOwnL,zDrop,zApp,zRet,zRetN,zRetL,zRetOwn,zIf,zBreak,zCont,zRaise,zTg,zPar2,zPar3,zFld,zSetSl,zFor,zTry,setTF,setM,fDef,fIni,fPur,startD,Dl.isNon,plainB,wipeD,fChain,hNil,hCons,jEnumS,fOpO,fIxO,jObj,zOwnE,zPar2E,zTg3E,zOwnN,zPar2N,zTg3N,zSetIx,fRev,fRevS,fLR1,fLR2,fCallK,fBor,fBorT,e_asI,e_asB,e_tru_non,e_tru_bl,e_tru_int,e_tru_str,e_tru_lst,e_tru_tup,e_tru_scr,e_sl_lst,e_sl_str,e_sl_tup,e_some,e_none,e_it_lst,e_it_tup,e_it_str,e_it_scr,e_r1,e_r2,e_en,e_thenS_nx,e_thenS_rt,e_thenS_rn,e_thenS_bk,e_thenS_cn,e_thenS_ex,e_afterS_nx,e_afterS_rt,e_afterS_rn,e_afterS_bk,e_afterS_cn,e_afterS_ex,e_su_nx,e_su_rt,e_su_bk,e_su_cn,e_ca_nx,e_ca_bk,e_ca_cn,e_ca_rt,e_ca_ex,e_end_nx,e_end_rt,e_end_rn,e_end_ex,e_endN_rn,e_endN_ex,e_endI_ex,e_endI_nx,e_len_str,e_len_lst,e_len_tup,e_len_scr,e_list_lst,e_list_tup,e_list_scr,e_list_str,e_tuple_lst,e_tuple_tup,e_int_int,e_int_bl,e_bool_int,e_bool_bl,e_sum,e_all,e_any,e_min,e_max,e_join_l,e_join_t,e_count,e_strip,e_split,e_add_i,e_add_s,e_add_l,e_add_t,e_sub,e_mul_i,e_mul_s,e_mul_l,e_mul_t,e_is_bl,e_not_bl,e_mod,e_div,e_pow,e_cmp,e_isN_non,e_notN_non,e_isN_bl,e_notN_bl,e_isN_int,e_notN_int,e_isN_str,e_notN_str,e_isN_lst,e_notN_lst,e_isN_tup,e_notN_tup,e_isN_obj,e_notN_obj,e_isN_scr,e_notN_scr,e_isN_tok,e_notN_tok,e_ix_l,e_ix_t,e_ix_s,e_ix_n,e_in1,e_kBl,e_enS,e_repl,e_neg,e_gcd,e_lcm,e_lenO_str,e_lenO_lst,e_lenO_tup,e_lenO_scr,e_op_int,e_op_str,e_op_lst,e_op_tup,e_ixO_str,e_ixO_scr,e_ixO_lst,e_ixO_tup,e_it_lst',e_it_tup',e_it_str',e_rev,e_revS,e_lr1,e_lr2,e_sorted,e_ownF_lst,e_ownF_non,e_par2F,e_triF,e_setIx,lis_cons,lis_nil,lisO_un,lisO_int,lisO_str,lisO_bl,lisO_non,w_sx,w_nil,w_ok,w_exc,w_bad,wp_bind,wp_noex,wp_cat,wp_need,true_and,and_true,bind_ok,bind_exc,bind_bad,bind_ask,cat,noex,reduceIte,Nat.reduceEqDiff,if_true,if_false,Bool.false_eq_true,List.getElem?_cons_zero,List.getElem?_cons_succ,List.map_cons,List.map_nil,List.replicate,List.cons_append,List.nil_append,List.append_nil,List.length_cons,List.length_nil,List.set_cons_zero,List.set_cons_succ, d1]
    refine ⟨t18, ?_⟩
    refine w_seq ?_
    simp only [fVar,fC,fBin,fNil,fCons,fTup,fLst,fONone,fOSome,fSl,fVal,fTru,fNotT,fAndT,fOrT,fNot,fAnd,fOr,fIfE,fB,fM1,fCall,fMeth,fMake,fProp,fFld,fXf,fNeg,fRepl,fFr,frzS,frz1,flatD,fFrT,jVal,jR1,jR2,jR3,jEnumL,fYes,fLc,zAsg,zOwn,zOwnL,zDrop,zApp,zRet,zRetN,zRetL,zRetOwn,zIf,zBreak,zCont,zRaise,zTg,zPar2,zPar3,zFld,zSetSl,zFor,zTry,setTF,setM,fDef,fIni,fPur,startD,Dl.isNon,plainB,wipeD,fChain,hNil,hCons,jEnumS,fOpO,fIxO,jObj,zOwnE,zPar2E,zTg3E,zOwnN,zPar2N,zTg3N,zSetIx,fRev,fRevS,fLR1,fLR2,fCallK,fBor,fBorT,e_asI,e_asB,e_tru_non,e_tru_bl,e_tru_int,e_tru_str,e_tru_lst,e_tru_tup,e_tru_scr,e_sl_lst,e_sl_str,e_sl_tup,e_some,e_none,e_it_lst,e_it_tup,e_it_str,e_it_scr,e_r1,e_r2,e_en,e_thenS_nx,e_thenS_rt,e_thenS_rn,e_thenS_bk,e_thenS_cn,e_thenS_ex,e_afterS_nx,e_afterS_rt,e_afterS_rn,e_afterS_bk,e_afterS_cn,e_afterS_ex,e_su_nx,e_su_rt,e_su_bk,e_su_cn,e_ca_nx,e_ca_bk,e_ca_cn,e_ca_rt,e_ca_ex,e_end_nx,e_end_rt,e_end_rn,e_end_ex,e_endN_rn,e_endN_ex,e_endI_ex,e_endI_nx,e_len_str,e_len_lst,e_len_tup,e_len_scr,e_list_lst,e_list_tup,e_list_scr,e_list_str,e_tuple_lst,e_tuple_tup,e_int_int,e_int_bl,e_bool_int,e_bool_bl,e_sum,e_all,e_any,e_min,e_max,e_join_l,e_join_t,e_count,e_strip,e_split,e_add_i,e_add_s,e_add_l,e_add_t,e_sub,e_mul_i,e_mul_s,e_mul_l,e_mul_t,e_is_bl,e_not_bl,e_mod,e_div,e_pow,e_cmp,e_isN_non,e_notN_non,e_isN_bl,e_notN_bl,e_isN_int,e_notN_int,e_isN_str,e_notN_str,e_isN_lst,e_notN_lst,e_isN_tup,e_notN_tup,e_isN_obj,e_notN_obj,e_isN_scr,e_notN_scr,e_isN_tok,e_notN_tok,e_ix_l,e_ix_t,e_ix_s,e_ix_n,e_in1,e_kBl,e_enS,e_repl,e_neg,e_gcd,e_lcm,e_lenO_str,e_lenO_lst,e_lenO_tup,e_lenO_scr,e_op_int,e_op_str,e_op_lst,e_op_tup,e_ixO_str,e_ixO_scr,e_ixO_lst,e_ixO_tup,e_it_lst',e_it_tup',e_it_str',e_rev,e_revS,e_lr1,e_lr2,e_sorted,e_ownF_lst,e_ownF_non,e_par2F,e_triF,e_setIx,lis_cons,lis_nil,lisO_un,lisO_int,lisO_str,lisO_bl,lisO_non,w_sx,w_nil,w_ok,w_exc,w_bad,wp_bind,wp_noex,wp_cat,wp_need,true_and,and_true,bind_ok,bind_exc,bind_bad,bind_ask,cat,noex,reduceIte,Nat.reduceEqDiff,if_true,if_false,Bool.false_eq_true,List.getElem?_cons_zero,List.getElem?_cons_succ,List.map_cons,List.map_nil,List.replicate,List.cons_append,List.nil_append,List.append_nil,List.length_cons,List.length_nil,List.set_cons_zero,List.set_cons_succ]
    refine ⟨cmul_ok 10 10 (by decide) (by omega) (by decide), by decide, by decide, ?_⟩
    refine w_seq ?_
    simp only [fVar,fC,fBin,fNil,fCons,fTup,fLst,fONone,fOSome,fSl,fVal,fTru,fNotT,fAndT,fOrT,fNot,fAnd,fOr,fIfE,fB,fM1,fCall,fMeth,fMake,fProp,fFld,fXf,fNeg,fRepl,fFr,frzS,frz1,flatD,fFrT,jVal,jR1,jR2,jR3,jEnumL,fYes,fLc,zAsg,zOwn,zOwnL,zDrop,zApp,zRet,zRetN,zRetL,zRetOwn,zIf,zBreak,zCont,zRaise,zTg,zPar2,zPar3,zFld,zSetSl,zFor,zTry,setTF,setM,fDef,fIni,fPur,startD,Dl.isNon,plainB,wipeD,fChain,hNil,hCons,jEnumS,fOpO,fIxO,jObj,zOwnE,zPar2E,zTg3E,zOwnN,zPar2N,zTg3N,zSetIx,fRev,fRevS,fLR1,fLR2,fCallK,fBor,fBorT,e_asI,e_asB,e_tru_non,e_tru_bl,e_tru_int,e_tru_str,e_tru_lst,e_tru_tup,e_tru_scr,e_sl_lst,e_sl_str,e_sl_tup,e_some,e_none,e_it_lst,e_it_tup,e_it_str,e_it_scr,e_r1,e_r2,e_en,e_thenS_nx,e_thenS_rt,e_thenS_rn,e_thenS_bk,e_thenS_cn,e_thenS_ex,e_afterS_nx,e_afterS_rt,e_afterS_rn,e_afterS_bk,e_afterS_cn,e_afterS_ex,e_su_nx,e_su_rt,e_su_bk,e_su_cn,e_ca_nx,e_ca_bk,e_ca_cn,e_ca_rt,e_ca_ex,e_end_nx,e_end_rt,e_end_rn,e_end_ex,e_endN_rn,e_endN_ex,e_endI_ex,e_endI_nx,e_len_str,e_len_lst,e_len_tup,e_len_scr,e_list_lst,e_list_tup,e_list_scr,e_list_str,e_tuple_lst,e_tuple_tup,e_int_int,e_int_bl,e_bool_int,e_bool_bl,e_sum,e_all,e_any,e_min,e_max,e_join_l,e_join_t,e_count,e_strip,e_split,e_add_i,e_add_s,e_add_l,e_add_t,e_sub,e_mul_i,e_mul_s,e_mul_l,e_mul_t,e_is_bl,e_not_bl,e_mod,e_div,e_pow,e_cmp,e_isN_non,e_notN_non,e_isN_bl,e_notN_bl,e_isN_int,e_notN_int,e_isN_str,e_notN_str,e_isN_lst,e_notN_lst,e_isN_tup,e_notN_tup,e_isN_obj,e_notN_obj,e_isN_scr,e_notN_scr,e_isN_tok,e_notN_tok,e_ix_l,e_ix_t,e_ix_s,e_ix_n,e_in1,e_kBl,e_enS,e_repl,e_neg,e_gcd,e_lcm,e_lenO_str,e_lenO_lst,e_lenO_tup,e_lenO_scr,e_op_int,e_op_str,e_op_lst,e_op_tup,e_ixO_str,e_ixO_scr,e_ixO_lst,e_ixO_tup,e_it_lst',e_it_tup',e_it_str',e_rev,e_revS,e_lr1,e_lr2,e_sorted,e_ownF_lst,e_ownF_non,e_par2F,e_triF,e_setIx,lis_cons,lis_nil,lisO_un,lisO_int,lisO_str,lisO_bl,lisO_non,w_sx,w_nil,w_ok,w_exc,w_bad,wp_bind,wp_noex,wp_cat,wp_need,true_and,and_true,bind_ok,bind_exc,bind_bad,bind_ask,cat,noex,reduceIte,Nat.reduceEqDiff,if_true,if_false,Bool.false_eq_true,List.getElem?_cons_zero,List.getElem?_cons_succ,List.map_cons,List.map_nil,List.replicate,List.cons_append,List.nil_append,List.append_nil,List.length_cons,List.length_nil,List.set_cons_zero,List.set_cons_succ]
    refine w_seq ?_
    simp only [fVar,fC,fBin,fNil,fCons,fTup,fLst,fONone,fOSome,fSl,fVal,fTru,fNotT,fAndT,fOrT,fNot,fAnd,fOr,fIfE,fB,fM1,fCall,fMeth,fMake,fProp,fFld,fXf,fNeg,fRepl,fFr,frzS,frz1,flatD,fFrT,jVal,jR1,jR2,jR3,jEnumL,fYes,fLc,zAsg,zOwn,zOwnL,zDrop,zApp,zRet,zRetN,zRetL,zRetOwn,zIf,zBreak,zCont,zRaise,zTg,zPar2,zPar3,zFld,zSetSl,zFor,zTry,setTF,setM,fDef,fIni,fPur,startD,Dl.isNon,plainB,wipeD,fChain,hNil,hCons,jEnumS,fOpO,fIxO,jObj,zOwnE,zPar2E,zTg3E,zOwnN,zPar2N,zTg3N,zSetIx,fRev,fRevS,fLR1,fLR2,fCallK,fBor,fBorT,e_asI,e_asB,e_tru_non,e_tru_bl,e_tru_int,e_tru_str,e_tru_lst,e_tru_tup,e_tru_scr,e_sl_lst,e_sl_str,e_sl_tup,e_some,e_none,e_it_lst,e_it_tup,e_it_str,e_it_scr,e_r1,e_r2,e_en,e_thenS_nx,e_thenS_rt,e_thenS_rn,e_thenS_bk,e_thenS_cn,e_thenS_ex,e_afterS_nx,e_afterS_rt,e_afterS_rn,e_afterS_bk,e_afterS_cn,e_afterS_ex,e_su_nx,e_su_rt,e_su_bk,e_su_cn,e_ca_nx,e_ca_bk,e_ca_cn,e_ca_rt,e_ca_ex,e_end_nx,e_end_rt,e_end_rn,e_end_ex,e_endN_rn,e_endN_ex,e_endI_ex,e_endI_nx,e_len_str,e_len_lst,e_len_tup,e_len_scr,e_list_lst,e_list_tup,e_list_scr,e_list_str,e_tuple_lst,e_tuple_tup,e_int_int,e_int_bl,e_bool_int,e_bool_bl,e_sum,e_all,e_any,e_min,e_max,e_join_l,e_join_t,e_count,e_strip,e_split,e_add_i,e_add_s,e_add_l,e_add_t,e_sub,e_mul_i,e_mul_s,e_mul_l,e_mul_t,e_is_bl,e_not_bl,e_mod,e_div,e_pow,e_cmp,e_isN_non,e_notN_non,e_isN_bl,e_notN_bl,e_isN_int,e_notN_int,e_isN_str,e_notN_str,e_isN_lst,e_notN_lst,e_isN_tup,e_notN_tup,e_isN_obj,e_notN_obj,e_isN_scr,e_notN_scr,e_isN_tok,e_notN_tok,e_ix_l,e_ix_t,e_ix_s,e_ix_n,e_in1,e_kBl,e_enS,e_repl,e_neg,e_gcd,e_lcm,e_lenO_str,e_lenO_lst,e_lenO_tup,e_lenO_scr,e_op_int,e_op_str,e_op_lst,e_op_tup,e_ixO_str,e_ixO_scr,e_ixO_lst,e_ixO_tup,e_it_lst',e_it_tup',e_it_str',e_rev,e_revS,e_lr1,e_lr2,e_sorted,e_ownF_lst,e_ownF_non,e_par2F,e_triF,e_setIx,lis_cons,lis_nil,lisO_un,lisO_int,lisO_str,lisO_bl,lisO_non,w_sx,w_nil,w_ok,w_exc,w_bad,wp_bind,wp_noex,wp_cat,wp_need,true_and,and_true,bind_ok,bind_exc,bind_bad,bind_ask,cat,noex,reduceIte,Nat.reduceEqDiff,if_true,if_false,Bool.false_eq_true,List.getElem?_cons_zero,List.getElem?_cons_succ,List.map_cons,List.map_nil,List.replicate,List.cons_append,List.nil_append,List.append_nil,List.length_cons,List.length_nil,List.set_cons_zero,List.set_cons_succ]
    refine ⟨by decide, ?_⟩
    refine wp_for (fun ds s => ∃ (hi lo he : Int) (x : Sl), s = [.v (.scr ns), .v (.int at_), .v (.int c), .un, .v (.int hi), .v (.int lo), .v (.int he), x] ∧ (0 ≤ hi ∧ hi < 2 ^ 31) ∧ (0 ≤ lo ∧ lo < 2 ^ 31) ∧ he.natAbs < 2 ^ (40 * (46 - ds.length) + 1) ∧ ds.length ≤ 46 ∧ ∀ d ∈ ds, ∃ i : Int, d = .int i ∧ 0 ≤ i ∧ i < 46) ⟨_, _, _, _, rfl, sp_num (by decide) (by decide), sp_num (by decide) (by decide), by rw [ints_len]; decide, by rw [ints_len]; decide, fun d hd => ?_⟩ ?_ ?_
    · obtain ⟨i, rfl, i0, i1⟩ := mem_ints hd
      exact ⟨i, rfl, i0, by omega⟩
    · rintro _ ⟨hi, lo, he, x, rfl, _⟩
      refine w_seq ?_
      simp only [fVar,fC,fBin,fNil,fCons,fTup,fLst,fONone,fOSome,fSl,fVal,fTru,fNotT,fAndT,fOrT,fNot,fAnd,fOr,fIfE,fB,fM1,fCall,fMeth,fMake,fProp,fFld,fXf,fNeg,fRepl,fFr,frzS,frz1,flatD,fFrT,jVal,jR1,jR2,jR3,jEnumL,fYes,fLc,zAsg,zOwn,zOwnL,zDrop,zApp,zRet,zRetN,zRetL,zRetOwn,zIf,zBreak,zCont,zRaise,zTg,zPar2,zPar3,zFld,zSetSl,zFor,zTry,setTF,setM,fDef,fIni,fPur,startD,Dl.isNon,plainB,wipeD,fChain,hNil,hCons,jEnumS,fOpO,fIxO,jObj,zOwnE,zPar2E,zTg3E,zOwnN,zPar2N,zTg3N,zSetIx,fRev,fRevS,fLR1,fLR2,fCallK,fBor,fBorT,e_asI,e_asB,e_tru_non,e_tru_bl,e_tru_int,e_tru_str,e_tru_lst,e_tru_tup,e_tru_scr,e_sl_lst,e_sl_str,e_sl_tup,e_some,e_none,e_it_lst,e_it_tup,e_it_str,e_it_scr,e_r1,e_r2,e_en,e_thenS_nx,e_thenS_rt,e_thenS_rn,e_thenS_bk,e_thenS_cn,e_thenS_ex,e_afterS_nx,e_afterS_rt,e_afterS_rn,e_afterS_bk,e_afterS_cn,e_afterS_ex,e_su_nx,e_su_rt,e_su_bk,e_su_cn,e_ca_nx,e_ca_bk,e_ca_cn,e_ca_rt,e_ca_ex,e_end_nx,e_end_rt,e_end_rn,e_end_ex,e_endN_rn,e_endN_ex,e_endI_ex,e_endI_nx,e_len_str,e_len_lst,e_len_tup,e_len_scr,e_list_lst,e_list_tup,e_list_scr,e_list_str,e_tuple_lst,e_tuple_tup,e_int_int,e_int_bl,e_bool_int,e_bool_bl,e_sum,e_all,e_any,e_min,e_max,e_join_l,e_join_t,e_count,e_strip,e_split,e_add_i,e_add_s,e_add_l,e_add_t,e_sub,e_mul_i,e_mul_s,e_mul_l,e_mul_t,e_is_bl,e_not_bl,e_mod,e_div,e_pow,e_cmp,e_isN_non,e_notN_non,e_isN_bl,e_notN_bl,e_isN_int,e_notN_int,e_isN_str,e_notN_str,e_isN_lst,e_notN_lst,e_isN_tup,e_notN_tup,e_isN_obj,e_notN_obj,e_isN_scr,e_notN_scr,e_isN_tok,e_notN_tok,e_ix_l,e_ix_t,e_ix_s,e_ix_n,e_in1,e_kBl,e_enS,e_repl,e_neg,e_gcd,e_lcm,e_lenO_str,e_lenO_lst,e_lenO_tup,e_lenO_scr,e_op_int,e_op_str,e_op_lst,e_op_tup,e_ixO_str,e_ixO_scr,e_ixO_lst,e_ixO_tup,e_it_lst',e_it_tup',e_it_str',e_rev,e_revS,e_lr1,e_lr2,e_sorted,e_ownF_lst,e_ownF_non,e_par2F,e_triF,e_setIx,lis_cons,lis_nil,lisO_un,lisO_int,lisO_str,lisO_bl,lisO_non,w_sx,w_nil,w_ok,w_exc,w_bad,wp_bind,wp_noex,wp_cat,wp_need,true_and,and_true,bind_ok,bind_exc,bind_bad,bind_ask,cat,noex,reduceIte,Nat.reduceEqDiff,if_true,if_false,Bool.false_eq_true,List.getElem?_cons_zero,List.getElem?_cons_succ,List.map_cons,List.map_nil,List.replicate,List.cons_append,List.nil_append,List.append_nil,List.length_cons,List.length_nil,List.set_cons_zero,List.set_cons_succ]
      exact szL (by decide)
    · rintro d ds _ ⟨hi, lo, he, x, rfl, ⟨h0, h1⟩, ⟨l0, l1⟩, bh, ln, hd⟩
      obtain ⟨i, rfl, i0, i1⟩ := hd _ List.mem_cons_self
      rw [List.length_cons] at bh ln
      refine w_seq ?_
      simp only [fVar,fC,fBin,fNil,fCons,fTup,fLst,fONone,fOSome,fSl,fVal,fTru,fNotT,fAndT,fOrT,fNot,fAnd,fOr,fIfE,fB,fM1,fCall,fMeth,fMake,fProp,fFld,fXf,fNeg,fRepl,fFr,frzS,frz1,flatD,fFrT,jVal,jR1,jR2,jR3,jEnumL,fYes,fLc,zAsg,zOwn,zOwnL,zDrop,zApp,zRet,zRetN,zRetL,zRetOwn,zIf,zBreak,zCont,zRaise,zTg,zPar2,zPar3,zFld,zSetSl,zFor,zTry,setTF,setM,fDef,fIni,fPur,startD,Dl.isNon,plainB,wipeD,fChain,hNil,hCons,jEnumS,fOpO,fIxO,jObj,zOwnE,zPar2E,zTg3E,zOwnN,zPar2N,zTg3N,zSetIx,fRev,fRevS,fLR1,fLR2,fCallK,fBor,fBorT,e_asI,e_asB,e_tru_non,e_tru_bl,e_tru_int,e_tru_str,e_tru_lst,e_tru_tup,e_tru_scr,e_sl_lst,e_sl_str,e_sl_tup,e_some,e_none,e_it_lst,e_it_tup,e_it_str,e_it_scr,e_r1,e_r2,e_en,e_thenS_nx,e_thenS_rt,e_thenS_rn,e_thenS_bk,e_thenS_cn,e_thenS_ex,e_afterS_nx,e_afterS_rt,e_afterS_rn,e_afterS_bk,e_afterS_cn,e_afterS_ex,e_su_nx,e_su_rt,e_su_bk,e_su_cn,e_ca_nx,e_ca_bk,e_ca_cn,e_ca_rt,e_ca_ex,e_end_nx,e_end_rt,e_end_rn,e_end_ex,e_endN_rn,e_endN_ex,e_endI_ex,e_endI_nx,e_len_str,e_len_lst,e_len_tup,e_len_scr,e_list_lst,e_list_tup,e_list_scr,e_list_str,e_tuple_lst,e_tuple_tup,e_int_int,e_int_bl,e_bool_int,e_bool_bl,e_sum,e_all,e_any,e_min,e_max,e_join_l,e_join_t,e_count,e_strip,e_split,e_add_i,e_add_s,e_add_l,e_add_t,e_sub,e_mul_i,e_mul_s,e_mul_l,e_mul_t,e_is_bl,e_not_bl,e_mod,e_div,e_pow,e_cmp,e_isN_non,e_notN_non,e_isN_bl,e_notN_bl,e_isN_int,e_notN_int,e_isN_str,e_notN_str,e_isN_lst,e_notN_lst,e_isN_tup,e_notN_tup,e_isN_obj,e_notN_obj,e_isN_scr,e_notN_scr,e_isN_tok,e_notN_tok,e_ix_l,e_ix_t,e_ix_s,e_ix_n,e_in1,e_kBl,e_enS,e_repl,e_neg,e_gcd,e_lcm,e_lenO_str,e_lenO_lst,e_lenO_tup,e_lenO_scr,e_op_int,e_op_str,e_op_lst,e_op_tup,e_ixO_str,e_ixO_scr,e_ixO_lst,e_ixO_tup,e_it_lst',e_it_tup',e_it_str',e_rev,e_revS,e_lr1,e_lr2,e_sorted,e_ownF_lst,e_ownF_non,e_par2F,e_triF,e_setIx,lis_cons,lis_nil,lisO_un,lisO_int,lisO_str,lisO_bl,lisO_non,w_sx,w_nil,w_ok,w_exc,w_bad,wp_bind,wp_noex,wp_cat,wp_need,true_and,and_true,bind_ok,bind_exc,bind_bad,bind_ask,cat,noex,reduceIte,Nat.reduceEqDiff,if_true,if_false,Bool.false_eq_true,List.getElem?_cons_zero,List.getElem?_cons_succ,List.map_cons,List.map_nil,List.replicate,List.cons_append,List.nil_append,List.append_nil,List.length_cons,List.length_nil,List.set_cons_zero,List.set_cons_succ]
      refine ⟨cmul_ok 32 20 (by omega) (by decide) (by decide), cmul_ok 10 10 (by omega) (by decide) (by decide), cmul_ok 20 10 (by decide) (by omega) (by decide), by decide, ?_⟩
      generalize hi * 39373 + i * 977 + 4099 * at_ + 5 = X
      obtain ⟨a0, a1⟩ := sp_num (i := X) (m := 2147483543) (by decide) (by decide)
      refine w_seq ?_
      simp only [fVar,fC,fBin,fNil,fCons,fTup,fLst,fONone,fOSome,fSl,fVal,fTru,fNotT,fAndT,fOrT,fNot,fAnd,fOr,fIfE,fB,fM1,fCall,fMeth,fMake,fProp,fFld,fXf,fNeg,fRepl,fFr,frzS,frz1,flatD,fFrT,jVal,jR1,jR2,jR3,jEnumL,fYes,fLc,zAsg,zOwn,zOwnL,zDrop,zApp,zRet,zRetN,zRetL,zRetOwn,zIf,zBreak,zCont,zRaise,zTg,zPar2,zPar3,zFld,zSetSl,zFor,zTry,setTF,setM,fDef,fIni,fPur,startD,Dl.isNon,plainB,wipeD,fChain,hNil,hCons,jEnumS,fOpO,fIxO,jObj,zOwnE,zPar2E,zTg3E,zOwnN,zPar2N,zTg3N,zSetIx,fRev,fRevS,fLR1,fLR2,fCallK,fBor,fBorT,e_asI,e_asB,e_tru_non,e_tru_bl,e_tru_int,e_tru_str,e_tru_lst,e_tru_tup,e_tru_scr,e_sl_lst,e_sl_str,e_sl_tup,e_some,e_none,e_it_lst,e_it_tup,e_it_str,e_it_scr,e_r1,e_r2,e_en,e_thenS_nx,e_thenS_rt,e_thenS_rn,e_thenS_bk,e_thenS_cn,e_thenS_ex,e_afterS_nx,e_afterS_rt,e_afterS_rn,e_afterS_bk,e_afterS_cn,e_afterS_ex,e_su_nx,e_su_rt,e_su_bk,e_su_cn,e_ca_nx,e_ca_bk,e_ca_cn,e_ca_rt,e_ca_ex,e_end_nx,e_end_rt,e_end_rn,e_end_ex,e_endN_rn,e_endN_ex,e_endI_ex,e_endI_nx,e_len_str,e_len_lst,e_len_tup,e_len_scr,e_list_lst,e_list_tup,e_list_scr,e_list_str,e_tuple_lst,e_tuple_tup,e_int_int,e_int_bl,e_bool_int,e_bool_bl,e_sum,e_all,e_any,e_min,e_max,e_join_l,e_join_t,e_count,e_strip,e_split,e_add_i,e_add_s,e_add_l,e_add_t,e_sub,e_mul_i,e_mul_s,e_mul_l,e_mul_t,e_is_bl,e_not_bl,e_mod,e_div,e_pow,e_cmp,e_isN_non,e_notN_non,e_isN_bl,e_notN_bl,e_isN_int,e_notN_int,e_isN_str,e_notN_str,e_isN_lst,e_notN_lst,e_isN_tup,e_notN_tup,e_isN_obj,e_notN_obj,e_isN_scr,e_notN_scr,e_isN_tok,e_notN_tok,e_ix_l,e_ix_t,e_ix_s,e_ix_n,e_in1,e_kBl,e_enS,e_repl,e_neg,e_gcd,e_lcm,e_lenO_str,e_lenO_lst,e_lenO_tup,e_lenO_scr,e_op_int,e_op_str,e_op_lst,e_op_tup,e_ixO_str,e_ixO_scr,e_ixO_lst,e_ixO_tup,e_it_lst',e_it_tup',e_it_str',e_rev,e_revS,e_lr1,e_lr2,e_sorted,e_ownF_lst,e_ownF_non,e_par2F,e_triF,e_setIx,lis_cons,lis_nil,lisO_un,lisO_int,lisO_str,lisO_bl,lisO_non,w_sx,w_nil,w_ok,w_exc,w_bad,wp_bind,wp_noex,wp_cat,wp_need,true_and,and_true,bind_ok,bind_exc,bind_bad,bind_ask,cat,noex,reduceIte,Nat.reduceEqDiff,if_true,if_false,Bool.false_eq_true,List.getElem?_cons_zero,List.getElem?_cons_succ,List.map_cons,List.map_nil,List.replicate,List.cons_append,List.nil_append,List.append_nil,List.length_cons,List.length_nil,List.set_cons_zero,List.set_cons_succ]
      refine ⟨cmul_ok 32 32 (by omega) (by omega) (by decide), cmul_ok 20 10 (by decide) (by omega) (by decide), by decide, ?_⟩
      generalize lo * lo + 48611 * i + 2713 = Y
      obtain ⟨b0, b1⟩ := sp_num (i := Y) (m := 2147483497) (by decide) (by decide)
      generalize X % 2147483543 = u at a0 a1
      generalize Y % 2147483497 = v at b0 b1
      refine w_seq ?_
      simp only [fVar,fC,fBin,fNil,fCons,fTup,fLst,fONone,fOSome,fSl,fVal,fTru,fNotT,fAndT,fOrT,fNot,fAnd,fOr,fIfE,fB,fM1,fCall,fMeth,fMake,fProp,fFld,fXf,fNeg,fRepl,fFr,frzS,frz1,flatD,fFrT,jVal,jR1,jR2,jR3,jEnumL,fYes,fLc,zAsg,zOwn,zOwnL,zDrop,zApp,zRet,zRetN,zRetL,zRetOwn,zIf,zBreak,zCont,zRaise,zTg,zPar2,zPar3,zFld,zSetSl,zFor,zTry,setTF,setM,fDef,fIni,fPur,startD,Dl.isNon,plainB,wipeD,fChain,hNil,hCons,jEnumS,fOpO,fIxO,jObj,zOwnE,zPar2E,zTg3E,zOwnN,zPar2N,zTg3N,zSetIx,fRev,fRevS,fLR1,fLR2,fCallK,fBor,fBorT,e_asI,e_asB,e_tru_non,e_tru_bl,e_tru_int,e_tru_str,e_tru_lst,e_tru_tup,e_tru_scr,e_sl_lst,e_sl_str,e_sl_tup,e_some,e_none,e_it_lst,e_it_tup,e_it_str,e_it_scr,e_r1,e_r2,e_en,e_thenS_nx,e_thenS_rt,e_thenS_rn,e_thenS_bk,e_thenS_cn,e_thenS_ex,e_afterS_nx,e_afterS_rt,e_afterS_rn,e_afterS_bk,e_afterS_cn,e_afterS_ex,e_su_nx,e_su_rt,e_su_bk,e_su_cn,e_ca_nx,e_ca_bk,e_ca_cn,e_ca_rt,e_ca_ex,e_end_nx,e_end_rt,e_end_rn,e_end_ex,e_endN_rn,e_endN_ex,e_endI_ex,e_endI_nx,e_len_str,e_len_lst,e_len_tup,e_len_scr,e_list_lst,e_list_tup,e_list_scr,e_list_str,e_tuple_lst,e_tuple_tup,e_int_int,e_int_bl,e_bool_int,e_bool_bl,e_sum,e_all,e_any,e_min,e_max,e_join_l,e_join_t,e_count,e_strip,e_split,e_add_i,e_add_s,e_add_l,e_add_t,e_sub,e_mul_i,e_mul_s,e_mul_l,e_mul_t,e_is_bl,e_not_bl,e_mod,e_div,e_pow,e_cmp,e_isN_non,e_notN_non,e_isN_bl,e_notN_bl,e_isN_int,e_notN_int,e_isN_str,e_notN_str,e_isN_lst,e_notN_lst,e_isN_tup,e_notN_tup,e_isN_obj,e_notN_obj,e_isN_scr,e_notN_scr,e_isN_tok,e_notN_tok,e_ix_l,e_ix_t,e_ix_s,e_ix_n,e_in1,e_kBl,e_enS,e_repl,e_neg,e_gcd,e_lcm,e_lenO_str,e_lenO_lst,e_lenO_tup,e_lenO_scr,e_op_int,e_op_str,e_op_lst,e_op_tup,e_ixO_str,e_ixO_scr,e_ixO_lst,e_ixO_tup,e_it_lst',e_it_tup',e_it_str',e_rev,e_revS,e_lr1,e_lr2,e_sorted,e_ownF_lst,e_ownF_non,e_par2F,e_triF,e_setIx,lis_cons,lis_nil,lisO_un,lisO_int,lisO_str,lisO_bl,lisO_non,w_sx,w_nil,w_ok,w_exc,w_bad,wp_bind,wp_noex,wp_cat,wp_need,true_and,and_true,bind_ok,bind_exc,bind_bad,bind_ask,cat,noex,reduceIte,Nat.reduceEqDiff,if_true,if_false,Bool.false_eq_true,List.getElem?_cons_zero,List.getElem?_cons_succ,List.map_cons,List.map_nil,List.replicate,List.cons_append,List.nil_append,List.append_nil,List.length_cons,List.length_nil,List.set_cons_zero,List.set_cons_succ]
      have pw : 40 * (46 - (ds.length + 1)) + 1 ≤ 2000 := by omega
      have bh2 : he.natAbs < 2 ^ 2000 := Nat.lt_of_lt_of_le bh (Nat.pow_le_pow_right (by decide) pw)
      refine ⟨cmul_ok 2000 32 bh2 (by decide) (by decide), cmul_ok 32 32 (by omega) (by omega) (by decide), cmul_ok 10 10 (by decide) (by omega) (by decide), by decide, ?_⟩
      generalize u * v + 31 * i = Z
      obtain ⟨c0, c1⟩ := sp_num (i := Z) (m := 2147483496) (by decide) (by decide)
      refine ⟨_, _, _, _, rfl, ⟨a0, a1⟩, ⟨b0, b1⟩, ?_, by omega, fun d h => hd d (List.mem_cons_of_mem _ h)⟩
      generalize Z % 2147483496 = w at c0 c1
      have e : 40 * (46 - ds.length) + 1 = (40 * (46 - (ds.length + 1)) + 1) + 40 := by omega
      rw [e, Nat.pow_add]
      have g1 : (he * 2147483496).natAbs = he.natAbs * 2147483496 := by rw [Int.natAbs_mul] <;> rfl
      have g2 : (he * 2147483496 + w).natAbs ≤ he.natAbs * 2147483496 + w.natAbs := by rw [← g1]; exact Int.natAbs_add_le _ _
      have g3 : w.natAbs < 2 ^ 31 := by omega
      generalize he.natAbs = m at bh g2
      generalize 2 ^ (40 * (46 - (ds.length + 1)) + 1) = p at bh
      have g4 : (m + 1) * 2 ^ 40 ≤ p * 2 ^ 40 := Nat.mul_le_mul_right _ bh
      omega
end K81
set_option Elab.async false
set_option linter.all false
set_option exponentiation.threshold 4000
set_option maxRecDepth 100000
set_option maxHeartbeats 1000000
namespace K81
open PySem PySem.Spec L2 Dl Dl.Hd Res
theorem join_chars {b : List Nat} (h : b.length ≤ 1000) : kJoin (Str.ofString "") (.lst (b.map fun c => .str ⟨#[c]⟩)) = .ok (.str (SX.S b)) := by
  have e : (b.map fun c => D.str ⟨#[c]⟩) = ((b.map fun c => [c]).map SX.S).map D.str := by
    rw [List.map_map, List.map_map] <;> rfl
  have fl : (b.map fun c => [c]).flatten = b := by
    clear e h
    induction b with
    | nil => rfl
    | cons c b ih => simp [ih]
  have hs : ((((b.map fun c => [c]).map SX.S).map (·.length)).sum + ((b.map fun c => [c]).map SX.S).length * (Str.ofString "").length) ≤ 16777216 := by
    have := sum_len (b.map fun c => [c])
    rw [fl] at this
    rw [this]
    show b.length + _ * 0 ≤ _
    omega
  rw [e]
  simp only [fVar,fC,fBin,fNil,fCons,fTup,fLst,fONone,fOSome,fSl,fVal,fTru,fNotT,fAndT,fOrT,fNot,fAnd,fOr,fIfE,fB,fM1,fCall,fMeth,fMake,fProp,fFld,fXf,fNeg,fRepl,fFr,frzS,frz1,flatD,fFrT,jVal,jR1,jR2,jR3,jEnumL,fYes,fLc,zNil,zSeq,zAsg,zOwn,zOwnL,zDrop,zApp,zRet,zRetN,zRetL,zRetOwn,zIf,zBreak,zCont,zRaise,zTg,zPar2,zPar3,zFld,zSetSl,zFor,zTry,sx,setTF,setM,fDef,fIni,fPur,startD,Dl.isNon,plainB,wipeD,fChain,hNil,hCons,jEnumS,fOpO,fIxO,jObj,zOwnE,zPar2E,zTg3E,zOwnN,zPar2N,zTg3N,zSetIx,fRev,fRevS,fLR1,fLR2,fCallK,fBor,fBorT,e_asI,e_asB,e_tru_non,e_tru_bl,e_tru_int,e_tru_str,e_tru_lst,e_tru_tup,e_tru_scr,e_sl_lst,e_sl_str,e_sl_tup,e_some,e_none,e_it_lst,e_it_tup,e_it_str,e_it_scr,e_r1,e_r2,e_en,e_thenS_nx,e_thenS_rt,e_thenS_rn,e_thenS_bk,e_thenS_cn,e_thenS_ex,e_afterS_nx,e_afterS_rt,e_afterS_rn,e_afterS_bk,e_afterS_cn,e_afterS_ex,e_su_nx,e_su_rt,e_su_bk,e_su_cn,e_ca_nx,e_ca_bk,e_ca_cn,e_ca_rt,e_ca_ex,e_end_nx,e_end_rt,e_end_rn,e_end_ex,e_endN_rn,e_endN_ex,e_endI_ex,e_endI_nx,e_len_str,e_len_lst,e_len_tup,e_len_scr,e_list_lst,e_list_tup,e_list_scr,e_list_str,e_tuple_lst,e_tuple_tup,e_int_int,e_int_bl,e_bool_int,e_bool_bl,e_sum,e_all,e_any,e_min,e_max,e_join_l,e_join_t,e_count,e_strip,e_split,e_add_i,e_add_s,e_add_l,e_add_t,e_sub,e_mul_i,e_mul_s,e_mul_l,e_mul_t,e_is_bl,e_not_bl,e_mod,e_div,e_pow,e_cmp,e_isN_non,e_notN_non,e_isN_bl,e_notN_bl,e_isN_int,e_notN_int,e_isN_str,e_notN_str,e_isN_lst,e_notN_lst,e_isN_tup,e_notN_tup,e_isN_obj,e_notN_obj,e_isN_scr,e_notN_scr,e_isN_tok,e_notN_tok,e_ix_l,e_ix_t,e_ix_s,e_ix_n,e_in1,e_kBl,e_enS,e_repl,e_neg,e_gcd,e_lcm,e_lenO_str,e_lenO_lst,e_lenO_tup,e_lenO_scr,e_op_int,e_op_str,e_op_lst,e_op_tup,e_ixO_str,e_ixO_scr,e_ixO_lst,e_ixO_tup,e_it_lst',e_it_tup',e_it_str',e_rev,e_revS,e_lr1,e_lr2,e_sorted,e_ownF_lst,e_ownF_non,e_par2F,e_triF,e_setIx,lis_cons,lis_nil,lisO_un,lisO_int,lisO_str,lisO_bl,lisO_non,bind_ok,bind_exc,bind_bad,bind_ask,cat,noex,need_true,reduceIte,Nat.reduceEqDiff,if_true,if_false,Bool.false_eq_true,List.getElem?_cons_zero,List.getElem?_cons_succ,List.map_cons,List.map_nil,List.replicate,List.cons_append,List.nil_append,List.append_nil,List.length_cons,List.length_nil,List.set_cons_zero,List.set_cons_succ, toStrs_map]
  rw [need_pos hs]
  have e2 := join_S' [] (b.map fun c => [c])
  rw [joinL_nil, fl] at e2
  exact congrArg (fun z => Res.ok (D.str z)) e2
def conB (a : List Nat) : Bool := a.all fun c => decide (c ∈ CE.cps.toList) && c != 46
theorem con_row {a : List Nat} (h : conB a = true) : rowB (SX.S a) = true := by
  unfold conB at h
  rw [List.all_eq_true] at h
  rw [row_S, List.all_eq_true]
  exact fun c hc => (Bool.and_eq_true_iff.mp (h c hc)).1
theorem con_dot {a : List Nat} (h : conB a = true) : 46 ∉ a := fun hc => by
  unfold conB at h
  rw [List.all_eq_true] at h
  have := (Bool.and_eq_true_iff.mp (h 46 hc)).2
  simp at this
theorem con_of {a : List Nat} (h : rowB (SX.S a) = true) (h2 : 46 ∉ a) : conB a = true := by
  unfold conB
  rw [row_S, List.all_eq_true] at h
  rw [List.all_eq_true]
  intro c hc
  rw [h c hc, Bool.true_and]
  simp only [bne_iff_ne, ne_eq]
  exact fun z => h2 (z ▸ hc)
theorem wp_compE {α : Type} {g : α → D} {i : Nat} {fe : FE} {s : List Sl} {P : D → Prop} {E : QX} {l : List α} {Q : List D → Prop} (h : ∀ a ∈ l, (fe (s.set i (.v (g a)))).wp P NoX) (q : ∀ ys : List D, ys.length = l.length → (∀ y ∈ ys, P y) → Q ys) : (compF (.nm i) fYes fe s (l.map g)).wp Q E :=
  wp_comp (fun d hd => by obtain ⟨a, ha, rfl⟩ := List.mem_map.mp hd; exact h a ha) (fun ys hl hy => q ys (by rw [hl, List.length_map]) hy)
def cstyles : List D := [.str "..0ab", .str ".0abcd", .str "aab0.", .str "abcdefghijklmnopqrstuvwxyz.0"]
def tstyles : List D := [.str "0ab", .str "0abcd", .str "ab", .str "abcdefghijklmnopqrstuvwxyz0"]
theorem cstyle_at {d : Int} (h0 : 0 ≤ d) (h1 : d < 4) : ∃ z : Str, atI cstyles d = some (.str z) ∧ rowB z = true ∧ 0 < z.length ∧ z.length ≤ 30 := by
  have : d = 0 ∨ d = 1 ∨ d = 2 ∨ d = 3 := by omega
  rcases this with rfl | rfl | rfl | rfl <;> exact ⟨_, rfl, by decide +kernel, by decide +kernel, by decide +kernel⟩
theorem tstyle_at {d : Int} (h0 : 0 ≤ d) (h1 : d < 4) : ∃ z : Str, atI tstyles d = some (.str z) ∧ conB z.cps.toList = true ∧ 0 < z.length ∧ z.length ≤ 30 := by
  have : d = 0 ∨ d = 1 ∨ d = 2 ∨ d = 3 := by omega
  rcases this with rfl | rfl | rfl | rfl <;> exact ⟨_, rfl, by decide +kernel, by decide +kernel, by decide +kernel⟩
/-- signs drawn one by one, put together -/
theorem draw_signs {tbl : Nat → Option FW} {z : Str} {len : Nat} {p : Nat → Bool} {s : List Sl} {Q : Res D → Prop} (hs : s = [.v (.tok 1), .v (.int len), .v (.str z), .un]) (hz : 0 < z.length) (hz2 : z.length ≤ 30) (hp : ∀ c ∈ z.cps.toList, p c = true) (hl : len ≤ 1000) :
    (fM1 kJoin (fC (.str (Str.ofString ""))) (fLc (jR1 (fCons (fVar 1) fNil)) (.nm 3) fYes (fBin pIx (fVar 2) (fCall gSip [] (fCons (fVar 0) (fCons (fB (gLenO tbl) (fCons (fVar 2) fNil)) fNil)))) [3]) s).wp (fun d => ∃ a, d = .str (SX.S a) ∧ a.all p = true ∧ a.length = len) NoX := by
  subst hs
  have zl : z.length ≤ sizeLine := szL (by omega)
  simp only [fVar,fC,fBin,fNil,fCons,fTup,fLst,fONone,fOSome,fSl,fVal,fTru,fNotT,fAndT,fOrT,fNot,fAnd,fOr,fIfE,fB,fM1,fCall,fMeth,fMake,fProp,fFld,fXf,fNeg,fRepl,fFr,frzS,frz1,flatD,fFrT,jVal,jR1,jR2,jR3,jEnumL,fYes,fLc,zAsg,zOwn,zOwnL,zDrop,zApp,zRet,zRetN,zRetL,zRetOwn,zIf,zBreak,zCont,zRaise,zTg,zPar2,zPar3,zFld,zSetSl,zFor,zTry,setTF,setM,fDef,fIni,fPur,startD,Dl.isNon,plainB,wipeD,fChain,hNil,hCons,jEnumS,fOpO,fIxO,jObj,zOwnE,zPar2E,zTg3E,zOwnN,zPar2N,zTg3N,zSetIx,fRev,fRevS,fLR1,fLR2,fCallK,fBor,fBorT,e_asI,e_asB,e_tru_non,e_tru_bl,e_tru_int,e_tru_str,e_tru_lst,e_tru_tup,e_tru_scr,e_sl_lst,e_sl_str,e_sl_tup,e_some,e_none,e_it_lst,e_it_tup,e_it_str,e_it_scr,e_r1,e_r2,e_en,e_thenS_nx,e_thenS_rt,e_thenS_rn,e_thenS_bk,e_thenS_cn,e_thenS_ex,e_afterS_nx,e_afterS_rt,e_afterS_rn,e_afterS_bk,e_afterS_cn,e_afterS_ex,e_su_nx,e_su_rt,e_su_bk,e_su_cn,e_ca_nx,e_ca_bk,e_ca_cn,e_ca_rt,e_ca_ex,e_end_nx,e_end_rt,e_end_rn,e_end_ex,e_endN_rn,e_endN_ex,e_endI_ex,e_endI_nx,e_len_str,e_len_lst,e_len_tup,e_len_scr,e_list_lst,e_list_tup,e_list_scr,e_list_str,e_tuple_lst,e_tuple_tup,e_int_int,e_int_bl,e_bool_int,e_bool_bl,e_sum,e_all,e_any,e_min,e_max,e_join_l,e_join_t,e_count,e_strip,e_split,e_add_i,e_add_s,e_add_l,e_add_t,e_sub,e_mul_i,e_mul_s,e_mul_l,e_mul_t,e_is_bl,e_not_bl,e_mod,e_div,e_pow,e_cmp,e_isN_non,e_notN_non,e_isN_bl,e_notN_bl,e_isN_int,e_notN_int,e_isN_str,e_notN_str,e_isN_lst,e_notN_lst,e_isN_tup,e_notN_tup,e_isN_obj,e_notN_obj,e_isN_scr,e_notN_scr,e_isN_tok,e_notN_tok,e_ix_l,e_ix_t,e_ix_s,e_ix_n,e_in1,e_kBl,e_enS,e_repl,e_neg,e_gcd,e_lcm,e_lenO_str,e_lenO_lst,e_lenO_tup,e_lenO_scr,e_op_int,e_op_str,e_op_lst,e_op_tup,e_ixO_str,e_ixO_scr,e_ixO_lst,e_ixO_tup,e_it_lst',e_it_tup',e_it_str',e_rev,e_revS,e_lr1,e_lr2,e_sorted,e_ownF_lst,e_ownF_non,e_par2F,e_triF,e_setIx,lis_cons,lis_nil,lisO_un,lisO_int,lisO_str,lisO_bl,lisO_non,w_sx,w_nil,w_ok,w_exc,w_bad,wp_bind,wp_noex,wp_cat,wp_need,true_and,and_true,bind_ok,bind_exc,bind_bad,bind_ask,cat,noex,reduceIte,Nat.reduceEqDiff,if_true,if_false,Bool.false_eq_true,List.getElem?_cons_zero,List.getElem?_cons_succ,List.map_cons,List.map_nil,List.replicate,List.cons_append,List.nil_append,List.append_nil,List.length_cons,List.length_nil,List.set_cons_zero,List.set_cons_succ]
  refine ⟨by omega, ?_⟩
  rw [Int.toNat_natCast, intsD_nat]
  refine ⟨szL (by rw [List.length_map, List.length_range]; omega), ?_⟩
  refine wp_compE (P := fun d => ∃ c, d = .str ⟨#[c]⟩ ∧ p c = true) (fun k _ => ?_) (fun ys hl2 hy => ?_)
  · simp only [fVar,fC,fBin,fNil,fCons,fTup,fLst,fONone,fOSome,fSl,fVal,fTru,fNotT,fAndT,fOrT,fNot,fAnd,fOr,fIfE,fB,fM1,fCall,fMeth,fMake,fProp,fFld,fXf,fNeg,fRepl,fFr,frzS,frz1,flatD,fFrT,jVal,jR1,jR2,jR3,jEnumL,fYes,fLc,zAsg,zOwn,zOwnL,zDrop,zApp,zRet,zRetN,zRetL,zRetOwn,zIf,zBreak,zCont,zRaise,zTg,zPar2,zPar3,zFld,zSetSl,zFor,zTry,setTF,setM,fDef,fIni,fPur,startD,Dl.isNon,plainB,wipeD,fChain,hNil,hCons,jEnumS,fOpO,fIxO,jObj,zOwnE,zPar2E,zTg3E,zOwnN,zPar2N,zTg3N,zSetIx,fRev,fRevS,fLR1,fLR2,fCallK,fBor,fBorT,e_asI,e_asB,e_tru_non,e_tru_bl,e_tru_int,e_tru_str,e_tru_lst,e_tru_tup,e_tru_scr,e_sl_lst,e_sl_str,e_sl_tup,e_some,e_none,e_it_lst,e_it_tup,e_it_str,e_it_scr,e_r1,e_r2,e_en,e_thenS_nx,e_thenS_rt,e_thenS_rn,e_thenS_bk,e_thenS_cn,e_thenS_ex,e_afterS_nx,e_afterS_rt,e_afterS_rn,e_afterS_bk,e_afterS_cn,e_afterS_ex,e_su_nx,e_su_rt,e_su_bk,e_su_cn,e_ca_nx,e_ca_bk,e_ca_cn,e_ca_rt,e_ca_ex,e_end_nx,e_end_rt,e_end_rn,e_end_ex,e_endN_rn,e_endN_ex,e_endI_ex,e_endI_nx,e_len_str,e_len_lst,e_len_tup,e_len_scr,e_list_lst,e_list_tup,e_list_scr,e_list_str,e_tuple_lst,e_tuple_tup,e_int_int,e_int_bl,e_bool_int,e_bool_bl,e_sum,e_all,e_any,e_min,e_max,e_join_l,e_join_t,e_count,e_strip,e_split,e_add_i,e_add_s,e_add_l,e_add_t,e_sub,e_mul_i,e_mul_s,e_mul_l,e_mul_t,e_is_bl,e_not_bl,e_mod,e_div,e_pow,e_cmp,e_isN_non,e_notN_non,e_isN_bl,e_notN_bl,e_isN_int,e_notN_int,e_isN_str,e_notN_str,e_isN_lst,e_notN_lst,e_isN_tup,e_notN_tup,e_isN_obj,e_notN_obj,e_isN_scr,e_notN_scr,e_isN_tok,e_notN_tok,e_ix_l,e_ix_t,e_ix_s,e_ix_n,e_in1,e_kBl,e_enS,e_repl,e_neg,e_gcd,e_lcm,e_lenO_str,e_lenO_lst,e_lenO_tup,e_lenO_scr,e_op_int,e_op_str,e_op_lst,e_op_tup,e_ixO_str,e_ixO_scr,e_ixO_lst,e_ixO_tup,e_it_lst',e_it_tup',e_it_str',e_rev,e_revS,e_lr1,e_lr2,e_sorted,e_ownF_lst,e_ownF_non,e_par2F,e_triF,e_setIx,lis_cons,lis_nil,lisO_un,lisO_int,lisO_str,lisO_bl,lisO_non,w_sx,w_nil,w_ok,w_exc,w_bad,wp_bind,wp_noex,wp_cat,wp_need,true_and,and_true,bind_ok,bind_exc,bind_bad,bind_ask,cat,noex,reduceIte,Nat.reduceEqDiff,if_true,if_false,Bool.false_eq_true,List.getElem?_cons_zero,List.getElem?_cons_succ,List.map_cons,List.map_nil,List.replicate,List.cons_append,List.nil_append,List.append_nil,List.length_cons,List.length_nil,List.set_cons_zero,List.set_cons_succ, w_sip]
    refine ⟨zl, szlog (by omega) (by omega), fun d d0 d1 => ⟨zl, ?_⟩⟩
    obtain ⟨c, ec, hc⟩ := atI_in (l := z.cps.toList) d0 (by rw [Array.length_toList]; exact d1)
    rw [ec]
    simp only [fVar,fC,fBin,fNil,fCons,fTup,fLst,fONone,fOSome,fSl,fVal,fTru,fNotT,fAndT,fOrT,fNot,fAnd,fOr,fIfE,fB,fM1,fCall,fMeth,fMake,fProp,fFld,fXf,fNeg,fRepl,fFr,frzS,frz1,flatD,fFrT,jVal,jR1,jR2,jR3,jEnumL,fYes,fLc,zAsg,zOwn,zOwnL,zDrop,zApp,zRet,zRetN,zRetL,zRetOwn,zIf,zBreak,zCont,zRaise,zTg,zPar2,zPar3,zFld,zSetSl,zFor,zTry,setTF,setM,fDef,fIni,fPur,startD,Dl.isNon,plainB,wipeD,fChain,hNil,hCons,jEnumS,fOpO,fIxO,jObj,zOwnE,zPar2E,zTg3E,zOwnN,zPar2N,zTg3N,zSetIx,fRev,fRevS,fLR1,fLR2,fCallK,fBor,fBorT,e_asI,e_asB,e_tru_non,e_tru_bl,e_tru_int,e_tru_str,e_tru_lst,e_tru_tup,e_tru_scr,e_sl_lst,e_sl_str,e_sl_tup,e_some,e_none,e_it_lst,e_it_tup,e_it_str,e_it_scr,e_r1,e_r2,e_en,e_thenS_nx,e_thenS_rt,e_thenS_rn,e_thenS_bk,e_thenS_cn,e_thenS_ex,e_afterS_nx,e_afterS_rt,e_afterS_rn,e_afterS_bk,e_afterS_cn,e_afterS_ex,e_su_nx,e_su_rt,e_su_bk,e_su_cn,e_ca_nx,e_ca_bk,e_ca_cn,e_ca_rt,e_ca_ex,e_end_nx,e_end_rt,e_end_rn,e_end_ex,e_endN_rn,e_endN_ex,e_endI_ex,e_endI_nx,e_len_str,e_len_lst,e_len_tup,e_len_scr,e_list_lst,e_list_tup,e_list_scr,e_list_str,e_tuple_lst,e_tuple_tup,e_int_int,e_int_bl,e_bool_int,e_bool_bl,e_sum,e_all,e_any,e_min,e_max,e_join_l,e_join_t,e_count,e_strip,e_split,e_add_i,e_add_s,e_add_l,e_add_t,e_sub,e_mul_i,e_mul_s,e_mul_l,e_mul_t,e_is_bl,e_not_bl,e_mod,e_div,e_pow,e_cmp,e_isN_non,e_notN_non,e_isN_bl,e_notN_bl,e_isN_int,e_notN_int,e_isN_str,e_notN_str,e_isN_lst,e_notN_lst,e_isN_tup,e_notN_tup,e_isN_obj,e_notN_obj,e_isN_scr,e_notN_scr,e_isN_tok,e_notN_tok,e_ix_l,e_ix_t,e_ix_s,e_ix_n,e_in1,e_kBl,e_enS,e_repl,e_neg,e_gcd,e_lcm,e_lenO_str,e_lenO_lst,e_lenO_tup,e_lenO_scr,e_op_int,e_op_str,e_op_lst,e_op_tup,e_ixO_str,e_ixO_scr,e_ixO_lst,e_ixO_tup,e_it_lst',e_it_tup',e_it_str',e_rev,e_revS,e_lr1,e_lr2,e_sorted,e_ownF_lst,e_ownF_non,e_par2F,e_triF,e_setIx,lis_cons,lis_nil,lisO_un,lisO_int,lisO_str,lisO_bl,lisO_non,w_sx,w_nil,w_ok,w_exc,w_bad,wp_bind,wp_noex,wp_cat,wp_need,true_and,and_true,bind_ok,bind_exc,bind_bad,bind_ask,cat,noex,reduceIte,Nat.reduceEqDiff,if_true,if_false,Bool.false_eq_true,List.getElem?_cons_zero,List.getElem?_cons_succ,List.map_cons,List.map_nil,List.replicate,List.cons_append,List.nil_append,List.append_nil,List.length_cons,List.length_nil,List.set_cons_zero,List.set_cons_succ, Option.map_some]
    exact ⟨c, rfl, hp c hc⟩
  · obtain ⟨l, rfl, pl⟩ := of_all (f := fun c : Nat => D.str ⟨#[c]⟩) (P := fun c => p c = true) hy
    have J := join_chars (b := l) (by rw [List.length_map, List.length_range] at hl2; omega)
    rw [List.length_map, List.length_range] at hl2
    have W : (kJoin (Str.ofString "") (.lst (l.map fun c => D.str ⟨#[c]⟩))).wp (fun d => ∃ a, d = .str (SX.S a) ∧ a.all p = true ∧ a.length = len) NoX := by
      rw [J]
      exact ⟨l, rfl, List.all_eq_true.mpr pl, hl2⟩
    rw [e_join_l] at W
    have W2 := wp_bind.mp W
    refine wp_mono (fun a h => ?_) (fun _ _ z => z) W2
    exact wp_need.mp h
theorem cells_ok {len : Nat} (hl : len ≤ 1000) : (g__law_cells [.tok 1, .int len]).wp (fun d => ∃ a, d = .str (SX.S a) ∧ rowB (SX.S a) = true ∧ a.length = len) NoX := by
  refine w_def rfl ?_
  unfold f__law_cells
  refine w_seq ?_
  simp only [fVar,fC,fBin,fNil,fCons,fTup,fLst,fONone,fOSome,fSl,fVal,fTru,fNotT,fAndT,fOrT,fNot,fAnd,fOr,fIfE,fB,fM1,fCall,fMeth,fMake,fProp,fFld,fXf,fNeg,fRepl,fFr,frzS,frz1,flatD,fFrT,jVal,jR1,jR2,jR3,jEnumL,fYes,fLc,zAsg,zOwn,zOwnL,zDrop,zApp,zRet,zRetN,zRetL,zRetOwn,zIf,zBreak,zCont,zRaise,zTg,zPar2,zPar3,zFld,zSetSl,zFor,zTry,setTF,setM,fDef,fIni,fPur,startD,Dl.isNon,plainB,wipeD,fChain,hNil,hCons,jEnumS,fOpO,fIxO,jObj,zOwnE,zPar2E,zTg3E,zOwnN,zPar2N,zTg3N,zSetIx,fRev,fRevS,fLR1,fLR2,fCallK,fBor,fBorT,e_asI,e_asB,e_tru_non,e_tru_bl,e_tru_int,e_tru_str,e_tru_lst,e_tru_tup,e_tru_scr,e_sl_lst,e_sl_str,e_sl_tup,e_some,e_none,e_it_lst,e_it_tup,e_it_str,e_it_scr,e_r1,e_r2,e_en,e_thenS_nx,e_thenS_rt,e_thenS_rn,e_thenS_bk,e_thenS_cn,e_thenS_ex,e_afterS_nx,e_afterS_rt,e_afterS_rn,e_afterS_bk,e_afterS_cn,e_afterS_ex,e_su_nx,e_su_rt,e_su_bk,e_su_cn,e_ca_nx,e_ca_bk,e_ca_cn,e_ca_rt,e_ca_ex,e_end_nx,e_end_rt,e_end_rn,e_end_ex,e_endN_rn,e_endN_ex,e_endI_ex,e_endI_nx,e_len_str,e_len_lst,e_len_tup,e_len_scr,e_list_lst,e_list_tup,e_list_scr,e_list_str,e_tuple_lst,e_tuple_tup,e_int_int,e_int_bl,e_bool_int,e_bool_bl,e_sum,e_all,e_any,e_min,e_max,e_join_l,e_join_t,e_count,e_strip,e_split,e_add_i,e_add_s,e_add_l,e_add_t,e_sub,e_mul_i,e_mul_s,e_mul_l,e_mul_t,e_is_bl,e_not_bl,e_mod,e_div,e_pow,e_cmp,e_isN_non,e_notN_non,e_isN_bl,e_notN_bl,e_isN_int,e_notN_int,e_isN_str,e_notN_str,e_isN_lst,e_notN_lst,e_isN_tup,e_notN_tup,e_isN_obj,e_notN_obj,e_isN_scr,e_notN_scr,e_isN_tok,e_notN_tok,e_ix_l,e_ix_t,e_ix_s,e_ix_n,e_in1,e_kBl,e_enS,e_repl,e_neg,e_gcd,e_lcm,e_lenO_str,e_lenO_lst,e_lenO_tup,e_lenO_scr,e_op_int,e_op_str,e_op_lst,e_op_tup,e_ixO_str,e_ixO_scr,e_ixO_lst,e_ixO_tup,e_it_lst',e_it_tup',e_it_str',e_rev,e_revS,e_lr1,e_lr2,e_sorted,e_ownF_lst,e_ownF_non,e_par2F,e_triF,e_setIx,lis_cons,lis_nil,lisO_un,lisO_int,lisO_str,lisO_bl,lisO_non,w_sx,w_nil,w_ok,w_exc,w_bad,wp_bind,wp_noex,wp_cat,wp_need,true_and,and_true,bind_ok,bind_exc,bind_bad,bind_ask,cat,noex,reduceIte,Nat.reduceEqDiff,if_true,if_false,Bool.false_eq_true,List.getElem?_cons_zero,List.getElem?_cons_succ,List.map_cons,List.map_nil,List.replicate,List.cons_append,List.nil_append,List.append_nil,List.length_cons,List.length_nil,List.set_cons_zero,List.set_cons_succ, w_sip]
  refine ⟨szL (by decide), szlog (by decide) (by decide), fun d d0 d1 => ?_⟩
  obtain ⟨z, ez, rz, z0, z1⟩ := cstyle_at d0 d1
  refine wp_optR.mpr ⟨_, ez, ?_⟩
  refine w_seq ?_
  unfold zRet
  refine w_sx.mpr ?_
  refine wp_mono ?_ (fun _ _ h => h.elim) (draw_signs (z := z) (len := len) (p := fun c => decide (c ∈ CE.cps.toList)) (Q := fun _ => True) rfl z0 z1 (List.all_eq_true.mp rz) hl)
  rintro _ ⟨a, rfl, ha, la⟩
  exact ⟨a, rfl, ha, la⟩
theorem text_ok {len : Nat} (hl : len ≤ 1000) : (g__law_text [.tok 1, .int len]).wp (fun d => ∃ a, d = .str (SX.S a) ∧ conB a = true ∧ a.length = len) NoX := by
  refine w_def rfl ?_
  unfold f__law_text
  refine w_seq ?_
  simp only [fVar,fC,fBin,fNil,fCons,fTup,fLst,fONone,fOSome,fSl,fVal,fTru,fNotT,fAndT,fOrT,fNot,fAnd,fOr,fIfE,fB,fM1,fCall,fMeth,fMake,fProp,fFld,fXf,fNeg,fRepl,fFr,frzS,frz1,flatD,fFrT,jVal,jR1,jR2,jR3,jEnumL,fYes,fLc,zAsg,zOwn,zOwnL,zDrop,zApp,zRet,zRetN,zRetL,zRetOwn,zIf,zBreak,zCont,zRaise,zTg,zPar2,zPar3,zFld,zSetSl,zFor,zTry,setTF,setM,fDef,fIni,fPur,startD,Dl.isNon,plainB,wipeD,fChain,hNil,hCons,jEnumS,fOpO,fIxO,jObj,zOwnE,zPar2E,zTg3E,zOwnN,zPar2N,zTg3N,zSetIx,fRev,fRevS,fLR1,fLR2,fCallK,fBor,fBorT,e_asI,e_asB,e_tru_non,e_tru_bl,e_tru_int,e_tru_str,e_tru_lst,e_tru_tup,e_tru_scr,e_sl_lst,e_sl_str,e_sl_tup,e_some,e_none,e_it_lst,e_it_tup,e_it_str,e_it_scr,e_r1,e_r2,e_en,e_thenS_nx,e_thenS_rt,e_thenS_rn,e_thenS_bk,e_thenS_cn,e_thenS_ex,e_afterS_nx,e_afterS_rt,e_afterS_rn,e_afterS_bk,e_afterS_cn,e_afterS_ex,e_su_nx,e_su_rt,e_su_bk,e_su_cn,e_ca_nx,e_ca_bk,e_ca_cn,e_ca_rt,e_ca_ex,e_end_nx,e_end_rt,e_end_rn,e_end_ex,e_endN_rn,e_endN_ex,e_endI_ex,e_endI_nx,e_len_str,e_len_lst,e_len_tup,e_len_scr,e_list_lst,e_list_tup,e_list_scr,e_list_str,e_tuple_lst,e_tuple_tup,e_int_int,e_int_bl,e_bool_int,e_bool_bl,e_sum,e_all,e_any,e_min,e_max,e_join_l,e_join_t,e_count,e_strip,e_split,e_add_i,e_add_s,e_add_l,e_add_t,e_sub,e_mul_i,e_mul_s,e_mul_l,e_mul_t,e_is_bl,e_not_bl,e_mod,e_div,e_pow,e_cmp,e_isN_non,e_notN_non,e_isN_bl,e_notN_bl,e_isN_int,e_notN_int,e_isN_str,e_notN_str,e_isN_lst,e_notN_lst,e_isN_tup,e_notN_tup,e_isN_obj,e_notN_obj,e_isN_scr,e_notN_scr,e_isN_tok,e_notN_tok,e_ix_l,e_ix_t,e_ix_s,e_ix_n,e_in1,e_kBl,e_enS,e_repl,e_neg,e_gcd,e_lcm,e_lenO_str,e_lenO_lst,e_lenO_tup,e_lenO_scr,e_op_int,e_op_str,e_op_lst,e_op_tup,e_ixO_str,e_ixO_scr,e_ixO_lst,e_ixO_tup,e_it_lst',e_it_tup',e_it_str',e_rev,e_revS,e_lr1,e_lr2,e_sorted,e_ownF_lst,e_ownF_non,e_par2F,e_triF,e_setIx,lis_cons,lis_nil,lisO_un,lisO_int,lisO_str,lisO_bl,lisO_non,w_sx,w_nil,w_ok,w_exc,w_bad,wp_bind,wp_noex,wp_cat,wp_need,true_and,and_true,bind_ok,bind_exc,bind_bad,bind_ask,cat,noex,reduceIte,Nat.reduceEqDiff,if_true,if_false,Bool.false_eq_true,List.getElem?_cons_zero,List.getElem?_cons_succ,List.map_cons,List.map_nil,List.replicate,List.cons_append,List.nil_append,List.append_nil,List.length_cons,List.length_nil,List.set_cons_zero,List.set_cons_succ, w_sip]
  refine ⟨szL (by decide), szlog (by decide) (by decide), fun d d0 d1 => ?_⟩
  obtain ⟨z, ez, rz, z0, z1⟩ := tstyle_at d0 d1
  refine wp_optR.mpr ⟨_, ez, ?_⟩
  refine w_seq ?_
  unfold zRet
  refine w_sx.mpr ?_
  refine wp_mono ?_ (fun _ _ h => h.elim) (draw_signs (z := z) (len := len) (p := fun c => decide (c ∈ CE.cps.toList) && c != 46) (Q := fun _ => True) rfl z0 z1 (List.all_eq_true.mp rz) hl)
  rintro _ ⟨a, rfl, ha, la⟩
  exact ⟨a, rfl, ha, la⟩
/-- a write -/
def wrD (w : Nat × List Nat) : D := .tup [.int w.1, .str (SX.S w.2)]
def okW (L : Nat) (w : Nat × List Nat) : Prop := 0 < w.2.length ∧ w.1 + w.2.length ≤ L ∧ conB w.2 = true
theorem writes_ok {L most : Nat} (hL : L ≤ 1000) (hm : most ≤ 100) : (g__law_writes [.tok 1, .int L, .int most]).wp (fun d => ∃ ws : List (Nat × List Nat), d = .lst (ws.map wrD) ∧ ws.length ≤ most ∧ ∀ w ∈ ws, okW L w) NoX := by
  refine w_def rfl ?_
  unfold f__law_writes
  refine w_seq ?_
  simp only [fVar,fC,fBin,fNil,fCons,fTup,fLst,fONone,fOSome,fSl,fVal,fTru,fNotT,fAndT,fOrT,fNot,fAnd,fOr,fIfE,fB,fM1,fCall,fMeth,fMake,fProp,fFld,fXf,fNeg,fRepl,fFr,frzS,frz1,flatD,fFrT,jVal,jR1,jR2,jR3,jEnumL,fYes,fLc,zAsg,zOwn,zOwnL,zDrop,zApp,zRet,zRetN,zRetL,zRetOwn,zIf,zBreak,zCont,zRaise,zTg,zPar2,zPar3,zFld,zSetSl,zFor,zTry,setTF,setM,fDef,fIni,fPur,startD,Dl.isNon,plainB,wipeD,fChain,hNil,hCons,jEnumS,fOpO,fIxO,jObj,zOwnE,zPar2E,zTg3E,zOwnN,zPar2N,zTg3N,zSetIx,fRev,fRevS,fLR1,fLR2,fCallK,fBor,fBorT,e_asI,e_asB,e_tru_non,e_tru_bl,e_tru_int,e_tru_str,e_tru_lst,e_tru_tup,e_tru_scr,e_sl_lst,e_sl_str,e_sl_tup,e_some,e_none,e_it_lst,e_it_tup,e_it_str,e_it_scr,e_r1,e_r2,e_en,e_thenS_nx,e_thenS_rt,e_thenS_rn,e_thenS_bk,e_thenS_cn,e_thenS_ex,e_afterS_nx,e_afterS_rt,e_afterS_rn,e_afterS_bk,e_afterS_cn,e_afterS_ex,e_su_nx,e_su_rt,e_su_bk,e_su_cn,e_ca_nx,e_ca_bk,e_ca_cn,e_ca_rt,e_ca_ex,e_end_nx,e_end_rt,e_end_rn,e_end_ex,e_endN_rn,e_endN_ex,e_endI_ex,e_endI_nx,e_len_str,e_len_lst,e_len_tup,e_len_scr,e_list_lst,e_list_tup,e_list_scr,e_list_str,e_tuple_lst,e_tuple_tup,e_int_int,e_int_bl,e_bool_int,e_bool_bl,e_sum,e_all,e_any,e_min,e_max,e_join_l,e_join_t,e_count,e_strip,e_split,e_add_i,e_add_s,e_add_l,e_add_t,e_sub,e_mul_i,e_mul_s,e_mul_l,e_mul_t,e_is_bl,e_not_bl,e_mod,e_div,e_pow,e_cmp,e_isN_non,e_notN_non,e_isN_bl,e_notN_bl,e_isN_int,e_notN_int,e_isN_str,e_notN_str,e_isN_lst,e_notN_lst,e_isN_tup,e_notN_tup,e_isN_obj,e_notN_obj,e_isN_scr,e_notN_scr,e_isN_tok,e_notN_tok,e_ix_l,e_ix_t,e_ix_s,e_ix_n,e_in1,e_kBl,e_enS,e_repl,e_neg,e_gcd,e_lcm,e_lenO_str,e_lenO_lst,e_lenO_tup,e_lenO_scr,e_op_int,e_op_str,e_op_lst,e_op_tup,e_ixO_str,e_ixO_scr,e_ixO_lst,e_ixO_tup,e_it_lst',e_it_tup',e_it_str',e_rev,e_revS,e_lr1,e_lr2,e_sorted,e_ownF_lst,e_ownF_non,e_par2F,e_triF,e_setIx,lis_cons,lis_nil,lisO_un,lisO_int,lisO_str,lisO_bl,lisO_non,w_sx,w_nil,w_ok,w_exc,w_bad,wp_bind,wp_noex,wp_cat,wp_need,true_and,and_true,bind_ok,bind_exc,bind_bad,bind_ask,cat,noex,reduceIte,Nat.reduceEqDiff,if_true,if_false,Bool.false_eq_true,List.getElem?_cons_zero,List.getElem?_cons_succ,List.map_cons,List.map_nil,List.replicate,List.cons_append,List.nil_append,List.append_nil,List.length_cons,List.length_nil,List.set_cons_zero,List.set_cons_succ]
  refine ⟨Nat.zero_le _, ?_⟩
  refine w_seq ?_
  simp only [fVar,fC,fBin,fNil,fCons,fTup,fLst,fONone,fOSome,fSl,fVal,fTru,fNotT,fAndT,fOrT,fNot,fAnd,fOr,fIfE,fB,fM1,fCall,fMeth,fMake,fProp,fFld,fXf,fNeg,fRepl,fFr,frzS,frz1,flatD,fFrT,jVal,jR1,jR2,jR3,jEnumL,fYes,fLc,zAsg,zOwn,zOwnL,zDrop,zApp,zRet,zRetN,zRetL,zRetOwn,zIf,zBreak,zCont,zRaise,zTg,zPar2,zPar3,zFld,zSetSl,zFor,zTry,setTF,setM,fDef,fIni,fPur,startD,Dl.isNon,plainB,wipeD,fChain,hNil,hCons,jEnumS,fOpO,fIxO,jObj,zOwnE,zPar2E,zTg3E,zOwnN,zPar2N,zTg3N,zSetIx,fRev,fRevS,fLR1,fLR2,fCallK,fBor,fBorT,e_asI,e_asB,e_tru_non,e_tru_bl,e_tru_int,e_tru_str,e_tru_lst,e_tru_tup,e_tru_scr,e_sl_lst,e_sl_str,e_sl_tup,e_some,e_none,e_it_lst,e_it_tup,e_it_str,e_it_scr,e_r1,e_r2,e_en,e_thenS_nx,e_thenS_rt,e_thenS_rn,e_thenS_bk,e_thenS_cn,e_thenS_ex,e_afterS_nx,e_afterS_rt,e_afterS_rn,e_afterS_bk,e_afterS_cn,e_afterS_ex,e_su_nx,e_su_rt,e_su_bk,e_su_cn,e_ca_nx,e_ca_bk,e_ca_cn,e_ca_rt,e_ca_ex,e_end_nx,e_end_rt,e_end_rn,e_end_ex,e_endN_rn,e_endN_ex,e_endI_ex,e_endI_nx,e_len_str,e_len_lst,e_len_tup,e_len_scr,e_list_lst,e_list_tup,e_list_scr,e_list_str,e_tuple_lst,e_tuple_tup,e_int_int,e_int_bl,e_bool_int,e_bool_bl,e_sum,e_all,e_any,e_min,e_max,e_join_l,e_join_t,e_count,e_strip,e_split,e_add_i,e_add_s,e_add_l,e_add_t,e_sub,e_mul_i,e_mul_s,e_mul_l,e_mul_t,e_is_bl,e_not_bl,e_mod,e_div,e_pow,e_cmp,e_isN_non,e_notN_non,e_isN_bl,e_notN_bl,e_isN_int,e_notN_int,e_isN_str,e_notN_str,e_isN_lst,e_notN_lst,e_isN_tup,e_notN_tup,e_isN_obj,e_notN_obj,e_isN_scr,e_notN_scr,e_isN_tok,e_notN_tok,e_ix_l,e_ix_t,e_ix_s,e_ix_n,e_in1,e_kBl,e_enS,e_repl,e_neg,e_gcd,e_lcm,e_lenO_str,e_lenO_lst,e_lenO_tup,e_lenO_scr,e_op_int,e_op_str,e_op_lst,e_op_tup,e_ixO_str,e_ixO_scr,e_ixO_lst,e_ixO_tup,e_it_lst',e_it_tup',e_it_str',e_rev,e_revS,e_lr1,e_lr2,e_sorted,e_ownF_lst,e_ownF_non,e_par2F,e_triF,e_setIx,lis_cons,lis_nil,lisO_un,lisO_int,lisO_str,lisO_bl,lisO_non,w_sx,w_nil,w_ok,w_exc,w_bad,wp_bind,wp_noex,wp_cat,wp_need,true_and,and_true,bind_ok,bind_exc,bind_bad,bind_ask,cat,noex,reduceIte,Nat.reduceEqDiff,if_true,if_false,Bool.false_eq_true,List.getElem?_cons_zero,List.getElem?_cons_succ,List.map_cons,List.map_nil,List.replicate,List.cons_append,List.nil_append,List.append_nil,List.length_cons,List.length_nil,List.set_cons_zero,List.set_cons_succ, w_sip]
  refine ⟨szlog (by omega) (by omega), fun d d0 d1 => ?_⟩
  have bi : (if decide ((0 : Int) < (L : Int)) = true then (1 : Int) else 0).natAbs < 2 ^ 2 := by split <;> decide
  refine ⟨cmul_ok 10 2 (by omega) bi (by decide), ?_⟩
  obtain ⟨K, eK, hK, hK2⟩ : ∃ K : Nat, d * (if decide ((0 : Int) < (L : Int)) = true then (1 : Int) else 0) = K ∧ K ≤ most ∧ (0 < K → 0 < L) := by
    by_cases z : 0 < L
    · rw [if_pos (decide_eq_true (by omega)), Int.mul_one]
      exact ⟨d.toNat, by omega, by omega, fun _ => z⟩
    · rw [if_neg (by rw [decide_eq_false (by omega)]; decide), Int.mul_zero]
      exact ⟨0, rfl, by omega, fun h => by omega⟩
  rw [eK]
  refine ⟨by omega, ?_⟩
  refine wp_for (fun ds s => ∃ (ws : List (Nat × List Nat)) (x4 x5 x6 x7 : Sl), s = [.v (.tok 1), .v (.int L), .v (.int most), .own (ws.map wrD), x4, x5, x6, x7] ∧ ws.length + ds.length = K ∧ ∀ w ∈ ws, okW L w) ⟨[], _, _, _, _, rfl, by rw [ints_len]; simp, fun w h => by cases h⟩ ?_ ?_
  · rintro _ ⟨ws, x4, x5, x6, x7, rfl, hl, hw⟩
    simp only [List.length_nil] at hl
    refine w_seq ?_
    simp only [fVar,fC,fBin,fNil,fCons,fTup,fLst,fONone,fOSome,fSl,fVal,fTru,fNotT,fAndT,fOrT,fNot,fAnd,fOr,fIfE,fB,fM1,fCall,fMeth,fMake,fProp,fFld,fXf,fNeg,fRepl,fFr,frzS,frz1,flatD,fFrT,jVal,jR1,jR2,jR3,jEnumL,fYes,fLc,zAsg,zOwn,zOwnL,zDrop,zApp,zRet,zRetN,zRetL,zRetOwn,zIf,zBreak,zCont,zRaise,zTg,zPar2,zPar3,zFld,zSetSl,zFor,zTry,setTF,setM,fDef,fIni,fPur,startD,Dl.isNon,plainB,wipeD,fChain,hNil,hCons,jEnumS,fOpO,fIxO,jObj,zOwnE,zPar2E,zTg3E,zOwnN,zPar2N,zTg3N,zSetIx,fRev,fRevS,fLR1,fLR2,fCallK,fBor,fBorT,e_asI,e_asB,e_tru_non,e_tru_bl,e_tru_int,e_tru_str,e_tru_lst,e_tru_tup,e_tru_scr,e_sl_lst,e_sl_str,e_sl_tup,e_some,e_none,e_it_lst,e_it_tup,e_it_str,e_it_scr,e_r1,e_r2,e_en,e_thenS_nx,e_thenS_rt,e_thenS_rn,e_thenS_bk,e_thenS_cn,e_thenS_ex,e_afterS_nx,e_afterS_rt,e_afterS_rn,e_afterS_bk,e_afterS_cn,e_afterS_ex,e_su_nx,e_su_rt,e_su_bk,e_su_cn,e_ca_nx,e_ca_bk,e_ca_cn,e_ca_rt,e_ca_ex,e_end_nx,e_end_rt,e_end_rn,e_end_ex,e_endN_rn,e_endN_ex,e_endI_ex,e_endI_nx,e_len_str,e_len_lst,e_len_tup,e_len_scr,e_list_lst,e_list_tup,e_list_scr,e_list_str,e_tuple_lst,e_tuple_tup,e_int_int,e_int_bl,e_bool_int,e_bool_bl,e_sum,e_all,e_any,e_min,e_max,e_join_l,e_join_t,e_count,e_strip,e_split,e_add_i,e_add_s,e_add_l,e_add_t,e_sub,e_mul_i,e_mul_s,e_mul_l,e_mul_t,e_is_bl,e_not_bl,e_mod,e_div,e_pow,e_cmp,e_isN_non,e_notN_non,e_isN_bl,e_notN_bl,e_isN_int,e_notN_int,e_isN_str,e_notN_str,e_isN_lst,e_notN_lst,e_isN_tup,e_notN_tup,e_isN_obj,e_notN_obj,e_isN_scr,e_notN_scr,e_isN_tok,e_notN_tok,e_ix_l,e_ix_t,e_ix_s,e_ix_n,e_in1,e_kBl,e_enS,e_repl,e_neg,e_gcd,e_lcm,e_lenO_str,e_lenO_lst,e_lenO_tup,e_lenO_scr,e_op_int,e_op_str,e_op_lst,e_op_tup,e_ixO_str,e_ixO_scr,e_ixO_lst,e_ixO_tup,e_it_lst',e_it_tup',e_it_str',e_rev,e_revS,e_lr1,e_lr2,e_sorted,e_ownF_lst,e_ownF_non,e_par2F,e_triF,e_setIx,lis_cons,lis_nil,lisO_un,lisO_int,lisO_str,lisO_bl,lisO_non,w_sx,w_nil,w_ok,w_exc,w_bad,wp_bind,wp_noex,wp_cat,wp_need,true_and,and_true,bind_ok,bind_exc,bind_bad,bind_ask,cat,noex,reduceIte,Nat.reduceEqDiff,if_true,if_false,Bool.false_eq_true,List.getElem?_cons_zero,List.getElem?_cons_succ,List.map_cons,List.map_nil,List.replicate,List.cons_append,List.nil_append,List.append_nil,List.length_cons,List.length_nil,List.set_cons_zero,List.set_cons_succ]
    exact ⟨ws, rfl, by omega, hw⟩
  · rintro k ds _ ⟨ws, x4, x5, x6, x7, rfl, hl, hw⟩
    simp only [List.length_cons] at hl
    have L0 := hK2 (by omega)
    refine w_seq ?_
    simp only [fVar,fC,fBin,fNil,fCons,fTup,fLst,fONone,fOSome,fSl,fVal,fTru,fNotT,fAndT,fOrT,fNot,fAnd,fOr,fIfE,fB,fM1,fCall,fMeth,fMake,fProp,fFld,fXf,fNeg,fRepl,fFr,frzS,frz1,flatD,fFrT,jVal,jR1,jR2,jR3,jEnumL,fYes,fLc,zAsg,zOwn,zOwnL,zDrop,zApp,zRet,zRetN,zRetL,zRetOwn,zIf,zBreak,zCont,zRaise,zTg,zPar2,zPar3,zFld,zSetSl,zFor,zTry,setTF,setM,fDef,fIni,fPur,startD,Dl.isNon,plainB,wipeD,fChain,hNil,hCons,jEnumS,fOpO,fIxO,jObj,zOwnE,zPar2E,zTg3E,zOwnN,zPar2N,zTg3N,zSetIx,fRev,fRevS,fLR1,fLR2,fCallK,fBor,fBorT,e_asI,e_asB,e_tru_non,e_tru_bl,e_tru_int,e_tru_str,e_tru_lst,e_tru_tup,e_tru_scr,e_sl_lst,e_sl_str,e_sl_tup,e_some,e_none,e_it_lst,e_it_tup,e_it_str,e_it_scr,e_r1,e_r2,e_en,e_thenS_nx,e_thenS_rt,e_thenS_rn,e_thenS_bk,e_thenS_cn,e_thenS_ex,e_afterS_nx,e_afterS_rt,e_afterS_rn,e_afterS_bk,e_afterS_cn,e_afterS_ex,e_su_nx,e_su_rt,e_su_bk,e_su_cn,e_ca_nx,e_ca_bk,e_ca_cn,e_ca_rt,e_ca_ex,e_end_nx,e_end_rt,e_end_rn,e_end_ex,e_endN_rn,e_endN_ex,e_endI_ex,e_endI_nx,e_len_str,e_len_lst,e_len_tup,e_len_scr,e_list_lst,e_list_tup,e_list_scr,e_list_str,e_tuple_lst,e_tuple_tup,e_int_int,e_int_bl,e_bool_int,e_bool_bl,e_sum,e_all,e_any,e_min,e_max,e_join_l,e_join_t,e_count,e_strip,e_split,e_add_i,e_add_s,e_add_l,e_add_t,e_sub,e_mul_i,e_mul_s,e_mul_l,e_mul_t,e_is_bl,e_not_bl,e_mod,e_div,e_pow,e_cmp,e_isN_non,e_notN_non,e_isN_bl,e_notN_bl,e_isN_int,e_notN_int,e_isN_str,e_notN_str,e_isN_lst,e_notN_lst,e_isN_tup,e_notN_tup,e_isN_obj,e_notN_obj,e_isN_scr,e_notN_scr,e_isN_tok,e_notN_tok,e_ix_l,e_ix_t,e_ix_s,e_ix_n,e_in1,e_kBl,e_enS,e_repl,e_neg,e_gcd,e_lcm,e_lenO_str,e_lenO_lst,e_lenO_tup,e_lenO_scr,e_op_int,e_op_str,e_op_lst,e_op_tup,e_ixO_str,e_ixO_scr,e_ixO_lst,e_ixO_tup,e_it_lst',e_it_tup',e_it_str',e_rev,e_revS,e_lr1,e_lr2,e_sorted,e_ownF_lst,e_ownF_non,e_par2F,e_triF,e_setIx,lis_cons,lis_nil,lisO_un,lisO_int,lisO_str,lisO_bl,lisO_non,w_sx,w_nil,w_ok,w_exc,w_bad,wp_bind,wp_noex,wp_cat,wp_need,true_and,and_true,bind_ok,bind_exc,bind_bad,bind_ask,cat,noex,reduceIte,Nat.reduceEqDiff,if_true,if_false,Bool.false_eq_true,List.getElem?_cons_zero,List.getElem?_cons_succ,List.map_cons,List.map_nil,List.replicate,List.cons_append,List.nil_append,List.append_nil,List.length_cons,List.length_nil,List.set_cons_zero,List.set_cons_succ, w_sip]
    refine ⟨szlog (by omega) (by omega), fun b b0 b1 => ?_⟩
    obtain ⟨b, rfl⟩ : ∃ k : Nat, b = k := ⟨b.toNat, by omega⟩
    refine w_seq ?_
    simp only [fVar,fC,fBin,fNil,fCons,fTup,fLst,fONone,fOSome,fSl,fVal,fTru,fNotT,fAndT,fOrT,fNot,fAnd,fOr,fIfE,fB,fM1,fCall,fMeth,fMake,fProp,fFld,fXf,fNeg,fRepl,fFr,frzS,frz1,flatD,fFrT,jVal,jR1,jR2,jR3,jEnumL,fYes,fLc,zAsg,zOwn,zOwnL,zDrop,zApp,zRet,zRetN,zRetL,zRetOwn,zIf,zBreak,zCont,zRaise,zTg,zPar2,zPar3,zFld,zSetSl,zFor,zTry,setTF,setM,fDef,fIni,fPur,startD,Dl.isNon,plainB,wipeD,fChain,hNil,hCons,jEnumS,fOpO,fIxO,jObj,zOwnE,zPar2E,zTg3E,zOwnN,zPar2N,zTg3N,zSetIx,fRev,fRevS,fLR1,fLR2,fCallK,fBor,fBorT,e_asI,e_asB,e_tru_non,e_tru_bl,e_tru_int,e_tru_str,e_tru_lst,e_tru_tup,e_tru_scr,e_sl_lst,e_sl_str,e_sl_tup,e_some,e_none,e_it_lst,e_it_tup,e_it_str,e_it_scr,e_r1,e_r2,e_en,e_thenS_nx,e_thenS_rt,e_thenS_rn,e_thenS_bk,e_thenS_cn,e_thenS_ex,e_afterS_nx,e_afterS_rt,e_afterS_rn,e_afterS_bk,e_afterS_cn,e_afterS_ex,e_su_nx,e_su_rt,e_su_bk,e_su_cn,e_ca_nx,e_ca_bk,e_ca_cn,e_ca_rt,e_ca_ex,e_end_nx,e_end_rt,e_end_rn,e_end_ex,e_endN_rn,e_endN_ex,e_endI_ex,e_endI_nx,e_len_str,e_len_lst,e_len_tup,e_len_scr,e_list_lst,e_list_tup,e_list_scr,e_list_str,e_tuple_lst,e_tuple_tup,e_int_int,e_int_bl,e_bool_int,e_bool_bl,e_sum,e_all,e_any,e_min,e_max,e_join_l,e_join_t,e_count,e_strip,e_split,e_add_i,e_add_s,e_add_l,e_add_t,e_sub,e_mul_i,e_mul_s,e_mul_l,e_mul_t,e_is_bl,e_not_bl,e_mod,e_div,e_pow,e_cmp,e_isN_non,e_notN_non,e_isN_bl,e_notN_bl,e_isN_int,e_notN_int,e_isN_str,e_notN_str,e_isN_lst,e_notN_lst,e_isN_tup,e_notN_tup,e_isN_obj,e_notN_obj,e_isN_scr,e_notN_scr,e_isN_tok,e_notN_tok,e_ix_l,e_ix_t,e_ix_s,e_ix_n,e_in1,e_kBl,e_enS,e_repl,e_neg,e_gcd,e_lcm,e_lenO_str,e_lenO_lst,e_lenO_tup,e_lenO_scr,e_op_int,e_op_str,e_op_lst,e_op_tup,e_ixO_str,e_ixO_scr,e_ixO_lst,e_ixO_tup,e_it_lst',e_it_tup',e_it_str',e_rev,e_revS,e_lr1,e_lr2,e_sorted,e_ownF_lst,e_ownF_non,e_par2F,e_triF,e_setIx,lis_cons,lis_nil,lisO_un,lisO_int,lisO_str,lisO_bl,lisO_non,w_sx,w_nil,w_ok,w_exc,w_bad,wp_bind,wp_noex,wp_cat,wp_need,true_and,and_true,bind_ok,bind_exc,bind_bad,bind_ask,cat,noex,reduceIte,Nat.reduceEqDiff,if_true,if_false,Bool.false_eq_true,List.getElem?_cons_zero,List.getElem?_cons_succ,List.map_cons,List.map_nil,List.replicate,List.cons_append,List.nil_append,List.append_nil,List.length_cons,List.length_nil,List.set_cons_zero,List.set_cons_succ, w_sip]
    refine ⟨szL (by decide), szlog (by decide) (by decide), fun e e0 e1 => ?_⟩
    obtain ⟨n, en, n0, n1⟩ : ∃ n : Nat, atI [D.int 1, .int 2, .int 3, .int 9] e = some (.int n) ∧ 1 ≤ n ∧ n ≤ 9 := by
      have : e = 0 ∨ e = 1 ∨ e = 2 ∨ e = 3 := by omega
      rcases this with rfl | rfl | rfl | rfl
      · exact ⟨1, rfl, by decide, by decide⟩
      · exact ⟨2, rfl, by decide, by decide⟩
      · exact ⟨3, rfl, by decide, by decide⟩
      · exact ⟨9, rfl, by decide, by decide⟩
    refine wp_optR.mpr ⟨_, en, ?_⟩
    refine w_seq ?_
    simp only [fVar,fC,fBin,fNil,fCons,fTup,fLst,fONone,fOSome,fSl,fVal,fTru,fNotT,fAndT,fOrT,fNot,fAnd,fOr,fIfE,fB,fM1,fCall,fMeth,fMake,fProp,fFld,fXf,fNeg,fRepl,fFr,frzS,frz1,flatD,fFrT,jVal,jR1,jR2,jR3,jEnumL,fYes,fLc,zAsg,zOwn,zOwnL,zDrop,zApp,zRet,zRetN,zRetL,zRetOwn,zIf,zBreak,zCont,zRaise,zTg,zPar2,zPar3,zFld,zSetSl,zFor,zTry,setTF,setM,fDef,fIni,fPur,startD,Dl.isNon,plainB,wipeD,fChain,hNil,hCons,jEnumS,fOpO,fIxO,jObj,zOwnE,zPar2E,zTg3E,zOwnN,zPar2N,zTg3N,zSetIx,fRev,fRevS,fLR1,fLR2,fCallK,fBor,fBorT,e_asI,e_asB,e_tru_non,e_tru_bl,e_tru_int,e_tru_str,e_tru_lst,e_tru_tup,e_tru_scr,e_sl_lst,e_sl_str,e_sl_tup,e_some,e_none,e_it_lst,e_it_tup,e_it_str,e_it_scr,e_r1,e_r2,e_en,e_thenS_nx,e_thenS_rt,e_thenS_rn,e_thenS_bk,e_thenS_cn,e_thenS_ex,e_afterS_nx,e_afterS_rt,e_afterS_rn,e_afterS_bk,e_afterS_cn,e_afterS_ex,e_su_nx,e_su_rt,e_su_bk,e_su_cn,e_ca_nx,e_ca_bk,e_ca_cn,e_ca_rt,e_ca_ex,e_end_nx,e_end_rt,e_end_rn,e_end_ex,e_endN_rn,e_endN_ex,e_endI_ex,e_endI_nx,e_len_str,e_len_lst,e_len_tup,e_len_scr,e_list_lst,e_list_tup,e_list_scr,e_list_str,e_tuple_lst,e_tuple_tup,e_int_int,e_int_bl,e_bool_int,e_bool_bl,e_sum,e_all,e_any,e_min,e_max,e_join_l,e_join_t,e_count,e_strip,e_split,e_add_i,e_add_s,e_add_l,e_add_t,e_sub,e_mul_i,e_mul_s,e_mul_l,e_mul_t,e_is_bl,e_not_bl,e_mod,e_div,e_pow,e_cmp,e_isN_non,e_notN_non,e_isN_bl,e_notN_bl,e_isN_int,e_notN_int,e_isN_str,e_notN_str,e_isN_lst,e_notN_lst,e_isN_tup,e_notN_tup,e_isN_obj,e_notN_obj,e_isN_scr,e_notN_scr,e_isN_tok,e_notN_tok,e_ix_l,e_ix_t,e_ix_s,e_ix_n,e_in1,e_kBl,e_enS,e_repl,e_neg,e_gcd,e_lcm,e_lenO_str,e_lenO_lst,e_lenO_tup,e_lenO_scr,e_op_int,e_op_str,e_op_lst,e_op_tup,e_ixO_str,e_ixO_scr,e_ixO_lst,e_ixO_tup,e_it_lst',e_it_tup',e_it_str',e_rev,e_revS,e_lr1,e_lr2,e_sorted,e_ownF_lst,e_ownF_non,e_par2F,e_triF,e_setIx,lis_cons,lis_nil,lisO_un,lisO_int,lisO_str,lisO_bl,lisO_non,w_sx,w_nil,w_ok,w_exc,w_bad,wp_bind,wp_noex,wp_cat,wp_need,true_and,and_true,bind_ok,bind_exc,bind_bad,bind_ask,cat,noex,reduceIte,Nat.reduceEqDiff,if_true,if_false,Bool.false_eq_true,List.getElem?_cons_zero,List.getElem?_cons_succ,List.map_cons,List.map_nil,List.replicate,List.cons_append,List.nil_append,List.append_nil,List.length_cons,List.length_nil,List.set_cons_zero,List.set_cons_succ, w_sip]
    have mn : (if ((n : Nat) : Int) < ((L : Nat) : Int) - ((b : Nat) : Int) then ((n : Nat) : Int) else ((L : Nat) : Int) - ((b : Nat) : Int)) = ((min (L - b) n : Nat) : Int) := by split <;> omega
    rw [mn]
    refine ⟨szlog (by omega) (by omega), fun c c0 c1 => ?_⟩
    obtain ⟨m, em⟩ : ∃ m : Nat, 1 + c = (m : Int) := ⟨(1 + c).toNat, by omega⟩
    rw [em]
    refine w_seq ?_
    simp only [fVar,fC,fBin,fNil,fCons,fTup,fLst,fONone,fOSome,fSl,fVal,fTru,fNotT,fAndT,fOrT,fNot,fAnd,fOr,fIfE,fB,fM1,fCall,fMeth,fMake,fProp,fFld,fXf,fNeg,fRepl,fFr,frzS,frz1,flatD,fFrT,jVal,jR1,jR2,jR3,jEnumL,fYes,fLc,zAsg,zOwn,zOwnL,zDrop,zApp,zRet,zRetN,zRetL,zRetOwn,zIf,zBreak,zCont,zRaise,zTg,zPar2,zPar3,zFld,zSetSl,zFor,zTry,setTF,setM,fDef,fIni,fPur,startD,Dl.isNon,plainB,wipeD,fChain,hNil,hCons,jEnumS,fOpO,fIxO,jObj,zOwnE,zPar2E,zTg3E,zOwnN,zPar2N,zTg3N,zSetIx,fRev,fRevS,fLR1,fLR2,fCallK,fBor,fBorT,e_asI,e_asB,e_tru_non,e_tru_bl,e_tru_int,e_tru_str,e_tru_lst,e_tru_tup,e_tru_scr,e_sl_lst,e_sl_str,e_sl_tup,e_some,e_none,e_it_lst,e_it_tup,e_it_str,e_it_scr,e_r1,e_r2,e_en,e_thenS_nx,e_thenS_rt,e_thenS_rn,e_thenS_bk,e_thenS_cn,e_thenS_ex,e_afterS_nx,e_afterS_rt,e_afterS_rn,e_afterS_bk,e_afterS_cn,e_afterS_ex,e_su_nx,e_su_rt,e_su_bk,e_su_cn,e_ca_nx,e_ca_bk,e_ca_cn,e_ca_rt,e_ca_ex,e_end_nx,e_end_rt,e_end_rn,e_end_ex,e_endN_rn,e_endN_ex,e_endI_ex,e_endI_nx,e_len_str,e_len_lst,e_len_tup,e_len_scr,e_list_lst,e_list_tup,e_list_scr,e_list_str,e_tuple_lst,e_tuple_tup,e_int_int,e_int_bl,e_bool_int,e_bool_bl,e_sum,e_all,e_any,e_min,e_max,e_join_l,e_join_t,e_count,e_strip,e_split,e_add_i,e_add_s,e_add_l,e_add_t,e_sub,e_mul_i,e_mul_s,e_mul_l,e_mul_t,e_is_bl,e_not_bl,e_mod,e_div,e_pow,e_cmp,e_isN_non,e_notN_non,e_isN_bl,e_notN_bl,e_isN_int,e_notN_int,e_isN_str,e_notN_str,e_isN_lst,e_notN_lst,e_isN_tup,e_notN_tup,e_isN_obj,e_notN_obj,e_isN_scr,e_notN_scr,e_isN_tok,e_notN_tok,e_ix_l,e_ix_t,e_ix_s,e_ix_n,e_in1,e_kBl,e_enS,e_repl,e_neg,e_gcd,e_lcm,e_lenO_str,e_lenO_lst,e_lenO_tup,e_lenO_scr,e_op_int,e_op_str,e_op_lst,e_op_tup,e_ixO_str,e_ixO_scr,e_ixO_lst,e_ixO_tup,e_it_lst',e_it_tup',e_it_str',e_rev,e_revS,e_lr1,e_lr2,e_sorted,e_ownF_lst,e_ownF_non,e_par2F,e_triF,e_setIx,lis_cons,lis_nil,lisO_un,lisO_int,lisO_str,lisO_bl,lisO_non,w_sx,w_nil,w_ok,w_exc,w_bad,wp_bind,wp_noex,wp_cat,wp_need,true_and,and_true,bind_ok,bind_exc,bind_bad,bind_ask,cat,noex,reduceIte,Nat.reduceEqDiff,if_true,if_false,Bool.false_eq_true,List.getElem?_cons_zero,List.getElem?_cons_succ,List.map_cons,List.map_nil,List.replicate,List.cons_append,List.nil_append,List.append_nil,List.length_cons,List.length_nil,List.set_cons_zero,List.set_cons_succ]
    refine wp_mono ?_ (fun _ _ z => z) (text_ok (len := m) (by omega))
    rintro _ ⟨t, rfl, ct, lt⟩
    have hwl : (ws.map wrD).length < sizeLine := by rw [List.length_map]; exact Nat.lt_of_lt_of_le (show ws.length < 101 by omega) (szL (by decide))
    refine ⟨szL (by decide), hwl, ?_⟩
    refine ⟨ws ++ [(b, t)], _, _, _, _, by rw [List.map_append] <;> rfl, by rw [List.length_append]; simp; omega, ?_⟩
    intro w hw2
    rcases List.mem_append.mp hw2 with h | h
    · exact hw w h
    · rw [List.mem_singleton.mp h]
      exact ⟨by show 0 < t.length; omega, by show b + t.length ≤ L; omega, ct⟩
end K81
set_option Elab.async false
set_option linter.all false
set_option exponentiation.threshold 4000
set_option maxRecDepth 100000
set_option maxHeartbeats 1000000
namespace K81
open PySem PySem.Spec L2 Dl Dl.Hd Res
theorem e_len_S {tbl : Nat → Option FW} {f : FE} {s : List Sl} {a : List Nat} (hl : a.length ≤ 1000) (h : f s = .ok (.str (SX.S a))) : fB (gLenO tbl) (fCons f fNil) s = .ok (.int a.length) := by
  have hs : (SX.S a).length ≤ sizeLine := szL (by rw [SX.S_len]; omega)
  exact e_b1 h (by rw [e_lenO_str, need_pos hs, SX.S_len])
theorem e_len_f {tbl : Nat → Option FW} (t : tbl 7 = some g_File_len) {f : FE} {s : List Sl} {a : List Nat} (hl : a.length ≤ 1000) (h : f s = .ok (fileD (SX.S a))) : fB (gLenO tbl) (fCons f fNil) s = .ok (.int a.length) := by
  have gl := g_len (z := SX.S a) (by rw [SX.S_len]; omega)
  rw [SX.S_len] at gl
  exact e_b1 h (lenO_obj t gl (by omega))
theorem e_len_l {tbl : Nat → Option FW} {f : FE} {s : List Sl} {xs : List D} (h : f s = .ok (.lst xs)) : fB (gLenO tbl) (fCons f fNil) s = .ok (.int xs.length) := e_b1 h e_lenO_lst
theorem e_add_S {f g : FE} {s : List Sl} {a b : List Nat} (hl : a.length + b.length ≤ 3000) (h1 : f s = .ok (.str (SX.S a))) (h2 : g s = .ok (.str (SX.S b))) : fBin pAdd f g s = .ok (.str (SX.S (a ++ b))) := e_bin h1 h2 (by rw [e_add_s, need_pos (by rw [SX.S_len, SX.S_len]; exact szL (by omega)), SX.S_cat])
theorem e_int_add {f g : FE} {s : List Sl} {i j : Nat} (h1 : f s = .ok (.int i)) (h2 : g s = .ok (.int j)) : fBin pAdd f g s = .ok (.int ((i + j : Nat) : Int)) := e_bin h1 h2 (by rw [e_add_i]; congr 2)
theorem con_len {a : List Nat} (h : conB a = true) (hl : a.length ≤ 1000) : g__is_content [.str (SX.S a)] = .ok (.bl true) := by
  have hs : (SX.S a).length ≤ sizeLine := szL (by rw [SX.S_len]; omega)
  refine e_fdef rfl ?_
  unfold f__is_content
  refine e_seq_rt (e_zRet (e_andT (e_call2 rfl rfl ((g_row hs).trans (by rw [con_row h]))) (e_bin rfl rfl ?_)))
  show pInW true (.str (Str.ofString ".")) (.str (SX.S a)) = _
  rw [dot, e_in1, S_l, decide_eq_false (con_dot h)]
  rfl
theorem is_write {w : Nat × List Nat} {L : Nat} (h : okW L w) (hL : L ≤ 1000) : g__is_write [wrD w] = .ok (.bl true) := by
  refine e_fdef rfl ?_
  unfold f__is_write
  have st : startD 3 [wrD w] = [.v (wrD w), .un, .un] := rfl
  rw [st]
  refine e_seq (s' := [.v (wrD w), .un, .un]) (e_ifF (e_orF (e_notT (e_truB (b := true) (e_b2 rfl rfl rfl))) (e_val (e_bin (e_b1 rfl e_lenO_tup) rfl (ne_int.trans rfl)))) rfl) ?_
  refine e_seq (s' := [.v (wrD w), .v (.int w.1), .v (.str (SX.S w.2))]) (e_tg rfl rfl) ?_
  have h0 := h.1
  have h1 := h.2.1
  refine e_seq_rt (e_zRet (e_andT (e_call1 rfl (g_whole rfl)) (e_andT (e_bin rfl rfl (by rw [ge_b, decide_eq_true (by omega)])) (e_andT (e_call1 rfl (con_len h.2.2 (by omega))) (e_bin (e_len_S (by omega) rfl) rfl (by rw [ge_b, decide_eq_true (by omega)]))))))
theorem fits_ok {w : Nat × List Nat} {a : List Nat} (h : okW a.length w) (hL : a.length ≤ 1000) : g_is_fitting [wrD w, fileD (SX.S a)] = .ok (.bl true) := by
  have h1 := h.2.1
  refine e_fdef rfl ?_
  unfold f_is_fitting
  exact e_seq_rt (e_zRet (e_andT (e_call1 rfl (is_write h hL)) (e_bin (e_int_add (e_bin rfl rfl rfl) (e_len_S (by omega) (e_bin rfl rfl rfl))) (e_len_f rfl hL rfl) (le_t (by omega)))))
theorem ck_write {w : Nat × List Nat} {a : List Nat} (h : okW a.length w) (hL : a.length ≤ 1000) : g_check_write [wrD w, fileD (SX.S a)] = .ok .non := by
  refine e_fdefN (s' := [.v (wrD w), .v (fileD (SX.S a))]) rfl ?_
  unfold f_check_write
  exact e_seq (e_ifF (e_notT (e_truB (e_call2 rfl rfl (fits_ok h hL)))) rfl) rfl
theorem ck_file (z : Str) : g_check_file [fileD z] = .ok .non := by
  refine e_fdefN (s' := [.v (fileD z)]) rfl ?_
  unfold f_check_file
  exact e_seq (e_ifF (e_notT (e_truB (b := true) (e_b2 rfl rfl rfl))) rfl) rfl
abbrev histD (a : List Nat) (ws : List (Nat × List Nat)) : D := .obj 8 [fileD (SX.S a), .tup (ws.map wrD)]
theorem g_Hist {a : List Nat} {ws : List (Nat × List Nat)} (hl : a.length ≤ 1000) (h : ∀ w ∈ ws, okW a.length w) : g_History_init [fileD (SX.S a), .lst (ws.map wrD)] = .ok [("_file", fileD (SX.S a)), ("_writes", .tup (ws.map wrD))] := by
  have st : (Sl.ini 8 [] :: startD 3 [fileD (SX.S a), .lst (ws.map wrD)]) = [.ini 8 [], .v (fileD (SX.S a)), .v (.lst (ws.map wrD)), .un] := rfl
  suffices H : ∃ x, f_History_init (.ini 8 [] :: startD 3 [fileD (SX.S a), .lst (ws.map wrD)]) = .ok (.nx (.ini 8 [("_file", fileD (SX.S a)), ("_writes", .tup (ws.map wrD))] :: [.v (fileD (SX.S a)), .v (.lst (ws.map wrD)), x])) by
    obtain ⟨x, H⟩ := H
    exact e_fini rfl H
  rw [st]
  unfold f_History_init
  generalize hbody : zSeq (zDrop (fCall g_check_write _ _)) _ = body
  obtain ⟨s', e, x, _, rfl⟩ := e_for_inv (q := wrD) (tg := .nm 3) (body := body)
    (fun l s => ∃ x : Sl, (∀ w ∈ l, okW a.length w) ∧ s = [.ini 8 [("_file", fileD (SX.S a)), ("_writes", .tup (ws.map wrD))], .v (fileD (SX.S a)), .v (.lst (ws.map wrD)), x])
    (l := ws) (s := [.ini 8 [("_file", fileD (SX.S a)), ("_writes", .tup (ws.map wrD))], .v (fileD (SX.S a)), .v (.lst (ws.map wrD)), .un]) ⟨.un, h, rfl⟩ (by
      rintro w l _ ⟨x, hw, rfl⟩
      refine ⟨_, [.ini 8 [("_file", fileD (SX.S a)), ("_writes", .tup (ws.map wrD))], .v (fileD (SX.S a)), .v (.lst (ws.map wrD)), .v (wrD w)], rfl, ?_, _, fun v hv => hw v (List.mem_cons_of_mem _ hv), rfl⟩
      rw [← hbody]
      exact e_seq (e_zDrop (e_call2 rfl rfl (ck_write (hw w List.mem_cons_self) hl))) rfl)
  refine ⟨x, ?_⟩
  refine e_seq (s' := [.ini 8 [], .v (fileD (SX.S a)), .v (.lst (ws.map wrD)), .un]) (e_zDrop (e_call1 rfl (ck_file _))) ?_
  refine e_seq (s' := [.ini 8 [], .v (fileD (SX.S a)), .v (.lst (ws.map wrD)), .un]) (e_ifF (e_andTT (e_val (e_bin rfl rfl rfl)) (e_notT (e_truB (b := true) (e_b2 rfl rfl rfl)))) rfl) ?_
  refine e_seq (s' := [.ini 8 [("_file", fileD (SX.S a))], .v (fileD (SX.S a)), .v (.lst (ws.map wrD)), .un]) (e_zFld (fs := []) rfl rfl rfl (by decide)) ?_
  refine e_seq (s' := [.ini 8 [("_file", fileD (SX.S a)), ("_writes", .tup (ws.map wrD))], .v (fileD (SX.S a)), .v (.lst (ws.map wrD)), .un]) (e_zFld (fs := [("_file", fileD (SX.S a))]) rfl (e_ifEF (e_val (e_bin rfl rfl rfl)) (e_b1 rfl rfl)) (by show ((Str.ofString "_file" == Str.ofString "_writes") || false) = false; decide +kernel) (by show (1 : Nat) < 900; decide)) ?_
  exact e_seq (e_zFor (by
    unfold jVal
    rw [e_fldI rfl rfl]
    rfl) e) rfl
theorem nmH {r : Res D} : need ([Str.ofString "_file", Str.ofString "_writes"] = nm[8]?.getD []) r = r := need_pos rfl
theorem mk_hist {f g : FE} {s : List Sl} {a : List Nat} {ws : List (Nat × List Nat)} (hl : a.length ≤ 1000) (h : ∀ w ∈ ws, okW a.length w) (e1 : f s = .ok (fileD (SX.S a))) (e2 : g s = .ok (.lst (ws.map wrD))) : fMake 8 (nm.getD 8 []) g_History_init [] (fCons f (fCons g fNil)) s = .ok (histD a ws) := by
  simp only [fVar,fC,fBin,fNil,fCons,fTup,fLst,fONone,fOSome,fSl,fVal,fTru,fNotT,fAndT,fOrT,fNot,fAnd,fOr,fIfE,fB,fM1,fCall,fMeth,fMake,fProp,fFld,fXf,fNeg,fRepl,fFr,frzS,frz1,flatD,fFrT,jVal,jR1,jR2,jR3,jEnumL,fYes,fLc,zNil,zSeq,zAsg,zOwn,zOwnL,zDrop,zApp,zRet,zRetN,zRetL,zRetOwn,zIf,zBreak,zCont,zRaise,zTg,zPar2,zPar3,zFld,zSetSl,zFor,zTry,sx,setTF,setM,fDef,fIni,fPur,startD,Dl.isNon,plainB,wipeD,fChain,hNil,hCons,jEnumS,fOpO,fIxO,jObj,zOwnE,zPar2E,zTg3E,zOwnN,zPar2N,zTg3N,zSetIx,fRev,fRevS,fLR1,fLR2,fCallK,fBor,fBorT,e_asI,e_asB,e_tru_non,e_tru_bl,e_tru_int,e_tru_str,e_tru_lst,e_tru_tup,e_tru_scr,e_sl_lst,e_sl_str,e_sl_tup,e_some,e_none,e_it_lst,e_it_tup,e_it_str,e_it_scr,e_r1,e_r2,e_en,e_thenS_nx,e_thenS_rt,e_thenS_rn,e_thenS_bk,e_thenS_cn,e_thenS_ex,e_afterS_nx,e_afterS_rt,e_afterS_rn,e_afterS_bk,e_afterS_cn,e_afterS_ex,e_su_nx,e_su_rt,e_su_bk,e_su_cn,e_ca_nx,e_ca_bk,e_ca_cn,e_ca_rt,e_ca_ex,e_end_nx,e_end_rt,e_end_rn,e_end_ex,e_endN_rn,e_endN_ex,e_endI_ex,e_endI_nx,e_len_str,e_len_lst,e_len_tup,e_len_scr,e_list_lst,e_list_tup,e_list_scr,e_list_str,e_tuple_lst,e_tuple_tup,e_int_int,e_int_bl,e_bool_int,e_bool_bl,e_sum,e_all,e_any,e_min,e_max,e_join_l,e_join_t,e_count,e_strip,e_split,e_add_i,e_add_s,e_add_l,e_add_t,e_sub,e_mul_i,e_mul_s,e_mul_l,e_mul_t,e_is_bl,e_not_bl,e_mod,e_div,e_pow,e_cmp,e_isN_non,e_notN_non,e_isN_bl,e_notN_bl,e_isN_int,e_notN_int,e_isN_str,e_notN_str,e_isN_lst,e_notN_lst,e_isN_tup,e_notN_tup,e_isN_obj,e_notN_obj,e_isN_scr,e_notN_scr,e_isN_tok,e_notN_tok,e_ix_l,e_ix_t,e_ix_s,e_ix_n,e_in1,e_kBl,e_enS,e_repl,e_neg,e_gcd,e_lcm,e_lenO_str,e_lenO_lst,e_lenO_tup,e_lenO_scr,e_op_int,e_op_str,e_op_lst,e_op_tup,e_ixO_str,e_ixO_scr,e_ixO_lst,e_ixO_tup,e_it_lst',e_it_tup',e_it_str',e_rev,e_revS,e_lr1,e_lr2,e_sorted,e_ownF_lst,e_ownF_non,e_par2F,e_triF,e_setIx,lis_cons,lis_nil,lisO_un,lisO_int,lisO_str,lisO_bl,lisO_non,bind_ok,bind_exc,bind_bad,bind_ask,cat,noex,need_true,reduceIte,Nat.reduceEqDiff,if_true,if_false,Bool.false_eq_true,List.getElem?_cons_zero,List.getElem?_cons_succ,List.map_cons,List.map_nil,List.replicate,List.cons_append,List.nil_append,List.append_nil,List.length_cons,List.length_nil,List.set_cons_zero,List.set_cons_succ, e1, e2, g_Hist hl h, List.getD_eq_getElem?_getD, nmH]
/-- a step by its kind (0 Full, 1 Keep, 2 Lean, 3 Dig) and size -/
def stp (k : Nat) (n : Int) : D := match k with
  | 0 => .obj 10 []
  | 1 => .obj 11 [.int n]
  | 2 => .obj 12 [.int n]
  | _ => .obj 13 [.int n]
theorem g_Full : g_Full_init [] = .ok [] := by simp [g_Full_init, f_Full_init, fVar,fC,fBin,fNil,fCons,fTup,fLst,fONone,fOSome,asI,fSl,sliceD,asB,truR,fVal,fTru,fNotT,fAndT,fOrT,fNot,fAnd,fOr,fIfE,fB,fM1,fCall,fMeth,fMake,fProp,fFld,optR,fXf,fNeg,fRepl,fFr,frzS,frz1,flatD,fFrT,jVal,itR,jR1,jR2,jR3,rng1,rng2,rng3,jEnumL,enumR,fYes,fLc,zNil,zSeq,zAsg,zOwn,zOwnL,zDrop,zApp,zRet,zRetN,zRetL,zRetOwn,zIf,zBreak,zCont,zRaise,zTg,zPar2,zPar3,zFld,zSetSl,zFor,zTry,sx,thenS,afterS,suiteF,caughtF,setTF,setM,fDef,fIni,fPur,endR,endI,endN,startD,gLen,gList,gTuple,gInt,gBool,gSum,gAll,gAny,gMin,gMax,gIsi,pAdd,pSub,pMul,pMod,pDiv,pPow,pCmp,pIsN,pNotN,Dl.isNon,isiD,kindD,isiB,plainB,wipeD,fChain,hNil,hCons,jEnumS,fOpO,fIxO,jObj,zOwnE,zPar2E,zTg3E,zOwnN,zPar2N,zTg3N,zSetIx,fRev,fRevS,fLR1,fLR2,fCallK,fBor,fBorT,Res.bind_ok,Res.bind_exc,Res.bind_bad,Res.bind_ask,Res.cat,Res.noex,Res.need_true,reduceIte,Nat.reduceEqDiff,if_true,if_false,Bool.false_eq_true,List.getElem?_cons_zero,List.getElem?_cons_succ,List.map_cons,List.map_nil,List.replicate,List.cons_append,List.nil_append,List.append_nil,List.length_cons,List.length_nil,List.set_cons_zero,List.set_cons_succ]
theorem g_Keep {v : D} (hv : valD v = true) : g_Keep_init [v] = if inBd v 1 none then .ok [("_size", v)] else .exc 2 v := by
  simp only [g_Keep_init, f_Keep_init, fVar,fC,fBin,fNil,fCons,fTup,fLst,fONone,fOSome,asI,fSl,sliceD,asB,truR,fVal,fTru,fNotT,fAndT,fOrT,fNot,fAnd,fOr,fIfE,fB,fM1,fCall,fMeth,fMake,fProp,fFld,optR,fXf,fNeg,fRepl,fFr,frzS,frz1,flatD,fFrT,jVal,itR,jR1,jR2,jR3,rng1,rng2,rng3,jEnumL,enumR,fYes,fLc,zNil,zSeq,zAsg,zOwn,zOwnL,zDrop,zApp,zRet,zRetN,zRetL,zRetOwn,zIf,zBreak,zCont,zRaise,zTg,zPar2,zPar3,zFld,zSetSl,zFor,zTry,sx,thenS,afterS,suiteF,caughtF,setTF,setM,fDef,fIni,fPur,endR,endI,endN,startD,gLen,gList,gTuple,gInt,gBool,gSum,gAll,gAny,gMin,gMax,gIsi,pAdd,pSub,pMul,pMod,pDiv,pPow,pCmp,pIsN,pNotN,Dl.isNon,isiD,kindD,isiB,plainB,wipeD,fChain,hNil,hCons,jEnumS,fOpO,fIxO,jObj,zOwnE,zPar2E,zTg3E,zOwnN,zPar2N,zTg3N,zSetIx,fRev,fRevS,fLR1,fLR2,fCallK,fBor,fBorT,Res.bind_ok,Res.bind_exc,Res.bind_bad,Res.bind_ask,Res.cat,Res.noex,Res.need_true,reduceIte,Nat.reduceEqDiff,if_true,if_false,Bool.false_eq_true,List.getElem?_cons_zero,List.getElem?_cons_succ,List.map_cons,List.map_nil,List.replicate,List.cons_append,List.nil_append,List.append_nil,List.length_cons,List.length_nil,List.set_cons_zero,List.set_cons_succ, check1 hv]
  cases inBd v 1 none <;> simp [fVar,fC,fBin,fNil,fCons,fTup,fLst,fONone,fOSome,asI,fSl,sliceD,asB,truR,fVal,fTru,fNotT,fAndT,fOrT,fNot,fAnd,fOr,fIfE,fB,fM1,fCall,fMeth,fMake,fProp,fFld,optR,fXf,fNeg,fRepl,fFr,frzS,frz1,flatD,fFrT,jVal,itR,jR1,jR2,jR3,rng1,rng2,rng3,jEnumL,enumR,fYes,fLc,zNil,zSeq,zAsg,zOwn,zOwnL,zDrop,zApp,zRet,zRetN,zRetL,zRetOwn,zIf,zBreak,zCont,zRaise,zTg,zPar2,zPar3,zFld,zSetSl,zFor,zTry,sx,thenS,afterS,suiteF,caughtF,setTF,setM,fDef,fIni,fPur,endR,endI,endN,startD,gLen,gList,gTuple,gInt,gBool,gSum,gAll,gAny,gMin,gMax,gIsi,pAdd,pSub,pMul,pMod,pDiv,pPow,pCmp,pIsN,pNotN,Dl.isNon,isiD,kindD,isiB,plainB,wipeD,fChain,hNil,hCons,jEnumS,fOpO,fIxO,jObj,zOwnE,zPar2E,zTg3E,zOwnN,zPar2N,zTg3N,zSetIx,fRev,fRevS,fLR1,fLR2,fCallK,fBor,fBorT,Res.bind_ok,Res.bind_exc,Res.bind_bad,Res.bind_ask,Res.cat,Res.noex,Res.need_true,reduceIte,Nat.reduceEqDiff,if_true,if_false,Bool.false_eq_true,List.getElem?_cons_zero,List.getElem?_cons_succ,List.map_cons,List.map_nil,List.replicate,List.cons_append,List.nil_append,List.append_nil,List.length_cons,List.length_nil,List.set_cons_zero,List.set_cons_succ]
theorem g_Lean {v : D} (hv : valD v = true) : g_Lean_init [v] = if inBd v 1 none then .ok [("_size", v)] else .exc 2 v := by
  simp only [g_Lean_init, f_Lean_init, fVar,fC,fBin,fNil,fCons,fTup,fLst,fONone,fOSome,asI,fSl,sliceD,asB,truR,fVal,fTru,fNotT,fAndT,fOrT,fNot,fAnd,fOr,fIfE,fB,fM1,fCall,fMeth,fMake,fProp,fFld,optR,fXf,fNeg,fRepl,fFr,frzS,frz1,flatD,fFrT,jVal,itR,jR1,jR2,jR3,rng1,rng2,rng3,jEnumL,enumR,fYes,fLc,zNil,zSeq,zAsg,zOwn,zOwnL,zDrop,zApp,zRet,zRetN,zRetL,zRetOwn,zIf,zBreak,zCont,zRaise,zTg,zPar2,zPar3,zFld,zSetSl,zFor,zTry,sx,thenS,afterS,suiteF,caughtF,setTF,setM,fDef,fIni,fPur,endR,endI,endN,startD,gLen,gList,gTuple,gInt,gBool,gSum,gAll,gAny,gMin,gMax,gIsi,pAdd,pSub,pMul,pMod,pDiv,pPow,pCmp,pIsN,pNotN,Dl.isNon,isiD,kindD,isiB,plainB,wipeD,fChain,hNil,hCons,jEnumS,fOpO,fIxO,jObj,zOwnE,zPar2E,zTg3E,zOwnN,zPar2N,zTg3N,zSetIx,fRev,fRevS,fLR1,fLR2,fCallK,fBor,fBorT,Res.bind_ok,Res.bind_exc,Res.bind_bad,Res.bind_ask,Res.cat,Res.noex,Res.need_true,reduceIte,Nat.reduceEqDiff,if_true,if_false,Bool.false_eq_true,List.getElem?_cons_zero,List.getElem?_cons_succ,List.map_cons,List.map_nil,List.replicate,List.cons_append,List.nil_append,List.append_nil,List.length_cons,List.length_nil,List.set_cons_zero,List.set_cons_succ, check1 hv]
  cases inBd v 1 none <;> simp [fVar,fC,fBin,fNil,fCons,fTup,fLst,fONone,fOSome,asI,fSl,sliceD,asB,truR,fVal,fTru,fNotT,fAndT,fOrT,fNot,fAnd,fOr,fIfE,fB,fM1,fCall,fMeth,fMake,fProp,fFld,optR,fXf,fNeg,fRepl,fFr,frzS,frz1,flatD,fFrT,jVal,itR,jR1,jR2,jR3,rng1,rng2,rng3,jEnumL,enumR,fYes,fLc,zNil,zSeq,zAsg,zOwn,zOwnL,zDrop,zApp,zRet,zRetN,zRetL,zRetOwn,zIf,zBreak,zCont,zRaise,zTg,zPar2,zPar3,zFld,zSetSl,zFor,zTry,sx,thenS,afterS,suiteF,caughtF,setTF,setM,fDef,fIni,fPur,endR,endI,endN,startD,gLen,gList,gTuple,gInt,gBool,gSum,gAll,gAny,gMin,gMax,gIsi,pAdd,pSub,pMul,pMod,pDiv,pPow,pCmp,pIsN,pNotN,Dl.isNon,isiD,kindD,isiB,plainB,wipeD,fChain,hNil,hCons,jEnumS,fOpO,fIxO,jObj,zOwnE,zPar2E,zTg3E,zOwnN,zPar2N,zTg3N,zSetIx,fRev,fRevS,fLR1,fLR2,fCallK,fBor,fBorT,Res.bind_ok,Res.bind_exc,Res.bind_bad,Res.bind_ask,Res.cat,Res.noex,Res.need_true,reduceIte,Nat.reduceEqDiff,if_true,if_false,Bool.false_eq_true,List.getElem?_cons_zero,List.getElem?_cons_succ,List.map_cons,List.map_nil,List.replicate,List.cons_append,List.nil_append,List.append_nil,List.length_cons,List.length_nil,List.set_cons_zero,List.set_cons_succ]
theorem g_Dig {v : D} (hv : valD v = true) : g_Dig_init [v] = if inBd v 1 none then .ok [("_size", v)] else .exc 2 v := by
  simp only [g_Dig_init, f_Dig_init, fVar,fC,fBin,fNil,fCons,fTup,fLst,fONone,fOSome,asI,fSl,sliceD,asB,truR,fVal,fTru,fNotT,fAndT,fOrT,fNot,fAnd,fOr,fIfE,fB,fM1,fCall,fMeth,fMake,fProp,fFld,optR,fXf,fNeg,fRepl,fFr,frzS,frz1,flatD,fFrT,jVal,itR,jR1,jR2,jR3,rng1,rng2,rng3,jEnumL,enumR,fYes,fLc,zNil,zSeq,zAsg,zOwn,zOwnL,zDrop,zApp,zRet,zRetN,zRetL,zRetOwn,zIf,zBreak,zCont,zRaise,zTg,zPar2,zPar3,zFld,zSetSl,zFor,zTry,sx,thenS,afterS,suiteF,caughtF,setTF,setM,fDef,fIni,fPur,endR,endI,endN,startD,gLen,gList,gTuple,gInt,gBool,gSum,gAll,gAny,gMin,gMax,gIsi,pAdd,pSub,pMul,pMod,pDiv,pPow,pCmp,pIsN,pNotN,Dl.isNon,isiD,kindD,isiB,plainB,wipeD,fChain,hNil,hCons,jEnumS,fOpO,fIxO,jObj,zOwnE,zPar2E,zTg3E,zOwnN,zPar2N,zTg3N,zSetIx,fRev,fRevS,fLR1,fLR2,fCallK,fBor,fBorT,Res.bind_ok,Res.bind_exc,Res.bind_bad,Res.bind_ask,Res.cat,Res.noex,Res.need_true,reduceIte,Nat.reduceEqDiff,if_true,if_false,Bool.false_eq_true,List.getElem?_cons_zero,List.getElem?_cons_succ,List.map_cons,List.map_nil,List.replicate,List.cons_append,List.nil_append,List.append_nil,List.length_cons,List.length_nil,List.set_cons_zero,List.set_cons_succ, check1 hv]
  cases inBd v 1 none <;> simp [fVar,fC,fBin,fNil,fCons,fTup,fLst,fONone,fOSome,asI,fSl,sliceD,asB,truR,fVal,fTru,fNotT,fAndT,fOrT,fNot,fAnd,fOr,fIfE,fB,fM1,fCall,fMeth,fMake,fProp,fFld,optR,fXf,fNeg,fRepl,fFr,frzS,frz1,flatD,fFrT,jVal,itR,jR1,jR2,jR3,rng1,rng2,rng3,jEnumL,enumR,fYes,fLc,zNil,zSeq,zAsg,zOwn,zOwnL,zDrop,zApp,zRet,zRetN,zRetL,zRetOwn,zIf,zBreak,zCont,zRaise,zTg,zPar2,zPar3,zFld,zSetSl,zFor,zTry,sx,thenS,afterS,suiteF,caughtF,setTF,setM,fDef,fIni,fPur,endR,endI,endN,startD,gLen,gList,gTuple,gInt,gBool,gSum,gAll,gAny,gMin,gMax,gIsi,pAdd,pSub,pMul,pMod,pDiv,pPow,pCmp,pIsN,pNotN,Dl.isNon,isiD,kindD,isiB,plainB,wipeD,fChain,hNil,hCons,jEnumS,fOpO,fIxO,jObj,zOwnE,zPar2E,zTg3E,zOwnN,zPar2N,zTg3N,zSetIx,fRev,fRevS,fLR1,fLR2,fCallK,fBor,fBorT,Res.bind_ok,Res.bind_exc,Res.bind_bad,Res.bind_ask,Res.cat,Res.noex,Res.need_true,reduceIte,Nat.reduceEqDiff,if_true,if_false,Bool.false_eq_true,List.getElem?_cons_zero,List.getElem?_cons_succ,List.map_cons,List.map_nil,List.replicate,List.cons_append,List.nil_append,List.append_nil,List.length_cons,List.length_nil,List.set_cons_zero,List.set_cons_succ]
theorem keep_n {n : Int} (h : 1 ≤ n) : g_Keep_init [.int n] = .ok [("_size", .int n)] := by rw [g_Keep rfl, inBd_up h, if_pos rfl]
theorem lean_n {n : Int} (h : 1 ≤ n) : g_Lean_init [.int n] = .ok [("_size", .int n)] := by rw [g_Lean rfl, inBd_up h, if_pos rfl]
theorem dig_n {n : Int} (h : 1 ≤ n) : g_Dig_init [.int n] = .ok [("_size", .int n)] := by rw [g_Dig rfl, inBd_up h, if_pos rfl]
theorem isi_stp (k : Nat) (n : Int) : gIsi subT [stp k n, .cls 9] = .ok (.bl true) := by
  unfold stp
  split <;> rfl
def stps (cs : List (Nat × Int)) : List D := cs.map fun c => stp c.1 c.2
theorem list_steps (cs : List (Nat × Int)) (h : cs.length ≤ 10000) : g__is_list_of_steps [.lst (stps cs)] = .ok (.bl true) := by
  have hl : (cs.map fun c => stp c.1 c.2).length ≤ sizeLine := szL (by rw [List.length_map]; omega)
  have e1 : gIsi subT [.lst (cs.map fun c => stp c.1 c.2), .ty "list"] = .ok (.bl true) := rfl
  simp only [g__is_list_of_steps, f__is_list_of_steps, stps, fVar,fC,fBin,fNil,fCons,fTup,fLst,fONone,fOSome,fSl,fVal,fTru,fNotT,fAndT,fOrT,fNot,fAnd,fOr,fIfE,fB,fM1,fCall,fMeth,fMake,fProp,fFld,fXf,fNeg,fRepl,fFr,frzS,frz1,flatD,fFrT,jVal,jR1,jR2,jR3,jEnumL,fYes,fLc,zNil,zSeq,zAsg,zOwn,zOwnL,zDrop,zApp,zRet,zRetN,zRetL,zRetOwn,zIf,zBreak,zCont,zRaise,zTg,zPar2,zPar3,zFld,zSetSl,zFor,zTry,sx,setTF,setM,fDef,fIni,fPur,startD,Dl.isNon,plainB,wipeD,fChain,hNil,hCons,jEnumS,fOpO,fIxO,jObj,zOwnE,zPar2E,zTg3E,zOwnN,zPar2N,zTg3N,zSetIx,fRev,fRevS,fLR1,fLR2,fCallK,fBor,fBorT,e_asI,e_asB,e_tru_non,e_tru_bl,e_tru_int,e_tru_str,e_tru_lst,e_tru_tup,e_tru_scr,e_sl_lst,e_sl_str,e_sl_tup,e_some,e_none,e_it_lst,e_it_tup,e_it_str,e_it_scr,e_r1,e_r2,e_en,e_thenS_nx,e_thenS_rt,e_thenS_rn,e_thenS_bk,e_thenS_cn,e_thenS_ex,e_afterS_nx,e_afterS_rt,e_afterS_rn,e_afterS_bk,e_afterS_cn,e_afterS_ex,e_su_nx,e_su_rt,e_su_bk,e_su_cn,e_ca_nx,e_ca_bk,e_ca_cn,e_ca_rt,e_ca_ex,e_end_nx,e_end_rt,e_end_rn,e_end_ex,e_endN_rn,e_endN_ex,e_endI_ex,e_endI_nx,e_len_str,e_len_lst,e_len_tup,e_len_scr,e_list_lst,e_list_tup,e_list_scr,e_list_str,e_tuple_lst,e_tuple_tup,e_int_int,e_int_bl,e_bool_int,e_bool_bl,e_sum,e_all,e_any,e_min,e_max,e_join_l,e_join_t,e_count,e_strip,e_split,e_add_i,e_add_s,e_add_l,e_add_t,e_sub,e_mul_i,e_mul_s,e_mul_l,e_mul_t,e_is_bl,e_not_bl,e_mod,e_div,e_pow,e_cmp,e_isN_non,e_notN_non,e_isN_bl,e_notN_bl,e_isN_int,e_notN_int,e_isN_str,e_notN_str,e_isN_lst,e_notN_lst,e_isN_tup,e_notN_tup,e_isN_obj,e_notN_obj,e_isN_scr,e_notN_scr,e_isN_tok,e_notN_tok,e_ix_l,e_ix_t,e_ix_s,e_ix_n,e_in1,e_kBl,e_enS,e_repl,e_neg,e_gcd,e_lcm,e_lenO_str,e_lenO_lst,e_lenO_tup,e_lenO_scr,e_op_int,e_op_str,e_op_lst,e_op_tup,e_ixO_str,e_ixO_scr,e_ixO_lst,e_ixO_tup,e_it_lst',e_it_tup',e_it_str',e_rev,e_revS,e_lr1,e_lr2,e_sorted,e_ownF_lst,e_ownF_non,e_par2F,e_triF,e_setIx,lis_cons,lis_nil,lisO_un,lisO_int,lisO_str,lisO_bl,lisO_non,bind_ok,bind_exc,bind_bad,bind_ask,cat,noex,need_true,reduceIte,Nat.reduceEqDiff,if_true,if_false,Bool.false_eq_true,List.getElem?_cons_zero,List.getElem?_cons_succ,List.map_cons,List.map_nil,List.replicate,List.cons_append,List.nil_append,List.append_nil,List.length_cons,List.length_nil,List.set_cons_zero,List.set_cons_succ, e1, if_true]
  rw [need_pos hl, comp_mapG (f := fun _ => .bl true) fun c hc => by simp only [fVar,fC,fBin,fNil,fCons,fTup,fLst,fONone,fOSome,fSl,fVal,fTru,fNotT,fAndT,fOrT,fNot,fAnd,fOr,fIfE,fB,fM1,fCall,fMeth,fMake,fProp,fFld,fXf,fNeg,fRepl,fFr,frzS,frz1,flatD,fFrT,jVal,jR1,jR2,jR3,jEnumL,fYes,fLc,zNil,zSeq,zAsg,zOwn,zOwnL,zDrop,zApp,zRet,zRetN,zRetL,zRetOwn,zIf,zBreak,zCont,zRaise,zTg,zPar2,zPar3,zFld,zSetSl,zFor,zTry,sx,setTF,setM,fDef,fIni,fPur,startD,Dl.isNon,plainB,wipeD,fChain,hNil,hCons,jEnumS,fOpO,fIxO,jObj,zOwnE,zPar2E,zTg3E,zOwnN,zPar2N,zTg3N,zSetIx,fRev,fRevS,fLR1,fLR2,fCallK,fBor,fBorT,e_asI,e_asB,e_tru_non,e_tru_bl,e_tru_int,e_tru_str,e_tru_lst,e_tru_tup,e_tru_scr,e_sl_lst,e_sl_str,e_sl_tup,e_some,e_none,e_it_lst,e_it_tup,e_it_str,e_it_scr,e_r1,e_r2,e_en,e_thenS_nx,e_thenS_rt,e_thenS_rn,e_thenS_bk,e_thenS_cn,e_thenS_ex,e_afterS_nx,e_afterS_rt,e_afterS_rn,e_afterS_bk,e_afterS_cn,e_afterS_ex,e_su_nx,e_su_rt,e_su_bk,e_su_cn,e_ca_nx,e_ca_bk,e_ca_cn,e_ca_rt,e_ca_ex,e_end_nx,e_end_rt,e_end_rn,e_end_ex,e_endN_rn,e_endN_ex,e_endI_ex,e_endI_nx,e_len_str,e_len_lst,e_len_tup,e_len_scr,e_list_lst,e_list_tup,e_list_scr,e_list_str,e_tuple_lst,e_tuple_tup,e_int_int,e_int_bl,e_bool_int,e_bool_bl,e_sum,e_all,e_any,e_min,e_max,e_join_l,e_join_t,e_count,e_strip,e_split,e_add_i,e_add_s,e_add_l,e_add_t,e_sub,e_mul_i,e_mul_s,e_mul_l,e_mul_t,e_is_bl,e_not_bl,e_mod,e_div,e_pow,e_cmp,e_isN_non,e_notN_non,e_isN_bl,e_notN_bl,e_isN_int,e_notN_int,e_isN_str,e_notN_str,e_isN_lst,e_notN_lst,e_isN_tup,e_notN_tup,e_isN_obj,e_notN_obj,e_isN_scr,e_notN_scr,e_isN_tok,e_notN_tok,e_ix_l,e_ix_t,e_ix_s,e_ix_n,e_in1,e_kBl,e_enS,e_repl,e_neg,e_gcd,e_lcm,e_lenO_str,e_lenO_lst,e_lenO_tup,e_lenO_scr,e_op_int,e_op_str,e_op_lst,e_op_tup,e_ixO_str,e_ixO_scr,e_ixO_lst,e_ixO_tup,e_it_lst',e_it_tup',e_it_str',e_rev,e_revS,e_lr1,e_lr2,e_sorted,e_ownF_lst,e_ownF_non,e_par2F,e_triF,e_setIx,lis_cons,lis_nil,lisO_un,lisO_int,lisO_str,lisO_bl,lisO_non,bind_ok,bind_exc,bind_bad,bind_ask,cat,noex,need_true,reduceIte,Nat.reduceEqDiff,if_true,if_false,Bool.false_eq_true,List.getElem?_cons_zero,List.getElem?_cons_succ,List.map_cons,List.map_nil,List.replicate,List.cons_append,List.nil_append,List.append_nil,List.length_cons,List.length_nil,List.set_cons_zero,List.set_cons_succ, isi_stp]]
  simp only [fVar,fC,fBin,fNil,fCons,fTup,fLst,fONone,fOSome,fSl,fVal,fTru,fNotT,fAndT,fOrT,fNot,fAnd,fOr,fIfE,fB,fM1,fCall,fMeth,fMake,fProp,fFld,fXf,fNeg,fRepl,fFr,frzS,frz1,flatD,fFrT,jVal,jR1,jR2,jR3,jEnumL,fYes,fLc,zNil,zSeq,zAsg,zOwn,zOwnL,zDrop,zApp,zRet,zRetN,zRetL,zRetOwn,zIf,zBreak,zCont,zRaise,zTg,zPar2,zPar3,zFld,zSetSl,zFor,zTry,sx,setTF,setM,fDef,fIni,fPur,startD,Dl.isNon,plainB,wipeD,fChain,hNil,hCons,jEnumS,fOpO,fIxO,jObj,zOwnE,zPar2E,zTg3E,zOwnN,zPar2N,zTg3N,zSetIx,fRev,fRevS,fLR1,fLR2,fCallK,fBor,fBorT,e_asI,e_asB,e_tru_non,e_tru_bl,e_tru_int,e_tru_str,e_tru_lst,e_tru_tup,e_tru_scr,e_sl_lst,e_sl_str,e_sl_tup,e_some,e_none,e_it_lst,e_it_tup,e_it_str,e_it_scr,e_r1,e_r2,e_en,e_thenS_nx,e_thenS_rt,e_thenS_rn,e_thenS_bk,e_thenS_cn,e_thenS_ex,e_afterS_nx,e_afterS_rt,e_afterS_rn,e_afterS_bk,e_afterS_cn,e_afterS_ex,e_su_nx,e_su_rt,e_su_bk,e_su_cn,e_ca_nx,e_ca_bk,e_ca_cn,e_ca_rt,e_ca_ex,e_end_nx,e_end_rt,e_end_rn,e_end_ex,e_endN_rn,e_endN_ex,e_endI_ex,e_endI_nx,e_len_str,e_len_lst,e_len_tup,e_len_scr,e_list_lst,e_list_tup,e_list_scr,e_list_str,e_tuple_lst,e_tuple_tup,e_int_int,e_int_bl,e_bool_int,e_bool_bl,e_sum,e_all,e_any,e_min,e_max,e_join_l,e_join_t,e_count,e_strip,e_split,e_add_i,e_add_s,e_add_l,e_add_t,e_sub,e_mul_i,e_mul_s,e_mul_l,e_mul_t,e_is_bl,e_not_bl,e_mod,e_div,e_pow,e_cmp,e_isN_non,e_notN_non,e_isN_bl,e_notN_bl,e_isN_int,e_notN_int,e_isN_str,e_notN_str,e_isN_lst,e_notN_lst,e_isN_tup,e_notN_tup,e_isN_obj,e_notN_obj,e_isN_scr,e_notN_scr,e_isN_tok,e_notN_tok,e_ix_l,e_ix_t,e_ix_s,e_ix_n,e_in1,e_kBl,e_enS,e_repl,e_neg,e_gcd,e_lcm,e_lenO_str,e_lenO_lst,e_lenO_tup,e_lenO_scr,e_op_int,e_op_str,e_op_lst,e_op_tup,e_ixO_str,e_ixO_scr,e_ixO_lst,e_ixO_tup,e_it_lst',e_it_tup',e_it_str',e_rev,e_revS,e_lr1,e_lr2,e_sorted,e_ownF_lst,e_ownF_non,e_par2F,e_triF,e_setIx,lis_cons,lis_nil,lisO_un,lisO_int,lisO_str,lisO_bl,lisO_non,bind_ok,bind_exc,bind_bad,bind_ask,cat,noex,need_true,reduceIte,Nat.reduceEqDiff,if_true,if_false,Bool.false_eq_true,List.getElem?_cons_zero,List.getElem?_cons_succ,List.map_cons,List.map_nil,List.replicate,List.cons_append,List.nil_append,List.append_nil,List.length_cons,List.length_nil,List.set_cons_zero,List.set_cons_succ, toBls_mapG, all_mapId]
  simp [fVar,fC,fBin,fNil,fCons,fTup,fLst,fONone,fOSome,fSl,fVal,fTru,fNotT,fAndT,fOrT,fNot,fAnd,fOr,fIfE,fB,fM1,fCall,fMeth,fMake,fProp,fFld,fXf,fNeg,fRepl,fFr,frzS,frz1,flatD,fFrT,jVal,jR1,jR2,jR3,jEnumL,fYes,fLc,zNil,zSeq,zAsg,zOwn,zOwnL,zDrop,zApp,zRet,zRetN,zRetL,zRetOwn,zIf,zBreak,zCont,zRaise,zTg,zPar2,zPar3,zFld,zSetSl,zFor,zTry,sx,setTF,setM,fDef,fIni,fPur,startD,Dl.isNon,plainB,wipeD,fChain,hNil,hCons,jEnumS,fOpO,fIxO,jObj,zOwnE,zPar2E,zTg3E,zOwnN,zPar2N,zTg3N,zSetIx,fRev,fRevS,fLR1,fLR2,fCallK,fBor,fBorT,e_asI,e_asB,e_tru_non,e_tru_bl,e_tru_int,e_tru_str,e_tru_lst,e_tru_tup,e_tru_scr,e_sl_lst,e_sl_str,e_sl_tup,e_some,e_none,e_it_lst,e_it_tup,e_it_str,e_it_scr,e_r1,e_r2,e_en,e_thenS_nx,e_thenS_rt,e_thenS_rn,e_thenS_bk,e_thenS_cn,e_thenS_ex,e_afterS_nx,e_afterS_rt,e_afterS_rn,e_afterS_bk,e_afterS_cn,e_afterS_ex,e_su_nx,e_su_rt,e_su_bk,e_su_cn,e_ca_nx,e_ca_bk,e_ca_cn,e_ca_rt,e_ca_ex,e_end_nx,e_end_rt,e_end_rn,e_end_ex,e_endN_rn,e_endN_ex,e_endI_ex,e_endI_nx,e_len_str,e_len_lst,e_len_tup,e_len_scr,e_list_lst,e_list_tup,e_list_scr,e_list_str,e_tuple_lst,e_tuple_tup,e_int_int,e_int_bl,e_bool_int,e_bool_bl,e_sum,e_all,e_any,e_min,e_max,e_join_l,e_join_t,e_count,e_strip,e_split,e_add_i,e_add_s,e_add_l,e_add_t,e_sub,e_mul_i,e_mul_s,e_mul_l,e_mul_t,e_is_bl,e_not_bl,e_mod,e_div,e_pow,e_cmp,e_isN_non,e_notN_non,e_isN_bl,e_notN_bl,e_isN_int,e_notN_int,e_isN_str,e_notN_str,e_isN_lst,e_notN_lst,e_isN_tup,e_notN_tup,e_isN_obj,e_notN_obj,e_isN_scr,e_notN_scr,e_isN_tok,e_notN_tok,e_ix_l,e_ix_t,e_ix_s,e_ix_n,e_in1,e_kBl,e_enS,e_repl,e_neg,e_gcd,e_lcm,e_lenO_str,e_lenO_lst,e_lenO_tup,e_lenO_scr,e_op_int,e_op_str,e_op_lst,e_op_tup,e_ixO_str,e_ixO_scr,e_ixO_lst,e_ixO_tup,e_it_lst',e_it_tup',e_it_str',e_rev,e_revS,e_lr1,e_lr2,e_sorted,e_ownF_lst,e_ownF_non,e_par2F,e_triF,e_setIx,lis_cons,lis_nil,lisO_un,lisO_int,lisO_str,lisO_bl,lisO_non,bind_ok,bind_exc,bind_bad,bind_ask,cat,noex,need_true,reduceIte,Nat.reduceEqDiff,if_true,if_false,Bool.false_eq_true,List.getElem?_cons_zero,List.getElem?_cons_succ,List.map_cons,List.map_nil,List.replicate,List.cons_append,List.nil_append,List.append_nil,List.length_cons,List.length_nil,List.set_cons_zero,List.set_cons_succ]
theorem g_Script (cs : List (Nat × Int)) (h : cs.length ≤ 10000) : g_Script_init [.lst (stps cs)] = .ok [("_steps", .tup (stps cs))] := by
  simp only [g_Script_init, f_Script_init, fVar,fC,fBin,fNil,fCons,fTup,fLst,fONone,fOSome,fSl,fVal,fTru,fNotT,fAndT,fOrT,fNot,fAnd,fOr,fIfE,fB,fM1,fCall,fMeth,fMake,fProp,fFld,fXf,fNeg,fRepl,fFr,frzS,frz1,flatD,fFrT,jVal,jR1,jR2,jR3,jEnumL,fYes,fLc,zNil,zSeq,zAsg,zOwn,zOwnL,zDrop,zApp,zRet,zRetN,zRetL,zRetOwn,zIf,zBreak,zCont,zRaise,zTg,zPar2,zPar3,zFld,zSetSl,zFor,zTry,sx,setTF,setM,fDef,fIni,fPur,startD,Dl.isNon,plainB,wipeD,fChain,hNil,hCons,jEnumS,fOpO,fIxO,jObj,zOwnE,zPar2E,zTg3E,zOwnN,zPar2N,zTg3N,zSetIx,fRev,fRevS,fLR1,fLR2,fCallK,fBor,fBorT,e_asI,e_asB,e_tru_non,e_tru_bl,e_tru_int,e_tru_str,e_tru_lst,e_tru_tup,e_tru_scr,e_sl_lst,e_sl_str,e_sl_tup,e_some,e_none,e_it_lst,e_it_tup,e_it_str,e_it_scr,e_r1,e_r2,e_en,e_thenS_nx,e_thenS_rt,e_thenS_rn,e_thenS_bk,e_thenS_cn,e_thenS_ex,e_afterS_nx,e_afterS_rt,e_afterS_rn,e_afterS_bk,e_afterS_cn,e_afterS_ex,e_su_nx,e_su_rt,e_su_bk,e_su_cn,e_ca_nx,e_ca_bk,e_ca_cn,e_ca_rt,e_ca_ex,e_end_nx,e_end_rt,e_end_rn,e_end_ex,e_endN_rn,e_endN_ex,e_endI_ex,e_endI_nx,e_len_str,e_len_lst,e_len_tup,e_len_scr,e_list_lst,e_list_tup,e_list_scr,e_list_str,e_tuple_lst,e_tuple_tup,e_int_int,e_int_bl,e_bool_int,e_bool_bl,e_sum,e_all,e_any,e_min,e_max,e_join_l,e_join_t,e_count,e_strip,e_split,e_add_i,e_add_s,e_add_l,e_add_t,e_sub,e_mul_i,e_mul_s,e_mul_l,e_mul_t,e_is_bl,e_not_bl,e_mod,e_div,e_pow,e_cmp,e_isN_non,e_notN_non,e_isN_bl,e_notN_bl,e_isN_int,e_notN_int,e_isN_str,e_notN_str,e_isN_lst,e_notN_lst,e_isN_tup,e_notN_tup,e_isN_obj,e_notN_obj,e_isN_scr,e_notN_scr,e_isN_tok,e_notN_tok,e_ix_l,e_ix_t,e_ix_s,e_ix_n,e_in1,e_kBl,e_enS,e_repl,e_neg,e_gcd,e_lcm,e_lenO_str,e_lenO_lst,e_lenO_tup,e_lenO_scr,e_op_int,e_op_str,e_op_lst,e_op_tup,e_ixO_str,e_ixO_scr,e_ixO_lst,e_ixO_tup,e_it_lst',e_it_tup',e_it_str',e_rev,e_revS,e_lr1,e_lr2,e_sorted,e_ownF_lst,e_ownF_non,e_par2F,e_triF,e_setIx,lis_cons,lis_nil,lisO_un,lisO_int,lisO_str,lisO_bl,lisO_non,bind_ok,bind_exc,bind_bad,bind_ask,cat,noex,need_true,reduceIte,Nat.reduceEqDiff,if_true,if_false,Bool.false_eq_true,List.getElem?_cons_zero,List.getElem?_cons_succ,List.map_cons,List.map_nil,List.replicate,List.cons_append,List.nil_append,List.append_nil,List.length_cons,List.length_nil,List.set_cons_zero,List.set_cons_succ, list_steps cs h]
  simp [fVar,fC,fBin,fNil,fCons,fTup,fLst,fONone,fOSome,fSl,fVal,fTru,fNotT,fAndT,fOrT,fNot,fAnd,fOr,fIfE,fB,fM1,fCall,fMeth,fMake,fProp,fFld,fXf,fNeg,fRepl,fFr,frzS,frz1,flatD,fFrT,jVal,jR1,jR2,jR3,jEnumL,fYes,fLc,zNil,zSeq,zAsg,zOwn,zOwnL,zDrop,zApp,zRet,zRetN,zRetL,zRetOwn,zIf,zBreak,zCont,zRaise,zTg,zPar2,zPar3,zFld,zSetSl,zFor,zTry,sx,setTF,setM,fDef,fIni,fPur,startD,Dl.isNon,plainB,wipeD,fChain,hNil,hCons,jEnumS,fOpO,fIxO,jObj,zOwnE,zPar2E,zTg3E,zOwnN,zPar2N,zTg3N,zSetIx,fRev,fRevS,fLR1,fLR2,fCallK,fBor,fBorT,e_asI,e_asB,e_tru_non,e_tru_bl,e_tru_int,e_tru_str,e_tru_lst,e_tru_tup,e_tru_scr,e_sl_lst,e_sl_str,e_sl_tup,e_some,e_none,e_it_lst,e_it_tup,e_it_str,e_it_scr,e_r1,e_r2,e_en,e_thenS_nx,e_thenS_rt,e_thenS_rn,e_thenS_bk,e_thenS_cn,e_thenS_ex,e_afterS_nx,e_afterS_rt,e_afterS_rn,e_afterS_bk,e_afterS_cn,e_afterS_ex,e_su_nx,e_su_rt,e_su_bk,e_su_cn,e_ca_nx,e_ca_bk,e_ca_cn,e_ca_rt,e_ca_ex,e_end_nx,e_end_rt,e_end_rn,e_end_ex,e_endN_rn,e_endN_ex,e_endI_ex,e_endI_nx,e_len_str,e_len_lst,e_len_tup,e_len_scr,e_list_lst,e_list_tup,e_list_scr,e_list_str,e_tuple_lst,e_tuple_tup,e_int_int,e_int_bl,e_bool_int,e_bool_bl,e_sum,e_all,e_any,e_min,e_max,e_join_l,e_join_t,e_count,e_strip,e_split,e_add_i,e_add_s,e_add_l,e_add_t,e_sub,e_mul_i,e_mul_s,e_mul_l,e_mul_t,e_is_bl,e_not_bl,e_mod,e_div,e_pow,e_cmp,e_isN_non,e_notN_non,e_isN_bl,e_notN_bl,e_isN_int,e_notN_int,e_isN_str,e_notN_str,e_isN_lst,e_notN_lst,e_isN_tup,e_notN_tup,e_isN_obj,e_notN_obj,e_isN_scr,e_notN_scr,e_isN_tok,e_notN_tok,e_ix_l,e_ix_t,e_ix_s,e_ix_n,e_in1,e_kBl,e_enS,e_repl,e_neg,e_gcd,e_lcm,e_lenO_str,e_lenO_lst,e_lenO_tup,e_lenO_scr,e_op_int,e_op_str,e_op_lst,e_op_tup,e_ixO_str,e_ixO_scr,e_ixO_lst,e_ixO_tup,e_it_lst',e_it_tup',e_it_str',e_rev,e_revS,e_lr1,e_lr2,e_sorted,e_ownF_lst,e_ownF_non,e_par2F,e_triF,e_setIx,lis_cons,lis_nil,lisO_un,lisO_int,lisO_str,lisO_bl,lisO_non,bind_ok,bind_exc,bind_bad,bind_ask,cat,noex,need_true,reduceIte,Nat.reduceEqDiff,if_true,if_false,Bool.false_eq_true,List.getElem?_cons_zero,List.getElem?_cons_succ,List.map_cons,List.map_nil,List.replicate,List.cons_append,List.nil_append,List.append_nil,List.length_cons,List.length_nil,List.set_cons_zero,List.set_cons_succ]
theorem g_Script0 : g_Script_init [.non] = .ok [("_steps", .tup [])] := by
  simp [g_Script_init, f_Script_init, fVar,fC,fBin,fNil,fCons,fTup,fLst,fONone,fOSome,fSl,fVal,fTru,fNotT,fAndT,fOrT,fNot,fAnd,fOr,fIfE,fB,fM1,fCall,fMeth,fMake,fProp,fFld,fXf,fNeg,fRepl,fFr,frzS,frz1,flatD,fFrT,jVal,jR1,jR2,jR3,jEnumL,fYes,fLc,zNil,zSeq,zAsg,zOwn,zOwnL,zDrop,zApp,zRet,zRetN,zRetL,zRetOwn,zIf,zBreak,zCont,zRaise,zTg,zPar2,zPar3,zFld,zSetSl,zFor,zTry,sx,setTF,setM,fDef,fIni,fPur,startD,Dl.isNon,plainB,wipeD,fChain,hNil,hCons,jEnumS,fOpO,fIxO,jObj,zOwnE,zPar2E,zTg3E,zOwnN,zPar2N,zTg3N,zSetIx,fRev,fRevS,fLR1,fLR2,fCallK,fBor,fBorT,e_asI,e_asB,e_tru_non,e_tru_bl,e_tru_int,e_tru_str,e_tru_lst,e_tru_tup,e_tru_scr,e_sl_lst,e_sl_str,e_sl_tup,e_some,e_none,e_it_lst,e_it_tup,e_it_str,e_it_scr,e_r1,e_r2,e_en,e_thenS_nx,e_thenS_rt,e_thenS_rn,e_thenS_bk,e_thenS_cn,e_thenS_ex,e_afterS_nx,e_afterS_rt,e_afterS_rn,e_afterS_bk,e_afterS_cn,e_afterS_ex,e_su_nx,e_su_rt,e_su_bk,e_su_cn,e_ca_nx,e_ca_bk,e_ca_cn,e_ca_rt,e_ca_ex,e_end_nx,e_end_rt,e_end_rn,e_end_ex,e_endN_rn,e_endN_ex,e_endI_ex,e_endI_nx,e_len_str,e_len_lst,e_len_tup,e_len_scr,e_list_lst,e_list_tup,e_list_scr,e_list_str,e_tuple_lst,e_tuple_tup,e_int_int,e_int_bl,e_bool_int,e_bool_bl,e_sum,e_all,e_any,e_min,e_max,e_join_l,e_join_t,e_count,e_strip,e_split,e_add_i,e_add_s,e_add_l,e_add_t,e_sub,e_mul_i,e_mul_s,e_mul_l,e_mul_t,e_is_bl,e_not_bl,e_mod,e_div,e_pow,e_cmp,e_isN_non,e_notN_non,e_isN_bl,e_notN_bl,e_isN_int,e_notN_int,e_isN_str,e_notN_str,e_isN_lst,e_notN_lst,e_isN_tup,e_notN_tup,e_isN_obj,e_notN_obj,e_isN_scr,e_notN_scr,e_isN_tok,e_notN_tok,e_ix_l,e_ix_t,e_ix_s,e_ix_n,e_in1,e_kBl,e_enS,e_repl,e_neg,e_gcd,e_lcm,e_lenO_str,e_lenO_lst,e_lenO_tup,e_lenO_scr,e_op_int,e_op_str,e_op_lst,e_op_tup,e_ixO_str,e_ixO_scr,e_ixO_lst,e_ixO_tup,e_it_lst',e_it_tup',e_it_str',e_rev,e_revS,e_lr1,e_lr2,e_sorted,e_ownF_lst,e_ownF_non,e_par2F,e_triF,e_setIx,lis_cons,lis_nil,lisO_un,lisO_int,lisO_str,lisO_bl,lisO_non,bind_ok,bind_exc,bind_bad,bind_ask,cat,noex,need_true,reduceIte,Nat.reduceEqDiff,if_true,if_false,Bool.false_eq_true,List.getElem?_cons_zero,List.getElem?_cons_succ,List.map_cons,List.map_nil,List.replicate,List.cons_append,List.nil_append,List.append_nil,List.length_cons,List.length_nil,List.set_cons_zero,List.set_cons_succ]
end K81
set_option Elab.async false
set_option linter.all false
set_option exponentiation.threshold 4000
set_option maxRecDepth 100000
set_option maxHeartbeats 1000000
namespace K81
open PySem PySem.Spec L2 Dl Dl.Hd Res
theorem g_rowG {z w : Str} (hz : z.length ≤ sizeLine) : g_is_row [.str z, .str w] = .ok (.bl (z.cps.toList.all fun c => decide (c ∈ w.cps.toList))) := by
  simp only [g_is_row, f_is_row, fVar,fC,fBin,fNil,fCons,fTup,fLst,fONone,fOSome,asI,fSl,sliceD,asB,truR,fVal,fTru,fNotT,fAndT,fOrT,fNot,fAnd,fOr,fIfE,fB,fM1,fCall,fMeth,fMake,fProp,fFld,optR,fXf,fNeg,fRepl,fFr,frzS,frz1,flatD,fFrT,jVal,itR,jR1,jR2,jR3,rng1,rng2,rng3,jEnumL,enumR,fYes,fLc,zNil,zSeq,zAsg,zOwn,zOwnL,zDrop,zApp,zRet,zRetN,zRetL,zRetOwn,zIf,zBreak,zCont,zRaise,zTg,zPar2,zPar3,zFld,zSetSl,zFor,zTry,sx,thenS,afterS,suiteF,caughtF,setTF,setM,fDef,fIni,fPur,endR,endI,endN,startD,gLen,gList,gTuple,gInt,gBool,gSum,gAll,gAny,gMin,gMax,gIsi,pAdd,pSub,pMul,pMod,pDiv,pPow,pCmp,pIsN,pNotN,Dl.isNon,isiD,kindD,isiB,plainB,wipeD,fChain,hNil,hCons,jEnumS,fOpO,fIxO,jObj,zOwnE,zPar2E,zTg3E,zOwnN,zPar2N,zTg3N,zSetIx,fRev,fRevS,fLR1,fLR2,fCallK,fBor,fBorT,Res.bind_ok,Res.bind_exc,Res.bind_bad,Res.bind_ask,Res.cat,Res.noex,Res.need_true,reduceIte,Nat.reduceEqDiff,if_true,if_false,Bool.false_eq_true,List.getElem?_cons_zero,List.getElem?_cons_succ,List.map_cons,List.map_nil,List.replicate,List.cons_append,List.nil_append,List.append_nil,List.length_cons,List.length_nil,List.set_cons_zero,List.set_cons_succ, chk, hz]
  unfold chrs
  rw [comp_mapG (f := fun c => .bl (decide (c ∈ w.cps.toList))) fun c hc => by simp [fVar,fC,fBin,fNil,fCons,fTup,fLst,fONone,fOSome,asI,fSl,sliceD,asB,truR,fVal,fTru,fNotT,fAndT,fOrT,fNot,fAnd,fOr,fIfE,fB,fM1,fCall,fMeth,fMake,fProp,fFld,optR,fXf,fNeg,fRepl,fFr,frzS,frz1,flatD,fFrT,jVal,itR,jR1,jR2,jR3,rng1,rng2,rng3,jEnumL,enumR,fYes,fLc,zNil,zSeq,zAsg,zOwn,zOwnL,zDrop,zApp,zRet,zRetN,zRetL,zRetOwn,zIf,zBreak,zCont,zRaise,zTg,zPar2,zPar3,zFld,zSetSl,zFor,zTry,sx,thenS,afterS,suiteF,caughtF,setTF,setM,fDef,fIni,fPur,endR,endI,endN,startD,gLen,gList,gTuple,gInt,gBool,gSum,gAll,gAny,gMin,gMax,gIsi,pAdd,pSub,pMul,pMod,pDiv,pPow,pCmp,pIsN,pNotN,Dl.isNon,isiD,kindD,isiB,plainB,wipeD,fChain,hNil,hCons,jEnumS,fOpO,fIxO,jObj,zOwnE,zPar2E,zTg3E,zOwnN,zPar2N,zTg3N,zSetIx,fRev,fRevS,fLR1,fLR2,fCallK,fBor,fBorT,Res.bind_ok,Res.bind_exc,Res.bind_bad,Res.bind_ask,Res.cat,Res.noex,Res.need_true,reduceIte,Nat.reduceEqDiff,if_true,if_false,Bool.false_eq_true,List.getElem?_cons_zero,List.getElem?_cons_succ,List.map_cons,List.map_nil,List.replicate,List.cons_append,List.nil_append,List.append_nil,List.length_cons,List.length_nil,List.set_cons_zero,List.set_cons_succ, pInW]]
  simp only [fVar,fC,fBin,fNil,fCons,fTup,fLst,fONone,fOSome,asI,fSl,sliceD,asB,truR,fVal,fTru,fNotT,fAndT,fOrT,fNot,fAnd,fOr,fIfE,fB,fM1,fCall,fMeth,fMake,fProp,fFld,optR,fXf,fNeg,fRepl,fFr,frzS,frz1,flatD,fFrT,jVal,itR,jR1,jR2,jR3,rng1,rng2,rng3,jEnumL,enumR,fYes,fLc,zNil,zSeq,zAsg,zOwn,zOwnL,zDrop,zApp,zRet,zRetN,zRetL,zRetOwn,zIf,zBreak,zCont,zRaise,zTg,zPar2,zPar3,zFld,zSetSl,zFor,zTry,sx,thenS,afterS,suiteF,caughtF,setTF,setM,fDef,fIni,fPur,endR,endI,endN,startD,gLen,gList,gTuple,gInt,gBool,gSum,gAll,gAny,gMin,gMax,gIsi,pAdd,pSub,pMul,pMod,pDiv,pPow,pCmp,pIsN,pNotN,Dl.isNon,isiD,kindD,isiB,plainB,wipeD,fChain,hNil,hCons,jEnumS,fOpO,fIxO,jObj,zOwnE,zPar2E,zTg3E,zOwnN,zPar2N,zTg3N,zSetIx,fRev,fRevS,fLR1,fLR2,fCallK,fBor,fBorT,Res.bind_ok,Res.bind_exc,Res.bind_bad,Res.bind_ask,Res.cat,Res.noex,Res.need_true,reduceIte,Nat.reduceEqDiff,if_true,if_false,Bool.false_eq_true,List.getElem?_cons_zero,List.getElem?_cons_succ,List.map_cons,List.map_nil,List.replicate,List.cons_append,List.nil_append,List.append_nil,List.length_cons,List.length_nil,List.set_cons_zero,List.set_cons_succ, toBls_mapG, all_mapId]
  rfl
def numD : Option Nat → D
  | none => .non
  | some n => .int n
theorem fig_l : ("0123456789" : Str).cps.toList = [48, 49, 50, 51, 52, 53, 54, 55, 56, 57] := by decide +kernel
theorem fig_dig (c : Nat) : decide (c ∈ ("0123456789" : Str).cps.toList) = digB c := by
  rw [fig_l, Bool.eq_iff_iff, decide_eq_true_eq]
  unfold digB
  rw [Bool.and_eq_true, decide_eq_true_eq, decide_eq_true_eq]
  simp only [List.mem_cons, List.not_mem_nil, or_false]
  omega
theorem empty_S : ("" : Str) = SX.S [] := by decide +kernel
theorem S_beq2 (a b : List Nat) : ((SX.S a) == (SX.S b)) = decide (a = b) := SX.S_beq_eq
theorem g_number {d : List Nat} (hl : d.length ≤ 600) : g__number_of [.str (SX.S d)] = .ok (numD (numO d)) := by
  have hs : (SX.S d).length ≤ sizeLine := szL (by rw [SX.S_len]; omega)
  refine e_fdef rfl ?_
  unfold f__number_of
  have R : g_is_row [.str (SX.S d), .str "0123456789"] = .ok (.bl (d.all digB)) := by
    rw [g_rowG hs]
    congr 2
    show d.all _ = _
    congr 1
    funext c
    exact fig_dig c
  have A := e_notT (e_truB (e_call2 (f1 := fVar 0) (f2 := fC (.str "0123456789")) (s := [.v (.str (SX.S d))]) (dfl := []) rfl rfl R))
  have st : startD 1 [.str (SX.S d)] = [.v (.str (SX.S d))] := rfl
  rw [st]
  unfold numO
  cases h1 : d.all digB with
  | false =>
    rw [h1] at A
    exact e_seq_rt (e_ifT (e_orT A) (e_seq_rt (e_zRet rfl)))
  | true =>
    rw [h1] at A
    have B : fVal (fBin (pEqT T0 1) (fVar 0) (fC (.str ""))) [.v (.str (SX.S d))] = .ok d.isEmpty := e_val (e_bin rfl rfl (eq_str.trans (by
      rw [empty_S, S_beq2]
      cases d <;> rfl)))
    cases d with
    | nil => exact e_seq_rt (e_ifT (e_orF A (e_orT B)) (e_seq_rt (e_zRet rfl)))
    | cons x d =>
      have IX : pIx (.str (SX.S (x :: d))) (.int 0) = .ok (.str (SX.S [x])) := by
        rw [e_ix_s, need_pos hs]
        show optR (Option.map _ (atI (x :: d) ((0 : Nat) : Int))) = _
        rw [Dl.atI_nat]
        rfl
      have C1 : fVal (fBin (pEqT T0 1) (fBin pIx (fVar 0) (fC (.int 0))) (fC (.str "0"))) [.v (.str (SX.S (x :: d)))] = .ok (x == 48) := e_val (e_bin (e_bin rfl rfl IX) rfl (eq_str.trans (by
        rw [nought]
        show Res.ok (D.bl (SX.S [x] == SX.S [48])) = _
        rw [S_beq2]
        congr 2
        by_cases z : x = 48
        · rw [z]
          rfl
        · rw [decide_eq_false (by simpa using z)]
          exact (beq_eq_false_iff_ne.mpr z).symm)))
      have C2 : fVal (fBin pGt (fB (gLenO (fun n => if n = 7 then some g_File_len else if n = 8 then some g_History_len else if n = 14 then some g_Script_len else none)) (fCons (fVar 0) fNil)) (fC (.int 1))) [.v (.str (SX.S (x :: d)))] = .ok (decide (1 < (x :: d).length)) := (e_val (e_bin (e_b1 rfl (by rw [e_lenO_str, need_pos hs, SX.S_len])) rfl gt_b)).trans (by
        congr 1
        rw [Bool.eq_iff_iff, decide_eq_true_eq, decide_eq_true_eq]
        omega)
      have C : fAndT (fVal (fBin (pEqT T0 1) (fBin pIx (fVar 0) (fC (.int 0))) (fC (.str "0")))) (fVal (fBin pGt (fB (gLenO (fun n => if n = 7 then some g_File_len else if n = 8 then some g_History_len else if n = 14 then some g_Script_len else none)) (fCons (fVar 0) fNil)) (fC (.int 1)))) [.v (.str (SX.S (x :: d)))] = .ok (x == 48 && decide (1 < (x :: d).length)) := by
        cases z : x == 48 with
        | true =>
          rw [z] at C1
          exact e_andTT C1 C2
        | false =>
          rw [z] at C1
          exact e_andF C1
      show _ = Res.ok (Fl.rt (numD (if (true && !false && !(x == 48 && decide (1 < (x :: d).length))) = true then some (NumText.digitsVal (x :: d)) else none)))
      cases z : x == 48 && decide (1 < (x :: d).length) with
      | true =>
        rw [z] at C
        exact e_seq_rt (e_ifT (e_orF A (e_orF B C)) (e_seq_rt (e_zRet rfl)))
      | false =>
        rw [z] at C
        refine e_seq (e_ifF (e_orF A (e_orF B C)) rfl) (e_seq_rt (e_zRet (e_b1 rfl (e_intT (SX.int_S ?_ (List.cons_ne_nil _ _) (by omega)) (by rw [SX.S_len]; omega)))))
        rw [← h1]
        rfl
theorem part_S (l : List Nat) : Txt.partition (SX.S l) (SX.S [32]) = (SX.S (cutL l).1, (Txt.partition (SX.S l) (SX.S [32])).2.1, SX.S (cutL l).2) := by
  unfold cutL
  cases h : TL.par [32] [] l with
  | none => rw [SX.partition_none (List.cons_ne_nil _ _) h]
  | some pq =>
    obtain ⟨p, q⟩ := pq
    rw [SX.partition_some (List.cons_ne_nil _ _) h]
theorem blank_S : (" " : Str) = SX.S [32] := by decide +kernel
theorem par_len : ∀ (l acc p q : List Nat), TL.par [32] acc l = some (p, q) → p.length ≤ acc.length + l.length ∧ q.length ≤ l.length
  | [], acc, p, q, h => by cases h
  | c :: r, acc, p, q, h => by
    unfold TL.par at h
    split at h
    · cases h
      exact ⟨by omega, by rw [List.length_drop]; omega⟩
    · obtain ⟨a, b⟩ := par_len r _ p q h
      rw [List.length_append] at a
      simp only [List.length_cons, List.length_nil] at a ⊢
      omega
theorem cut_len (l : List Nat) : (cutL l).1.length ≤ l.length ∧ (cutL l).2.length ≤ l.length := by
  unfold cutL
  cases h : TL.par [32] [] l with
  | none => exact ⟨Nat.le_refl _, Nat.zero_le _⟩
  | some pq =>
    obtain ⟨p, q⟩ := pq
    have := par_len l [] p q h
    exact ⟨by simpa using this.1, this.2⟩
theorem e_prt {l : List Nat} (hl : l.length ≤ 600) : ∃ m : Str, kPart (SX.S l) (.str " ") = .ok (.tup [.str (SX.S (cutL l).1), .str m, .str (SX.S (cutL l).2)]) := by
  refine ⟨(Txt.partition (SX.S l) (SX.S [32])).2.1, ?_⟩
  rw [blank_S, e_part (by rw [SX.S_len]; rfl) (szL (by rw [SX.S_len]; omega)), part_S]
def stpO : Option (Nat × Nat) → D
  | none => .non
  | some (k, n) => stp k n
theorem full_S : ("full" : Str) = SX.S wFull ∧ ("keep" : Str) = SX.S wKeep ∧ ("lean" : Str) = SX.S wLean ∧ ("dig" : Str) = SX.S wDig := by decide +kernel
theorem eq_lit {T : EqT} {n : Nat} {x : Str} {a b : List Nat} (e : x = SX.S b) : pEqT T n (.str (SX.S a)) (.str x) = .ok (.bl (decide (a = b))) := by
  rw [e, eq_str, S_beq2]
theorem e_make0 {c : Nat} {nm : List Str} {gi : FI} {dfl : List D} {s : List Sl} {fs : List (Str × D)} (e : gi ([] ++ dfl) = .ok fs) (n : fs.map (·.1) = nm) : fMake c nm gi dfl fNil s = .ok (.obj c (fs.map (·.2))) := by
  unfold fMake
  show (gi ([] ++ dfl)).bind _ = _
  rw [e]
  exact need_pos n
theorem e_makeV {c : Nat} {nm : List Str} {gi : FI} {dfl ds : List D} {fa : FA} {s : List Sl} {fs : List (Str × D)} (h : fa s = .ok ds) (e : gi (ds ++ dfl) = .ok fs) (n : fs.map (·.1) = nm) : fMake c nm gi dfl fa s = .ok (.obj c (fs.map (·.2))) := by
  unfold fMake
  rw [h]
  show (gi (ds ++ dfl)).bind _ = _
  rw [e]
  exact need_pos n
theorem g_step {l : List Nat} (hl : l.length ≤ 600) : g__step_of [.str (SX.S l)] = .ok (stpO (stepO l)) := by
  obtain ⟨s1, s2, s3, s4⟩ := full_S
  obtain ⟨m, PT⟩ := e_prt hl
  have cl := cut_len l
  have NU := g_number (d := (cutL l).2) (by omega)
  refine e_fdef rfl ?_
  unfold f__step_of stepO
  have st : startD 5 [.str (SX.S l)] = [.v (.str (SX.S l)), .un, .un, .un, .un] := rfl
  rw [st]
  by_cases z : l = wFull
  · rw [if_pos z]
    exact e_seq_rt (e_ifT ((e_val (e_bin rfl rfl (eq_lit s1))).trans (by rw [decide_eq_true z])) (e_seq_rt (e_zRet (e_make0 g_Full rfl))))
  · rw [if_neg z]
    refine e_seq (e_ifF ((e_val (e_bin rfl rfl (eq_lit s1))).trans (by rw [decide_eq_false z])) rfl) ?_
    generalize (cutL l).1 = w at PT
    generalize (cutL l).2 = f at PT NU
    refine e_seq (s' := [.v (.str (SX.S l)), .v (.str (SX.S w)), .v (.str m), .v (.str (SX.S f)), .un]) (e_tg (e_m1 rfl rfl PT) rfl) ?_
    refine e_seq (s' := [.v (.str (SX.S l)), .v (.str (SX.S w)), .v (.str m), .v (.str (SX.S f)), .v (numD (numO f))]) (e_zAsg (e_call1 rfl NU)) ?_
    cases numO f with
    | none => exact e_seq_rt (e_ifT (e_orT (e_val (e_bin rfl rfl rfl))) (e_seq_rt (e_zRet rfl)))
    | some n =>
      show _ = Res.ok (Fl.rt (stpO (if n = 0 then none else if w = wKeep then some (1, n) else if w = wLean then some (2, n) else if w = wDig then some (3, n) else none)))
      have Z : fVal (fBin (pEqT T0 1) (fVar 4) (fC (.int 0))) [.v (.str (SX.S l)), .v (.str (SX.S w)), .v (.str m), .v (.str (SX.S f)), .v (numD (some n))] = .ok (decide (n = 0)) := e_val (e_bin rfl rfl (eq_int.trans (by
        congr 2
        rw [Bool.eq_iff_iff, beq_iff_eq, decide_eq_true_eq]
        omega)))
      by_cases z0 : n = 0
      · rw [if_pos z0]
        rw [decide_eq_true z0] at Z
        exact e_seq_rt (e_ifT (e_orF (e_val (e_bin rfl rfl rfl)) Z) (e_seq_rt (e_zRet rfl)))
      · rw [if_neg z0]
        rw [decide_eq_false z0] at Z
        have n1 : (1 : Int) ≤ (n : Nat) := by omega
        refine e_seq (e_ifF (e_orF (e_val (e_bin rfl rfl rfl)) Z) rfl) ?_
        by_cases k1 : w = wKeep
        · rw [if_pos k1]
          exact e_seq_rt (e_ifT ((e_val (e_bin rfl rfl (eq_lit s2))).trans (by rw [decide_eq_true k1])) (e_seq_rt (e_zRet (e_makeV (e_args1 rfl) (keep_n n1) rfl))))
        · rw [if_neg k1]
          refine e_seq (e_ifF ((e_val (e_bin rfl rfl (eq_lit s2))).trans (by rw [decide_eq_false k1])) rfl) ?_
          by_cases k2 : w = wLean
          · rw [if_pos k2]
            exact e_seq_rt (e_ifT ((e_val (e_bin rfl rfl (eq_lit s3))).trans (by rw [decide_eq_true k2])) (e_seq_rt (e_zRet (e_makeV (e_args1 rfl) (lean_n n1) rfl))))
          · rw [if_neg k2]
            refine e_seq (e_ifF ((e_val (e_bin rfl rfl (eq_lit s3))).trans (by rw [decide_eq_false k2])) rfl) ?_
            by_cases k3 : w = wDig
            · rw [if_pos k3]
              exact e_seq_rt (e_zRet (e_ifET ((e_val (e_bin rfl rfl (eq_lit s4))).trans (by rw [decide_eq_true k3])) (e_makeV (e_args1 rfl) (dig_n n1) rfl)))
            · rw [if_neg k3]
              exact e_seq_rt (e_zRet (e_ifEF ((e_val (e_bin rfl rfl (eq_lit s4))).trans (by rw [decide_eq_false k3])) rfl))
end K81
set_option Elab.async false
set_option linter.all false
set_option exponentiation.threshold 4000
set_option maxRecDepth 100000
set_option maxHeartbeats 1000000
namespace K81
open PySem PySem.Spec L2 Dl Dl.Hd Res
theorem e_try1 {cat : Nat → Option Bool} {i k : Nat} {b u : FS} {s s1 : List Sl} {x : D} (s2 s3 : List Sl) (h : b s = .ok (.ex k x s1)) (c : cat k = some true) (p : plainB (s1.set i .un) = true) (e : u (s1.set i (.exc k x)) = .ok (.nx s2)) (es : s2.set i .un = s3) (p2 : plainB s3 = true) : zTry cat i b u s = .ok (.nx s3) := by
  subst es
  show (b s).bind _ = _
  rw [h]
  show (match cat k with
    | some true => need (plainB (s1.set i .un) = true) ((u (s1.set i (.exc k x))).bind (suiteF i))
    | some false => _
    | none => _) = _
  rw [c]
  dsimp only
  rw [need_pos p, e]
  show need _ _ = _
  rw [need_pos p2]
theorem e_try0 {cat : Nat → Option Bool} {i : Nat} {b u : FS} {s s1 : List Sl} (h : b s = .ok (.nx s1)) : zTry cat i b u s = .ok (.nx s1) := by
  unfold zTry
  rw [h]
  rfl
def strD (a : List Nat) : D := .str (SX.S a)
theorem nl_S : ("\n" : Str) = SX.S [10] := by decide +kernel
theorem g_linesS {ls : List (List Nat)} (h0 : ls ≠ []) (hn : ∀ p ∈ ls, 10 ∉ p) (hl : (TL.joinL [10] ls).length ≤ 100000) : g__lines [strD (TL.joinL [10] ls)] = .ok (.lst (ls.map strD)) := by
  refine e_fdef rfl ?_
  unfold f__lines
  refine e_seq (e_ifF (e_notT (e_truB (b := true) (e_b2 rfl rfl rfl))) rfl) (e_seq_rt (e_zRet (e_m1 (z := SX.S (TL.joinL [10] ls)) rfl rfl ?_)))
  rw [nl_S, e_split, need_pos ⟨by rw [SX.S_len]; rfl, szL (by rw [SX.S_len]; omega)⟩, SX.split_S (List.cons_ne_nil _ _) rfl, lines_of h0 hn, List.map_map]
  rfl
theorem g_linesX {v : D} (h : gIsi subT [v, .ty "str"] = .ok (.bl false)) : g__lines [v] = .exc 6 .non := by
  refine e_fdefX (s' := [.v v]) rfl ?_
  unfold f__lines
  exact e_seq_ex (e_ifT (e_notT (e_truB (b := false) (e_b2 rfl rfl h))) (e_seq_ex (e_zRaise rfl)))
theorem eq_one {ls : List (List Nat)} : pEqT T0 1 (.lst (ls.map strD)) (.lst [.str ""]) = .ok (.bl (decide (ls = [[]]))) := by
  refine eq_of ?_ ?_
  · unfold okE
    intro h
    refine ⟨0, rfl, ?_⟩
    match ls, h with
    | [a], _ =>
      simp only [List.map_cons, List.map_nil, okEs, and_true]
      exact okE_str
  · match ls with
    | [] => rfl
    | [a] =>
      show (((SX.S a) == ("" : Str)) && true) = _
      rw [empty_S, S_beq2, Bool.and_true]
      by_cases z : a = []
      · rw [z]
        rfl
      · rw [decide_eq_false z, decide_eq_false (by simpa using z)]
    | a :: b :: l =>
      show (eqD (strD a) (.str "") && eqDs (strD b :: l.map strD) []) = _
      rw [show eqDs (strD b :: l.map strD) [] = false from rfl, Bool.and_false, decide_eq_false (by simp)]
def okLn (l : List Nat) : Prop := 10 ∉ l ∧ l.length ≤ 500
theorem rs_loop {v0 v1 : Sl} {body : FS}
    (hb : body = zSeq (zAsg 5 (fCall g__step_of [] (fCons (fVar 4) fNil))) (zSeq (zIf (fVal (fBin pIsN (fVar 5) (fC .non))) (zSeq (zRaise 6 (fVar 3)) zNil) zNil) (zSeq (zApp 2 (fVar 5)) zNil))) :
    ∀ {gs : List (List Nat)} {i : Nat} {cs : List (Nat × Int)} {x3 x4 x5 : Sl} (rest : List D), (∀ l ∈ gs, (stepO l).isSome = true ∧ l.length ≤ 500) → cs.length + gs.length ≤ 1000 →
      ∃ (cs' : List (Nat × Int)) (y3 y4 y5 : Sl), cs'.length = cs.length + gs.length ∧ forF (.tp [3, 4]) body (numbered i (gs.map strD ++ rest)) [v0, v1, .own (stps cs), x3, x4, x5] = forF (.tp [3, 4]) body (numbered (i + gs.length) rest) [v0, v1, .own (stps cs'), y3, y4, y5]
  | [], i, cs, x3, x4, x5, rest, _, _ => ⟨cs, x3, x4, x5, rfl, rfl⟩
  | g :: gs, i, cs, x3, x4, x5, rest, hg, hl => by
    rw [List.length_cons] at hl
    obtain ⟨g1, g2⟩ := hg g List.mem_cons_self
    obtain ⟨⟨k, n⟩, e⟩ := Option.isSome_iff_exists.mp g1
    have GS := g_step (l := g) (by omega)
    rw [e] at GS
    obtain ⟨cs', y3, y4, y5, h1, h2⟩ := rs_loop hb (gs := gs) (i := i + 1) (cs := cs ++ [(k, (n : Int))]) (x3 := .v (.int i)) (x4 := .v (strD g)) (x5 := .v (stp k n)) rest (fun l hl => hg l (List.mem_cons_of_mem _ hl)) (by rw [List.length_append]; show _ + 1 + _ ≤ _; omega)
    refine ⟨cs', y3, y4, y5, by rw [h1, List.length_append, List.length_cons]; show cs.length + 1 + gs.length = cs.length + (gs.length + 1); omega, ?_⟩
    rw [show i + (g :: gs).length = i + 1 + gs.length by rw [List.length_cons]; omega, ← h2]
    show forF (.tp [3, 4]) body (.tup [.int i, strD g] :: numbered (i + 1) (gs.map strD ++ rest)) _ = _
    refine e_for_nx (s1 := [v0, v1, .own (stps cs), .v (.int i), .v (strD g), x5]) rfl ?_
    rw [hb]
    refine e_seq (s' := [v0, v1, .own (stps cs), .v (.int i), .v (strD g), .v (stp k n)]) (e_zAsg (e_call1 rfl GS)) ?_
    have NN : pIsN (stp k n) .non = .ok (.bl false) := by
      unfold stp
      split <;> rfl
    refine e_seq (e_ifF (e_val (e_bin rfl rfl NN)) rfl) ?_
    refine e_seq (e_zApp (xs := stps cs) rfl rfl (Nat.lt_of_lt_of_le (show (stps cs).length < 1001 by unfold stps; rw [List.length_map]; omega) (szL (by decide)))) ?_
    show Res.ok (Fl.nx [v0, v1, .own (stps cs ++ [stp k n]), .v (.int i), .v (strD g), .v (stp k n)]) = _
    unfold stps
    rw [List.map_append]
    rfl
theorem rs_bad {gs r : List (List Nat)} {b : List Nat} (hg : ∀ l ∈ gs, (stepO l).isSome = true ∧ okLn l) (hb : stepO b = none ∧ okLn b) (hr : ∀ l ∈ r, okLn l) (hl : gs.length + r.length ≤ 50) (h0 : TL.joinL [10] (gs ++ b :: r) ≠ []) : g_read_script [strD (TL.joinL [10] (gs ++ b :: r))] = .exc 6 (.int ((gs.length + 1 : Nat) : Int)) := by
  have ol : ∀ l ∈ gs ++ b :: r, okLn l := fun l h => by
    rcases List.mem_append.mp h with z | z
    · exact (hg l z).2
    · rcases List.mem_cons.mp z with rfl | z
      · exact hb.2
      · exact hr l z
  have jl := join_len (m := 500) fun l h => (ol l h).2
  have LI := g_linesS (ls := gs ++ b :: r) (by simp) (fun l h => (ol l h).1) (by
    rw [List.length_append, List.length_cons] at jl
    have : (gs.length + (r.length + 1)) * 501 ≤ 51 * 501 := Nat.mul_le_mul_right _ (by omega)
    omega)
  have ne : gs ++ b :: r ≠ [[]] := fun e => h0 (by rw [e]; rfl)
  obtain ⟨s', e⟩ : ∃ s', f_read_script (startD 6 [strD (TL.joinL [10] (gs ++ b :: r))]) = .ok (.ex 6 (.int ((gs.length + 1 : Nat) : Int)) s') := by
    generalize TL.joinL [10] (gs ++ b :: r) = t at LI
    have st : startD 6 [strD t] = [.v (strD t), .un, .un, .un, .un, .un] := rfl
    rw [st]
    unfold f_read_script
    generalize hbody : zSeq (zAsg 5 _) _ = body
    obtain ⟨cs, y3, y4, y5, h1, h2⟩ := rs_loop (v0 := .v (strD t)) (v1 := .v (.lst ((gs ++ b :: r).map strD))) hbody.symm (gs := gs) (i := 1) (cs := []) (x3 := .un) (x4 := .un) (x5 := .un) ((b :: r).map strD) (fun l h => ⟨(hg l h).1, (hg l h).2.2⟩) (by show 0 + _ ≤ _; omega)
    have GS := g_step (l := b) (by have := hb.2.2; omega)
    rw [hb.1] at GS
    have E : forF (.tp [3, 4]) body (numbered 1 ((gs ++ b :: r).map strD)) [.v (strD t), .v (.lst ((gs ++ b :: r).map strD)), .own (stps []), .un, .un, .un] = .ok (.ex 6 (.int ((gs.length + 1 : Nat) : Int)) [.v (strD t), .v (.lst ((gs ++ b :: r).map strD)), .own (stps cs), .v (.int ((1 + gs.length : Nat) : Int)), .v (strD b), .v .non]) := by
      rw [show numbered 1 ((gs ++ b :: r).map strD) = numbered 1 (gs.map strD ++ (b :: r).map strD) by rw [List.map_append], h2]
      refine e_for_ex (s1 := [.v (strD t), .v (.lst ((gs ++ b :: r).map strD)), .own (stps cs), .v (.int ((1 + gs.length : Nat) : Int)), .v (strD b), y5]) rfl ?_
      rw [← hbody]
      refine e_seq (s' := [.v (strD t), .v (.lst ((gs ++ b :: r).map strD)), .own (stps cs), .v (.int ((1 + gs.length : Nat) : Int)), .v (strD b), .v .non]) (e_zAsg (e_call1 rfl GS)) ?_
      rw [Nat.add_comm gs.length 1]
      exact e_seq_ex (e_ifT (e_val (e_bin rfl rfl rfl)) (e_seq_ex (e_zRaise rfl)))
    refine ⟨[.v (strD t), .v (.lst ((gs ++ b :: r).map strD)), .own (stps cs), .v (.int ((1 + gs.length : Nat) : Int)), .v (strD b), .v .non], ?_⟩
    refine e_seq (s' := [.v (strD t), .v (.lst ((gs ++ b :: r).map strD)), .un, .un, .un, .un]) (e_zAsg (e_call1 rfl LI)) ?_
    refine e_seq (e_ifF ((e_val (e_bin rfl (e_lst (e_args1 rfl) (by show 1 ≤ 1000; decide)) eq_one)).trans (by rw [decide_eq_false ne])) rfl) ?_
    refine e_seq (s' := [.v (strD t), .v (.lst ((gs ++ b :: r).map strD)), .own (stps []), .un, .un, .un]) (e_zOwn e_nil (by decide)) ?_
    exact e_seq_ex (e_zFor (e_enumK rfl) E)
  exact e_fdefX rfl e
theorem rs_good {gs : List (List Nat)} (h0 : gs ≠ []) (hg : ∀ l ∈ gs, (stepO l).isSome = true ∧ okLn l) (hl : gs.length ≤ 50) : ∃ d, g_read_script [strD (TL.joinL [10] gs)] = .ok d := by
  have jl := join_len (m := 500) fun l h => (hg l h).2.2
  have LI := g_linesS (ls := gs) h0 (fun l h => (hg l h).2.1) (by
    have : gs.length * 501 ≤ 51 * 501 := Nat.mul_le_mul_right _ (by omega)
    omega)
  have ne : gs ≠ [[]] := fun e => by
    have := (hg [] (by rw [e]; exact List.mem_cons_self)).1
    exact absurd this (by decide +kernel)
  generalize TL.joinL [10] gs = t at LI
  have st : startD 6 [strD t] = [.v (strD t), .un, .un, .un, .un, .un] := rfl
  obtain ⟨cs, y3, y4, y5, h1, h2⟩ := rs_loop (v0 := .v (strD t)) (v1 := .v (.lst (gs.map strD))) (body := zSeq (zAsg 5 (fCall g__step_of [] (fCons (fVar 4) fNil))) (zSeq (zIf (fVal (fBin pIsN (fVar 5) (fC .non))) (zSeq (zRaise 6 (fVar 3)) zNil) zNil) (zSeq (zApp 2 (fVar 5)) zNil))) rfl (gs := gs) (i := 1) (cs := []) (x3 := .un) (x4 := .un) (x5 := .un) [] (fun l h => ⟨(hg l h).1, (hg l h).2.2⟩) (by show 0 + _ ≤ _; omega)
  rw [List.append_nil] at h2
  refine ⟨.obj 14 [.tup (stps cs)], e_fdef rfl ?_⟩
  rw [st]
  unfold f_read_script
  refine e_seq (s' := [.v (strD t), .v (.lst (gs.map strD)), .un, .un, .un, .un]) (e_zAsg (e_call1 rfl LI)) ?_
  refine e_seq (e_ifF ((e_val (e_bin rfl (e_lst (e_args1 rfl) (by show 1 ≤ 1000; decide)) eq_one)).trans (by rw [decide_eq_false ne])) rfl) ?_
  refine e_seq (s' := [.v (strD t), .v (.lst (gs.map strD)), .own (stps []), .un, .un, .un]) (e_zOwn e_nil (by decide)) ?_
  refine e_seq (e_zFor (e_enumK rfl) h2) ?_
  have c0 : cs.length ≤ 10000 := by
    have : cs.length = 0 + gs.length := h1
    omega
  refine e_seq_rt ?_
  unfold zRel
  exact e_zRet (e_makeV (e_args1 rfl) (g_Script cs c0) rfl)
theorem rs_empty : ∃ d, g_read_script [strD []] = .ok d := by
  have LI := g_linesS (ls := [[]]) (List.cons_ne_nil _ _) (fun p hp => by rw [List.mem_singleton.mp hp]; decide) (by decide)
  have LI : g__lines [strD []] = .ok (.lst ([[]].map strD)) := LI
  refine ⟨.obj 14 [.tup []], e_fdef rfl ?_⟩
  have st : startD 6 [strD []] = [.v (strD []), .un, .un, .un, .un, .un] := rfl
  rw [st]
  unfold f_read_script
  refine e_seq (s' := [.v (strD []), .v (.lst ([[]].map strD)), .un, .un, .un, .un]) (e_zAsg (e_call1 rfl LI)) ?_
  exact e_seq_rt (e_ifT ((e_val (e_bin rfl (e_lst (e_args1 rfl) (by show 1 ≤ 1000; decide)) eq_one)).trans (by rw [decide_eq_true rfl])) (e_seq_rt (e_zRet (e_make0 g_Script0 rfl))))
theorem rs_other {v : D} (h : gIsi subT [v, .ty "str"] = .ok (.bl false)) : g_read_script [v] = .exc 6 .non := by
  refine e_fdefX (s' := [.v v, .un, .un, .un, .un, .un]) rfl ?_
  unfold f_read_script
  exact e_seq_ex (e_zAsgX (by
    unfold fCall
    show ((fCons (fVar 0) fNil) [.v v, .un, .un, .un, .un, .un]).bind _ = _
    rw [e_args1 rfl]
    exact g_linesX h))
end K81
set_option Elab.async false
set_option linter.all false
set_option exponentiation.threshold 4000
set_option maxRecDepth 100000
set_option maxHeartbeats 1000000
namespace K81
open PySem PySem.Spec L2 Dl Dl.Hd Res
theorem cutD_to (xs : List D) (k : Nat) : cutD xs none (some (k : Int)) = xs.take k := by
  unfold cutD
  show (xs.drop 0).take (HT.sIx xs.length xs.length (some (k : Int)) - 0) = _
  rw [HT.sIx_nat, List.drop_zero, Nat.sub_zero]
  by_cases h : k ≤ xs.length
  · rw [Nat.min_eq_left h]
  · rw [Nat.min_eq_right (by omega), List.take_of_length_le (Nat.le_refl _), List.take_of_length_le (by omega)]
theorem cutD_from (xs : List D) (k : Nat) : cutD xs (some (k : Int)) none = xs.drop k := by
  unfold cutD
  show (xs.drop (HT.sIx xs.length 0 (some (k : Int)))).take (xs.length - HT.sIx xs.length 0 (some (k : Int))) = _
  rw [HT.sIx_nat]
  by_cases h : k ≤ xs.length
  · rw [Nat.min_eq_left h, List.take_of_length_le (by rw [List.length_drop]; omega)]
  · rw [Nat.min_eq_right (by omega), List.drop_of_length_le (Nat.le_refl _), List.drop_of_length_le (by omega)]
    simp
theorem ce_cel (c : Nat) : (decide (c ∈ CE.cps.toList) && c != 46) = celB c := by
  have e : CE.cps.toList = [46, 48, 97, 98, 99, 100, 101, 102, 103, 104, 105, 106, 107, 108, 109, 110, 111, 112, 113, 114, 115, 116, 117, 118, 119, 120, 121, 122] := by decide +kernel
  rw [e, Bool.eq_iff_iff]
  unfold celB
  simp only [Bool.and_eq_true, Bool.or_eq_true, decide_eq_true_eq, bne_iff_ne, beq_iff_eq, List.mem_cons, List.not_mem_nil, or_false]
  omega
theorem con_cel (t : List Nat) : conB t = t.all celB := by
  unfold conB
  congr 1
  funext c
  exact ce_cel c
theorem g_content {t : List Nat} (hl : t.length ≤ 600) : g__is_content [.str (SX.S t)] = .ok (.bl (conB t)) := by
  have hs : (SX.S t).length ≤ sizeLine := szL (by rw [SX.S_len]; omega)
  refine e_fdef rfl ?_
  unfold f__is_content
  refine e_seq_rt (e_zRet ?_)
  have R := g_row hs
  have N : pInW true (.str (Str.ofString ".")) (.str (SX.S t)) = .ok (.bl (decide (46 ∉ t))) := by
    rw [dot, e_in1, S_l, Bool.true_xor, decide_not]
  cases h : rowB (SX.S t) with
  | false =>
    rw [h] at R
    have : conB t = false := by
      rw [← Bool.not_eq_true]
      intro z
      rw [con_row z] at h
      cases h
    rw [this]
    exact e_andB (e_call2 rfl rfl R)
  | true =>
    rw [h] at R
    refine (e_andT (e_call2 rfl rfl R) (e_bin rfl rfl N)).trans ?_
    congr 2
    rw [Bool.eq_iff_iff, decide_eq_true_eq]
    exact ⟨fun z => con_of h z, fun z => con_dot z⟩
def wrO (l : List Nat) : D := .tup [numD (numO (cutL l).1), .str (SX.S (cutL l).2)]
theorem g_write {l : List Nat} (hl : l.length ≤ 600) : g__write_of [strD l] = .ok (wrO l) := by
  obtain ⟨m, PT⟩ := e_prt hl
  have cl := cut_len l
  have NU := g_number (d := (cutL l).1) (by omega)
  refine e_fdef rfl ?_
  unfold f__write_of wrO
  generalize (cutL l).1 = w at PT NU
  generalize (cutL l).2 = f at PT
  refine e_seq (s' := [.v (strD l), .v (.str (SX.S w)), .v (.str m), .v (.str (SX.S f))]) (e_tg (e_m1 rfl rfl PT) rfl) ?_
  exact e_seq_rt (e_zRet (e_tup (e_args2 (e_call1 rfl NU) rfl) (by show 2 ≤ 1000; decide)))
theorem g_fits {a l : List Nat} (hl : l.length ≤ 600) (ha : a.length ≤ 900) : g_is_fitting [wrO l, fileD (SX.S a)] = .ok (.bl (fitO a.length l)) := by
  have cl := cut_len l
  have CO := g_content (t := (cutL l).2) (by omega)
  rw [con_cel] at CO
  unfold wrO fitO
  generalize (cutL l).1 = w
  generalize (cutL l).2 = t at CO cl
  have lt : t.length ≤ 600 := by omega
  cases h : numO w with
  | none =>
    refine e_fdef rfl ?_
    unfold f_is_fitting
    refine e_seq_rt (e_zRet (e_andB (e_call1 rfl ?_)))
    refine e_fdef rfl ?_
    unfold f__is_write
    refine e_seq (s' := [.v (.tup [numD none, .str (SX.S t)]), .un, .un]) (e_ifF (e_orF (e_notT (e_truB (b := true) (e_b2 rfl rfl rfl))) (e_val (e_bin (e_b1 rfl e_lenO_tup) rfl (ne_int.trans rfl)))) rfl) ?_
    refine e_seq (s' := [.v (.tup [numD none, .str (SX.S t)]), .v .non, .v (.str (SX.S t))]) (e_tg rfl rfl) ?_
    exact e_seq_rt (e_zRet (e_andB (e_call1 rfl (g_whole rfl))))
  | some n =>
    show _ = Res.ok (D.bl (t.all celB && decide (1 ≤ t.length) && decide (n + t.length ≤ a.length)))
    have IW : g__is_write [.tup [numD (some n), .str (SX.S t)]] = .ok (.bl (t.all celB && decide (1 ≤ t.length))) := by
      refine e_fdef rfl ?_
      unfold f__is_write
      refine e_seq (s' := [.v (.tup [numD (some n), .str (SX.S t)]), .un, .un]) (e_ifF (e_orF (e_notT (e_truB (b := true) (e_b2 rfl rfl rfl))) (e_val (e_bin (e_b1 rfl e_lenO_tup) rfl (ne_int.trans rfl)))) rfl) ?_
      refine e_seq (s' := [.v (.tup [numD (some n), .str (SX.S t)]), .v (.int n), .v (.str (SX.S t))]) (e_tg rfl rfl) ?_
      refine e_seq_rt (e_zRet (e_andT (e_call1 rfl (g_whole rfl)) (e_andT (e_bin rfl rfl (by rw [ge_b, decide_eq_true (by omega)])) ?_)))
      cases c : t.all celB with
      | false =>
        rw [c] at CO
        exact e_andB (e_call1 rfl CO)
      | true =>
        rw [c] at CO
        refine e_andT (e_call1 rfl CO) ((e_bin (e_len_S (by omega) rfl) rfl ge_b).trans ?_)
        congr 2
        rw [Bool.true_and, Bool.eq_iff_iff, decide_eq_true_eq, decide_eq_true_eq]
        omega
    refine e_fdef rfl ?_
    unfold f_is_fitting
    refine e_seq_rt (e_zRet ?_)
    cases c : t.all celB && decide (1 ≤ t.length) with
    | false =>
      rw [c] at IW
      exact e_andB (e_call1 rfl IW)
    | true =>
      rw [c] at IW
      refine e_andT (e_call1 rfl IW) ((e_bin (e_int_add (i := n) (j := t.length) (e_bin rfl rfl rfl) (e_len_S (by omega) (e_bin rfl rfl rfl))) (e_len_f rfl (by omega) rfl) le_b).trans ?_)
      congr 2
      rw [Bool.true_and, Bool.eq_iff_iff, decide_eq_true_eq, decide_eq_true_eq]
      omega
/-- the write of a line that fits -/
def wrL (l : List Nat) : Nat × List Nat := ((numO (cutL l).1).getD 0, (cutL l).2)
theorem fit_wr {size : Nat} {l : List Nat} (h : fitO size l = true) : wrO l = wrD (wrL l) ∧ okW size (wrL l) := by
  unfold fitO at h
  unfold wrO wrL okW
  cases e : numO (cutL l).1 with
  | none =>
    rw [e] at h
    cases h
  | some n =>
    rw [e] at h
    have h : ((cutL l).2.all celB && decide (1 ≤ (cutL l).2.length) && decide (n + (cutL l).2.length ≤ size)) = true := h
    rw [Bool.and_eq_true, Bool.and_eq_true, decide_eq_true_eq, decide_eq_true_eq] at h
    exact ⟨rfl, by show 0 < (cutL l).2.length; omega, h.2, by rw [con_cel]; exact h.1.1⟩
theorem rh_loop {a : List Nat} {v0 v1 : Sl} {body : FS} (ha : a.length ≤ 900)
    (hb : body = zSeq (zAsg 6 (fCall g__write_of [] (fCons (fVar 5) fNil))) (zSeq (zIf (fNotT (fTru (fCall g_is_fitting [] (fCons (fVar 6) (fCons (fVar 2) fNil))))) (zSeq (zRaise 6 (fVar 4)) zNil) zNil) (zSeq (zApp 3 (fVar 6)) zNil))) :
    ∀ {gs : List (List Nat)} {i : Nat} {ws : List (Nat × List Nat)} {x4 x5 x6 : Sl} (rest : List D), (∀ l ∈ gs, fitO a.length l = true ∧ l.length ≤ 500) → ws.length + gs.length ≤ 1000 → (∀ w ∈ ws, okW a.length w) →
      ∃ (ws' : List (Nat × List Nat)) (y4 y5 y6 : Sl), (ws'.length = ws.length + gs.length ∧ ∀ w ∈ ws', okW a.length w) ∧ forF (.tp [4, 5]) body (numbered i (gs.map strD ++ rest)) [v0, v1, .v (fileD (SX.S a)), .own (ws.map wrD), x4, x5, x6] = forF (.tp [4, 5]) body (numbered (i + gs.length) rest) [v0, v1, .v (fileD (SX.S a)), .own (ws'.map wrD), y4, y5, y6]
  | [], i, ws, x4, x5, x6, rest, _, _, hw => ⟨ws, x4, x5, x6, ⟨rfl, hw⟩, rfl⟩
  | g :: gs, i, ws, x4, x5, x6, rest, hg, hl, hw => by
    rw [List.length_cons] at hl
    obtain ⟨g1, g2⟩ := hg g List.mem_cons_self
    have GW := g_write (l := g) (by omega)
    have GF := g_fits (a := a) (l := g) (by omega) ha
    rw [g1] at GF
    obtain ⟨e1, e2⟩ := fit_wr g1
    obtain ⟨ws', y4, y5, y6, h1, h2⟩ := rh_loop ha hb (gs := gs) (i := i + 1) (ws := ws ++ [wrL g]) (x4 := .v (.int i)) (x5 := .v (strD g)) (x6 := .v (wrO g)) rest (fun l hl => hg l (List.mem_cons_of_mem _ hl)) (by rw [List.length_append]; show _ + 1 + _ ≤ _; omega) (fun w h => by
      rcases List.mem_append.mp h with z | z
      · exact hw w z
      · rw [List.mem_singleton.mp z]
        exact e2)
    refine ⟨ws', y4, y5, y6, ⟨by rw [h1.1, List.length_append, List.length_cons]; show ws.length + 1 + gs.length = ws.length + (gs.length + 1); omega, h1.2⟩, ?_⟩
    rw [show i + (g :: gs).length = i + 1 + gs.length by rw [List.length_cons]; omega, ← h2]
    show forF (.tp [4, 5]) body (.tup [.int i, strD g] :: numbered (i + 1) (gs.map strD ++ rest)) _ = _
    refine e_for_nx (s1 := [v0, v1, .v (fileD (SX.S a)), .own (ws.map wrD), .v (.int i), .v (strD g), x6]) rfl ?_
    rw [hb]
    refine e_seq (s' := [v0, v1, .v (fileD (SX.S a)), .own (ws.map wrD), .v (.int i), .v (strD g), .v (wrO g)]) (e_zAsg (e_call1 rfl GW)) ?_
    refine e_seq (e_ifF (e_notT (e_truB (e_call2 rfl rfl GF))) rfl) ?_
    refine e_seq (e_zApp (xs := ws.map wrD) rfl rfl (Nat.lt_of_lt_of_le (show (ws.map wrD).length < 1001 by rw [List.length_map]; omega) (szL (by decide)))) ?_
    show Res.ok (Fl.nx [v0, v1, .v (fileD (SX.S a)), .own (ws.map wrD ++ [wrO g]), .v (.int i), .v (strD g), .v (wrO g)]) = _
    rw [List.map_append, e1]
    rfl
theorem ix0 {x : D} {xs : List D} : pIx (.lst (x :: xs)) (.int 0) = .ok x := by
  show pIx (.lst (x :: xs)) (.int ((0 : Nat) : Int)) = _
  rw [e_ix_l, Dl.atI_nat]
  rfl
theorem rh_head {c : List Nat} {ls : List (List Nat)} {t : List Nat} (hc : c.length ≤ 500) (LI : g__lines [strD t] = .ok (.lst ((c :: ls).map strD))) (h : rowB (SX.S c) = false) : g_read_history [strD t] = .exc 6 (.int 1) := by
  have hs : (SX.S c).length ≤ sizeLine := szL (by rw [SX.S_len]; omega)
  have R := g_row hs
  rw [h] at R
  refine e_fdefX (s' := [.v (strD t), .v (.lst ((c :: ls).map strD)), .un, .un, .un, .un, .un]) rfl ?_
  unfold f_read_history
  refine e_seq (s' := [.v (strD t), .v (.lst ((c :: ls).map strD)), .un, .un, .un, .un, .un]) (e_zAsg (e_call1 rfl LI)) ?_
  exact e_seq_ex (e_ifT (e_notT (e_truB (e_call2 (e_bin rfl rfl (show pIx (.lst ((c :: ls).map strD)) (.int 0) = .ok (strD c) from ix0)) rfl R))) (e_seq_ex (e_zRaise rfl)))
theorem rh_pre {c : List Nat} {ls : List (List Nat)} {t : List Nat} {r : Res Fl} {g : FS} (hc : c.length ≤ 500) (LI : g__lines [strD t] = .ok (.lst ((c :: ls).map strD))) (h : rowB (SX.S c) = true) (k : g [.v (strD t), .v (.lst ((c :: ls).map strD)), .v (fileD (SX.S c)), .own [], .un, .un, .un] = r) :
    zSeq (zAsg 1 (fCall g__lines [] (fCons (fVar 0) fNil))) (zSeq (zIf (fNotT (fTru (fCall g_is_row [] (fCons (fBin pIx (fVar 1) (fC (.int 0))) (fCons (fC (.str ".0abcdefghijklmnopqrstuvwxyz")) fNil))))) (zSeq (zRaise 6 (fC (.int 1))) zNil) zNil) (zSeq (zAsg 2 (fMake 7 (nm.getD 7 []) g_File_init [] (fCons (fBin pIx (fVar 1) (fC (.int 0))) fNil))) (zSeq (zOwn 3 fNil) g))) [.v (strD t), .un, .un, .un, .un, .un, .un] = r := by
  have hs : (SX.S c).length ≤ sizeLine := szL (by rw [SX.S_len]; omega)
  have R := g_row hs
  rw [h] at R
  have IX : pIx (.lst ((c :: ls).map strD)) (.int 0) = .ok (strD c) := ix0
  refine e_seq (s' := [.v (strD t), .v (.lst ((c :: ls).map strD)), .un, .un, .un, .un, .un]) (e_zAsg (e_call1 rfl LI)) ?_
  refine e_seq (e_ifF (e_notT (e_truB (e_call2 (e_bin rfl rfl IX) rfl R))) rfl) ?_
  refine e_seq (s' := [.v (strD t), .v (.lst ((c :: ls).map strD)), .v (fileD (SX.S c)), .un, .un, .un, .un]) (e_zAsg (mk_file (by omega) h (e_bin rfl rfl IX))) ?_
  exact e_seq (s' := [.v (strD t), .v (.lst ((c :: ls).map strD)), .v (fileD (SX.S c)), .own [], .un, .un, .un]) (e_zOwn e_nil (by decide)) k
theorem sl_tail {c : List Nat} {ls : List (List Nat)} {s : List Sl} (h : fVar 1 s = .ok (.lst ((c :: ls).map strD))) : fSl (fVar 1) (fOSome (fC (.int 1))) fONone s = .ok (.lst (ls.map strD)) := by
  simp only [fSl, h, Res.bind, Res.cat, fOSome, fC, fONone, asI]
  show sliceD (.lst ((c :: ls).map strD)) (some ((1 : Nat) : Int)) none = _
  rw [e_sl_lst, cutD_from]
  rfl
theorem rh_bad {c : List Nat} {gs r : List (List Nat)} {b : List Nat} (hc : rowB (SX.S c) = true ∧ okLn c) (hg : ∀ l ∈ gs, fitO c.length l = true ∧ okLn l) (hb : fitO c.length b = false ∧ okLn b) (hr : ∀ l ∈ r, okLn l) (hl : gs.length + r.length ≤ 50) : g_read_history [strD (TL.joinL [10] (c :: (gs ++ b :: r)))] = .exc 6 (.int ((gs.length + 2 : Nat) : Int)) := by
  have ol : ∀ l ∈ c :: (gs ++ b :: r), okLn l := fun l h => by
    rcases List.mem_cons.mp h with rfl | h
    · exact hc.2
    · rcases List.mem_append.mp h with z | z
      · exact (hg l z).2
      · rcases List.mem_cons.mp z with rfl | z
        · exact hb.2
        · exact hr l z
  have jl := join_len (m := 500) fun l h => (ol l h).2
  have LI := g_linesS (ls := c :: (gs ++ b :: r)) (List.cons_ne_nil _ _) (fun l h => (ol l h).1) (by
    rw [List.length_cons, List.length_append, List.length_cons] at jl
    have : (gs.length + (r.length + 1) + 1) * 501 ≤ 52 * 501 := Nat.mul_le_mul_right _ (by omega)
    omega)
  have c9 : c.length ≤ 500 := hc.2.2
  generalize TL.joinL [10] (c :: (gs ++ b :: r)) = t at LI
  have st : startD 7 [strD t] = [.v (strD t), .un, .un, .un, .un, .un, .un] := rfl
  obtain ⟨ws, y4, y5, y6, h1, h2⟩ := rh_loop (a := c) (v0 := .v (strD t)) (v1 := .v (.lst ((c :: (gs ++ b :: r)).map strD))) (body := zSeq (zAsg 6 (fCall g__write_of [] (fCons (fVar 5) fNil))) (zSeq (zIf (fNotT (fTru (fCall g_is_fitting [] (fCons (fVar 6) (fCons (fVar 2) fNil))))) (zSeq (zRaise 6 (fVar 4)) zNil) zNil) (zSeq (zApp 3 (fVar 6)) zNil))) (by omega) rfl (gs := gs) (i := 2) (ws := []) (x4 := .un) (x5 := .un) (x6 := .un) ((b :: r).map strD) (fun l h => ⟨(hg l h).1, (hg l h).2.2⟩) (by show 0 + _ ≤ _; omega) (fun w hw => by cases hw)
  have b5 := hb.2.2
  have GW := g_write (l := b) (by omega)
  have GF := g_fits (a := c) (l := b) (by omega) (by omega)
  rw [hb.1] at GF
  refine e_fdefX (s' := [.v (strD t), .v (.lst ((c :: (gs ++ b :: r)).map strD)), .v (fileD (SX.S c)), .own (ws.map wrD), .v (.int ((2 + gs.length : Nat) : Int)), .v (strD b), .v (wrO b)]) rfl ?_
  rw [st]
  unfold f_read_history
  refine rh_pre c9 LI hc.1 ?_
  refine e_seq_ex (e_zFor (e_enumK (sl_tail rfl)) ?_)
  rw [show numbered 2 ((gs ++ b :: r).map strD) = numbered 2 (gs.map strD ++ (b :: r).map strD) by rw [List.map_append]]
  refine h2.trans ?_
  refine e_for_ex (s1 := [.v (strD t), .v (.lst ((c :: (gs ++ b :: r)).map strD)), .v (fileD (SX.S c)), .own (ws.map wrD), .v (.int ((2 + gs.length : Nat) : Int)), .v (strD b), y6]) rfl ?_
  refine e_seq (s' := [.v (strD t), .v (.lst ((c :: (gs ++ b :: r)).map strD)), .v (fileD (SX.S c)), .own (ws.map wrD), .v (.int ((2 + gs.length : Nat) : Int)), .v (strD b), .v (wrO b)]) (e_zAsg (e_call1 rfl GW)) ?_
  rw [Nat.add_comm gs.length 2]
  exact e_seq_ex (e_ifT (e_notT (e_truB (e_call2 rfl rfl GF))) (e_seq_ex (e_zRaise rfl)))
theorem rh_good {c : List Nat} {gs : List (List Nat)} (hc : rowB (SX.S c) = true ∧ okLn c) (hg : ∀ l ∈ gs, fitO c.length l = true ∧ okLn l) (hl : gs.length ≤ 50) : ∃ d, g_read_history [strD (TL.joinL [10] (c :: gs))] = .ok d := by
  have ol : ∀ l ∈ c :: gs, okLn l := fun l h => by
    rcases List.mem_cons.mp h with rfl | h
    · exact hc.2
    · exact (hg l h).2
  have jl := join_len (m := 500) fun l h => (ol l h).2
  have LI := g_linesS (ls := c :: gs) (List.cons_ne_nil _ _) (fun l h => (ol l h).1) (by
    rw [List.length_cons] at jl
    have : (gs.length + 1) * 501 ≤ 52 * 501 := Nat.mul_le_mul_right _ (by omega)
    omega)
  have c9 : c.length ≤ 500 := hc.2.2
  generalize TL.joinL [10] (c :: gs) = t at LI
  have st : startD 7 [strD t] = [.v (strD t), .un, .un, .un, .un, .un, .un] := rfl
  obtain ⟨ws, y4, y5, y6, h1, h2⟩ := rh_loop (a := c) (v0 := .v (strD t)) (v1 := .v (.lst ((c :: gs).map strD))) (body := zSeq (zAsg 6 (fCall g__write_of [] (fCons (fVar 5) fNil))) (zSeq (zIf (fNotT (fTru (fCall g_is_fitting [] (fCons (fVar 6) (fCons (fVar 2) fNil))))) (zSeq (zRaise 6 (fVar 4)) zNil) zNil) (zSeq (zApp 3 (fVar 6)) zNil))) (by omega) rfl (gs := gs) (i := 2) (ws := []) (x4 := .un) (x5 := .un) (x6 := .un) [] (fun l h => ⟨(hg l h).1, (hg l h).2.2⟩) (by show 0 + _ ≤ _; omega) (fun w hw => by cases hw)
  rw [List.append_nil] at h2
  refine ⟨histD c ws, e_fdef rfl ?_⟩
  rw [st]
  unfold f_read_history
  refine rh_pre c9 LI hc.1 ?_
  refine e_seq (s' := [.v (strD t), .v (.lst ((c :: gs).map strD)), .v (fileD (SX.S c)), .own (ws.map wrD), y4, y5, y6]) (e_zFor (e_enumK (sl_tail rfl)) h2) ?_
  refine e_seq_rt ?_
  unfold zRel
  exact e_zRet (mk_hist (by omega) h1.2 rfl rfl)
theorem rh_other {v : D} (h : gIsi subT [v, .ty "str"] = .ok (.bl false)) : g_read_history [v] = .exc 6 .non := by
  refine e_fdefX (s' := [.v v, .un, .un, .un, .un, .un, .un]) rfl ?_
  unfold f_read_history
  exact e_seq_ex (e_zAsgX (by
    unfold fCall
    show ((fCons (fVar 0) fNil) [.v v, .un, .un, .un, .un, .un, .un]).bind _ = _
    rw [e_args1 rfl]
    exact g_linesX h))
end K81
set_option Elab.async false
set_option linter.all false
set_option exponentiation.threshold 4000
set_option maxRecDepth 100000
set_option maxHeartbeats 1000000
namespace K81
open PySem PySem.Spec L2 Dl Dl.Hd Res
theorem w_app {i : Nat} {f : FE} {s : List Sl} {xs : List D} {Q : Fl → Prop} (h0 : s[i]? = some (.own xs)) (hl : xs.length < sizeLine) (h : (f s).wp (fun d => Q (.nx (s.set i (.own (xs ++ [d]))))) NoX) : (zApp i f s).wp Q NoX := by
  unfold zApp
  rw [h0]
  exact w_sx.mpr (wp_mono (fun d z => wp_need.mpr ⟨hl, z⟩) (fun _ _ z => z.elim) h)
theorem w_call2 {g : FW} {f1 f2 : FE} {s : List Sl} {d : D} {Q : D → Prop} {E : QX} (h1 : f1 s = .ok d) (h : (f2 s).wp (fun e => (g [d, e]).wp Q E) E) : (fCall g [] (fCons f1 (fCons f2 fNil)) s).wp Q E := by
  unfold fCall
  refine wp_bind.mpr ?_
  unfold fCons
  rw [h1]
  show (((f2 s).bind fun x => (fNil s).bind fun xs => .ok (x :: xs)).bind fun xs => .ok (d :: xs)).wp _ E
  exact wp_bind.mpr (wp_bind.mpr (wp_mono (fun e z => z) (fun _ _ z => z) h))
theorem w_add1 {f : FE} {s : List Sl} {i : Int} {Q : D → Prop} {E : QX} (h : (f s).wp (fun d => ∃ k : Int, d = .int k ∧ Q (.int (i + k))) E) : (fBin pAdd (fC (.int i)) f s).wp Q E := by
  unfold fBin
  show ((f s).bind fun y => pAdd (.int i) y).wp Q E
  refine wp_bind.mpr (wp_mono ?_ (fun _ _ z => z) h)
  rintro _ ⟨k, rfl, q⟩
  exact q
theorem w_sipE {f0 f : FE} {s : List Sl} {m : Int} {Q : D → Prop} {E : QX} (h0 : f0 s = .ok (.tok 1)) (h1 : f s = .ok (.int m)) (hm : 0 < m ∧ m.natAbs.log2 < 9000) (h : ∀ d, 0 ≤ d → d < m → Q (.int d)) : (fCall gSip [] (fCons f0 (fCons f fNil)) s).wp Q E := by
  rw [e_call2 h0 h1 rfl]
  exact w_sip.mpr ⟨hm, h⟩
theorem w_asg {i : Nat} {f : FE} {s : List Sl} {Q : Fl → Prop} (h : (f s).wp (fun d => Q (.nx (s.set i (.v d)))) NoX) : (zAsg i f s).wp Q NoX := by
  unfold zAsg
  exact w_sx.mpr (wp_mono (fun d z => z) (fun _ _ z => z.elim) h)
theorem w_binR {p : F2} {f1 f2 : FE} {s : List Sl} {x : D} {Q : D → Prop} {E : QX} (h1 : f1 s = .ok x) (h : (f2 s).wp (fun y => (p x y).wp Q E) E) : (fBin p f1 f2 s).wp Q E := by
  unfold fBin
  rw [h1]
  show ((f2 s).bind fun y => p x y).wp Q E
  exact wp_bind.mpr h
theorem w_binL {p : F2} {f1 f2 : FE} {s : List Sl} {y : D} {Q : D → Prop} {E : QX} (h2 : f2 s = .ok y) (h : (f1 s).wp (fun x => (p x y).wp Q E) E) : (fBin p f1 f2 s).wp Q E := by
  unfold fBin
  refine wp_bind.mpr (wp_mono (fun x z => ?_) (fun _ _ z => z) h)
  rw [h2]
  exact z
theorem w_b1 {c : FC} {f : FE} {s : List Sl} {Q : D → Prop} {E : QX} (h : (f s).wp (fun x => (c [x]).wp Q E) E) : (fB c (fCons f fNil) s).wp Q E := by
  unfold fB fCons
  exact wp_bind.mpr (wp_bind.mpr (wp_mono (fun e z => z) (fun _ _ z => z) h))
theorem spotX {way : Nat} {v x : D} {s0 : List Sl} (h : (zSeq (zIf (fVal (fBin (pEqT TQ 10) (fVar 0) (fC (.int 0)))) (zSeq (zDrop (fCall g_read_script [] (fCons (fVar 1) fNil))) zNil) (zSeq (zDrop (fCall g_read_history [] (fCons (fVar 1) fNil))) zNil)) zNil) [.v (.int way), .v v, .v (.lst [.str "read"]), .un] = .ok (.ex 6 x [.v (.int way), .v v, .v (.lst [.str "read"]), .un])) : g__law_spot [.int way, v] = .ok (.lst [x]) := by
  refine e_fdef rfl ?_
  unfold f__law_spot
  have st : startD 4 [.int way, v] = [.v (.int way), .v v, .un, .un] := rfl
  rw [st]
  refine e_seq (s' := [.v (.int way), .v v, .v (.lst [.str "read"]), .un]) (e_zAsg (e_lst (e_args1 rfl) (by show 1 ≤ 1000; decide))) ?_
  refine e_seq (s' := [.v (.int way), .v v, .v (.lst [x]), .un]) (e_try1 [.v (.int way), .v v, .v (.lst [x]), .exc 6 x] [.v (.int way), .v v, .v (.lst [x]), .un] h rfl rfl (e_seq (e_zAsg (e_lst (e_args1 (e_xf rfl rfl)) (by show 1 ≤ 1000; decide))) rfl) rfl rfl) ?_
  exact e_seq_rt (e_zRet rfl)
theorem spotR {way : Nat} {v : D} (h : (zSeq (zIf (fVal (fBin (pEqT TQ 10) (fVar 0) (fC (.int 0)))) (zSeq (zDrop (fCall g_read_script [] (fCons (fVar 1) fNil))) zNil) (zSeq (zDrop (fCall g_read_history [] (fCons (fVar 1) fNil))) zNil)) zNil) [.v (.int way), .v v, .v (.lst [.str "read"]), .un] = .ok (.nx [.v (.int way), .v v, .v (.lst [.str "read"]), .un])) : g__law_spot [.int way, v] = .ok (.lst [.str "read"]) := by
  refine e_fdef rfl ?_
  unfold f__law_spot
  have st : startD 4 [.int way, v] = [.v (.int way), .v v, .un, .un] := rfl
  rw [st]
  refine e_seq (s' := [.v (.int way), .v v, .v (.lst [.str "read"]), .un]) (e_zAsg (e_lst (e_args1 rfl) (by show 1 ≤ 1000; decide))) ?_
  exact e_seq (e_try0 h) (e_seq_rt (e_zRet rfl))
theorem eq_way0 : pEqT TQ 10 (.int ((0 : Nat) : Int)) (.int 0) = .ok (.bl true) := eq_int.trans rfl
theorem eq_way1 : pEqT TQ 10 (.int ((1 : Nat) : Int)) (.int 0) = .ok (.bl false) := eq_int.trans rfl
theorem spot0X {v x : D} (h : g_read_script [v] = .exc 6 x) : g__law_spot [.int ((0 : Nat) : Int), v] = .ok (.lst [x]) := spotX (s0 := []) (e_seq_ex (e_ifT (e_val (e_bin rfl rfl eq_way0)) (e_seq_ex (e_zDropX (by
  unfold fCall
  rw [e_args1 rfl]
  exact h)))))
theorem spot1X {v x : D} (h : g_read_history [v] = .exc 6 x) : g__law_spot [.int ((1 : Nat) : Int), v] = .ok (.lst [x]) := spotX (s0 := []) (e_seq_ex (e_ifF (e_val (e_bin rfl rfl eq_way1)) (e_seq_ex (e_zDropX (by
  unfold fCall
  rw [e_args1 rfl]
  exact h)))))
theorem spot0R {v d : D} (h : g_read_script [v] = .ok d) : g__law_spot [.int ((0 : Nat) : Int), v] = .ok (.lst [.str "read"]) := spotR (e_seq (e_ifT (e_val (e_bin rfl rfl eq_way0)) (e_seq (e_zDrop (e_call1 rfl h)) rfl)) rfl)
theorem spot1R {v d : D} (h : g_read_history [v] = .ok d) : g__law_spot [.int ((1 : Nat) : Int), v] = .ok (.lst [.str "read"]) := spotR (e_seq (e_ifF (e_val (e_bin rfl rfl eq_way1)) (e_seq (e_zDrop (e_call1 rfl h)) rfl)) rfl)
theorem e_lit {s : List Sl} (z : String) : fC (.str (Str.ofString z)) s = .ok (strD (cds z)) := by
  show Res.ok (D.str (Str.ofString z)) = Res.ok (.str (SX.S (cds z)))
  rw [cds_S]
theorem lits_S : ∀ l : List String, (l.map fun z => D.str (Str.ofString z)) = (l.map cds).map strD
  | [] => rfl
  | z :: l => by
    rw [List.map_cons, List.map_cons, List.map_cons, lits_S l]
    show D.str (Str.ofString z) :: _ = D.str (SX.S (cds z)) :: _
    rw [cds_S]
theorem e_cat {f g : FE} {s : List Sl} {a b : List Nat} (h1 : f s = .ok (strD a)) (h2 : g s = .ok (strD b)) (l : a.length + b.length ≤ 3000) : fBin pAdd f g s = .ok (strD (a ++ b)) := e_add_S l h1 h2
theorem e_addS {f g : FE} {s : List Sl} {xs ys : List (List Nat)} (h1 : f s = .ok (.lst (xs.map strD))) (h2 : g s = .ok (.lst (ys.map strD))) (l : xs.length + ys.length ≤ 1000) : fBin pAdd f g s = .ok (.lst ((xs ++ ys).map strD)) := by
  rw [List.map_append]
  exact e_add_L h1 h2 (by rw [List.length_map, List.length_map]; exact l)
def badS (l : List Nat) : List (List Nat) := badS0.map cds ++ [l ++ [32], l ++ [120], 32 :: l]
theorem x_S : ("x" : Str) = SX.S [120] := by decide +kernel
theorem l_no_steps {l : List Nat} (hl : l.length ≤ 100) : g__law_no_steps [strD l] = .ok (.lst ((badS l).map strD)) := by
  refine e_fdef rfl ?_
  unfold f__law_no_steps
  have st : startD 2 [strD l] = [.v (strD l), .un] := rfl
  rw [st]
  have B : ∀ {s : List Sl}, fC (.str " ") s = .ok (strD [32]) := fun {s} => by
    show Res.ok (D.str (" " : Str)) = _
    rw [blank_S]
    rfl
  have XX : ∀ {s : List Sl}, fC (.str "x") s = .ok (strD [120]) := fun {s} => by
    show Res.ok (D.str ("x" : Str)) = _
    rw [x_S]
    rfl
  refine e_seq (s' := [.v (strD l), .v (.lst ((["", " ", "Full", "full ", " full", "full 1", "ful", "keep", "keep ", "keep 0", "keep 04"].map cds).map strD))]) (e_zAsg ((e_lst (xs := ["", " ", "Full", "full ", " full", "full 1", "ful", "keep", "keep ", "keep 0", "keep 04"].map fun z => D.str (Str.ofString z)) rfl (by decide)).trans (by rw [lits_S]))) ?_
  refine e_seq (s' := [.v (strD l), .v (.lst ((["", " ", "Full", "full ", " full", "full 1", "ful", "keep", "keep ", "keep 0", "keep 04"].map cds ++ ["keep -1", "keep +1", "keep  4", "keep 4 ", " keep 4", "keep 4.0", "keep a", "Keep 4"].map cds).map strD))]) (e_zAsg (e_addS rfl ((e_lst (xs := ["keep -1", "keep +1", "keep  4", "keep 4 ", " keep 4", "keep 4.0", "keep a", "Keep 4"].map fun z => D.str (Str.ofString z)) rfl (by decide)).trans (by rw [lits_S])) (by decide))) ?_
  refine e_seq (s' := [.v (strD l), .v (.lst ((["", " ", "Full", "full ", " full", "full 1", "ful", "keep", "keep ", "keep 0", "keep 04"].map cds ++ ["keep -1", "keep +1", "keep  4", "keep 4 ", " keep 4", "keep 4.0", "keep a", "Keep 4"].map cds ++ ["kepp 4", "lean", "lean 0", "dig 00", "dig", "dig 1 2", "dig 1,2", "lean_4", "keep4"].map cds).map strD))]) (e_zAsg (e_addS rfl ((e_lst (xs := ["kepp 4", "lean", "lean 0", "dig 00", "dig", "dig 1 2", "dig 1,2", "lean_4", "keep4"].map fun z => D.str (Str.ofString z)) rfl (by decide)).trans (by rw [lits_S])) (by decide))) ?_
  refine e_seq (s' := [.v (strD l), .v (.lst ((["", " ", "Full", "full ", " full", "full 1", "ful", "keep", "keep ", "keep 0", "keep 04"].map cds ++ ["keep -1", "keep +1", "keep  4", "keep 4 ", " keep 4", "keep 4.0", "keep a", "Keep 4"].map cds ++ ["kepp 4", "lean", "lean 0", "dig 00", "dig", "dig 1 2", "dig 1,2", "lean_4", "keep4"].map cds ++ ["lean 04", "dig 1_0", "dig 04", "lean +4", "lean -4", "dig 0", "dig ", "lean "].map cds).map strD))]) (e_zAsg (e_addS rfl ((e_lst (xs := ["lean 04", "dig 1_0", "dig 04", "lean +4", "lean -4", "dig 0", "dig ", "lean "].map fun z => D.str (Str.ofString z)) rfl (by decide)).trans (by rw [lits_S])) (by decide))) ?_
  refine e_seq_rt (e_zRet ((e_addS (ys := [cds "4 keep", cds "keep 1_0", l ++ [32], l ++ [120], [32] ++ l]) rfl (e_lst (e_cons (e_lit "4 keep") (e_cons (e_lit "keep 1_0") (e_args3 (e_cat rfl B (by show l.length + 1 ≤ 3000; omega)) (e_cat rfl XX (by show l.length + 1 ≤ 3000; omega)) (e_cat B rfl (by show 1 + l.length ≤ 3000; omega))))) (by show 5 ≤ 1000; decide)) (by show 36 + 5 ≤ 1000; decide)).trans ?_))
  unfold badS badS0
  simp only [List.map_append, List.append_assoc]
  rfl
end K81
set_option Elab.async false
set_option linter.all false
set_option exponentiation.threshold 4000
set_option maxRecDepth 100000
set_option maxHeartbeats 1000000
namespace K81
open PySem PySem.Spec L2 Dl Dl.Hd Res
theorem a_S : ("a" : Str) = SX.S [97] ∧ ("9" : Str) = SX.S [57] := by decide +kernel
theorem e_num {f : FE} {s : List Sl} {n : Nat} (h : f s = .ok (.int n)) (hn : n < 100) : fB gStr1 (fCons f fNil) s = .ok (strD (digs n)) := by
  refine e_b1 h ?_
  rw [e_str1 (Nat.lt_of_le_of_lt (Nat.log2_le_self _) (by omega)), str_digs n hn]
  rfl
theorem e_rep {f : FE} {s : List Sl} {x : Str} {c n : Nat} (e : x = SX.S [c]) (h : f s = .ok (.int n)) (hn : n ≤ 1000) : fBin pMul (fC (.str x)) f s = .ok (strD (List.replicate n c)) := by
  refine e_bin rfl h ?_
  rw [e, e_mul_s, need_pos ⟨by omega, by rw [SX.S_len, Int.toNat_natCast]; show 1 * n ≤ _; omega, by omega⟩, rep_S, Int.toNat_natCast]
  have : ∀ m, (List.replicate m [c]).flatten = List.replicate m c := fun m => by
    induction m with
    | zero => rfl
    | succ m ih =>
      rw [List.replicate_succ, List.flatten_cons, ih]
      rfl
  rw [this]
  rfl
theorem l_no_writes {size : Nat} (hs : size < 13) : g__law_no_writes [.int size] = .ok (.lst ((badW size).map strD)) := by
  refine e_fdef rfl ?_
  unfold f__law_no_writes
  have st : startD 2 [.int size] = [.v (.int size), .un] := rfl
  rw [st]
  have ld : (digs size).length ≤ 2 := (digs_ok size (by omega)).2.2.2
  have M1 : ∀ {x1 : Sl}, fB gStr1 (fCons (fBin pSub (fVar 0) (fC (.int 1))) fNil) [.v (.int size), x1] = .ok (strD (if size = 0 then [45, 49] else digs (size - 1))) := fun {x1} => by
    by_cases z : size = 0
    · rw [if_pos z]
      subst z
      refine e_b1 (e_bin rfl rfl rfl) ?_
      show gStr1 [.int (-1)] = _
      rw [e_str1 (by decide), str_m1]
      rfl
    · rw [if_neg z]
      exact e_num ((e_bin rfl rfl e_sub).trans (by rw [show ((size : Nat) : Int) - 1 = ((size - 1 : Nat) : Int) by omega])) (by omega)
  have l1 : (if size = 0 then [45, 49] else digs (size - 1)).length ≤ 2 := by
    split
    · decide
    · exact (digs_ok (size - 1) (by omega)).2.2.2
  refine e_seq (s' := [.v (.int size), .v (.lst ((["", " ", "a", "0", "0 ", "0  a", " 0 a", "0 a ", "00 a", "01 a", "-1 a", "+0 a", "0 ."].map cds).map strD))]) (e_zAsg ((e_lst (xs := ["", " ", "a", "0", "0 ", "0  a", " 0 a", "0 a ", "00 a", "01 a", "-1 a", "+0 a", "0 ."].map fun z => D.str (Str.ofString z)) rfl (by decide)).trans (by rw [lits_S]))) ?_
  refine e_seq (s' := [.v (.int size), .v (.lst ((["", " ", "a", "0", "0 ", "0  a", " 0 a", "0 a ", "00 a", "01 a", "-1 a", "+0 a", "0 ."].map cds ++ [cds "0 A", cds "0 a.", cds "0 a b", digs size ++ cds " a", cds "0 " ++ List.replicate (size + 1) 97, cds "a 0", cds "0a", cds "0=a"]).map strD))]) (e_zAsg (e_addS (ys := [cds "0 A", cds "0 a.", cds "0 a b", digs size ++ cds " a", cds "0 " ++ List.replicate (size + 1) 97, cds "a 0", cds "0a", cds "0=a"]) rfl (e_lst (e_cons (e_lit _) (e_cons (e_lit _) (e_cons (e_lit _) (e_cons (e_cat (e_num rfl (by omega)) (e_lit _) (by show _ + 2 ≤ 3000; omega)) (e_cons (e_cat (e_lit _) (e_rep a_S.1 (e_int_add (i := size) (j := 1) rfl rfl) (by omega)) (by rw [List.length_replicate]; show 2 + _ ≤ 3000; omega)) (e_args3 (e_lit _) (e_lit _) (e_lit _))))))) (by show 8 ≤ 1000; decide)) (by show 13 + 8 ≤ 1000; decide))) ?_
  refine e_seq (s' := [.v (.int size), .v (.lst ((["", " ", "a", "0", "0 ", "0  a", " 0 a", "0 a ", "00 a", "01 a", "-1 a", "+0 a", "0 ."].map cds ++ [cds "0 A", cds "0 a.", cds "0 a b", digs size ++ cds " a", cds "0 " ++ List.replicate (size + 1) 97, cds "a 0", cds "0a", cds "0=a"] ++ [(if size = 0 then [45, 49] else digs (size - 1)) ++ cds " aa", digs size ++ cds " aa"]).map strD))]) (e_zAsg (e_addS (ys := [(if size = 0 then [45, 49] else digs (size - 1)) ++ cds " aa", digs size ++ cds " aa"]) rfl (e_lst (e_args2 (e_cat M1 (e_lit _) (by show _ + 3 ≤ 3000; omega)) (e_cat (e_num rfl (by omega)) (e_lit _) (by show _ + 3 ≤ 3000; omega))) (by show 2 ≤ 1000; decide)) (by show 21 + 2 ≤ 1000; decide))) ?_
  refine e_seq_rt (e_zRet ((e_addS (ys := [cds "0,a", cds "0 -", cds "0 1", cds "1_0 a", cds "0.0 a", List.replicate 40 57 ++ cds " a"]) rfl (e_lst (e_cons (e_lit _) (e_cons (e_lit _) (e_cons (e_lit _) (e_args3 (e_lit _) (e_lit _) (e_cat (e_rep (n := 40) a_S.2 rfl (by decide)) (e_lit _) (by decide)))))) (by show 6 ≤ 1000; decide)) (by show 23 + 6 ≤ 1000; decide)).trans ?_))
  unfold badW
  simp only [List.map_append, List.append_assoc, List.map_cons, List.map_nil, List.cons_append, List.nil_append]
end K81
set_option Elab.async false
set_option linter.all false
set_option exponentiation.threshold 4000
set_option maxRecDepth 100000
set_option maxHeartbeats 1000000
namespace K81
open PySem PySem.Spec L2 Dl Dl.Hd Res
theorem w_ifT {g : FW} {fa : FA} {ds : List D} {a : FS} {s : List Sl} {Q : Fl → Prop} (h : fa s = .ok ds) (hw : (g ds).wp (fun d => d = .bl true) NoX) (k : Q (.nx s)) : (zIf (fNotT (fTru (fCall g [] fa))) a zNil s).wp Q NoX := by
  unfold zIf
  refine w_sx.mpr ?_
  unfold fNotT fTru fCall
  rw [h]
  refine wp_bind.mpr (wp_bind.mpr ?_)
  show (g (ds ++ [])).wp _ _
  rw [List.append_nil]
  refine wp_mono ?_ (fun _ _ z => z.elim) hw
  rintro _ rfl
  exact k
theorem words4 : ("full" : Str) = SX.S wFull ∧ ("keep " : Str) = SX.S (wKeep ++ [32]) ∧ ("lean " : Str) = SX.S (wLean ++ [32]) ∧ ("dig " : Str) = SX.S (wDig ++ [32]) := by decide +kernel
theorem good_in {w : List Nat} (hw : w = wKeep ∨ w = wLean ∨ w = wDig) {n : Nat} (hn : n < 30) : (w ++ [32]) ++ digs (n + 1) ∈ goodS := by
  refine List.mem_cons_of_mem _ (List.mem_flatMap.mpr ⟨w, ?_, List.mem_map.mpr ⟨n, List.mem_range.mpr hn, by rw [List.append_assoc]; rfl⟩⟩)
  rcases hw with rfl | rfl | rfl
  · exact List.mem_cons_self
  · exact List.mem_cons_of_mem _ List.mem_cons_self
  · exact List.mem_cons_of_mem _ (List.mem_cons_of_mem _ List.mem_cons_self)
theorem step_line {s : List Sl} {word : Str} {w : List Nat} (ew : word = SX.S w) (h0 : fVar 0 s = .ok (.tok 1)) (h3 : fVar 3 s = .ok (.str word)) (hw : w = wFull ∨ ∃ v, (v = wKeep ∨ v = wLean ∨ v = wDig) ∧ w = v ++ [32]) : (fBin pAdd (fVar 3) (fBin pMul (fB gStr1 (fCons (fBin pAdd (fC (.int 1)) (fCall gSip [] (fCons (fVar 0) (fCons (fC (.int 30)) fNil)))) fNil)) (fB gInt (fCons (fBin (pNeT TQ 10) (fVar 3) (fC (.str "full"))) fNil))) s).wp (fun d => ∃ l, d = strD l ∧ l ∈ goodS) NoX := by
  subst ew
  have NE : fB gInt (fCons (fBin (pNeT TQ 10) (fVar 3) (fC (.str "full"))) fNil) s = .ok (.int (if w = wFull then 0 else 1)) := by
    refine e_b1 (e_bin h3 rfl (ne_str.trans (by rw [full_S.1, S_beq2]))) ?_
    by_cases z : w = wFull
    · rw [decide_eq_true z, if_pos z]
      rfl
    · rw [decide_eq_false z, if_neg z]
      rfl
  apply w_binR h3
  apply w_binL NE
  apply w_b1
  apply w_add1
  apply w_sipE (m := 30) h0 rfl (szlog (by decide) (by decide))
  intro d d0 d1
  obtain ⟨n, rfl⟩ : ∃ k : Nat, d = k := ⟨d.toNat, by omega⟩
  refine ⟨n, rfl, ?_⟩
  have ST : gStr1 [.int (1 + (n : Int))] = .ok (strD (digs (n + 1))) := by
    rw [show (1 + (n : Int)) = ((n + 1 : Nat) : Int) by omega, e_str1 (Nat.lt_of_le_of_lt (Nat.log2_le_self _) (by omega)), str_digs (n + 1) (by omega)]
    rfl
  rw [ST]
  have ld := (digs_ok (n + 1) (by omega)).2.2.2
  rcases hw with rfl | ⟨v, hv, rfl⟩
  · rw [if_pos rfl]
    show (pMul (strD (digs (n + 1))) (.int 0)).wp _ NoX
    unfold strD
    rw [e_mul_s, need_pos ⟨by decide, by rw [SX.S_len]; show _ * 0 ≤ _; omega, by decide⟩]
    show (pAdd (.str (SX.S wFull)) (.str (SX.S []))).wp _ NoX
    rw [e_add_s, need_pos (by decide)]
    exact ⟨wFull, rfl, List.mem_cons_self⟩
  · have ne : v ++ [32] ≠ wFull := by
      rcases hv with rfl | rfl | rfl <;> decide
    rw [if_neg ne]
    show (pMul (strD (digs (n + 1))) (.int 1)).wp _ NoX
    unfold strD
    rw [e_mul_s, need_pos ⟨by decide, by rw [SX.S_len]; show _ * 1 ≤ _; omega, by decide⟩, rep_S]
    show (pAdd (.str (SX.S (v ++ [32]))) (.str (SX.S (List.replicate 1 (digs (n + 1))).flatten))).wp _ NoX
    rw [show (List.replicate 1 (digs (n + 1))).flatten = digs (n + 1) from List.append_nil _]
    have lv : v.length ≤ 4 := by rcases hv with rfl | rfl | rfl <;> decide
    rw [e_add_s, need_pos (by rw [SX.S_len, SX.S_len, List.length_append]; exact szL (by show _ + 1 + _ ≤ _; omega)), SX.S_cat]
    exact ⟨_, rfl, good_in hv (by omega)⟩
theorem steps_ok : (g__law_steps [.tok 1]).wp (fun d => ∃ ls : List (List Nat), d = .lst (ls.map strD) ∧ ls ≠ [] ∧ ls.length ≤ 8 ∧ ∀ l ∈ ls, l ∈ goodS) NoX := by
  obtain ⟨w1, w2, w3, w4⟩ := words4
  refine w_def rfl ?_
  unfold f__law_steps
  generalize hF : fBin pAdd (fVar 3) _ = F
  refine w_seq ?_
  simp only [fVar,fC,fBin,fNil,fCons,fTup,fLst,fONone,fOSome,fSl,fVal,fTru,fNotT,fAndT,fOrT,fNot,fAnd,fOr,fIfE,fB,fM1,fCall,fMeth,fMake,fProp,fFld,fXf,fNeg,fRepl,fFr,frzS,frz1,flatD,fFrT,jVal,jR1,jR2,jR3,jEnumL,fYes,fLc,zAsg,zOwn,zOwnL,zDrop,zApp,zRet,zRetN,zRetL,zRetOwn,zIf,zBreak,zCont,zRaise,zTg,zPar2,zPar3,zFld,zSetSl,zFor,zTry,setTF,setM,fDef,fIni,fPur,startD,Dl.isNon,plainB,wipeD,fChain,hNil,hCons,jEnumS,fOpO,fIxO,jObj,zOwnE,zPar2E,zTg3E,zOwnN,zPar2N,zTg3N,zSetIx,fRev,fRevS,fLR1,fLR2,fCallK,fBor,fBorT,e_asI,e_asB,e_tru_non,e_tru_bl,e_tru_int,e_tru_str,e_tru_lst,e_tru_tup,e_tru_scr,e_sl_lst,e_sl_str,e_sl_tup,e_some,e_none,e_it_lst,e_it_tup,e_it_str,e_it_scr,e_r1,e_r2,e_en,e_thenS_nx,e_thenS_rt,e_thenS_rn,e_thenS_bk,e_thenS_cn,e_thenS_ex,e_afterS_nx,e_afterS_rt,e_afterS_rn,e_afterS_bk,e_afterS_cn,e_afterS_ex,e_su_nx,e_su_rt,e_su_bk,e_su_cn,e_ca_nx,e_ca_bk,e_ca_cn,e_ca_rt,e_ca_ex,e_end_nx,e_end_rt,e_end_rn,e_end_ex,e_endN_rn,e_endN_ex,e_endI_ex,e_endI_nx,e_len_str,e_len_lst,e_len_tup,e_len_scr,e_list_lst,e_list_tup,e_list_scr,e_list_str,e_tuple_lst,e_tuple_tup,e_int_int,e_int_bl,e_bool_int,e_bool_bl,e_sum,e_all,e_any,e_min,e_max,e_join_l,e_join_t,e_count,e_strip,e_split,e_add_i,e_add_s,e_add_l,e_add_t,e_sub,e_mul_i,e_mul_s,e_mul_l,e_mul_t,e_is_bl,e_not_bl,e_mod,e_div,e_pow,e_cmp,e_isN_non,e_notN_non,e_isN_bl,e_notN_bl,e_isN_int,e_notN_int,e_isN_str,e_notN_str,e_isN_lst,e_notN_lst,e_isN_tup,e_notN_tup,e_isN_obj,e_notN_obj,e_isN_scr,e_notN_scr,e_isN_tok,e_notN_tok,e_ix_l,e_ix_t,e_ix_s,e_ix_n,e_in1,e_kBl,e_enS,e_repl,e_neg,e_gcd,e_lcm,e_lenO_str,e_lenO_lst,e_lenO_tup,e_lenO_scr,e_op_int,e_op_str,e_op_lst,e_op_tup,e_ixO_str,e_ixO_scr,e_ixO_lst,e_ixO_tup,e_it_lst',e_it_tup',e_it_str',e_rev,e_revS,e_lr1,e_lr2,e_sorted,e_ownF_lst,e_ownF_non,e_par2F,e_triF,e_setIx,lis_cons,lis_nil,lisO_un,lisO_int,lisO_str,lisO_bl,lisO_non,w_sx,w_nil,w_ok,w_exc,w_bad,wp_bind,wp_noex,wp_cat,wp_need,true_and,and_true,bind_ok,bind_exc,bind_bad,bind_ask,cat,noex,reduceIte,Nat.reduceEqDiff,if_true,if_false,Bool.false_eq_true,List.getElem?_cons_zero,List.getElem?_cons_succ,List.map_cons,List.map_nil,List.replicate,List.cons_append,List.nil_append,List.append_nil,List.length_cons,List.length_nil,List.set_cons_zero,List.set_cons_succ]
  refine ⟨Nat.zero_le _, ?_⟩
  refine w_seq ?_
  simp only [fVar,fC,fBin,fNil,fCons,fTup,fLst,fONone,fOSome,fSl,fVal,fTru,fNotT,fAndT,fOrT,fNot,fAnd,fOr,fIfE,fB,fM1,fCall,fMeth,fMake,fProp,fFld,fXf,fNeg,fRepl,fFr,frzS,frz1,flatD,fFrT,jVal,jR1,jR2,jR3,jEnumL,fYes,fLc,zAsg,zOwn,zOwnL,zDrop,zApp,zRet,zRetN,zRetL,zRetOwn,zIf,zBreak,zCont,zRaise,zTg,zPar2,zPar3,zFld,zSetSl,zFor,zTry,setTF,setM,fDef,fIni,fPur,startD,Dl.isNon,plainB,wipeD,fChain,hNil,hCons,jEnumS,fOpO,fIxO,jObj,zOwnE,zPar2E,zTg3E,zOwnN,zPar2N,zTg3N,zSetIx,fRev,fRevS,fLR1,fLR2,fCallK,fBor,fBorT,e_asI,e_asB,e_tru_non,e_tru_bl,e_tru_int,e_tru_str,e_tru_lst,e_tru_tup,e_tru_scr,e_sl_lst,e_sl_str,e_sl_tup,e_some,e_none,e_it_lst,e_it_tup,e_it_str,e_it_scr,e_r1,e_r2,e_en,e_thenS_nx,e_thenS_rt,e_thenS_rn,e_thenS_bk,e_thenS_cn,e_thenS_ex,e_afterS_nx,e_afterS_rt,e_afterS_rn,e_afterS_bk,e_afterS_cn,e_afterS_ex,e_su_nx,e_su_rt,e_su_bk,e_su_cn,e_ca_nx,e_ca_bk,e_ca_cn,e_ca_rt,e_ca_ex,e_end_nx,e_end_rt,e_end_rn,e_end_ex,e_endN_rn,e_endN_ex,e_endI_ex,e_endI_nx,e_len_str,e_len_lst,e_len_tup,e_len_scr,e_list_lst,e_list_tup,e_list_scr,e_list_str,e_tuple_lst,e_tuple_tup,e_int_int,e_int_bl,e_bool_int,e_bool_bl,e_sum,e_all,e_any,e_min,e_max,e_join_l,e_join_t,e_count,e_strip,e_split,e_add_i,e_add_s,e_add_l,e_add_t,e_sub,e_mul_i,e_mul_s,e_mul_l,e_mul_t,e_is_bl,e_not_bl,e_mod,e_div,e_pow,e_cmp,e_isN_non,e_notN_non,e_isN_bl,e_notN_bl,e_isN_int,e_notN_int,e_isN_str,e_notN_str,e_isN_lst,e_notN_lst,e_isN_tup,e_notN_tup,e_isN_obj,e_notN_obj,e_isN_scr,e_notN_scr,e_isN_tok,e_notN_tok,e_ix_l,e_ix_t,e_ix_s,e_ix_n,e_in1,e_kBl,e_enS,e_repl,e_neg,e_gcd,e_lcm,e_lenO_str,e_lenO_lst,e_lenO_tup,e_lenO_scr,e_op_int,e_op_str,e_op_lst,e_op_tup,e_ixO_str,e_ixO_scr,e_ixO_lst,e_ixO_tup,e_it_lst',e_it_tup',e_it_str',e_rev,e_revS,e_lr1,e_lr2,e_sorted,e_ownF_lst,e_ownF_non,e_par2F,e_triF,e_setIx,lis_cons,lis_nil,lisO_un,lisO_int,lisO_str,lisO_bl,lisO_non,w_sx,w_nil,w_ok,w_exc,w_bad,wp_bind,wp_noex,wp_cat,wp_need,true_and,and_true,bind_ok,bind_exc,bind_bad,bind_ask,cat,noex,reduceIte,Nat.reduceEqDiff,if_true,if_false,Bool.false_eq_true,List.getElem?_cons_zero,List.getElem?_cons_succ,List.map_cons,List.map_nil,List.replicate,List.cons_append,List.nil_append,List.append_nil,List.length_cons,List.length_nil,List.set_cons_zero,List.set_cons_succ, w_sip]
  refine ⟨szlog (by decide) (by decide), fun d d0 d1 => ?_⟩
  obtain ⟨K, eK⟩ : ∃ K : Nat, 1 + d = (K : Int) := ⟨(1 + d).toNat, by omega⟩
  rw [eK]
  refine ⟨by omega, ?_⟩
  refine wp_for (fun ds s => ∃ (ls : List (List Nat)) (x2 x3 : Sl), s = [.v (.tok 1), .own (ls.map strD), x2, x3] ∧ ls.length + ds.length = K ∧ ∀ l ∈ ls, l ∈ goodS) ⟨[], _, _, rfl, by rw [ints_len]; simp, fun w h => by cases h⟩ ?_ ?_
  · rintro _ ⟨ls, x2, x3, rfl, hl, hw⟩
    simp only [List.length_nil] at hl
    refine w_seq ?_
    simp only [fVar,fC,fBin,fNil,fCons,fTup,fLst,fONone,fOSome,fSl,fVal,fTru,fNotT,fAndT,fOrT,fNot,fAnd,fOr,fIfE,fB,fM1,fCall,fMeth,fMake,fProp,fFld,fXf,fNeg,fRepl,fFr,frzS,frz1,flatD,fFrT,jVal,jR1,jR2,jR3,jEnumL,fYes,fLc,zAsg,zOwn,zOwnL,zDrop,zApp,zRet,zRetN,zRetL,zRetOwn,zIf,zBreak,zCont,zRaise,zTg,zPar2,zPar3,zFld,zSetSl,zFor,zTry,setTF,setM,fDef,fIni,fPur,startD,Dl.isNon,plainB,wipeD,fChain,hNil,hCons,jEnumS,fOpO,fIxO,jObj,zOwnE,zPar2E,zTg3E,zOwnN,zPar2N,zTg3N,zSetIx,fRev,fRevS,fLR1,fLR2,fCallK,fBor,fBorT,e_asI,e_asB,e_tru_non,e_tru_bl,e_tru_int,e_tru_str,e_tru_lst,e_tru_tup,e_tru_scr,e_sl_lst,e_sl_str,e_sl_tup,e_some,e_none,e_it_lst,e_it_tup,e_it_str,e_it_scr,e_r1,e_r2,e_en,e_thenS_nx,e_thenS_rt,e_thenS_rn,e_thenS_bk,e_thenS_cn,e_thenS_ex,e_afterS_nx,e_afterS_rt,e_afterS_rn,e_afterS_bk,e_afterS_cn,e_afterS_ex,e_su_nx,e_su_rt,e_su_bk,e_su_cn,e_ca_nx,e_ca_bk,e_ca_cn,e_ca_rt,e_ca_ex,e_end_nx,e_end_rt,e_end_rn,e_end_ex,e_endN_rn,e_endN_ex,e_endI_ex,e_endI_nx,e_len_str,e_len_lst,e_len_tup,e_len_scr,e_list_lst,e_list_tup,e_list_scr,e_list_str,e_tuple_lst,e_tuple_tup,e_int_int,e_int_bl,e_bool_int,e_bool_bl,e_sum,e_all,e_any,e_min,e_max,e_join_l,e_join_t,e_count,e_strip,e_split,e_add_i,e_add_s,e_add_l,e_add_t,e_sub,e_mul_i,e_mul_s,e_mul_l,e_mul_t,e_is_bl,e_not_bl,e_mod,e_div,e_pow,e_cmp,e_isN_non,e_notN_non,e_isN_bl,e_notN_bl,e_isN_int,e_notN_int,e_isN_str,e_notN_str,e_isN_lst,e_notN_lst,e_isN_tup,e_notN_tup,e_isN_obj,e_notN_obj,e_isN_scr,e_notN_scr,e_isN_tok,e_notN_tok,e_ix_l,e_ix_t,e_ix_s,e_ix_n,e_in1,e_kBl,e_enS,e_repl,e_neg,e_gcd,e_lcm,e_lenO_str,e_lenO_lst,e_lenO_tup,e_lenO_scr,e_op_int,e_op_str,e_op_lst,e_op_tup,e_ixO_str,e_ixO_scr,e_ixO_lst,e_ixO_tup,e_it_lst',e_it_tup',e_it_str',e_rev,e_revS,e_lr1,e_lr2,e_sorted,e_ownF_lst,e_ownF_non,e_par2F,e_triF,e_setIx,lis_cons,lis_nil,lisO_un,lisO_int,lisO_str,lisO_bl,lisO_non,w_sx,w_nil,w_ok,w_exc,w_bad,wp_bind,wp_noex,wp_cat,wp_need,true_and,and_true,bind_ok,bind_exc,bind_bad,bind_ask,cat,noex,reduceIte,Nat.reduceEqDiff,if_true,if_false,Bool.false_eq_true,List.getElem?_cons_zero,List.getElem?_cons_succ,List.map_cons,List.map_nil,List.replicate,List.cons_append,List.nil_append,List.append_nil,List.length_cons,List.length_nil,List.set_cons_zero,List.set_cons_succ]
    refine ⟨ls, rfl, fun e => ?_, by omega, hw⟩
    rw [e] at hl
    simp at hl
    omega
  · rintro k ds _ ⟨ls, x2, x3, rfl, hl, hw⟩
    simp only [List.length_cons] at hl
    have key : ∀ (word : Str) (w : List Nat), word = SX.S w → (w = wFull ∨ ∃ v, (v = wKeep ∨ v = wLean ∨ v = wDig) ∧ w = v ++ [32]) → (F [.v (.tok 1), .own (ls.map strD), .v k, .v (.str word)]).wp (fun d => ∃ l, d = strD l ∧ l ∈ goodS) NoX := fun word w ew hw => by
      rw [← hF]
      exact step_line ew rfl rfl hw
    refine w_seq (w_asg (w_binR (x := .lst [.str "full", .str "keep ", .str "lean ", .str "dig "]) (e_lst rfl (by decide)) (w_sipE (m := 4) rfl rfl (szlog (by decide) (by decide)) fun d d0 d1 => ?_)))
    have hwl : (ls.map strD).length < sizeLine := by rw [List.length_map]; exact Nat.lt_of_lt_of_le (show ls.length < 101 by omega) (szL (by decide))
    have fin : ∀ {Q : Fl → Prop} (word : Str) (w : List Nat), word = SX.S w → (w = wFull ∨ ∃ v, (v = wKeep ∨ v = wLean ∨ v = wDig) ∧ w = v ++ [32]) → (∀ (x3 : Sl) (l : List Nat), l ∈ goodS → Q (.nx [.v (.tok 1), .own (ls.map strD ++ [strD l]), .v k, x3])) → (thenS (.nx ([.v (.tok 1), .own (ls.map strD), .v k, x3].set 3 (.v (.str word)))) (zSeq (zApp 1 F) zNil)).wp Q NoX := fun {Q} word w ew hw2 hQ => by
      refine w_seq (w_app (xs := ls.map strD) rfl hwl (wp_mono ?_ (fun _ _ z => z) (key word w ew hw2)))
      rintro _ ⟨l, rfl, hl2⟩
      exact hQ _ l hl2
    have out : ∀ (x3 : Sl) (l : List Nat), l ∈ goodS → ∃ (ls' : List (List Nat)) (x2 x3' : Sl), [.v (.tok 1), .own (ls.map strD ++ [strD l]), .v k, x3] = [.v (.tok 1), .own (ls'.map strD), x2, x3'] ∧ ls'.length + ds.length = K ∧ ∀ l ∈ ls', l ∈ goodS := fun x3 l hl2 => by
      refine ⟨ls ++ [l], _, _, by rw [List.map_append]; rfl, by rw [List.length_append]; show ls.length + 1 + ds.length = K; omega, fun z hz => ?_⟩
      rcases List.mem_append.mp hz with y | y
      · exact hw z y
      · rw [List.mem_singleton.mp y]
        exact hl2
    have : d = 0 ∨ d = 1 ∨ d = 2 ∨ d = 3 := by omega
    rcases this with rfl | rfl | rfl | rfl
    · exact fin _ _ w1 (.inl rfl) out
    · exact fin _ _ w2 (.inr ⟨wKeep, .inl rfl, rfl⟩) out
    · exact fin _ _ w3 (.inr ⟨wLean, .inr (.inl rfl), rfl⟩) out
    · exact fin _ _ w4 (.inr ⟨wDig, .inr (.inr rfl), rfl⟩) out
end K81
set_option Elab.async false
set_option linter.all false
set_option exponentiation.threshold 4000
set_option maxRecDepth 100000
set_option maxHeartbeats 1000000
namespace K81
open PySem PySem.Spec L2 Dl Dl.Hd Res
theorem e_joinL {f : FE} {s : List Sl} {ls : List (List Nat)} (h : f s = .ok (.lst (ls.map strD))) (hl : (TL.joinL [10] ls).length ≤ 100000) (hl2 : ls.length ≤ 1000) (hs : (ls.map List.length).sum ≤ 100000) : fM1 kJoin (fC (.str "\n")) f s = .ok (strD (TL.joinL [10] ls)) := by
  refine e_m1 (z := "\n") rfl h ?_
  have e : ls.map strD = (ls.map SX.S).map D.str := by
    rw [List.map_map]
    rfl
  rw [e]
  simp only [fVar,fC,fBin,fNil,fCons,fTup,fLst,fONone,fOSome,fSl,fVal,fTru,fNotT,fAndT,fOrT,fNot,fAnd,fOr,fIfE,fB,fM1,fCall,fMeth,fMake,fProp,fFld,fXf,fNeg,fRepl,fFr,frzS,frz1,flatD,fFrT,jVal,jR1,jR2,jR3,jEnumL,fYes,fLc,zNil,zSeq,zAsg,zOwn,zOwnL,zDrop,zApp,zRet,zRetN,zRetL,zRetOwn,zIf,zBreak,zCont,zRaise,zTg,zPar2,zPar3,zFld,zSetSl,zFor,zTry,sx,setTF,setM,fDef,fIni,fPur,startD,Dl.isNon,plainB,wipeD,fChain,hNil,hCons,jEnumS,fOpO,fIxO,jObj,zOwnE,zPar2E,zTg3E,zOwnN,zPar2N,zTg3N,zSetIx,fRev,fRevS,fLR1,fLR2,fCallK,fBor,fBorT,e_asI,e_asB,e_tru_non,e_tru_bl,e_tru_int,e_tru_str,e_tru_lst,e_tru_tup,e_tru_scr,e_sl_lst,e_sl_str,e_sl_tup,e_some,e_none,e_it_lst,e_it_tup,e_it_str,e_it_scr,e_r1,e_r2,e_en,e_thenS_nx,e_thenS_rt,e_thenS_rn,e_thenS_bk,e_thenS_cn,e_thenS_ex,e_afterS_nx,e_afterS_rt,e_afterS_rn,e_afterS_bk,e_afterS_cn,e_afterS_ex,e_su_nx,e_su_rt,e_su_bk,e_su_cn,e_ca_nx,e_ca_bk,e_ca_cn,e_ca_rt,e_ca_ex,e_end_nx,e_end_rt,e_end_rn,e_end_ex,e_endN_rn,e_endN_ex,e_endI_ex,e_endI_nx,e_len_str,e_len_lst,e_len_tup,e_len_scr,e_list_lst,e_list_tup,e_list_scr,e_list_str,e_tuple_lst,e_tuple_tup,e_int_int,e_int_bl,e_bool_int,e_bool_bl,e_sum,e_all,e_any,e_min,e_max,e_join_l,e_join_t,e_count,e_strip,e_split,e_add_i,e_add_s,e_add_l,e_add_t,e_sub,e_mul_i,e_mul_s,e_mul_l,e_mul_t,e_is_bl,e_not_bl,e_mod,e_div,e_pow,e_cmp,e_isN_non,e_notN_non,e_isN_bl,e_notN_bl,e_isN_int,e_notN_int,e_isN_str,e_notN_str,e_isN_lst,e_notN_lst,e_isN_tup,e_notN_tup,e_isN_obj,e_notN_obj,e_isN_scr,e_notN_scr,e_isN_tok,e_notN_tok,e_ix_l,e_ix_t,e_ix_s,e_ix_n,e_in1,e_kBl,e_enS,e_repl,e_neg,e_gcd,e_lcm,e_lenO_str,e_lenO_lst,e_lenO_tup,e_lenO_scr,e_op_int,e_op_str,e_op_lst,e_op_tup,e_ixO_str,e_ixO_scr,e_ixO_lst,e_ixO_tup,e_it_lst',e_it_tup',e_it_str',e_rev,e_revS,e_lr1,e_lr2,e_sorted,e_ownF_lst,e_ownF_non,e_par2F,e_triF,e_setIx,lis_cons,lis_nil,lisO_un,lisO_int,lisO_str,lisO_bl,lisO_non,bind_ok,bind_exc,bind_bad,bind_ask,cat,noex,need_true,reduceIte,Nat.reduceEqDiff,if_true,if_false,Bool.false_eq_true,List.getElem?_cons_zero,List.getElem?_cons_succ,List.map_cons,List.map_nil,List.replicate,List.cons_append,List.nil_append,List.append_nil,List.length_cons,List.length_nil,List.set_cons_zero,List.set_cons_succ, toStrs_map]
  have hz : ((ls.map SX.S).map (·.length)).sum + (ls.map SX.S).length * ("\n" : Str).length ≤ 16777216 := by
    rw [SX.lens, List.length_map]
    have : ("\n" : Str).length = 1 := by decide +kernel
    rw [this]
    show (ls.map List.length).sum + ls.length * 1 ≤ 16777216
    omega
  rw [need_pos hz, nl_S, SX.join_S]
  rfl
theorem sum_len {m : Nat} : ∀ {l : List (List Nat)}, (∀ p ∈ l, p.length ≤ m) → (l.map List.length).sum ≤ l.length * m
  | [], _ => Nat.zero_le _
  | p :: l, h => by
    have h1 := h p List.mem_cons_self
    have h2 := sum_len (l := l) fun x hx => h x (List.mem_cons_of_mem _ hx)
    rw [List.map_cons, List.sum_cons, List.length_cons, Nat.succ_mul]
    omega
theorem e_joinK {f : FE} {s : List Sl} {ls : List (List Nat)} (h : f s = .ok (.lst (ls.map strD))) (hk : ∀ l ∈ ls, okLn l) (hl : ls.length ≤ 60) : fM1 kJoin (fC (.str "\n")) f s = .ok (strD (TL.joinL [10] ls)) := by
  have h1 := join_len (m := 500) fun l h => (hk l h).2
  have h2 := sum_len (m := 500) fun l h => (hk l h).2
  have h3 : ls.length * 501 ≤ 60 * 501 := Nat.mul_le_mul_right _ hl
  have h4 : ls.length * 500 ≤ 60 * 500 := Nat.mul_le_mul_right _ hl
  exact e_joinL h (by omega) (by omega) (by omega)
theorem x_l : (.str "x" : D) = strD [120] := by
  show D.str ("x" : Str) = _
  rw [x_S]
  rfl
theorem told_ok {way first : Nat} {ls bad : List (List Nat)} (hf : first ≤ ls.length) (hls : ∀ l ∈ ls, okLn l) (hb : ∀ b ∈ bad, okLn b) (hl : ls.length ≤ 20)
    (H : ∀ b ∈ bad, ∀ k, first ≤ k → k ≤ ls.length → ∀ r, (r = ls.drop k ∨ r = ls.drop (k + 1) ∨ r = [] ∨ r = [[120], []]) → TL.joinL [10] (ls.take k ++ b :: r) ≠ [] → g__law_spot [.int way, strD (TL.joinL [10] (ls.take k ++ b :: r))] = .ok (.lst [.int ((k + 1 : Nat) : Int)])) :
    (g__law_all_told [.tok 1, .int way, .lst (ls.map strD), .int first, .lst (bad.map strD)]).wp (fun d => d = .bl true) NoX := by
  refine w_def rfl ?_
  unfold f__law_all_told
  have st : startD 9 [.tok 1, .int way, .lst (ls.map strD), .int first, .lst (bad.map strD)] = [.v (.tok 1), .v (.int way), .v (.lst (ls.map strD)), .v (.int first), .v (.lst (bad.map strD)), .un, .un, .un, .un] := rfl
  rw [st]
  generalize hbody : zSeq (zAsg 6 _) _ = body
  refine w_seq ?_
  unfold zFor
  refine w_sx.mpr ?_
  rw [e_jVal (f := fVar 4) (xs := bad.map strD) rfl]
  show (forF (.nm 5) body (bad.map strD) _).wp _ NoX
  refine wp_forAll (fun s => ∃ x5 x6 x7 x8 : Sl, s = [.v (.tok 1), .v (.int way), .v (.lst (ls.map strD)), .v (.int first), .v (.lst (bad.map strD)), x5, x6, x7, x8]) ⟨.un, .un, .un, .un, rfl⟩ ?_ ?_
  · rintro _ ⟨x5, x6, x7, x8, rfl⟩
    exact rfl
  · rintro d hd _ ⟨x5, x6, x7, x8, rfl⟩
    obtain ⟨b, hbm, rfl⟩ := List.mem_map.mp hd
    refine ⟨_, rfl, ?_⟩
    rw [← hbody]
    refine w_seq (w_asg (w_binR (x := .int first) rfl (w_sipE (m := ((ls.length + 1 - first : Nat) : Int)) rfl (e_bin (e_int_add (i := ls.length) (j := 1) ((e_len_l rfl).trans (by rw [List.length_map])) rfl) rfl (by
      rw [e_sub]
      congr 2
      omega)) (szlog (by omega) (by omega)) fun d d0 d1 => ?_)))
    obtain ⟨k, ek, k1, k2⟩ : ∃ k : Nat, (first : Int) + d = (k : Int) ∧ first ≤ k ∧ k ≤ ls.length := ⟨first + d.toNat, by omega, by omega, by omega⟩
    have A6 : pAdd (.int first) (.int d) = .ok (.int k) := by rw [e_add_i, ek]
    rw [A6]
    show (zSeq (zAsg 7 _) _ [.v (.tok 1), .v (.int way), .v (.lst (ls.map strD)), .v (.int first), .v (.lst (bad.map strD)), .v (strD b), .v (.int k), x7, x8]).wp _ NoX
    have SL1 : ∀ {x7 x8 : Sl}, fSl (fVar 2) (fOSome (fVar 6)) fONone [.v (.tok 1), .v (.int way), .v (.lst (ls.map strD)), .v (.int first), .v (.lst (bad.map strD)), .v (strD b), .v (.int k), x7, x8] = .ok (.lst ((ls.drop k).map strD)) := fun {x7 x8} => by
      show sliceD (.lst (ls.map strD)) (some (k : Int)) none = _
      rw [e_sl_lst, cutD_from, List.map_drop]
    have SL2 : ∀ {x7 x8 : Sl}, fSl (fVar 2) (fOSome (fBin pAdd (fVar 6) (fC (.int 1)))) fONone [.v (.tok 1), .v (.int way), .v (.lst (ls.map strD)), .v (.int first), .v (.lst (bad.map strD)), .v (strD b), .v (.int k), x7, x8] = .ok (.lst ((ls.drop (k + 1)).map strD)) := fun {x7 x8} => by
      show sliceD (.lst (ls.map strD)) (some ((k + 1 : Nat) : Int)) none = _
      rw [e_sl_lst, cutD_from, List.map_drop]
    have SL3 : ∀ {x7 x8 : Sl}, fSl (fVar 2) fONone (fOSome (fVar 6)) [.v (.tok 1), .v (.int way), .v (.lst (ls.map strD)), .v (.int first), .v (.lst (bad.map strD)), .v (strD b), .v (.int k), x7, x8] = .ok (.lst ((ls.take k).map strD)) := fun {x7 x8} => by
      show sliceD (.lst (ls.map strD)) none (some (k : Int)) = _
      rw [e_sl_lst, cutD_to, List.map_take]
    refine w_seq (w_asg (w_binR (x := .lst [.lst ((ls.drop k).map strD), .lst ((ls.drop (k + 1)).map strD), .lst [], .lst [.str "x", .str ""]]) (e_lst (e_cons SL1 (e_cons SL2 (e_args2 (e_lst e_nil (by decide)) (e_lst (e_args2 rfl rfl) (by show 2 ≤ 1000; decide))))) (by show 4 ≤ 1000; decide)) (w_sipE (m := 4) rfl rfl (szlog (by decide) (by decide)) fun e e0 e1 => ?_)))
    obtain ⟨r, er, hr⟩ : ∃ r : List (List Nat), pIx (.lst [.lst ((ls.drop k).map strD), .lst ((ls.drop (k + 1)).map strD), .lst [], .lst [.str "x", .str ""]]) (.int e) = .ok (.lst (r.map strD)) ∧ (r = ls.drop k ∨ r = ls.drop (k + 1) ∨ r = [] ∨ r = [[120], []]) := by
      have : e = 0 ∨ e = 1 ∨ e = 2 ∨ e = 3 := by omega
      rcases this with rfl | rfl | rfl | rfl
      · exact ⟨_, rfl, .inl rfl⟩
      · exact ⟨_, rfl, .inr (.inl rfl)⟩
      · exact ⟨[], rfl, .inr (.inr (.inl rfl))⟩
      · refine ⟨[[120], []], ?_, .inr (.inr (.inr rfl))⟩
        rw [x_l, show (.str "" : D) = strD [] by show D.str ("" : Str) = _; rw [empty_S]; rfl]
        rfl
    rw [er]
    show (zSeq (zAsg 8 _) _ [.v (.tok 1), .v (.int way), .v (.lst (ls.map strD)), .v (.int first), .v (.lst (bad.map strD)), .v (strD b), .v (.int k), .v (.lst (r.map strD)), x8]).wp _ NoX
    have rl : r.length ≤ 20 ∧ ∀ l ∈ r, okLn l := by
      rcases hr with rfl | rfl | rfl | rfl
      · exact ⟨by rw [List.length_drop]; omega, fun l h => hls l (List.mem_of_mem_drop h)⟩
      · exact ⟨by rw [List.length_drop]; omega, fun l h => hls l (List.mem_of_mem_drop h)⟩
      · exact ⟨by decide, fun l h => by cases h⟩
      · refine ⟨by decide, fun l h => ?_⟩
        rcases List.mem_cons.mp h with rfl | h
        · exact ⟨by decide, by decide⟩
        · rw [List.mem_singleton.mp h]
          exact ⟨by decide, by decide⟩
    have tk : (ls.take k).length ≤ 20 := by rw [List.length_take]; omega
    have J := e_joinK (f := fBin pAdd (fBin pAdd (fSl (fVar 2) fONone (fOSome (fVar 6))) (fLst (fCons (fVar 5) fNil))) (fVar 7)) (s := [.v (.tok 1), .v (.int way), .v (.lst (ls.map strD)), .v (.int first), .v (.lst (bad.map strD)), .v (strD b), .v (.int k), .v (.lst (r.map strD)), x8]) (ls := ls.take k ++ b :: r) ((e_addS (xs := ls.take k ++ [b]) (ys := r) (e_addS (xs := ls.take k) (ys := [b]) SL3 (e_lst (e_args1 rfl) (by show 1 ≤ 1000; decide)) (by show _ + 1 ≤ 1000; omega)) rfl (by rw [List.length_append]; show _ + 1 + _ ≤ 1000; omega)).trans (by rw [List.append_assoc]; rfl)) (fun l h => by
      rcases List.mem_append.mp h with z | z
      · exact hls l (List.mem_of_mem_take z)
      · rcases List.mem_cons.mp z with rfl | z
        · exact hb l hbm
        · exact rl.2 l z) (by rw [List.length_append, List.length_cons]; omega)
    refine w_next (s' := [.v (.tok 1), .v (.int way), .v (.lst (ls.map strD)), .v (.int first), .v (.lst (bad.map strD)), .v (strD b), .v (.int k), .v (.lst (r.map strD)), .v (strD (TL.joinL [10] (ls.take k ++ b :: r)))]) (e_zAsg J) ?_
    have HH := H b hbm k k1 k2 r hr
    generalize TL.joinL [10] (ls.take k ++ b :: r) = t at HH
    have NE : fVal (fBin (pNeT TQ 10) (fVar 8) (fC (.str ""))) [.v (.tok 1), .v (.int way), .v (.lst (ls.map strD)), .v (.int first), .v (.lst (bad.map strD)), .v (strD b), .v (.int k), .v (.lst (r.map strD)), .v (strD t)] = .ok (!decide (t = [])) := e_val (e_bin rfl rfl (ne_str.trans (by rw [empty_S, S_beq2])))
    refine w_next (e_ifF (b := zNil) ?_ rfl) ?_
    · by_cases z : t = []
      · rw [decide_eq_true z] at NE
        exact e_andF NE
      · rw [decide_eq_false z] at NE
        exact e_andTT NE (e_val (e_bin (e_call2 rfl rfl (HH z)) (e_lst (e_args1 (e_int_add (i := k) (j := 1) rfl rfl)) (by show 1 ≤ 1000; decide)) (ne_same (sim_lst (by
          show sims _ [.int _] = true
          simp only [sims, selfDs, Bool.and_true]
          exact sim_int)))))
    · exact ⟨_, _, _, _, rfl⟩
end K81
set_option Elab.async false
set_option linter.all false
set_option exponentiation.threshold 4000
set_option maxRecDepth 100000
set_option maxHeartbeats 1000000
namespace K81
open PySem PySem.Spec L2 Dl Dl.Hd Res
theorem good_okL {l : List Nat} (h : l ∈ goodS) : (stepO l).isSome = true ∧ okLn l := by
  obtain ⟨h1, h2, h3, _⟩ := good_ok l h
  exact ⟨h1, h2, by omega⟩
theorem badS_ok {l b : List Nat} (hl : l ∈ goodS) (hb : b ∈ badS l) : stepO b = none ∧ okLn b := by
  obtain ⟨⟨m1, m2⟩, m3⟩ := bad_more l hl
  obtain ⟨_, g2, g3, _⟩ := good_ok l hl
  rcases List.mem_append.mp hb with z | z
  · obtain ⟨s, hs, rfl⟩ := List.mem_map.mp z
    obtain ⟨a, b, c⟩ := bad_ok s hs
    exact ⟨a, b, by omega⟩
  · rcases List.mem_cons.mp z with rfl | z
    · exact ⟨m1, by simp [g2], by rw [List.length_append]; show _ + 1 ≤ 500; omega⟩
    · rcases List.mem_cons.mp z with rfl | z
      · exact ⟨m2, by simp [g2], by rw [List.length_append]; show _ + 1 ≤ 500; omega⟩
      · rw [List.mem_singleton.mp z]
        exact ⟨m3, by simp [g2], by rw [List.length_cons]; omega⟩
theorem spot_bad0 {gs r : List (List Nat)} {b : List Nat} (hg : ∀ l ∈ gs, (stepO l).isSome = true ∧ okLn l) (hb : stepO b = none ∧ okLn b) (hr : ∀ l ∈ r, okLn l) (hl : gs.length + r.length ≤ 50) (h0 : TL.joinL [10] (gs ++ b :: r) ≠ []) : g__law_spot [.int ((0 : Nat) : Int), strD (TL.joinL [10] (gs ++ b :: r))] = .ok (.lst [.int ((gs.length + 1 : Nat) : Int)]) := spot0X (rs_bad hg hb hr hl h0)
theorem cel_S : CE.cps.toList = [46, 48, 97, 98, 99, 100, 101, 102, 103, 104, 105, 106, 107, 108, 109, 110, 111, 112, 113, 114, 115, 116, 117, 118, 119, 120, 121, 122] := by decide +kernel
theorem row_no {h : List Nat} (x : Nat) (hx : x ∈ h) (hn : decide (x ∈ CE.cps.toList) = false) : rowB (SX.S h) = false := by
  rw [← Bool.not_eq_true]
  intro z
  unfold rowB at z
  have := List.all_eq_true.mp z x hx
  rw [hn] at this
  cases this
theorem row_no10 {h : List Nat} (hh : rowB (SX.S h) = true) : 10 ∉ h := fun z => by
  rw [row_no 10 z (by rw [cel_S]; decide)] at hh
  cases hh
/-- the line of a write -/
def rowL (w : Nat × List Nat) : List Nat := digs w.1 ++ 32 :: w.2
theorem row_okL {L : Nat} {w : Nat × List Nat} (hL : L ≤ 60) (h : okW L w) : fitO L (rowL w) = true ∧ okLn (rowL w) := by
  obtain ⟨h1, h2, h3⟩ := h
  have h4 := h3
  rw [con_cel] at h4
  obtain ⟨d1, d2, d3, d4⟩ := digs_ok w.1 (by omega)
  refine ⟨fit_good (by omega) h4 (by omega) h2, ?_, ?_⟩
  · unfold rowL
    intro z
    rcases List.mem_append.mp z with y | y
    · exact d3 y
    · rcases List.mem_cons.mp y with y | y
      · cases y
      · have := List.all_eq_true.mp h4 10 y
        cases this
  · unfold rowL
    rw [List.length_append, List.length_cons]
    omega
theorem v_str {v : D} : gIsi subT [v, .ty "str"] = .ok (.bl false) → g__law_spot [.int ((0 : Nat) : Int), v] = .ok (.lst [.non]) ∧ g__law_spot [.int ((1 : Nat) : Int), v] = .ok (.lst [.non]) := fun h => ⟨spot0X (rs_other h), spot1X (rh_other h)⟩
theorem ne_one {x : D} (h : sim 9 x = true) : pNeT TQ 10 (.lst [x]) (.lst [x]) = .ok (.bl false) := ne_same (sim_lst (by
  show sims 9 [x] = true
  simp only [sims, selfDs, Bool.and_true]
  exact h))
theorem eq_one2 {x : D} (h : sim 9 x = true) : pEqT TQ 10 (.lst [x]) (.lst [x]) = .ok (.bl true) := eq_same (sim_lst (by
  show sims 9 [x] = true
  simp only [sims, selfDs, Bool.and_true]
  exact h))
theorem nl_D {s : List Sl} : fC (.str "\n") s = .ok (strD [10]) := by
  show Res.ok (D.str ("\n" : Str)) = _
  rw [nl_S]
  rfl
theorem read_D {s : List Sl} : fLst (fCons (fC (.str "read")) fNil) s = .ok (.lst [.str "read"]) := e_lst (e_args1 rfl) (by show 1 ≤ 1000; decide)
theorem e_add_S' {f g : FE} {s : List Sl} {a b : List Nat} (h1 : f s = .ok (strD a)) (h2 : g s = .ok (strD b)) (hl : a.length + b.length ≤ 100000) : fBin pAdd f g s = .ok (strD (a ++ b)) := e_bin h1 h2 (by
  unfold strD
  rw [e_add_s, need_pos (by rw [SX.S_len, SX.S_len]; exact szL (by omega)), SX.S_cat])
theorem told0 {ls : List (List Nat)} {h : List Nat} (l8 : ls.length ≤ 8) (lg : ∀ l ∈ ls, l ∈ goodS) (hg : h ∈ goodS) : (g__law_all_told [.tok 1, .int ((0 : Nat) : Int), .lst (ls.map strD), .int ((0 : Nat) : Int), .lst ((badS h).map strD)]).wp (fun d => d = .bl true) NoX := by
  have lok : ∀ l ∈ ls, (stepO l).isSome = true ∧ okLn l := fun l hl => good_okL (lg l hl)
  refine told_ok (way := 0) (first := 0) (Nat.zero_le _) (fun l hl => (lok l hl).2) (fun b hb => (badS_ok hg hb).2) (by omega) (fun b hb k _ k2 r hr h0 => ?_)
  have rl : r.length ≤ 20 ∧ ∀ l ∈ r, okLn l := by
    rcases hr with rfl | rfl | rfl | rfl
    · exact ⟨by rw [List.length_drop]; omega, fun l h => (lok l (List.mem_of_mem_drop h)).2⟩
    · exact ⟨by rw [List.length_drop]; omega, fun l h => (lok l (List.mem_of_mem_drop h)).2⟩
    · exact ⟨by decide, fun l h => by cases h⟩
    · refine ⟨by decide, fun l h => ?_⟩
      rcases List.mem_cons.mp h with rfl | h
      · exact ⟨by decide, by decide⟩
      · rw [List.mem_singleton.mp h]
        exact ⟨by decide, by decide⟩
  have tk : (ls.take k).length = k := by rw [List.length_take]; omega
  have := spot_bad0 (gs := ls.take k) (b := b) (r := r) (fun l h => lok l (List.mem_of_mem_take h)) (badS_ok hg hb) rl.2 (by omega) h0
  rw [tk] at this
  exact this
theorem told1 {c : List Nat} {rs : List (List Nat)} (ra : rowB (SX.S c) = true) (hc : c.length ≤ 12) (rk : ∀ l ∈ rs, fitO c.length l = true ∧ okLn l) (lw : rs.length ≤ 6) : (g__law_all_told [.tok 1, .int ((1 : Nat) : Int), .lst ((c :: rs).map strD), .int ((1 : Nat) : Int), .lst ((badW c.length).map strD)]).wp (fun d => d = .bl true) NoX := by
  have ck : okLn c := ⟨row_no10 ra, by omega⟩
  have allk : ∀ l ∈ c :: rs, okLn l := fun l hl => by
    rcases List.mem_cons.mp hl with rfl | hl
    · exact ck
    · exact (rk l hl).2
  have bw := badW_ok c.length (by omega)
  refine told_ok (way := 1) (first := 1) (ls := c :: rs) (by rw [List.length_cons]; omega) allk (fun b hb => ⟨(bw b hb).2.1, by have := (bw b hb).2.2; omega⟩) (by rw [List.length_cons]; omega) (fun b hb k k1 k2 r hr h0 => ?_)
  have rl : r.length ≤ 20 ∧ ∀ l ∈ r, okLn l := by
    rcases hr with rfl | rfl | rfl | rfl
    · exact ⟨by rw [List.length_drop, List.length_cons]; omega, fun l h => allk l (List.mem_of_mem_drop h)⟩
    · exact ⟨by rw [List.length_drop, List.length_cons]; omega, fun l h => allk l (List.mem_of_mem_drop h)⟩
    · exact ⟨by decide, fun l h => by cases h⟩
    · refine ⟨by decide, fun l h => ?_⟩
      rcases List.mem_cons.mp h with rfl | h
      · exact ⟨by decide, by decide⟩
      · rw [List.mem_singleton.mp h]
        exact ⟨by decide, by decide⟩
  obtain ⟨j, rfl⟩ : ∃ j, k = j + 1 := ⟨k - 1, by omega⟩
  rw [List.length_cons] at k2
  have tk : (rs.take j).length = j := by rw [List.length_take]; omega
  have := spot1X (rh_bad (c := c) (gs := rs.take j) (b := b) (r := r) ⟨ra, ck⟩ (fun l h => rk l (List.mem_of_mem_take h)) ⟨(bw b hb).1, (bw b hb).2.1, by have := (bw b hb).2.2; omega⟩ rl.2 (by omega))
  rw [tk] at this
  exact this
theorem s_one {ls : List (List Nat)} (l0 : ls ≠ []) (l8 : ls.length ≤ 8) (lg : ∀ l ∈ ls, l ∈ goodS) : g__law_spot [.int ((0 : Nat) : Int), strD (TL.joinL [10] ls)] = .ok (.lst [.str "read"]) ∧ g__law_spot [.int ((0 : Nat) : Int), strD (TL.joinL [10] ls ++ [10])] = .ok (.lst [.int ((ls.length + 1 : Nat) : Int)]) ∧ (TL.joinL [10] ls).length ≤ 5000 := by
  have lok : ∀ l ∈ ls, (stepO l).isSome = true ∧ okLn l := fun l hl => good_okL (lg l hl)
  have jl := join_len (m := 500) fun l hl => (lok l hl).2.2
  have jl2 : ls.length * 501 ≤ 8 * 501 := Nat.mul_le_mul_right _ l8
  obtain ⟨d1, R1⟩ := rs_good l0 lok (by omega)
  have js := join_snoc l0
  have S2 := spot_bad0 (gs := ls) (b := []) (r := []) lok ⟨by decide +kernel, by decide, by decide⟩ (fun l h => by cases h) (by show _ + 0 ≤ 50; omega) (by rw [← js]; simp)
  rw [← js] at S2
  exact ⟨spot0R R1, S2, by omega⟩
theorem s_two {c : List Nat} {rs : List (List Nat)} (ra : rowB (SX.S c) = true) (hc : c.length ≤ 12) (rk : ∀ l ∈ rs, fitO c.length l = true ∧ okLn l) (lw : rs.length ≤ 6) : g__law_spot [.int ((1 : Nat) : Int), strD (TL.joinL [10] (c :: rs))] = .ok (.lst [.str "read"]) ∧ g__law_spot [.int ((1 : Nat) : Int), strD (TL.joinL [10] (c :: rs) ++ [10])] = .ok (.lst [.int (((c :: rs).length + 1 : Nat) : Int)]) ∧ (TL.joinL [10] (c :: rs)).length ≤ 5000 := by
  have ck : okLn c := ⟨row_no10 ra, by omega⟩
  have allk : ∀ l ∈ c :: rs, okLn l := fun l hl => by
    rcases List.mem_cons.mp hl with rfl | hl
    · exact ck
    · exact (rk l hl).2
  obtain ⟨d2, R2⟩ := rh_good (c := c) (gs := rs) ⟨ra, ck⟩ rk (by omega)
  have js2 := join_snoc (l := c :: rs) (List.cons_ne_nil _ _)
  have S4 := spot1X (rh_bad (c := c) (gs := rs) (b := []) (r := []) ⟨ra, ck⟩ rk ⟨by unfold fitO; rfl, by decide, by decide⟩ (fun l h => by cases h) (by show _ + 0 ≤ 50; omega))
  rw [show c :: (rs ++ [[]]) = (c :: rs) ++ [[]] from rfl, ← js2] at S4
  have jl3 := join_len (m := 500) fun l hl => (allk l hl).2
  have jl4 : (c :: rs).length * 501 ≤ 8 * 501 := Nat.mul_le_mul_right _ (by rw [List.length_cons]; omega)
  exact ⟨spot1R R2, S4, by omega⟩
theorem s_head {hh : List Nat} {rs : List (List Nat)} (ok : okLn hh) (no : rowB (SX.S hh) = false) (rk : ∀ l ∈ rs, okLn l) (lw : rs.length ≤ 6) : g__law_spot [.int ((1 : Nat) : Int), strD (TL.joinL [10] (hh :: rs))] = .ok (.lst [.int 1]) := by
  have ak : ∀ l ∈ hh :: rs, okLn l := fun l hl => by
    rcases List.mem_cons.mp hl with rfl | hl
    · exact ok
    · exact rk l hl
  have jl := join_len (m := 500) fun l hl => (ak l hl).2
  have j2 : (hh :: rs).length * 501 ≤ 8 * 501 := Nat.mul_le_mul_right _ (by rw [List.length_cons]; omega)
  have LI := g_linesS (ls := hh :: rs) (List.cons_ne_nil _ _) (fun l hl => (ak l hl).1) (by omega)
  exact spot1X (rh_head ok.2 LI no)
theorem s_fix : g__law_spot [.int ((0 : Nat) : Int), strD [10]] = .ok (.lst [.int ((1 : Nat) : Int)]) ∧ g__law_spot [.int ((1 : Nat) : Int), strD [10]] = .ok (.lst [.int ((2 : Nat) : Int)]) ∧ g__law_spot [.int ((0 : Nat) : Int), strD []] = .ok (.lst [.str "read"]) := by
  obtain ⟨d3, h3⟩ := rs_empty
  exact ⟨spot_bad0 (gs := []) (b := []) (r := [[]]) (fun l h => by cases h) ⟨by decide +kernel, by decide, by decide⟩ (fun l h => by rw [List.mem_singleton.mp h]; exact ⟨by decide, by decide⟩) (by decide) (by decide), spot1X (rh_bad (c := []) (gs := []) (b := []) (r := []) ⟨by decide +kernel, by decide, by decide⟩ (fun l h => by cases h) ⟨by decide +kernel, by decide, by decide⟩ (fun l h => by cases h) (by decide)), spot0R h3⟩
theorem x_fa1 {ns : List Int} {at_ : Int} {ls : List (List Nat)} {h : List Nat} {x4 x5 x6 x7 x8 : Sl} (IX : pIx (.lst (ls.map strD)) (.int 0) = .ok (strD h)) (hl : h.length ≤ 100) : (fCons (fVar 2) (fCons (fC (.int 0)) (fCons (fVar 3) (fCons (fC (.int 0)) (fCons (fCall g__law_no_steps [] (fCons (fBin pIx (fVar 3) (fC (.int 0))) fNil)) fNil))))) [.v (.scr ns), .v (.int at_), .v (.tok 1), .v (.lst (ls.map strD)), x4, x5, x6, x7, x8, .un, .un] = .ok [.tok 1, .int ((0 : Nat) : Int), .lst (ls.map strD), .int ((0 : Nat) : Int), .lst ((badS h).map strD)] := e_cons rfl (e_cons rfl (e_cons rfl (e_args2 rfl (e_call1 (e_bin rfl rfl IX) (l_no_steps hl)))))
theorem x_c2 {ns : List Int} {at_ : Int} {ls : List (List Nat)} {x4 x5 x6 x7 x8 : Sl} (l0 : ls ≠ []) (l8 : ls.length ≤ 8) (lg : ∀ l ∈ ls, l ∈ goodS) : (fOrT (fVal (fBin (pNeT TQ 10) (fCall g__law_spot [] (fCons (fC (.int 0)) (fCons (fM1 kJoin (fC (.str "\n")) (fVar 3)) fNil))) (fLst (fCons (fC (.str "read")) fNil)))) (fVal (fBin (pNeT TQ 10) (fCall g__law_spot [] (fCons (fC (.int 0)) (fCons (fBin pAdd (fM1 kJoin (fC (.str "\n")) (fVar 3)) (fC (.str "\n"))) fNil))) (fLst (fCons (fBin pAdd (fB (gLenO (fun n => if n = 7 then some g_File_len else if n = 8 then some g_History_len else if n = 14 then some g_Script_len else none)) (fCons (fVar 3) fNil)) (fC (.int 1))) fNil))))) [.v (.scr ns), .v (.int at_), .v (.tok 1), .v (.lst (ls.map strD)), x4, x5, x6, x7, x8, .un, .un] = .ok false := by
  obtain ⟨S1, S2, jb⟩ := s_one l0 l8 lg
  have J : fM1 kJoin (fC (.str "\n")) (fVar 3) [.v (.scr ns), .v (.int at_), .v (.tok 1), .v (.lst (ls.map strD)), x4, x5, x6, x7, x8, .un, .un] = .ok (strD (TL.joinL [10] ls)) := e_joinK rfl (fun l hl => (good_okL (lg l hl)).2) (by omega)
  exact e_orF (e_val (e_bin (e_call2 rfl J S1) read_D (ne_one sim_str))) (e_val (e_bin (e_call2 rfl (e_add_S' J nl_D (by show _ + 1 ≤ 100000; omega)) S2) (e_lst (e_args1 (e_int_add (i := ls.length) (j := 1) ((e_len_l rfl).trans (by rw [List.length_map])) rfl)) (by show 1 ≤ 1000; decide)) (ne_one sim_int)))
theorem x_e4 {ns : List Int} {at_ : Int} {ls : List (List Nat)} {x4 x5 x6 x7 x8 : Sl} : ((fCall g__law_cells [] (fCons (fVar 2) (fCons (fCall gSip [] (fCons (fVar 2) (fCons (fC (.int 13)) fNil))) fNil))) [.v (.scr ns), .v (.int at_), .v (.tok 1), .v (.lst (ls.map strD)), x4, x5, x6, x7, x8, .un, .un]).wp (fun d => ∃ c, d = strD c ∧ rowB (SX.S c) = true ∧ c.length ≤ 12) NoX := by
  apply w_call2 (d := .tok 1)
  · rfl
  apply w_sipE (m := 13)
  · rfl
  · rfl
  · exact szlog (by decide) (by decide)
  intro d d0 d1
  obtain ⟨len, rfl⟩ : ∃ k : Nat, d = k := ⟨d.toNat, by omega⟩
  refine wp_mono ?_ (fun _ _ z => z) (cells_ok (len := len) (by omega))
  rintro _ ⟨a, rfl, ra, la⟩
  exact ⟨a, rfl, ra, by omega⟩
theorem x_e5 {ns : List Int} {at_ : Int} {ls : List (List Nat)} {c : List Nat} {x5 x6 x7 x8 : Sl} (hc : c.length ≤ 12) : ((fCall g__law_writes [] (fCons (fVar 2) (fCons (fB (gLenO (fun n => if n = 7 then some g_File_len else if n = 8 then some g_History_len else if n = 14 then some g_Script_len else none)) (fCons (fVar 4) fNil)) (fCons (fC (.int 6)) fNil)))) [.v (.scr ns), .v (.int at_), .v (.tok 1), .v (.lst (ls.map strD)), .v (strD c), x5, x6, x7, x8, .un, .un]).wp (fun d => ∃ ws : List (Nat × List Nat), d = .lst (ws.map wrD) ∧ ws.length ≤ 6 ∧ ∀ w ∈ ws, okW c.length w) NoX := by
  rw [e_call3 (g := g__law_writes) (dfl := []) (f1 := fVar 2) (f2 := fB (gLenO (fun n => if n = 7 then some g_File_len else if n = 8 then some g_History_len else if n = 14 then some g_Script_len else none)) (fCons (fVar 4) fNil)) (f3 := fC (.int 6)) (s := [.v (.scr ns), .v (.int at_), .v (.tok 1), .v (.lst (ls.map strD)), .v (strD c), x5, x6, x7, x8, .un, .un]) rfl (e_len_S (by omega) rfl) rfl rfl]
  exact writes_ok (L := c.length) (most := 6) (by omega) (by decide)
theorem x_e6 {ns : List Int} {at_ : Int} {ls : List (List Nat)} {c : List Nat} {ws : List (Nat × List Nat)} {x6 x7 x8 : Sl} (hc : c.length ≤ 12) (nws : ws.length ≤ 6) (hws : ∀ w ∈ ws, okW c.length w) : (fBin pAdd (fLst (fCons (fVar 4) fNil)) (fLc (jVal (fVar 5)) (.tp [9, 10]) fYes (fBin pAdd (fBin pAdd (fB gStr1 (fCons (fVar 9) fNil)) (fC (.str " "))) (fVar 10)) [9, 10])) [.v (.scr ns), .v (.int at_), .v (.tok 1), .v (.lst (ls.map strD)), .v (strD c), .v (.lst (ws.map wrD)), x6, x7, x8, .un, .un] = .ok (.lst ((c :: ws.map rowL).map strD)) := by
  have CR := comp_mapS (tg := .tp [9, 10]) (fe := fBin pAdd (fBin pAdd (fB gStr1 (fCons (fVar 9) fNil)) (fC (.str " "))) (fVar 10)) (s := [.v (.scr ns), .v (.int at_), .v (.tok 1), .v (.lst (ls.map strD)), .v (strD c), .v (.lst (ws.map wrD)), x6, x7, x8, .un, .un]) (g := wrD) (l := ws) (f := fun w => strD (rowL w)) fun w hw => by
    have hw2 := hws w hw
    have w1 := hw2.2.1
    have dl := (digs_ok w.1 (by omega)).2.2.2
    refine ⟨_, rfl, (e_cat (a := digs w.1 ++ [32]) (b := w.2) (e_cat (a := digs w.1) (b := [32]) (e_num rfl (by omega)) (by
      show Res.ok (D.str (" " : Str)) = _
      rw [blank_S]
      rfl) (by show _ + 1 ≤ 3000; omega)) rfl (by rw [List.length_append]; show _ + 1 + _ ≤ 3000; omega)).trans ?_⟩
    unfold rowL
    rw [List.append_assoc]
    rfl
  have rws : (ws.map fun w => strD (rowL w)) = (ws.map rowL).map strD := by
    rw [List.map_map]
    rfl
  rw [rws] at CR
  exact e_addS (xs := [c]) (ys := ws.map rowL) (e_lst (e_args1 rfl) (by show 1 ≤ 1000; decide)) (e_lc (xs := ws.map wrD) rfl (by rw [List.length_map]; omega) CR) (by rw [List.length_map]; show 1 + _ ≤ 1000; omega)
theorem x_fa2 {ns : List Int} {at_ : Int} {ls : List (List Nat)} {c : List Nat} {ws : List (Nat × List Nat)} {rs : List (List Nat)} {x7 x8 : Sl} (hc : c.length ≤ 12) : (fCons (fVar 2) (fCons (fC (.int 1)) (fCons (fVar 6) (fCons (fC (.int 1)) (fCons (fCall g__law_no_writes [] (fCons (fB (gLenO (fun n => if n = 7 then some g_File_len else if n = 8 then some g_History_len else if n = 14 then some g_Script_len else none)) (fCons (fVar 4) fNil)) fNil)) fNil))))) [.v (.scr ns), .v (.int at_), .v (.tok 1), .v (.lst (ls.map strD)), .v (strD c), .v (.lst (ws.map wrD)), .v (.lst ((c :: rs).map strD)), x7, x8, .un, .un] = .ok [.tok 1, .int ((1 : Nat) : Int), .lst ((c :: rs).map strD), .int ((1 : Nat) : Int), .lst ((badW c.length).map strD)] := e_cons rfl (e_cons rfl (e_cons rfl (e_args2 rfl (e_call1 (e_len_S (by omega) rfl) (l_no_writes (by omega))))))
theorem x_hb {ns : List Int} {at_ : Int} {ls : List (List Nat)} {c hh : List Nat} {ws : List (Nat × List Nat)} {rs : List (List Nat)} {x8 : Sl} (rk : ∀ l ∈ rs, okLn l) (lw : rs.length ≤ 6) (ok : okLn hh) (no : rowB (SX.S hh) = false) : (zSeq (zIf (fVal (fBin (pNeT TQ 10) (fCall g__law_spot [] (fCons (fC (.int 1)) (fCons (fM1 kJoin (fC (.str "\n")) (fBin pAdd (fLst (fCons (fVar 7) fNil)) (fSl (fVar 6) (fOSome (fC (.int 1))) fONone))) fNil))) (fLst (fCons (fC (.int 1)) fNil)))) (zSeq (zRet (fC (.bl false))) zNil) zNil) zNil) [.v (.scr ns), .v (.int at_), .v (.tok 1), .v (.lst (ls.map strD)), .v (strD c), .v (.lst (ws.map wrD)), .v (.lst ((c :: rs).map strD)), .v (strD hh), x8, .un, .un] = .ok (.nx [.v (.scr ns), .v (.int at_), .v (.tok 1), .v (.lst (ls.map strD)), .v (strD c), .v (.lst (ws.map wrD)), .v (.lst ((c :: rs).map strD)), .v (strD hh), x8, .un, .un]) := by
  have ak : ∀ l ∈ hh :: rs, okLn l := fun l hl => by
    rcases List.mem_cons.mp hl with rfl | hl
    · exact ok
    · exact rk l hl
  have SP := s_head ok no rk lw
  have SLr : fSl (fVar 6) (fOSome (fC (.int 1))) fONone [.v (.scr ns), .v (.int at_), .v (.tok 1), .v (.lst (ls.map strD)), .v (strD c), .v (.lst (ws.map wrD)), .v (.lst ((c :: rs).map strD)), .v (strD hh), x8, .un, .un] = .ok (.lst (rs.map strD)) := by
    show sliceD (.lst ((c :: rs).map strD)) (some ((1 : Nat) : Int)) none = _
    rw [e_sl_lst, cutD_from]
    rfl
  exact e_seq (e_ifF (e_val (e_bin (e_call2 rfl (e_joinK (ls := hh :: rs) (e_addS (xs := [hh]) (ys := rs) (e_lst (e_args1 rfl) (by show 1 ≤ 1000; decide)) SLr (by show 1 + _ ≤ 1000; omega)) ak (by rw [List.length_cons]; omega)) SP) (e_lst (e_args1 rfl) (by show 1 ≤ 1000; decide)) (ne_one sim_int))) rfl) rfl
theorem heads_no {c : List Nat} (ra : rowB (SX.S c) = true) (hc : c.length ≤ 12) : ∀ hh ∈ [cds "A", cds "a b", c ++ cds " ", c ++ cds "-", cds " " ++ c, cds "0 a", cds "1"], okLn hh ∧ rowB (SX.S hh) = false := fun hh h => by
  have n32 : decide (32 ∈ CE.cps.toList) = false := by rw [cel_S]; decide
  have n45 : decide (45 ∈ CE.cps.toList) = false := by rw [cel_S]; decide
  have c32 : cds " " = [32] := by decide +kernel
  have c45 : cds "-" = [45] := by decide +kernel
  have ck1 := row_no10 ra
  rw [c32, c45] at h
  rcases List.mem_cons.mp h with rfl | h
  · exact ⟨⟨by decide +kernel, by decide +kernel⟩, by decide +kernel⟩
  rcases List.mem_cons.mp h with rfl | h
  · exact ⟨⟨by decide +kernel, by decide +kernel⟩, by decide +kernel⟩
  rcases List.mem_cons.mp h with rfl | h
  · exact ⟨⟨by simp [ck1], by rw [List.length_append]; show _ + 1 ≤ 500; omega⟩, row_no 32 (by simp) n32⟩
  rcases List.mem_cons.mp h with rfl | h
  · exact ⟨⟨by simp [ck1], by rw [List.length_append]; show _ + 1 ≤ 500; omega⟩, row_no 45 (by simp) n45⟩
  rcases List.mem_cons.mp h with rfl | h
  · exact ⟨⟨by simp [ck1], by rw [List.length_append]; show 1 + _ ≤ 500; omega⟩, row_no 32 (by simp) n32⟩
  rcases List.mem_cons.mp h with rfl | h
  · exact ⟨⟨by decide +kernel, by decide +kernel⟩, by decide +kernel⟩
  · rw [List.mem_singleton.mp h]
    exact ⟨⟨by decide +kernel, by decide +kernel⟩, by decide +kernel⟩
theorem x_s7 {ns : List Int} {at_ : Int} {ls : List (List Nat)} {c : List Nat} {ws : List (Nat × List Nat)} {rs : List (List Nat)} {x7 x8 : Sl} (ra : rowB (SX.S c) = true) (hc : c.length ≤ 12) (rk : ∀ l ∈ rs, okLn l) (lw : rs.length ≤ 6) : ∃ y7 : Sl, (zFor (jVal (fLst (fCons (fC (.str "A")) (fCons (fC (.str "a b")) (fCons (fBin pAdd (fVar 4) (fC (.str " "))) (fCons (fBin pAdd (fVar 4) (fC (.str "-"))) (fCons (fBin pAdd (fC (.str " ")) (fVar 4)) (fCons (fC (.str "0 a")) (fCons (fC (.str "1")) fNil))))))))) (.nm 7) (zSeq (zIf (fVal (fBin (pNeT TQ 10) (fCall g__law_spot [] (fCons (fC (.int 1)) (fCons (fM1 kJoin (fC (.str "\n")) (fBin pAdd (fLst (fCons (fVar 7) fNil)) (fSl (fVar 6) (fOSome (fC (.int 1))) fONone))) fNil))) (fLst (fCons (fC (.int 1)) fNil)))) (zSeq (zRet (fC (.bl false))) zNil) zNil) zNil)) [.v (.scr ns), .v (.int at_), .v (.tok 1), .v (.lst (ls.map strD)), .v (strD c), .v (.lst (ws.map wrD)), .v (.lst ((c :: rs).map strD)), x7, x8, .un, .un] = .ok (.nx [.v (.scr ns), .v (.int at_), .v (.tok 1), .v (.lst (ls.map strD)), .v (strD c), .v (.lst (ws.map wrD)), .v (.lst ((c :: rs).map strD)), y7, x8, .un, .un]) := by
  have HLE : (fLst (fCons (fC (.str "A")) (fCons (fC (.str "a b")) (fCons (fBin pAdd (fVar 4) (fC (.str " "))) (fCons (fBin pAdd (fVar 4) (fC (.str "-"))) (fCons (fBin pAdd (fC (.str " ")) (fVar 4)) (fCons (fC (.str "0 a")) (fCons (fC (.str "1")) fNil)))))))) [.v (.scr ns), .v (.int at_), .v (.tok 1), .v (.lst (ls.map strD)), .v (strD c), .v (.lst (ws.map wrD)), .v (.lst ((c :: rs).map strD)), x7, x8, .un, .un] = .ok (.lst ([cds "A", cds "a b", c ++ cds " ", c ++ cds "-", cds " " ++ c, cds "0 a", cds "1"].map strD)) := e_lst (e_cons (e_lit _) (e_cons (e_lit _) (e_cons (e_cat rfl (e_lit _) (by show _ + 1 ≤ 3000; omega)) (e_cons (e_cat rfl (e_lit _) (by show _ + 1 ≤ 3000; omega)) (e_args3 (e_cat (e_lit _) rfl (by show 1 + _ ≤ 3000; omega)) (e_lit _) (e_lit _)))))) (by show 7 ≤ 1000; decide)
  obtain ⟨s', e7, y7, _, rfl⟩ := e_for_inv (q := strD) (tg := .nm 7) (body := (zSeq (zIf (fVal (fBin (pNeT TQ 10) (fCall g__law_spot [] (fCons (fC (.int 1)) (fCons (fM1 kJoin (fC (.str "\n")) (fBin pAdd (fLst (fCons (fVar 7) fNil)) (fSl (fVar 6) (fOSome (fC (.int 1))) fONone))) fNil))) (fLst (fCons (fC (.int 1)) fNil)))) (zSeq (zRet (fC (.bl false))) zNil) zNil) zNil))
    (fun l s => ∃ x7 : Sl, (∀ hh ∈ l, okLn hh ∧ rowB (SX.S hh) = false) ∧ s = [.v (.scr ns), .v (.int at_), .v (.tok 1), .v (.lst (ls.map strD)), .v (strD c), .v (.lst (ws.map wrD)), .v (.lst ((c :: rs).map strD)), x7, x8, .un, .un])
    (l := [cds "A", cds "a b", c ++ cds " ", c ++ cds "-", cds " " ++ c, cds "0 a", cds "1"]) (s := [.v (.scr ns), .v (.int at_), .v (.tok 1), .v (.lst (ls.map strD)), .v (strD c), .v (.lst (ws.map wrD)), .v (.lst ((c :: rs).map strD)), x7, x8, .un, .un]) ⟨x7, heads_no ra hc, rfl⟩ (by
      rintro hh l _ ⟨x7, ha, rfl⟩
      obtain ⟨o1, o2⟩ := ha hh List.mem_cons_self
      exact ⟨_, _, rfl, x_hb rk lw o1 o2, _, fun z hz => ha z (List.mem_cons_of_mem _ hz), rfl⟩)
  exact ⟨y7, e_zFor (e_jVal HLE) e7⟩
theorem x_c8 {ns : List Int} {at_ : Int} {ls : List (List Nat)} {c : List Nat} {ws : List (Nat × List Nat)} {rs : List (List Nat)} {x7 x8 : Sl} (ra : rowB (SX.S c) = true) (hc : c.length ≤ 12) (rk : ∀ l ∈ rs, fitO c.length l = true ∧ okLn l) (lw : rs.length ≤ 6) : (fOrT (fVal (fBin (pNeT TQ 10) (fCall g__law_spot [] (fCons (fC (.int 1)) (fCons (fM1 kJoin (fC (.str "\n")) (fVar 6)) fNil))) (fLst (fCons (fC (.str "read")) fNil)))) (fVal (fBin (pNeT TQ 10) (fCall g__law_spot [] (fCons (fC (.int 1)) (fCons (fBin pAdd (fM1 kJoin (fC (.str "\n")) (fVar 6)) (fC (.str "\n"))) fNil))) (fLst (fCons (fBin pAdd (fB (gLenO (fun n => if n = 7 then some g_File_len else if n = 8 then some g_History_len else if n = 14 then some g_Script_len else none)) (fCons (fVar 6) fNil)) (fC (.int 1))) fNil))))) [.v (.scr ns), .v (.int at_), .v (.tok 1), .v (.lst (ls.map strD)), .v (strD c), .v (.lst (ws.map wrD)), .v (.lst ((c :: rs).map strD)), x7, x8, .un, .un] = .ok false := by
  obtain ⟨S3, S4, jb2⟩ := s_two ra hc rk lw
  have allk : ∀ l ∈ c :: rs, okLn l := fun l hl => by
    rcases List.mem_cons.mp hl with rfl | hl
    · exact ⟨row_no10 ra, by omega⟩
    · exact (rk l hl).2
  have J6 : fM1 kJoin (fC (.str "\n")) (fVar 6) [.v (.scr ns), .v (.int at_), .v (.tok 1), .v (.lst (ls.map strD)), .v (strD c), .v (.lst (ws.map wrD)), .v (.lst ((c :: rs).map strD)), x7, x8, .un, .un] = .ok (strD (TL.joinL [10] (c :: rs))) := e_joinK rfl allk (by rw [List.length_cons]; omega)
  exact e_orF (e_val (e_bin (e_call2 rfl J6 S3) read_D (ne_one sim_str))) (e_val (e_bin (e_call2 rfl (e_add_S' J6 nl_D (by show _ + 1 ≤ 100000; omega)) S4) (e_lst (e_args1 (e_int_add (i := (c :: rs).length) (j := 1) ((e_len_l rfl).trans (by rw [List.length_map])) rfl)) (by show 1 ≤ 1000; decide)) (ne_one sim_int)))
theorem x_vb {ns : List Int} {at_ : Int} {ls : List (List Nat)} {c : List Nat} {ws : List (Nat × List Nat)} {rs : List (List Nat)} {x7 : Sl} {v : D} (h : gIsi subT [v, .ty "str"] = .ok (.bl false)) : (zSeq (zIf (fOrT (fVal (fBin (pNeT TQ 10) (fCall g__law_spot [] (fCons (fC (.int 0)) (fCons (fVar 8) fNil))) (fLst (fCons (fC .non) fNil)))) (fVal (fBin (pNeT TQ 10) (fCall g__law_spot [] (fCons (fC (.int 1)) (fCons (fVar 8) fNil))) (fLst (fCons (fC .non) fNil))))) (zSeq (zRet (fC (.bl false))) zNil) zNil) zNil) [.v (.scr ns), .v (.int at_), .v (.tok 1), .v (.lst (ls.map strD)), .v (strD c), .v (.lst (ws.map wrD)), .v (.lst ((c :: rs).map strD)), x7, .v v, .un, .un] = .ok (.nx [.v (.scr ns), .v (.int at_), .v (.tok 1), .v (.lst (ls.map strD)), .v (strD c), .v (.lst (ws.map wrD)), .v (.lst ((c :: rs).map strD)), x7, .v v, .un, .un]) := by
  obtain ⟨q1, q2⟩ := v_str h
  exact e_seq (e_ifF (e_orF (e_val (e_bin (e_call2 rfl rfl q1) (e_lst (e_args1 rfl) (by show 1 ≤ 1000; decide)) (ne_one sim_non))) (e_val (e_bin (e_call2 rfl rfl q2) (e_lst (e_args1 rfl) (by show 1 ≤ 1000; decide)) (ne_one sim_non)))) rfl) rfl
theorem x_s8 {ns : List Int} {at_ : Int} {ls : List (List Nat)} {c : List Nat} {ws : List (Nat × List Nat)} {rs : List (List Nat)} {x7 x8 : Sl} (ra : rowB (SX.S c) = true) (hc : c.length ≤ 12) (hws : ∀ w ∈ ws, okW c.length w) : ∃ y8 : Sl, (zFor (jVal (fLst (fCons (fC .non) (fCons (fC (.int 0)) (fCons (fVar 3) (fCons (fB gTuple (fCons (fVar 3) fNil)) (fCons (fC (.tok 7)) (fCons (fC (.bl true)) (fCons (fMake 7 (nm.getD 7 []) g_File_init [] (fCons (fVar 4) fNil)) (fCons (fMake 8 (nm.getD 8 []) g_History_init [] (fCons (fMake 7 (nm.getD 7 []) g_File_init [] (fCons (fVar 4) fNil)) (fCons (fVar 5) fNil))) fNil)))))))))) (.nm 8) (zSeq (zIf (fOrT (fVal (fBin (pNeT TQ 10) (fCall g__law_spot [] (fCons (fC (.int 0)) (fCons (fVar 8) fNil))) (fLst (fCons (fC .non) fNil)))) (fVal (fBin (pNeT TQ 10) (fCall g__law_spot [] (fCons (fC (.int 1)) (fCons (fVar 8) fNil))) (fLst (fCons (fC .non) fNil))))) (zSeq (zRet (fC (.bl false))) zNil) zNil) zNil)) [.v (.scr ns), .v (.int at_), .v (.tok 1), .v (.lst (ls.map strD)), .v (strD c), .v (.lst (ws.map wrD)), .v (.lst ((c :: rs).map strD)), x7, x8, .un, .un] = .ok (.nx [.v (.scr ns), .v (.int at_), .v (.tok 1), .v (.lst (ls.map strD)), .v (strD c), .v (.lst (ws.map wrD)), .v (.lst ((c :: rs).map strD)), x7, y8, .un, .un]) := by
  have VLE : (fLst (fCons (fC .non) (fCons (fC (.int 0)) (fCons (fVar 3) (fCons (fB gTuple (fCons (fVar 3) fNil)) (fCons (fC (.tok 7)) (fCons (fC (.bl true)) (fCons (fMake 7 (nm.getD 7 []) g_File_init [] (fCons (fVar 4) fNil)) (fCons (fMake 8 (nm.getD 8 []) g_History_init [] (fCons (fMake 7 (nm.getD 7 []) g_File_init [] (fCons (fVar 4) fNil)) (fCons (fVar 5) fNil))) fNil))))))))) [.v (.scr ns), .v (.int at_), .v (.tok 1), .v (.lst (ls.map strD)), .v (strD c), .v (.lst (ws.map wrD)), .v (.lst ((c :: rs).map strD)), x7, x8, .un, .un] = .ok (.lst [.non, .int 0, .lst (ls.map strD), .tup (ls.map strD), .tok 7, .bl true, fileD (SX.S c), histD c ws]) := e_lst (e_cons rfl (e_cons rfl (e_cons rfl (e_cons (e_b1 rfl rfl) (e_cons rfl (e_args3 rfl (mk_file (by omega) ra rfl) (mk_hist (by omega) hws (mk_file (by omega) ra rfl) rfl))))))) (by show 8 ≤ 1000; decide)
  exact ⟨_, e_zFor (e_jVal VLE) ((e_for_nx rfl (x_vb rfl)).trans ((e_for_nx rfl (x_vb rfl)).trans ((e_for_nx rfl (x_vb rfl)).trans ((e_for_nx rfl (x_vb rfl)).trans ((e_for_nx rfl (x_vb rfl)).trans ((e_for_nx rfl (x_vb rfl)).trans ((e_for_nx rfl (x_vb rfl)).trans ((e_for_nx rfl (x_vb rfl)).trans rfl))))))))⟩
theorem x_fin {s : List Sl} : (zSeq (zRet (fAnd (fBin (pEqT TQ 10) (fCall g__law_spot [] (fCons (fC (.int 0)) (fCons (fC (.str "\n")) fNil))) (fLst (fCons (fC (.int 1)) fNil))) (fAnd (fBin (pEqT TQ 10) (fCall g__law_spot [] (fCons (fC (.int 1)) (fCons (fC (.str "\n")) fNil))) (fLst (fCons (fC (.int 2)) fNil))) (fBin (pEqT TQ 10) (fCall g__law_spot [] (fCons (fC (.int 0)) (fCons (fC (.str "")) fNil))) (fLst (fCons (fC (.str "read")) fNil)))))) zNil) s = .ok (.rt (.bl true)) := by
  obtain ⟨n1, n2, n3⟩ := s_fix
  have em : fC (.str "") s = .ok (strD []) := by
    show Res.ok (D.str ("" : Str)) = _
    rw [empty_S]
    rfl
  exact e_seq_rt (e_zRet (e_andT (e_bin (e_call2 rfl nl_D n1) (e_lst (e_args1 rfl) (by show 1 ≤ 1000; decide)) (eq_one2 sim_int)) (e_andT (e_bin (e_call2 rfl nl_D n2) (e_lst (e_args1 rfl) (by show 1 ≤ 1000; decide)) (eq_one2 sim_int)) (e_bin (e_call2 rfl em n3) read_D (eq_one2 sim_str)))))
theorem law_ok (ns : List Int) : (g_law [.scr ns]).wp (fun d => d = .bl true) NoX := by
  refine w_def rfl ?_
  unfold f_law
  have T0 := @told0
  have T1 := @told1
  have F1 := @x_fa1
  have F2 := @x_c2
  have F4 := @x_e4
  have F5 := @x_e5
  have F6 := @x_e6
  have F7 := @x_fa2
  have F8 := @x_s7
  have F9 := @x_c8
  have F10 := @x_s8
  have F11 := @x_fin
  have C2 := @steps_ok
  have C3 := fun {at_ : Int} => spring_ok (ns := ns) (at_ := at_)
  generalize (zSeq (zRet (fAnd (fBin (pEqT TQ 10) (fCall g__law_spot [] (fCons (fC (.int 0)) (fCons (fC (.str "\n")) fNil))) (fLst (fCons (fC (.int 1)) fNil))) (fAnd (fBin (pEqT TQ 10) (fCall g__law_spot [] (fCons (fC (.int 1)) (fCons (fC (.str "\n")) fNil))) (fLst (fCons (fC (.int 2)) fNil))) (fBin (pEqT TQ 10) (fCall g__law_spot [] (fCons (fC (.int 0)) (fCons (fC (.str "")) fNil))) (fLst (fCons (fC (.str "read")) fNil)))))) zNil) = fin at *
  generalize (zFor (jVal (fLst (fCons (fC .non) (fCons (fC (.int 0)) (fCons (fVar 3) (fCons (fB gTuple (fCons (fVar 3) fNil)) (fCons (fC (.tok 7)) (fCons (fC (.bl true)) (fCons (fMake 7 (nm.getD 7 []) g_File_init [] (fCons (fVar 4) fNil)) (fCons (fMake 8 (nm.getD 8 []) g_History_init [] (fCons (fMake 7 (nm.getD 7 []) g_File_init [] (fCons (fVar 4) fNil)) (fCons (fVar 5) fNil))) fNil)))))))))) (.nm 8) (zSeq (zIf (fOrT (fVal (fBin (pNeT TQ 10) (fCall g__law_spot [] (fCons (fC (.int 0)) (fCons (fVar 8) fNil))) (fLst (fCons (fC .non) fNil)))) (fVal (fBin (pNeT TQ 10) (fCall g__law_spot [] (fCons (fC (.int 1)) (fCons (fVar 8) fNil))) (fLst (fCons (fC .non) fNil))))) (zSeq (zRet (fC (.bl false))) zNil) zNil) zNil)) = s8 at *
  generalize (fOrT (fVal (fBin (pNeT TQ 10) (fCall g__law_spot [] (fCons (fC (.int 1)) (fCons (fM1 kJoin (fC (.str "\n")) (fVar 6)) fNil))) (fLst (fCons (fC (.str "read")) fNil)))) (fVal (fBin (pNeT TQ 10) (fCall g__law_spot [] (fCons (fC (.int 1)) (fCons (fBin pAdd (fM1 kJoin (fC (.str "\n")) (fVar 6)) (fC (.str "\n"))) fNil))) (fLst (fCons (fBin pAdd (fB (gLenO (fun n => if n = 7 then some g_File_len else if n = 8 then some g_History_len else if n = 14 then some g_Script_len else none)) (fCons (fVar 6) fNil)) (fC (.int 1))) fNil))))) = c8 at *
  generalize (zFor (jVal (fLst (fCons (fC (.str "A")) (fCons (fC (.str "a b")) (fCons (fBin pAdd (fVar 4) (fC (.str " "))) (fCons (fBin pAdd (fVar 4) (fC (.str "-"))) (fCons (fBin pAdd (fC (.str " ")) (fVar 4)) (fCons (fC (.str "0 a")) (fCons (fC (.str "1")) fNil))))))))) (.nm 7) (zSeq (zIf (fVal (fBin (pNeT TQ 10) (fCall g__law_spot [] (fCons (fC (.int 1)) (fCons (fM1 kJoin (fC (.str "\n")) (fBin pAdd (fLst (fCons (fVar 7) fNil)) (fSl (fVar 6) (fOSome (fC (.int 1))) fONone))) fNil))) (fLst (fCons (fC (.int 1)) fNil)))) (zSeq (zRet (fC (.bl false))) zNil) zNil) zNil)) = s7 at *
  generalize (fCons (fVar 2) (fCons (fC (.int 1)) (fCons (fVar 6) (fCons (fC (.int 1)) (fCons (fCall g__law_no_writes [] (fCons (fB (gLenO (fun n => if n = 7 then some g_File_len else if n = 8 then some g_History_len else if n = 14 then some g_Script_len else none)) (fCons (fVar 4) fNil)) fNil)) fNil))))) = fa2 at *
  generalize (fBin pAdd (fLst (fCons (fVar 4) fNil)) (fLc (jVal (fVar 5)) (.tp [9, 10]) fYes (fBin pAdd (fBin pAdd (fB gStr1 (fCons (fVar 9) fNil)) (fC (.str " "))) (fVar 10)) [9, 10])) = e6 at *
  generalize (fCall g__law_writes [] (fCons (fVar 2) (fCons (fB (gLenO (fun n => if n = 7 then some g_File_len else if n = 8 then some g_History_len else if n = 14 then some g_Script_len else none)) (fCons (fVar 4) fNil)) (fCons (fC (.int 6)) fNil)))) = e5 at *
  generalize (fCall g__law_cells [] (fCons (fVar 2) (fCons (fCall gSip [] (fCons (fVar 2) (fCons (fC (.int 13)) fNil))) fNil))) = e4 at *
  generalize (fOrT (fVal (fBin (pNeT TQ 10) (fCall g__law_spot [] (fCons (fC (.int 0)) (fCons (fM1 kJoin (fC (.str "\n")) (fVar 3)) fNil))) (fLst (fCons (fC (.str "read")) fNil)))) (fVal (fBin (pNeT TQ 10) (fCall g__law_spot [] (fCons (fC (.int 0)) (fCons (fBin pAdd (fM1 kJoin (fC (.str "\n")) (fVar 3)) (fC (.str "\n"))) fNil))) (fLst (fCons (fBin pAdd (fB (gLenO (fun n => if n = 7 then some g_File_len else if n = 8 then some g_History_len else if n = 14 then some g_Script_len else none)) (fCons (fVar 3) fNil)) (fC (.int 1))) fNil))))) = c2 at *
  generalize (fCons (fVar 2) (fCons (fC (.int 0)) (fCons (fVar 3) (fCons (fC (.int 0)) (fCons (fCall g__law_no_steps [] (fCons (fBin pIx (fVar 3) (fC (.int 0))) fNil)) fNil))))) = fa1 at *
  generalize g__law_all_told = gTo at *
  generalize g__law_steps = gSt at *
  generalize g__law_spring = gSg at *
  have st : startD 11 [.scr ns] = [.v (.scr ns), .un, .un, .un, .un, .un, .un, .un, .un, .un, .un] := rfl
  rw [st]
  generalize hbody : zSeq (zAsg 2 _) _ = body
  refine w_seq ?_
  unfold zFor
  refine w_sx.mpr ?_
  rw [show jR1 (fCons (fC (.int 2)) fNil) [.v (.scr ns), .un, .un, .un, .un, .un, .un, .un, .un, .un, .un] = .ok [.int 0, .int 1] by
    unfold jR1
    rw [e_args1 rfl]
    show rng1 [.int 2] = _
    rw [e_r1, need_pos ⟨by decide, by decide⟩]
    rfl]
  show (forF (.nm 1) body [.int 0, .int 1] _).wp _ NoX
  refine wp_forAll (fun s => ∃ x1 x2 x3 x4 x5 x6 x7 x8 : Sl, s = [.v (.scr ns), x1, x2, x3, x4, x5, x6, x7, x8, .un, .un]) ⟨.un, .un, .un, .un, .un, .un, .un, .un, rfl⟩ ?_ ?_
  · rintro _ ⟨x1, x2, x3, x4, x5, x6, x7, x8, rfl⟩
    show (fin _).wp _ NoX
    rw [F11]
    exact rfl
  · rintro d hd _ ⟨x1, x2, x3, x4, x5, x6, x7, x8, rfl⟩
    obtain ⟨at_, rfl, a1, a2⟩ : ∃ at_ : Int, d = .int at_ ∧ 0 ≤ at_ ∧ at_ ≤ 100 := by
      rcases List.mem_cons.mp hd with rfl | hd
      · exact ⟨0, rfl, by decide, by decide⟩
      · rw [List.mem_singleton.mp hd]
        exact ⟨1, rfl, by decide, by decide⟩
    refine ⟨_, rfl, ?_⟩
    rw [← hbody]
    refine w_seq (w_asg ?_)
    rw [show fCall gSg [] (fCons (fVar 0) (fCons (fVar 1) fNil)) (List.set [.v (.scr ns), x1, x2, x3, x4, x5, x6, x7, x8, .un, .un] 1 (.v (.int at_))) = gSg [.scr ns, .int at_] from e_call2 rfl rfl rfl]
    refine wp_mono ?_ (fun _ _ z => z) (C3 a1 a2)
    rintro _ rfl
    show (zSeq (zAsg 3 _) _ [.v (.scr ns), .v (.int at_), .v (.tok 1), x3, x4, x5, x6, x7, x8, .un, .un]).wp _ NoX
    refine w_seq (w_asg ?_)
    rw [e_call1 (f1 := fVar 2) (g := gSt) (dfl := []) (s := [.v (.scr ns), .v (.int at_), .v (.tok 1), x3, x4, x5, x6, x7, x8, .un, .un]) rfl rfl]
    refine wp_mono ?_ (fun _ _ z => z) C2
    rintro _ ⟨ls, rfl, l0, l8, lg⟩
    show (zSeq (zIf _ _ zNil) _ [.v (.scr ns), .v (.int at_), .v (.tok 1), .v (.lst (ls.map strD)), x4, x5, x6, x7, x8, .un, .un]).wp _ NoX
    obtain ⟨h, t, eh⟩ : ∃ h t, ls = h :: t := by
      cases ls with
      | nil => exact absurd rfl l0
      | cons h t => exact ⟨h, t, rfl⟩
    have hg : h ∈ goodS := lg h (by rw [eh]; exact List.mem_cons_self)
    have IX : pIx (.lst (ls.map strD)) (.int 0) = .ok (strD h) := by
      rw [eh]
      exact ix0
    have hl := (good_ok h hg).2.2.1
    refine w_seq (w_ifT (F1 IX (by omega)) (T0 l8 lg hg) ?_)
    refine w_next (e_ifF (F2 l0 l8 lg) rfl) ?_
    refine w_seq (w_asg (wp_mono ?_ (fun _ _ z => z) F4))
    rintro _ ⟨c, rfl, ra, hc⟩
    show (zSeq (zAsg 5 _) _ [.v (.scr ns), .v (.int at_), .v (.tok 1), .v (.lst (ls.map strD)), .v (strD c), x5, x6, x7, x8, .un, .un]).wp _ NoX
    refine w_seq (w_asg (wp_mono ?_ (fun _ _ z => z) (F5 hc)))
    rintro _ ⟨ws, rfl, nws, hws⟩
    show (zSeq (zAsg 6 _) _ [.v (.scr ns), .v (.int at_), .v (.tok 1), .v (.lst (ls.map strD)), .v (strD c), .v (.lst (ws.map wrD)), x6, x7, x8, .un, .un]).wp _ NoX
    have rk : ∀ l ∈ ws.map rowL, fitO c.length l = true ∧ okLn l := fun l hl => by
      obtain ⟨w, hw, rfl⟩ := List.mem_map.mp hl
      exact row_okL (by omega) (hws w hw)
    have lw : (ws.map rowL).length ≤ 6 := by rw [List.length_map]; exact nws
    have G6 := F6 (ns := ns) (at_ := at_) (ls := ls) (x6 := x6) (x7 := x7) (x8 := x8) hc nws hws
    generalize ws.map rowL = rs at G6 rk lw
    refine w_next (s' := [.v (.scr ns), .v (.int at_), .v (.tok 1), .v (.lst (ls.map strD)), .v (strD c), .v (.lst (ws.map wrD)), .v (.lst ((c :: rs).map strD)), x7, x8, .un, .un]) (e_zAsg G6) ?_
    refine w_seq (w_ifT (F7 hc) (T1 ra hc rk lw) ?_)
    obtain ⟨y7, G7⟩ := F8 (ns := ns) (at_ := at_) (ls := ls) (ws := ws) (x7 := x7) (x8 := x8) ra hc (fun l hl => (rk l hl).2) lw
    refine w_next G7 ?_
    refine w_next (e_ifF (F9 ra hc rk lw) rfl) ?_
    obtain ⟨y8, G8⟩ := F10 (ns := ns) (at_ := at_) (ls := ls) (rs := rs) (x7 := y7) (x8 := x8) ra hc hws
    refine w_next G8 ?_
    exact ⟨_, _, _, _, _, _, _, _, rfl⟩
end K81
set_option Elab.async false
set_option linter.all false
set_option exponentiation.threshold 4000
set_option maxRecDepth 100000
set_option maxHeartbeats 1000000
namespace K81
open PySem PySem.Spec L2 Dl Dl.Hd Res
theorem bind_law {K : PySem.W.Frag} (c : Says fa fn K) {fd : FuncData} (F : FunD K d53.nam d53.qua d53.par d53.bod d53.sco (d53.dvs K) [] (d53.adr K) fd) (s : Shared) (u : Value) : BindsTo s fd ⟨[u], []⟩ [("script", u)] :=
  FunD.bindsA (ps := ["script"]) F (fun _ _ _ _ _ _ us hl => match us, hl with | [_], _ => rfl) s [u] rfl
theorem scr_spec {K : PySem.W.Frag} {H : Hp} {a : Addr} {ns : List Int} (h : SqL K H a (ns.map V.int)) : spD K (ct K) w53 [.ref a] H (fun v _ => v = .bl true) fun _ _ _ => False :=
  ⟨fun _ => False, [.scr ns], fun d => d = .bl true, fun _ _ => False, fun a z => z.elim, RepL.cons (rep_scr.mpr ⟨a, rfl, by
    rcases h with h | h
    · exact .inl ⟨fun z => z, h⟩
    · exact .inr h⟩) RepL.nil, m_law_ _ _ _ (law_ok ns), fun v d H' s r e => by
    subst e
    exact rep_bl.mp r, fun _ _ _ _ _ _ _ z => z.elim⟩
abbrev CXn : CXT := fun _ _ _ _ _ _ => False
theorem to0 {P : Program} {w : World} {K : PySem.W.Frag} {mg : Str → Option Value} {base : Heap} {k : Nat} {f : Addr} {fd : FuncData} {ps : List Str} {sp : Sp} (F : FnOk P w K mg base (L2.CX P w) k f fd ps sp) : FnOk P w K mg base CXn k f fd ps (fun vs H Q _ => sp vs H Q fun _ _ _ => False) :=
  ⟨fun vs H Q E h => F.len vs H Q _ h, fun A outer s H args us vs Q E hr e0 hb r h => codeAny_mono (F.run A outer s H args us vs Q (fun _ _ _ => False) hr e0 hb r h) fun res s' hs => by
    cases res with
    | error e =>
      obtain ⟨_, _, _, _, _, _, _, _, _, _, _, _, z⟩ := hs
      exact z.elim
    | ok fl => cases fl <;> exact hs⟩
end K81
open PySem PySem.W PySem.Calls PyProof.Rows
theorem PySem.Challenge.cw_keptholes_k81_texts_that_are_none_holds : PySem.Challenge.rw_keptholes_k81_texts_that_are_none.Holds := by
  w_on; o_law
  refine HandSHeadRun.head_any (r := OpenLaw.row PySem.Challenge.rw_keptholes_k81_texts_that_are_none) (q := view (OpenLaw.row PySem.Challenge.rw_keptholes_k81_texts_that_are_none).prog [55]) (H := K81.hk) (ob := K81.ob) (M := 20000) (loose := K81.loose) (d := HandSHeadRun.topDef (OpenLaw.row PySem.Challenge.rw_keptholes_k81_texts_that_are_none).prog 55) (kwd := []) K81.ob_eq
    (by kernel_rfl) (fun s => by kernel_rfl) K81.run (by kernel_rfl) (by kernel_rfl) (by kernel_rfl) (by rfl) (by first | assumption | decide +kernel) (by decide +kernel) ⟨rfl, rfl, rfl, rfl, rfl, by decide +kernel⟩ ?hw ?hc
  case hw => w_witness2
  case hc =>
    refine L2.walk_ofE (l := PySem.Challenge.rw_keptholes_k81_texts_that_are_none) (n := 63) (k := 14) (x := "script") (CX := K81.CXn) rfl (by decide) (by kernel_rfl) ⟨rfl, by decide, by decide⟩ ?F (fun _ _ _ _ z => z)
    intro w mg fa h Y G hmg0
    obtain ⟨K, KX, c⟩ := Y
    have hmg : mg ("law" : PySem.Str) = some (.ref fa) := by
      have e : (HandSHeadRun.topDef (OpenLaw.row PySem.Challenge.rw_keptholes_k81_texts_that_are_none).prog 55).name = ("law" : PySem.Str) := by kernel_rfl
      rw [← e]
      exact hmg0
    have e := hmg.symm.trans (He.glo_ok (x := "law") KX G (c.fact 39 rfl))
    cases e
    obtain ⟨fd, Fd⟩ := c.fun_ 53 (d := K81.d53) rfl
    refine ⟨K, fd, fun vs H Q _ => Dl.spD K (K81.ct K) K81.w53 vs H Q fun _ _ _ => False, KX, fun s u => K81.bind_law c Fd s u, fun H a ns hl _ hS => K81.scr_spec hS, fun base hK hG => ?_⟩
    exact K81.to0 (K81.okL (P := (PySem.Challenge.rw_keptholes_k81_texts_that_are_none).prog) (w := w) (base := base) KX G c Fd)

