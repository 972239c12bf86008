import PyProof.Rows.All
import Wide.All
import OpenK.AllK
import Wide.FinOn
import HandS.ForMost
import HandS.ForExc
import HandS.More
import HandS.Star
import HandS.MethStar
import HandS.IsInst
import HandS.TupAny
import HandS.StrMore
import HandS.Deep
import HandS.ExcInit
import HandS.Zip
import HandS.HeadHook3
import PyProof.ReprRoads
import PyProof.ReprReads
import PyProof.IsRules
import HandS.DictComp
import HandS.Conv
import HandS.NoneIn
import HandS.Style
import HandS.Dict
import HandS.Defaults
import HandS.Head0
import HandS.Head1
import HandS.Head2
import HandS.HeadEnd
import HandS.HeadHook1
import HandS.HeadHook2
import PyProof.ConsumeS
import PyProof.Rows.CallKwBuiltin
import PyProof.Rows.MinMaxN
import HandS.SortKw
import KE.KExcIs
import HandS.ExcField
import HandS.CallSlots
import HandS.DeepEq
import PyProof.FactsAll.dict
import PyProof.CallFns
import PySem.Challenge.RW_halfnoted_k26_any_value_as_a_check
set_option Elab.async false
set_option linter.all false
set_option maxRecDepth 100000
section
set_option maxHeartbeats 4000000
/-! Oz1: a small language of my own for the program's defs: its syntax, its values, what it means. -/
namespace Oz
open PySem PySem.Spec PyProof.Rows L2

/-! ### values -/
inductive U where
  | non | bl (b : Bool) | int (i : Int) | str (x : Str) | tup (xs : List U) | loc (n : Nat)
inductive Cel where
  | lst (xs : List U) | fro (xs : List U) | ins (C : Str) (fs : List (Str × U)) | dic (kvs : List (Key × U))
abbrev Sto := List Cel
inductive R (α : Type) where
  | ok (a : α) (S : Sto) | exc (c : Str) (fs : List (Str × U)) (S : Sto) | bad
def R.bind {α β : Type} (r : R α) (f : α → Sto → R β) : R β :=
  match r with
  | .ok a S => f a S
  | .exc c fs S => .exc c fs S
  | .bad => .bad

mutual
def ueq : U → U → Bool
  | .non, .non => true
  | .bl a, .bl b => a == b
  | .int a, .int b => a == b
  | .str a, .str b => decide (a = b)
  | .tup a, .tup b => useq a b
  | .loc a, .loc b => a == b
  | _, _ => false
def useq : List U → List U → Bool
  | [], [] => true
  | a :: as, b :: bs => ueq a b && useq as bs
  | _, _ => false
end
mutual
theorem ueq_iff : ∀ a b : U, ueq a b = true ↔ a = b
  | .non, b => by cases b <;> simp [ueq]
  | .bl x, b => by cases b <;> simp [ueq]
  | .int x, b => by cases b <;> simp [ueq]
  | .str x, b => by cases b <;> simp [ueq]
  | .tup x, b => by cases b <;> simp [ueq, useq_iff]
  | .loc x, b => by cases b <;> simp [ueq]
theorem useq_iff : ∀ a b : List U, useq a b = true ↔ a = b
  | [], b => by cases b <;> simp [useq]
  | a :: as, b => by cases b <;> simp [useq, ueq_iff, useq_iff]
end
instance : DecidableEq U := fun a b => if h : ueq a b = true then .isTrue ((ueq_iff a b).mp h) else .isFalse fun e => h ((ueq_iff a b).mpr e)
def isLst (S : Sto) (n : Nat) (us : List U) : Bool :=
  match S[n]? with
  | some (.lst vs) => useq vs us
  | some (.fro vs) => useq vs us
  | _ => false
theorem isLst_iff {S : Sto} {n : Nat} {us : List U} (h : isLst S n us = true) : S[n]? = some (.lst us) ∨ S[n]? = some (.fro us) := by
  unfold isLst at h
  cases q : S[n]? with
  | none => rw [q] at h; cases h
  | some c =>
    rw [q] at h
    cases c with
    | lst vs => left; rw [(useq_iff vs us).mp h]
    | fro vs => right; rw [(useq_iff vs us).mp h]
    | ins C fs => cases h
    | dic kvs => cases h
theorem isLst_lst {S : Sto} {n : Nat} {us : List U} (h : S[n]? = some (.lst us)) : isLst S n us = true := by
  unfold isLst
  rw [h]
  exact (useq_iff us us).mpr rfl

/-! ### == of data: Python's -/
mutual
def eqU : U → U → Bool
  | .non, .non => true
  | .bl a, .bl b => a == b
  | .bl a, .int b => (if a then 1 else 0) == b
  | .int a, .bl b => a == (if b then 1 else 0)
  | .int a, .int b => a == b
  | .str a, .str b => a == b
  | .tup a, .tup b => eqUs a b
  | _, _ => false
def eqUs : List U → List U → Bool
  | [], [] => true
  | a :: as, b :: bs => eqU a b && eqUs as bs
  | _, _ => false
end
mutual
def pdU : U → PyData
  | .non => .none
  | .bl b => .bool b
  | .int i => .int i
  | .str x => .str x
  | .tup xs => .tuple (pdUs xs)
  | .loc _ => .none
def pdUs : List U → List PyData
  | [] => []
  | u :: us => pdU u :: pdUs us
end
mutual
def purU : U → Bool
  | .tup xs => purUs xs
  | .loc _ => false
  | _ => true
def purUs : List U → Bool
  | [] => true
  | u :: us => purU u && purUs us
end
mutual
theorem eqv_pd : ∀ a b : U, purU a = true → purU b = true → PyData.eqv (pdU a) (pdU b) = eqU a b
  | .non, b, _, hb => by cases b <;> simp_all [pdU, PyData.eqv, eqU, purU]
  | .bl x, b, _, hb => by cases b <;> simp_all [pdU, PyData.eqv, eqU, purU]
  | .int x, b, _, hb => by cases b <;> simp_all [pdU, PyData.eqv, eqU, purU]
  | .str x, b, _, hb => by cases b <;> simp_all [pdU, PyData.eqv, eqU, purU]
  | .tup x, b, ha, hb => by
    cases b with
    | tup y =>
      simp only [pdU, PyData.eqv, eqU]
      exact eqvs_pd x y (by simpa [purU] using ha) (by simpa [purU] using hb)
    | _ => simp_all [pdU, PyData.eqv, eqU, purU]
  | .loc x, b, ha, hb => by simp [purU] at ha
theorem eqvs_pd : ∀ a b : List U, purUs a = true → purUs b = true → PyData.eqvAll (pdUs a) (pdUs b) = eqUs a b
  | [], b, _, _ => by cases b <;> simp [pdUs, PyData.eqvAll, eqUs]
  | x :: xs, b, ha, hb => by
    cases b with
    | nil => simp [pdUs, PyData.eqvAll, eqUs]
    | cons y ys =>
      simp only [purUs, Bool.and_eq_true] at ha hb
      simp only [pdUs, PyData.eqvAll, eqUs]
      rw [eqv_pd x y ha.1 hb.1, eqvs_pd xs ys ha.2 hb.2]
end
/-- data that == takes -/
def okU (u : U) : Bool := purU u && SeqAt.shaped (pdU u)
def okUs (us : List U) : Bool := purUs us && SeqAt.shaped (.list (pdUs us))

/-! ### syntax -/
inductive Op where
  | add | sub | mul | fdiv | mod | pow | shl
inductive Cm where
  | eq | ne | lt | le | gt | ge | in_ | notIn | isN | isNotN
inductive Bf where
  | len | abs | int | max | sum | tup | list | min2 | max2 | str | all | any | maxd | repr
inductive Bm where
  | append | startswith3 | pop | extend
mutual
inductive E where
  | v (i : Nat) | k (u : U) | g (x : Str)
  | tup (es : Es) | lst (es : Es)
  | bin (o : Op) (a b : E) | neg (a : E)
  | cmp (o : Cm) (a b : E)
  | and (a b : E) | or (a b : E) | not (a : E)
  | ife (c : T) (a b : E)
  | ix (a i : E) | sl (a : E) (lo hi : Eo)
  | fld (a : E) (C f : Str)
  | call (f : Str) (es : Es) | meth (o : E) (C m : Str) (es : Es) | mk (C : Str) (es : Es)
  | bf (b : Bf) (es : Es) | bm (b : Bm) (o : E) (es : Es)
  | isi (a : E) (t : String)
  | lc (is : List Nat) (tp : Bool) (elt : E) (it : E) (c : T)
  | lcr (is : List Nat) (elt : E) (a b : E) (c : T)
  | lcz (is : List Nat) (elt : E) (es : Es) (c : T)
  | gd (x : Str) (a : E) | gget (x : Str) (a b : E)
  | lc2 (is is1 : List Nat) (tp tp1 : Bool) (elt it it1 : E)
  | kcall (f : Str) (es ks : Es)
  | din (x : Str) (a : E)
  | rev (a : E)
  | lsd (i : Nat) (it : E)
  | lczn (i : Nat) (elt : E) (es : Es)
  | dnew | dat (a k : E) | dhas (b : Bool) (k a : E) | dm1 (a k v : E) | dm2 (a k v k2 v2 : E)
  | dpl (es : Es) | xin (b : Bool) (a c : E) | xeq (b : Bool) (a c : E) | xrep (a : E)
inductive Eo where
  | no | so (e : E)
inductive Es where
  | nil | cons (e : E) (es : Es) | star (e : E) (es : Es)
inductive T where
  | tt | e (a : E) | and (a b : T) | or (a b : T) | not (a : T)
end
/-! ### patterns -/
inductive Pi | lit (x : Str) | cap (i : Nat) | wild
inductive Pt | wild | val (x : Str) | seq (ps : List Pi)
end Oz

end

section
set_option maxHeartbeats 4000000
/-! Oz2: what the small language means. -/
namespace Oz
open PySem PySem.Spec PyProof.Rows L2

instance (x : Str) (n : Int) : Decidable (PySem.MulOk x n) := by unfold PySem.MulOk; infer_instance
instance (i j : Int) : Decidable (CMul i j) := by unfold CMul; infer_instance
instance (i j : Int) : Decidable (CDiv i j) := by unfold CDiv; infer_instance
instance (i j : Int) : Decidable (CPow i j) := by unfold CPow; infer_instance

/-! ### operators by values -/
def binU (o : Op) (a b : U) (S : Sto) : R U :=
  match o, a, b with
  | .add, .int i, .int j => .ok (.int (i + j)) S
  | .add, .str x, .str y => if x.length + y.length ≤ sizeLine then .ok (.str (x ++ y)) S else .bad
  | .add, .tup xs, .tup ys => if xs.length + ys.length ≤ sizeLine then .ok (.tup (xs ++ ys)) S else .bad
  | .add, .loc m, .loc n =>
    match S[m]?, S[n]? with
    | some (.lst xs), some (.lst ys) => if xs.length + ys.length ≤ sizeLine then .ok (.loc S.length) (S ++ [.lst (xs ++ ys)]) else .bad
    | _, _ => .bad
  | .sub, .int i, .int j => .ok (.int (i - j)) S
  | .mul, .int i, .int j => if CMul i j then .ok (.int (i * j)) S else .bad
  | .mul, .str x, .int n => if PySem.MulOk x n then .ok (.str (PySem.Txt.mul x n)) S else .bad
  | .fdiv, .int i, .int j => if CDiv i j then .ok (.int (i / j)) S else .bad
  | .mod, .int i, .int j => if 0 < j then .ok (.int (i % j)) S else .bad
  | .pow, .int i, .int j => if CPow i j then .ok (.int (i ^ j.toNat)) S else .bad
  | .shl, .int i, .int j => if CPow i j then .ok (.int (i * 2 ^ j.toNat)) S else .bad
  | _, _, _ => .bad
def items? (S : Sto) : U → Option (List U)
  | .tup xs => some xs
  | .loc n =>
    match S[n]? with
    | some (.lst xs) => some xs
    | some (.fro xs) => some xs
    | _ => none
  | _ => none
def list? (S : Sto) : U → Option (List U)
  | .loc n =>
    match S[n]? with
    | some (.lst xs) => some xs
    | some (.fro xs) => some xs
    | _ => none
  | _ => none
def flatU : U → Bool
  | .non => true
  | .bl _ => true
  | .int _ => true
  | .str _ => true
  | _ => false
/-- == -/
def eqR (a b : U) (S : Sto) : Option Bool :=
  match a, b with
  | .int i, .int j => some (decide (i = j))
  | .str x, .str y => some (decide (x = y))
  | .loc m, .loc n =>
    match list? S (.loc m), list? S (.loc n) with
    | some xs, some ys => if okUs xs && okUs ys then some (eqUs xs ys) else none
    | _, _ => none
  | a, b => if okU a && okU b then some (eqU a b) else none
/-- in -/
def inR (a b : U) (S : Sto) : Option Bool :=
  match a, b with
  | .str x, .str z =>
    match x.cps.toList with
    | [c] => some (decide (c ∈ z.cps.toList))
    | _ => none
  | a, b =>
    match items? S b with
    | some xs =>
      if flatU a && xs.all flatU then some (xs.any fun y => eqU y a)
      else match list? S b with
        | some xs => if okU a && okUs xs then some (xs.any fun y => eqU y a) else none
        | none => none
    | none => none
def cmpB (o : Cm) (a b : U) (S : Sto) : Option Bool :=
  match o with
  | .eq => eqR a b S
  | .ne => (eqR a b S).map (!·)
  | .in_ => inR a b S
  | .notIn => (inR a b S).map (!·)
  | .isN => match b with | .non => some (decide (a = .non)) | .bl k => (match a with | .bl j => some (j == k) | _ => none) | _ => none
  | .isNotN => match b with | .non => some (!decide (a = .non)) | .bl k => (match a with | .bl j => some (!(j == k)) | _ => none) | _ => none
  | .lt => match a, b with | .int i, .int j => some (decide (i < j)) | _, _ => none
  | .le => match a, b with | .int i, .int j => some (decide (i ≤ j)) | _, _ => none
  | .gt => match a, b with | .int i, .int j => some (decide (j < i)) | _, _ => none
  | .ge => match a, b with | .int i, .int j => some (decide (j ≤ i)) | _, _ => none
def rO {α : Type} (o : Option α) (S : Sto) : R α := match o with | some a => .ok a S | none => .bad
def cmpU (o : Cm) (a b : U) (S : Sto) : R U := match cmpB o a b S with | some k => .ok (.bl k) S | none => .bad
def ixU (a i : U) (S : Sto) : R U :=
  match a, i with
  | .str z, .int j => if z.length ≤ sizeLine then (match atI z.cps.toList j with | some c => .ok (.str ⟨#[c]⟩) S | none => .bad) else .bad
  | a, .int j =>
    match items? S a with
    | some xs => (match atI xs j with | some u => .ok u S | none => .bad)
    | none => .bad
  | _, _ => .bad
def cutA {α : Type} (xs : List α) (lo hi : Option Int) : List α := (xs.drop (HT.sIx xs.length 0 lo)).take (HT.sIx xs.length xs.length hi - HT.sIx xs.length 0 lo)
def slU (a : U) (lo hi : Option Int) (S : Sto) : R U :=
  match a with
  | .str z => if z.length ≤ sizeLine then .ok (.str (cutS z lo hi)) S else .bad
  | .tup xs => .ok (.tup (cutA xs lo hi)) S
  | .loc n => match list? S (.loc n) with | some xs => .ok (.loc S.length) (S ++ [.lst (cutA xs lo hi)]) | none => .bad
  | _ => .bad
def lenU (a : U) (S : Sto) : Option Nat :=
  match a with
  | .str z => if z.length ≤ sizeLine then some z.length else none
  | a => (items? S a).map List.length
def truU (a : U) (S : Sto) : Option Bool :=
  match a with
  | .non => some false
  | .bl b => some b
  | .int i => some (i != 0)
  | .str z => if z.length ≤ sizeLine then some ((z.length : Int) != 0) else none
  | a => (items? S a).map fun xs => !xs.isEmpty
def intsU : List U → Option (List Int)
  | [] => some []
  | .int i :: us => (intsU us).map (i :: ·)
  | _ :: _ => none
def maxI : List Int → Int
  | [] => 0
  | [i] => i
  | i :: is => if maxI is > i then maxI is else i
def lenF (us : List U) (S : Sto) : R U := match us with
  | [a] => (match lenU a S with | some n => .ok (.int (n : Nat)) S | none => .bad)
  | _ => .bad
def absF (us : List U) (S : Sto) : R U := match us with
  | [.int i] => .ok (.int (if i < 0 then -i else i)) S
  | _ => .bad
def intF (us : List U) (S : Sto) : R U := match us with
  | [.int i] => .ok (.int i) S
  | [.bl k] => .ok (.int (if k then 1 else 0)) S
  | [.str x] => (match PySem.intText? x with | some n => if x.length ≤ 640 then .ok (.int n) S else .bad | none => .bad)
  | _ => .bad
def maxF (us : List U) (S : Sto) : R U := match us with
  | [a] => (match (list? S a).bind intsU with | some ns => if 0 < ns.length then .ok (.int (maxI ns)) S else .bad | none => .bad)
  | _ => .bad
def sumF (us : List U) (S : Sto) : R U := match us with
  | [a] => (match (list? S a).bind intsU with | some ns => .ok (.int ns.sum) S | none => .bad)
  | _ => .bad
def max2F (us : List U) (S : Sto) : R U := match us with
  | [.int i, .int j] => .ok (.int (if j > i then j else i)) S
  | _ => .bad
def min2F (us : List U) (S : Sto) : R U := match us with
  | [.int i, .int j] => .ok (.int (if j < i then j else i)) S
  | _ => .bad
def tupF (us : List U) (S : Sto) : R U := match us with
  | [a] => (match items? S a with | some xs => .ok (.tup xs) S | none => .bad)
  | _ => .bad
def listF (us : List U) (S : Sto) : R U := match us with
  | [a] => (match items? S a with | some xs => .ok (.loc S.length) (S ++ [.lst xs]) | none => .bad)
  | _ => .bad
def strF (us : List U) (S : Sto) : R U := match us with
  | [.int i] => if i.natAbs.log2 < 1920 then .ok (.str (toString i)) S else .bad
  | _ => .bad
def bolsU : List U → Option (List Bool)
  | [] => some []
  | .bl i :: us => (bolsU us).map (i :: ·)
  | _ :: _ => none
def allF (us : List U) (S : Sto) : R U := match us with
  | [.tup xs] => (match bolsU xs with | some ns => .ok (.bl (ns.all id)) S | none => .bad)
  | [a] => (match (list? S a).bind bolsU with | some ns => .ok (.bl (ns.all id)) S | none => .bad)
  | _ => .bad
def anyF (us : List U) (S : Sto) : R U := match us with
  | [a] => (match (list? S a).bind bolsU with | some ns => .ok (.bl (ns.any id)) S | none => .bad)
  | _ => .bad
/-- max(xs, default=k) -/
def maxdF (us : List U) (S : Sto) : R U := match us with
  | [a, .int k] => (match (list? S a).bind intsU with | some ns => .ok (.int (if 0 < ns.length then maxI ns else k)) S | none => .bad)
  | _ => .bad
/-- repr of data -/
def reprOk (u : U) : Bool := (match u with | .tup _ => true | _ => false) && (okU u && ((pdU u).showable && decide ((pdU u).shown.length ≤ sizeLine)))
def reprF (us : List U) (S : Sto) : R U := match us with
  | [a] => if reprOk a then .ok (.str (pdU a).shown) S else .bad
  | _ => .bad
def bfU (b : Bf) (us : List U) (S : Sto) : R U := match b with
  | .repr => reprF us S
  | .all => allF us S
  | .any => anyF us S
  | .maxd => maxdF us S
  | .len => lenF us S
  | .abs => absF us S
  | .int => intF us S
  | .max => maxF us S
  | .sum => sumF us S
  | .max2 => max2F us S
  | .min2 => min2F us S
  | .tup => tupF us S
  | .list => listF us S
  | .str => strF us S
def appendF (o : U) (us : List U) (S : Sto) : R U := match o, us with
  | .loc n, [u] => (match S[n]? with | some (.lst xs) => if xs.length < sizeLine then .ok .non (S.set n (.lst (xs ++ [u]))) else .bad | _ => .bad)
  | _, _ => .bad
def popF (o : U) (us : List U) (S : Sto) : R U := match o, us with
  | .loc n, [] => (match S[n]? with | some (.lst xs) => (match xs[xs.length - 1]? with | some u => .ok u (S.set n (.lst xs.dropLast)) | none => .bad) | _ => .bad)
  | _, _ => .bad
def extendF (o : U) (us : List U) (S : Sto) : R U := match o, us with
  | .loc n, [.loc m] => (match S[n]?, S[m]? with | some (.lst xs), some (.lst ys) => if xs.length + ys.length ≤ sizeLine then .ok .non (S.set n (.lst (xs ++ ys))) else .bad | _, _ => .bad)
  | _, _ => .bad
def startsF (o : U) (us : List U) (S : Sto) : R U := match o, us with
  | .str x, [.str y, .int i] => .ok (.bl (PySem.Txt.startswith3 x y i)) S
  | _, _ => .bad
def bmU (b : Bm) (o : U) (us : List U) (S : Sto) : R U := match b with
  | .append => appendF o us S
  | .extend => extendF o us S
  | .pop => popF o us S
  | .startswith3 => startsF o us S
/-- what has such a method -/
def tyB (b : Bm) (o : U) (S : Sto) : Bool :=
  match b, o with
  | .append, o => (list? S o).isSome
  | .extend, o => (list? S o).isSome
  | .pop, o => (list? S o).isSome
  | .startswith3, .str _ => true
  | _, _ => false
def tyU (S : Sto) : U → Option String
  | .non => some "NoneType"
  | .bl _ => some "bool"
  | .int _ => some "int"
  | .str _ => some "str"
  | .tup _ => some "tuple"
  | .loc n =>
    match S[n]? with
    | some (.lst _) => some "list"
    | some (.fro _) => some "list"
    | some (.dic _) => some "dict"
    | _ => none

/-! ### the def's names -/
abbrev Env := List (Option U)
def setAll : List Nat → List U → Env → Env
  | i :: is, u :: us, env => setAll is us (env.set i (some u))
  | _, _, env => env
/-- a name, or names in parentheses -/
def setN (tp : Bool) (is : List Nat) (u : U) (env : Env) : Option Env :=
  if tp then match u with
    | .tup us => if us.length = is.length then some (setAll is us env) else none
    | _ => none
  else match is with
    | [i] => some (env.set i (some u))
    | _ => none
def wipeE (env : Env) : List Nat → Env
  | [] => env
  | i :: is => (wipeE env is).set i none
/-- what a for goes over: the items, the list that must stay -/
def iterU (S : Sto) : U → Option (List U × Option Nat)
  | .tup xs => some (xs, none)
  | .str z => some (z.cps.toList.map fun c => U.str ⟨#[c]⟩, none)
  | .loc n =>
    match S[n]? with
    | some (.lst xs) => some (xs, some n)
    | some (.fro xs) => some (xs, some n)
    | _ => none
  | _ => none
def stays (S : Sto) (us : List U) : Option Nat → Bool
  | none => true
  | some n => isLst S n us
def ranged (a b : Int) : List U := (List.range (b - a).toNat).map fun k => U.int (a + (k : Nat))

/-! ### the program around a def -/
structure Cal where
  call : Str → List U → Sto → R U
  kcal : Str → List U → Sto → R U
  init : Str → List U → Sto → R U
  glo : Str → Option U
  xf : Str → Option Str
  gd : Str → Option (List (Str × U))

/-- one more item for the list at n -/
def pushAt (n : Nat) (u : U) (S : Sto) : R Unit :=
  match S[n]? with
  | some (.lst acc) => if acc.length < sizeLine then .ok () (S.set n (.lst (acc ++ [u]))) else .bad
  | _ => .bad
/-- within a comprehension nothing may be raised -/
def R.noex {α : Type} (r : R α) : R α := match r with | .ok a S => .ok a S | _ => .bad
/-- a comprehension's turns: all the items, those to come -/
def lcI (tp : Bool) (is : List Nat) (env : Env) (c : Env → Sto → R Bool) (f : Env → Sto → R U) (n : Nat) (all : List U) (src : Option Nat) : List U → Sto → R Unit
  | [], S => if stays S all src then .ok () S else .bad
  | u :: us, S => if stays S all src then
      match setN tp is u env with
      | some env' => (c env' S).bind fun b S1 => if b then (f env' S1).bind fun y S2 => (pushAt n y S2).bind fun _ S3 => lcI tp is env c f n all src us S3 else lcI tp is env c f n all src us S1
      | none => .bad
    else .bad
/-- a comprehension's turns over zip: the items to come; st: what must stay -/
def lcJ (tp : Bool) (is : List Nat) (env : Env) (c : Env → Sto → R Bool) (f : Env → Sto → R U) (n : Nat) (st : Sto → Bool) : List U → Sto → R Unit
  | [], S => if st S then .ok () S else .bad
  | u :: us, S => if st S then
      match setN tp is u env with
      | some env' => (c env' S).bind fun b S1 => if b then (f env' S1).bind fun y S2 => (pushAt n y S2).bind fun _ S3 => lcJ tp is env c f n st us S3 else lcJ tp is env c f n st us S1
      | none => .bad
    else .bad
/-- the turns of a second walk -/
def lcK (is1 : List Nat) (tp1 : Bool) (f : Env → Sto → R U) (n : Nat) (all1 : List U) (src1 : Option Nat) (env : Env) : List U → Sto → R Unit
  | [], S => if stays S all1 src1 then .ok () S else .bad
  | u :: us, S => if stays S all1 src1 then
      match setN tp1 is1 u env with
      | some env' => (f env' S).bind fun y S2 => (pushAt n y S2).bind fun _ S3 => lcK is1 tp1 f n all1 src1 env us S3
      | none => .bad
    else .bad
/-- a comprehension's turns over two walks -/
def lcL (tp tp1 : Bool) (is is1 : List Nat) (env : Env) (g f : Env → Sto → R U) (n : Nat) (all : List U) (src : Option Nat) : List U → Sto → R Unit
  | [], S => if stays S all src then .ok () S else .bad
  | u :: us, S => if stays S all src then
      match setN tp is u env with
      | some env' => (g env' S).bind fun x S1 => (match iterU S1 x with
        | some (us1, src1) => (lcK is1 tp1 f n us1 src1 (wipeE env' is1) us1 S1).bind fun _ S2 => lcL tp tp1 is is1 env g f n all src us S2
        | none => .bad)
      | none => .bad
    else .bad
def zipped : List U → List U → List U
  | a :: as, b :: bs => .tup [a, b] :: zipped as bs
  | _, _ => []
/-- zip of two tuples, of two lists -/
def zipU (S : Sto) : List U → Option (List U × (Sto → Bool))
  | [.tup xs, .tup ys] => some (zipped xs ys, fun _ => true)
  | [.loc m, .loc n] => (match list? S (.loc m), list? S (.loc n) with
    | some xs, some ys => some (zipped xs ys, fun S => isLst S m xs && isLst S n ys)
    | _, _ => none)
  | _ => none
/-- keys of dicts: ints and texts, tuples of them -/
def keyU : U → Option Key
  | .int i => some (.inl i)
  | .str x => some (.inr x)
  | _ => none
def keysU : List U → Option (List Key)
  | [] => some []
  | u :: us => (keyU u).bind fun k => (keysU us).map (k :: ·)
def keyT : U → Option (List Key)
  | .tup us => keysU us
  | _ => none
def keyTs : List U → Option (List (List Key))
  | [] => some []
  | u :: us => (keyT u).bind fun k => (keyTs us).map (k :: ·)
def uK : Key → U
  | .inl i => .int i
  | .inr x => .str x
def dd1 (acc : List (List Key)) (k : List Key) : List (List Key) := if (acc.any fun j => decide (j = k)) = true then acc else acc ++ [k]
def dd (ks : List (List Key)) : List (List Key) := ks.foldl dd1 []
/-- dicts of texts and ints -/
def putKU (kvs : List (Key × U)) (k : Key) (u : U) : List (Key × U) := if (kvs.any fun kv => decide (kv.1 = k)) = true then kvs.map (fun kv => if kv.1 = k then (kv.1, u) else kv) else kvs ++ [(k, u)]
def mrgU (kvs more : List (Key × U)) : List (Key × U) := more.foldl (fun acc kv => putKU acc kv.1 kv.2) kvs
def valU (kvs : List (Key × U)) (k : Key) : Option U := (kvs.find? fun kv => decide (kv.1 = k)).map (·.2)
def datU (x y : U) (S : Sto) : R U := match x, keyU y with
  | .loc n, some k => (match S[n]? with | some (.dic kvs) => rO (valU kvs k) S | _ => .bad)
  | _, _ => .bad
def dhasU (b : Bool) (x y : U) (S : Sto) : R U := match x, keyU y with
  | .loc n, some k => (match S[n]? with | some (.dic kvs) => .ok (.bl ((valU kvs k).isSome == b)) S | _ => .bad)
  | _, _ => .bad
def keyPs : List (U × U) → Option (List (Key × U))
  | [] => some []
  | (y, z) :: ps => (keyU y).bind fun k => (keyPs ps).map ((k, z) :: ·)
/-- {**x, ..}: the new dict stands at n -/
def dmOpen (n : Nat) (x : U) (S : Sto) : R Nat := match x with
  | .loc m => (match S[m]?, S[n]? with
    | some (.dic ms), some (.dic []) => if m ≠ n ∧ ms.length + 15 ≤ sizeLine then .ok S.length (S.set n (.dic (mrgU [] ms)) ++ [.dic []]) else .bad
    | _, _ => .bad)
  | _ => .bad
def dmClose (n q : Nat) (ps : List (U × U)) (S : Sto) : R U := match S[n]?, S[q]?, keyPs ps with
  | some (.dic M), some (.dic []), some kvs => if M.length + kvs.length ≤ sizeLine ∧ n ≠ q then .ok (.loc n) ((S.set q (.dic (mrgU [] kvs))).set n (.dic (mrgU M (mrgU [] kvs)))) else .bad
  | _, _, _ => .bad
/-- zip of one tuple, of three -/
def tupsU : List U → Option (List (List U))
  | [] => some []
  | .tup xs :: us => (tupsU us).map (xs :: ·)
  | _ :: _ => none
def zipNU (us : List U) : Option (List U) :=
  match tupsU us with
  | some (xs :: cols) => if (cols.length = 0 ∨ cols.length = 2) ∧ cols.all (fun c => c.length == xs.length) = true then some ((List.range xs.length).map fun k => .tup ((xs :: cols).map fun c => c.getD k .non)) else none
  | _ => none
/-- x[::-1] -/
def revU (a : U) (S : Sto) : R U :=
  match a with
  | .tup xs => .ok (.tup xs.reverse) S
  | _ => .bad
/-- what == tells from a text at once -/
def othB (S : Sto) : U → Bool
  | .loc n => (match S[n]? with | some (.lst _) => true | some (.fro _) => true | some (.dic _) => true | _ => false)
  | _ => true
def isStrU : U → Bool
  | .str _ => true
  | _ => false
def eqT (y a : U) : Bool := match y, a with
  | .str x, .str z => x == z
  | _, _ => false
/-- anything in texts -/
def xinR (a b : U) (S : Sto) : Option Bool := match items? S b with
  | some xs => if xs.all isStrU && othB S a then some (xs.any fun y => eqT y a) else none
  | none => none
/-- a text == anything -/
def xeqR (a b : U) (S : Sto) : Option Bool := if isStrU a && othB S b then some (eqT a b) else none
mutual
/-- data with lists and an empty dict in it -/
def pdS (S : Sto) : U → PyData
  | .non => .none
  | .bl b => .bool b
  | .int i => .int i
  | .str x => .str x
  | .tup xs => .tuple (pdSs S xs)
  | .loc n => (match S[n]? with | some (.lst xs) => .list (pdUs xs) | some (.fro xs) => .list (pdUs xs) | _ => .dict [])
def pdSs (S : Sto) : List U → List PyData
  | [] => []
  | u :: us => pdS S u :: pdSs S us
end
mutual
def okS (S : Sto) : U → Bool
  | .tup xs => okSs S xs
  | .loc n => (match S[n]? with | some (.lst xs) => purUs xs | some (.fro xs) => purUs xs | some (.dic []) => true | _ => false)
  | _ => true
def okSs (S : Sto) : List U → Bool
  | [] => true
  | u :: us => okS S u && okSs S us
end
mutual
/-- no list in it -/
def lfS (S : Sto) : U → Bool
  | .tup xs => lfSs S xs
  | .loc n => (match S[n]? with | some (.dic _) => true | _ => false)
  | _ => true
def lfSs (S : Sto) : List U → Bool
  | [] => true
  | u :: us => lfS S u && lfSs S us
end
def xrepR (u : U) (S : Sto) : R U := if okS S u && ((!(pdS S u).hasDict || lfS S u) && (decide ((pdS S u).depth ≤ 60) && ((pdS S u).showable && decide ((pdS S u).shown.length ≤ sizeLine)))) then .ok (.str (pdS S u).shown) S else .bad
/-- the pairs of a display -/
def dplU : List U → Option (List (Key × U))
  | [] => some []
  | k :: v :: us => (keyU k).bind fun k => (dplU us).map ((k, v) :: ·)
  | _ => none
def dplR (n : Nat) (us : List U) (S : Sto) : R U := match S[n]?, dplU us with
  | some (.dic []), some kvs => if kvs.length ≤ 15 then .ok (.loc n) (S.set n (.dic (mrgU [] kvs))) else .bad
  | _, _ => .bad
mutual
def ev (Φ : Cal) : E → Env → Sto → R U
  | .v i, env, S => (match env[i]? with | some (some u) => .ok u S | _ => .bad)
  | .k u, _, S => .ok u S
  | .g x, _, S => rO (Φ.glo x) S
  | .tup es, env, S => (evs Φ es env S).bind fun us S => if us.length ≤ sizeLine then .ok (.tup us) S else .bad
  | .lst es, env, S => (evs Φ es env S).bind fun us S => if us.length ≤ sizeLine then .ok (.loc S.length) (S ++ [.lst us]) else .bad
  | .bin o a b, env, S => (ev Φ a env S).bind fun x S => (ev Φ b env S).bind fun y S => binU o x y S
  | .neg a, env, S => (ev Φ a env S).bind fun x S => (match x with | .int i => .ok (.int (-i)) S | _ => .bad)
  | .cmp o a b, env, S => (ev Φ a env S).bind fun x S => (ev Φ b env S).bind fun y S => cmpU o x y S
  | .and a b, env, S => (ev Φ a env S).bind fun x S => (match x with | .bl true => ev Φ b env S | .bl false => .ok (.bl false) S | _ => .bad)
  | .or a b, env, S => (ev Φ a env S).bind fun x S => (match x with | .bl true => .ok (.bl true) S | .bl false => ev Φ b env S | _ => .bad)
  | .not a, env, S => (ev Φ a env S).bind fun x S => (match x with | .bl k => .ok (.bl (!k)) S | _ => .bad)
  | .ife c a b, env, S => (evt Φ c env S).bind fun k S => if k then ev Φ a env S else ev Φ b env S
  | .ix a i, env, S => (ev Φ a env S).bind fun x S => (ev Φ i env S).bind fun y S => ixU x y S
  | .sl a lo hi, env, S => (ev Φ a env S).bind fun x S => (evo Φ lo env S).bind fun l S => (evo Φ hi env S).bind fun h S => slU x l h S
  | .fld a C f, env, S => (ev Φ a env S).bind fun x S => (match x with
      | .loc n => (match S[n]? with | some (.ins D fs) => if D = C then rO (fs.lookup f) S else .bad | _ => .bad)
      | _ => .bad)
  | .call f es, env, S => (evs Φ es env S).bind fun us S => Φ.call f us S
  | .meth o C m es, env, S => (ev Φ o env S).bind fun x S => (match x with
      | .loc n => (match S[n]? with
        | some (.ins D fs) => if D = C ∧ fs.lookup m = none then (evs Φ es env S).bind fun us S => Φ.call (C ++ "." ++ m) (.loc n :: us) S else .bad
        | _ => .bad)
      | _ => .bad)
  | .mk C es, env, S => (evs Φ es env S).bind fun us S => (Φ.init (C ++ ".__init__") (.loc S.length :: us) (S ++ [.ins C []])).bind fun u S' => (match u with | .non => .ok (.loc S.length) S' | _ => .bad)
  | .bf b es, env, S => (evs Φ es env S).bind fun us S => bfU b us S
  | .bm b o es, env, S => (ev Φ o env S).bind fun x S => if tyB b x S then (evs Φ es env S).bind fun us S => bmU b x us S else .bad
  | .isi a t, env, S => (ev Φ a env S).bind fun x S => (match tyU S x with | some t' => (match kitB t' t with | some k => .ok (.bl k) S | none => .bad) | none => .bad)
  | .lc is tp elt it c, env, S => (ev Φ it env S).bind fun x S => (match iterU S x with
      | some (us, src) => (lcI tp is (wipeE env is) (fun env S => (evt Φ c env S).noex) (fun env S => (ev Φ elt env S).noex) S.length us src us (S ++ [.lst []])).bind fun _ S' => .ok (.loc S.length) S'
      | none => .bad)
  | .lcr is elt a b c, env, S => (ev Φ a env S).bind fun x S => (ev Φ b env S).bind fun y S => (match x, y with
      | .int i, .int j => if -(2 ^ 62) ≤ i ∧ i < 2 ^ 62 ∧ -(2 ^ 62) ≤ j ∧ j < 2 ^ 62 then
          (lcI false is (wipeE env is) (fun env S => (evt Φ c env S).noex) (fun env S => (ev Φ elt env S).noex) S.length (ranged i j) none (ranged i j) (S ++ [.lst []])).bind fun _ S' => .ok (.loc S.length) S'
        else .bad
      | _, _ => .bad)
  | .lcz is elt es c, env, S => (evs Φ es env S).bind fun us S => (match zipU S us with
      | some (all, st) => (lcJ true is (wipeE env is) (fun env S => (evt Φ c env S).noex) (fun env S => (ev Φ elt env S).noex) S.length st all (S ++ [.lst []])).bind fun _ S' => .ok (.loc S.length) S'
      | none => .bad)
  | .gd x a, env, S => (ev Φ a env S).bind fun k S => (match Φ.gd x, k with
      | some kvs, .str z => rO (kvs.lookup z) S
      | _, _ => .bad)
  | .gget x a b, env, S => (ev Φ a env S).bind fun k S => (ev Φ b env S).bind fun v S => (match Φ.gd x, k with
      | some kvs, .str z => .ok ((kvs.lookup z).getD v) S
      | _, _ => .bad)
  | .kcall f es ks, env, S => (evs Φ es env S).bind fun us S => (evs Φ ks env S).bind fun zs S => Φ.kcal f (us ++ zs) S
  | .din x a, env, S => (ev Φ a env S).bind fun k S => (match Φ.gd x, k with
      | some kvs, .str z => .ok (.bl (kvs.lookup z).isSome) S
      | _, _ => .bad)
  | .rev a, env, S => (ev Φ a env S).bind fun x S => revU x S
  | .dnew, _, S => .ok (.loc S.length) (S ++ [.dic []])
  | .dpl es, env, S => (evs Φ es env (S ++ [.dic []])).bind fun us S1 => dplR S.length us S1
  | .xin neg a b, env, S => (ev Φ a env S).bind fun x S => (ev Φ b env S).bind fun y S => (rO (xinR x y S) S).bind fun k S => .ok (.bl (if neg then !k else k)) S
  | .xeq neg a b, env, S => (ev Φ a env S).bind fun x S => (ev Φ b env S).bind fun y S => (rO (xeqR x y S) S).bind fun k S => .ok (.bl (if neg then !k else k)) S
  | .xrep a, env, S => (ev Φ a env S).bind fun x S => xrepR x S
  | .dat a k, env, S => (ev Φ a env S).bind fun x S => (ev Φ k env S).bind fun y S => datU x y S
  | .dhas b k a, env, S => (ev Φ k env S).bind fun y S => (ev Φ a env S).bind fun x S => dhasU b x y S
  | .dm1 a k v, env, S => (ev Φ a env (S ++ [.dic []])).bind fun x S1 => (dmOpen S.length x S1).bind fun q S2 => (ev Φ k env S2).bind fun y S3 => (ev Φ v env S3).bind fun z S4 => dmClose S.length q [(y, z)] S4
  | .dm2 a k v k2 v2, env, S => (ev Φ a env (S ++ [.dic []])).bind fun x S1 => (dmOpen S.length x S1).bind fun q S2 => (ev Φ k env S2).bind fun y S3 => (ev Φ v env S3).bind fun z S4 => (ev Φ k2 env S4).bind fun y2 S5 => (ev Φ v2 env S5).bind fun z2 S6 => dmClose S.length q [(y, z), (y2, z2)] S6
  | .lczn i elt es, env, S => (evs Φ es env S).bind fun us S => (match zipNU us with
      | some all => (lcJ false [i] (wipeE env [i]) (fun _ S => .ok true S) (fun env S => (ev Φ elt env S).noex) S.length (fun _ => true) all (S ++ [.lst []])).bind fun _ S' => .ok (.loc S.length) S'
      | none => .bad)
  | .lsd i it, env, S => (ev Φ it env S).bind fun x S => (match iterU S x with
      | some (us, _) => (match keyTs us with
        | some ks => if us.length ≤ sizeLine ∧ i < env.length then .ok (.loc S.length) (S ++ [.lst ((dd ks).map fun k => .tup (k.map uK))]) else .bad
        | none => .bad)
      | none => .bad)
  | .lc2 is is1 tp tp1 elt it it1, env, S => (ev Φ it env S).bind fun x S => (match iterU S x with
      | some (us, src) => (lcL tp tp1 is is1 (wipeE env (is ++ is1)) (fun env S => (ev Φ it1 env S).noex) (fun env S => (ev Φ elt env S).noex) S.length us src us (S ++ [.lst []])).bind fun _ S' => .ok (.loc S.length) S'
      | none => .bad)
def evo (Φ : Cal) : Eo → Env → Sto → R (Option Int)
  | .no, _, S => .ok none S
  | .so e, env, S => (ev Φ e env S).bind fun x S => (match x with | .int i => .ok (some i) S | _ => .bad)
def evs (Φ : Cal) : Es → Env → Sto → R (List U)
  | .nil, _, S => .ok [] S
  | .cons e es, env, S => (ev Φ e env S).bind fun u S => (evs Φ es env S).bind fun us S => .ok (u :: us) S
  | .star e es, env, S => (ev Φ e env S).bind fun u S => (match items? S u with | some xs => (evs Φ es env S).bind fun us S => .ok (xs ++ us) S | none => .bad)
def evt (Φ : Cal) : T → Env → Sto → R Bool
  | .tt, _, S => .ok true S
  | .e a, env, S => (ev Φ a env S).bind fun x S => rO (truU x S) S
  | .and a b, env, S => (evt Φ a env S).bind fun k S => if k then evt Φ b env S else .ok false S
  | .or a b, env, S => (evt Φ a env S).bind fun k S => if k then .ok true S else evt Φ b env S
  | .not a, env, S => (evt Φ a env S).bind fun k S => .ok (!k) S
end

/-! ### statements -/
mutual
/-- a target of an assignment -/
inductive Tg where
  | nm (i : Nat) | sb (o i : E) | tp (ts : Tgs)
inductive Tgs where
  | nil | cons (t : Tg) (ts : Tgs)
end
def Tgs.len : Tgs → Nat
  | .nil => 0
  | .cons _ ts => ts.len + 1
mutual
inductive St where
  | par (i j : Nat) (es : Es)
  | tset (t : Tg) (e : E)
  | set (tp : Bool) (is : List Nat) (e : E)
  | lset (is : List Nat) (e : E)
  | sub (o i e : E)
  | aug (i : Nat) (o : Op) (e : E)
  | fset (o : E) (C f : Str) (e : E)
  | faug (o : E) (C f : Str) (op : Op) (e : E)
  | ex (e : E) | ret (e : E) | retN
  | if_ (c : T) (a b : Sts)
  | while_ (c : T) (b : Sts)
  | for_ (tp : Bool) (is : List Nat) (it : E) (b : Sts)
  | forr (i : Nat) (a b : E) (c : Sts)
  | raise (C : Str) (e : E)
  | pass | brk | cont
  | mtch (e : E) (cs : Cs)
inductive Sts where
  | nil | cons (s : St) (b : Sts)
inductive Cs where
  | nil | cons (p : Pt) (b : Sts) (cs : Cs)
end
inductive O where
  | nx (env : Env) (S : Sto) | ret (u : U) (S : Sto) | bk (env : Env) (S : Sto) | ct (env : Env) (S : Sto)
  | exc (c : Str) (fs : List (Str × U)) (S : Sto) | bad
def R.on {α : Type} (r : R α) (f : α → Sto → O) : O :=
  match r with
  | .ok a S => f a S
  | .exc c fs S => .exc c fs S
  | .bad => .bad
def O.then_ (o : O) (f : Env → Sto → O) : O :=
  match o with
  | .nx env S => f env S
  | o => o
/-- a loop's turn has ended -/
def O.turn (o : O) (f : Env → Sto → O) : O :=
  match o with
  | .nx env S => f env S
  | .ct env S => f env S
  | .bk env S => .nx env S
  | o => o
def augU (o : Op) (a b : U) (S : Sto) : R U :=
  match o, a, b with
  | .add, .int i, .int j => .ok (.int (i + j)) S
  | .add, .str x, .str y => if x.length + y.length ≤ sizeLine then .ok (.str (x ++ y)) S else .bad
  | .sub, .int i, .int j => .ok (.int (i - j)) S
  | .mul, .int i, .int j => if CMul i j then .ok (.int (i * j)) S else .bad
  | _, _, _ => .bad
def putU (f : Str) (u : U) : List (Str × U) → List (Str × U)
  | [] => [(f, u)]
  | (g, v) :: r => if g = f then (f, u) :: r else (g, v) :: putU f u r
def setItemU (o i u : U) (S : Sto) : R Unit :=
  match o, i with
  | .loc n, .int k => (match S[n]? with
    | some (.lst xs) => (match ixN xs.length k with | some j => .ok () (S.set n (.lst (xs.set j u))) | none => .bad)
    | _ => .bad)
  | _, _ => .bad
def setFldU (o : U) (C f : Str) (u : U) (S : Sto) : R Unit :=
  match o with
  | .loc n => (match S[n]? with
    | some (.ins D fs) => if D = C ∧ fs.length < 900 then .ok () (S.set n (.ins C (putU f u fs))) else .bad
    | _ => .bad)
  | _ => .bad
def loopI (c : Env → Sto → R Bool) (f : Env → Sto → O) : Nat → Env → Sto → O
  | 0, _, _ => .bad
  | n + 1, env, S => (c env S).on fun k S => if k then (f env S).turn fun env S => loopI c f n env S else .nx env S
def forI (tp : Bool) (is : List Nat) (f : Env → Sto → O) (all : List U) (src : Option Nat) : List U → Env → Sto → O
  | [], env, S => if stays S all src then .nx env S else .bad
  | u :: us, env, S => if stays S all src then
      match setN tp is u env with
      | some env' => (f env' S).turn fun env S => forI tp is f all src us env S
      | none => .bad
    else .bad
mutual
def setT (Φ : Cal) : Tg → U → Env → Sto → R Env
  | .nm i, u, env, S => .ok (env.set i (some u)) S
  | .sb o i, u, env, S => (ev Φ o env S).bind fun a S => (ev Φ i env S).bind fun k S => (setItemU a k u S).bind fun _ S => .ok env S
  | .tp ts, u, env, S => (match u with
      | .tup us => if us.length = ts.len then setTs Φ ts us env S else .bad
      | _ => .bad)
def setTs (Φ : Cal) : Tgs → List U → Env → Sto → R Env
  | .nil, [], env, S => .ok env S
  | .cons t ts, u :: us, env, S => (setT Φ t u env S).bind fun env S => setTs Φ ts us env S
  | _, _, _, _ => .bad
end
/-- the items of a pattern: none: no reading; some none: no match -/
def pisM : List Pi → List U → Env → Option (Option Env)
  | [], [], env => some (some env)
  | .lit x :: ps, .str y :: us, env => if y = x then pisM ps us env else some none
  | .cap i :: ps, u :: us, env => pisM ps us (env.set i (some u))
  | .wild :: ps, _ :: us, env => pisM ps us env
  | _, _, _ => none
def ptM : Pt → U → Env → Option (Option Env)
  | .wild, _, env => some (some env)
  | .val x, .str y, env => some (if y = x then some env else none)
  | .seq ps, .tup us, env => if us.length = ps.length then pisM ps us env else some none
  | _, _, _ => none
def fuel : Nat := 16777216
mutual
def ex (Φ : Cal) : St → Env → Sto → O
  | .set tp is e, env, S => (ev Φ e env S).on fun u S => (match setN tp is u env with | some env => .nx env S | none => .bad)
  | .lset is e, env, S => (ev Φ e env S).on fun u S => (match list? S u with | some us => if us.length = is.length then .nx (setAll is us env) S else .bad | none => .bad)
  | .par i j es, env, S => (evs Φ es env S).on fun us S => (match us with | [u, v] => .nx ((env.set i (some u)).set j (some v)) S | _ => .bad)
  | .tset t e, env, S => (ev Φ e env S).on fun u S => (setT Φ t u env S).on fun env S => .nx env S
  | .sub o i e, env, S => (ev Φ e env S).on fun u S => (ev Φ o env S).on fun a S => (ev Φ i env S).on fun k S => (setItemU a k u S).on fun _ S => .nx env S
  | .aug i o e, env, S => (match env[i]? with | some (some a) => (ev Φ e env S).on fun b S => (augU o a b S).on fun u S => .nx (env.set i (some u)) S | _ => .bad)
  | .fset o C f e, env, S => (ev Φ e env S).on fun u S => (ev Φ o env S).on fun a S => (setFldU a C f u S).on fun _ S => .nx env S
  | .faug o C f op e, env, S => (ev Φ o env S).on fun a S => (match a with
      | .loc n => (match S[n]? with
        | some (.ins D fs) => if D = C then (match fs.lookup f with | some x => (ev Φ e env S).on fun y S => (augU op x y S).on fun z S => (setFldU (.loc n) C f z S).on fun _ S => .nx env S | none => .bad) else .bad
        | _ => .bad)
      | _ => .bad)
  | .ex e, env, S => (ev Φ e env S).on fun _ S => .nx env S
  | .ret e, env, S => (ev Φ e env S).on fun u S => .ret u S
  | .retN, _, S => .ret .non S
  | .if_ c a b, env, S => (evt Φ c env S).on fun k S => if k then exs Φ a env S else exs Φ b env S
  | .while_ c b, env, S => loopI (fun env S => evt Φ c env S) (fun env S => exs Φ b env S) fuel env S
  | .for_ tp is it b, env, S => (ev Φ it env S).on fun x S => (match iterU S x with
      | some (us, src) => forI tp is (fun env S => exs Φ b env S) us src us env S
      | none => .bad)
  | .forr i a b c, env, S => (ev Φ a env S).on fun x S => (ev Φ b env S).on fun y S => (match x, y with
      | .int m, .int n => if -(2 ^ 62) ≤ m ∧ m < 2 ^ 62 ∧ -(2 ^ 62) ≤ n ∧ n < 2 ^ 62 then forI false [i] (fun env S => exs Φ c env S) (ranged m n) none (ranged m n) env S else .bad
      | _, _ => .bad)
  | .raise C e, env, S => (ev Φ e env S).on fun u S => (match Φ.xf C with | some f => .exc C [(f, u)] S | none => .bad)
  | .pass, env, S => .nx env S
  | .brk, env, S => .bk env S
  | .cont, env, S => .ct env S
  | .mtch e cs, env, S => (ev Φ e env S).on fun u S => exc Φ cs u env S
def exs (Φ : Cal) : Sts → Env → Sto → O
  | .nil, env, S => .nx env S
  | .cons s b, env, S => (ex Φ s env S).then_ fun env S => exs Φ b env S
def exc (Φ : Cal) : Cs → U → Env → Sto → O
  | .nil, _, env, S => .nx env S
  | .cons p b cs, u, env, S => (match ptM p u env with
    | some (some env') => exs Φ b env' S
    | some none => exc Φ cs u env S
    | none => .bad)
end
/-- a body's end is the call's -/
def O.fin (o : O) : R U :=
  match o with
  | .nx _ S => .ok .non S
  | .ret u S => .ok u S
  | .exc c fs S => .exc c fs S
  | _ => .bad
def startU (n : Nat) (us : List U) : Env := us.map some ++ List.replicate (n - us.length) none
/-- a def: how many parameters, how many names, its body; star: what is left over is a tuple, the last parameter -/
structure Df where
  np : Nat
  nn : Nat
  star : Bool
  body : Sts
def bindU (d : Df) (us : List U) : Option (List U) :=
  if d.star then (if d.np ≤ us.length ∧ us.length ≤ 1000 then some (us.take d.np ++ [.tup (us.drop d.np)]) else none)
  else if us.length = d.np then some us else none
def Df.run (d : Df) (Φ : Cal) (us : List U) (S : Sto) : R U :=
  match bindU d us with
  | some ws => (exs Φ d.body (startU d.nn ws) S).fin
  | none => .bad
structure Pg where
  defs : Str → Option (Df ⊕ (Cal → List U → Sto → R U))
  kdefs : Str → Option Df
  glo : Str → Option U
  xf : Str → Option Str
  gd : Str → Option (List (Str × U))
/-- calls to a depth -/
def Pg.cal (p : Pg) : Nat → Cal
  | 0 => ⟨fun _ _ _ => .bad, fun _ _ _ => .bad, fun _ _ _ => .bad, p.glo, p.xf, p.gd⟩
  | d + 1 => ⟨fun f us S => match p.defs f with | some (.inl df) => df.run (p.cal d) us S | some (.inr g) => g (p.cal d) us S | none => .bad,
    fun f us S => match p.kdefs f with | some df => df.run (p.cal d) us S | none => .bad, (p.cal d).call, p.glo, p.xf, p.gd⟩
end Oz

end

section
set_option maxHeartbeats 4000000
/-! Oz3: how the small language's values and store stand in the model's heap. -/
namespace Oz
open PySem PySem.Spec PyProof.Rows L2

section
variable (K : PySem.W.Frag) (mg : Str → Option Value)
mutual
def RelU (ρ : List Addr) (H : Hp) : U → V → Prop
  | .non, v => v = .non
  | .bl b, v => v = .bl b
  | .int i, v => v = .int i
  | .str x, v => v = .str x
  | .tup us, v => ∃ a vs, v = .ref a ∧ SqT K H a vs ∧ RelUs ρ H us vs
  | .loc n, v => ∃ a, v = .ref a ∧ ρ[n]? = some a
def RelUs (ρ : List Addr) (H : Hp) : List U → List V → Prop
  | [], vs => vs = []
  | u :: us, vs => ∃ v vs', vs = v :: vs' ∧ RelU ρ H u v ∧ RelUs ρ H us vs'
end
/-- what never changes -/
def Imm : HO → Prop
  | .tup _ => True
  | .frz _ _ => True
  | .met _ _ => True
  | _ => False
structure Ext (ρ : List Addr) (H : Hp) (ρ' : List Addr) (H' : Hp) : Prop where
  pre : ∃ t, ρ' = ρ ++ t
  imm : ∀ a o, H a = some o → Imm o → H' a = some o
theorem Ext.refl {ρ : List Addr} {H : Hp} : Ext ρ H ρ H := ⟨⟨[], by simp⟩, fun _ _ h _ => h⟩
theorem Ext.trans {ρ ρ1 ρ2 : List Addr} {H H1 H2 : Hp} (a : Ext ρ H ρ1 H1) (b : Ext ρ1 H1 ρ2 H2) : Ext ρ H ρ2 H2 := by
  obtain ⟨t, e⟩ := a.pre
  obtain ⟨t', e'⟩ := b.pre
  exact ⟨⟨t ++ t', by rw [e', e, List.append_assoc]⟩, fun x o h i => b.imm x o (a.imm x o h i) i⟩
theorem Ext.at_ {ρ ρ' : List Addr} {H H' : Hp} (e : Ext ρ H ρ' H') {n : Nat} {a : Addr} (h : ρ[n]? = some a) : ρ'[n]? = some a := by
  obtain ⟨t, rfl⟩ := e.pre
  rw [List.getElem?_append_left (List.getElem?_eq_some_iff.mp h).1]
  exact h
theorem Ext.sqt {ρ ρ' : List Addr} {H H' : Hp} (e : Ext ρ H ρ' H') {a : Addr} {vs : List V} (h : SqT K H a vs) : SqT K H' a vs := by
  rcases h with (h | ⟨o, h⟩) | h
  · exact .inl (.inl (e.imm _ _ h trivial))
  · exact .inl (.inr ⟨o, e.imm _ _ h trivial⟩)
  · exact .inr h
variable {K mg}
mutual
theorem RelU.mono {ρ ρ' : List Addr} {H H' : Hp} (e : Ext ρ H ρ' H') : ∀ {u : U} {v : V}, RelU K ρ H u v → RelU K ρ' H' u v
  | .non, _, h => by simpa [RelU] using h
  | .bl _, _, h => by simpa [RelU] using h
  | .int _, _, h => by simpa [RelU] using h
  | .str _, _, h => by simpa [RelU] using h
  | .tup us, v, h => by
    simp only [RelU] at h ⊢
    obtain ⟨a, vs, rfl, hs, hr⟩ := h
    exact ⟨a, vs, rfl, e.sqt K hs, RelUs.mono e hr⟩
  | .loc n, v, h => by
    simp only [RelU] at h ⊢
    obtain ⟨a, rfl, hn⟩ := h
    exact ⟨a, rfl, e.at_ hn⟩
theorem RelUs.mono {ρ ρ' : List Addr} {H H' : Hp} (e : Ext ρ H ρ' H') : ∀ {us : List U} {vs : List V}, RelUs K ρ H us vs → RelUs K ρ' H' us vs
  | [], _, h => by simpa [RelUs] using h
  | u :: us, vs, h => by
    simp only [RelUs] at h ⊢
    obtain ⟨v, vs', rfl, h1, h2⟩ := h
    exact ⟨v, vs', rfl, RelU.mono e h1, RelUs.mono e h2⟩
end
theorem RelUs.length {ρ : List Addr} {H : Hp} : ∀ {us : List U} {vs : List V}, RelUs K ρ H us vs → vs.length = us.length
  | [], _, h => by simp only [RelUs] at h; subst h; rfl
  | u :: us, vs, h => by
    simp only [RelUs] at h
    obtain ⟨v, vs', rfl, _, h2⟩ := h
    simp [RelUs.length h2]
theorem RelUs.nil {ρ : List Addr} {H : Hp} : RelUs K ρ H [] [] := by simp [RelUs]
theorem RelUs.cons {ρ : List Addr} {H : Hp} {u : U} {us : List U} {v : V} {vs : List V} (h : RelU K ρ H u v) (hs : RelUs K ρ H us vs) : RelUs K ρ H (u :: us) (v :: vs) := by
  simp only [RelUs]
  exact ⟨v, vs, rfl, h, hs⟩
theorem RelUs.get {ρ : List Addr} {H : Hp} : ∀ {us : List U} {vs : List V} {i : Nat} {u : U}, RelUs K ρ H us vs → us[i]? = some u → ∃ v, vs[i]? = some v ∧ RelU K ρ H u v
  | [], _, _, _, _, e => by simp at e
  | u :: us, vs, i, w, h, e => by
    simp only [RelUs] at h
    obtain ⟨v, vs', rfl, h1, h2⟩ := h
    cases i with
    | zero => simp at e; subst e; exact ⟨v, rfl, h1⟩
    | succ i =>
      obtain ⟨v', e', r⟩ := RelUs.get h2 (i := i) (by simpa using e)
      exact ⟨v', by simpa using e', r⟩
theorem RelUs.append {ρ : List Addr} {H : Hp} : ∀ {us ws : List U} {vs xs : List V}, RelUs K ρ H us vs → RelUs K ρ H ws xs → RelUs K ρ H (us ++ ws) (vs ++ xs)
  | [], _, _, _, h, h' => by simp only [RelUs] at h; subst h; exact h'
  | u :: us, ws, vs, xs, h, h' => by
    simp only [RelUs] at h
    obtain ⟨v, vs', rfl, h1, h2⟩ := h
    exact RelUs.cons h1 (RelUs.append h2 h')
theorem RelUs.take {ρ : List Addr} {H : Hp} : ∀ {us : List U} {vs : List V} (n : Nat), RelUs K ρ H us vs → RelUs K ρ H (us.take n) (vs.take n)
  | [], _, _, h => by simp only [RelUs] at h; subst h; simp [RelUs]
  | u :: us, vs, 0, h => by simp [RelUs]
  | u :: us, vs, n + 1, h => by
    simp only [RelUs] at h
    obtain ⟨v, vs', rfl, h1, h2⟩ := h
    exact RelUs.cons h1 (RelUs.take n h2)
theorem RelUs.drop {ρ : List Addr} {H : Hp} : ∀ {us : List U} {vs : List V} (n : Nat), RelUs K ρ H us vs → RelUs K ρ H (us.drop n) (vs.drop n)
  | [], _, _, h => by simp only [RelUs] at h; subst h; simp [RelUs]
  | u :: us, vs, 0, h => by simpa using h
  | u :: us, vs, n + 1, h => by
    simp only [RelUs] at h
    obtain ⟨v, vs', rfl, h1, h2⟩ := h
    exact RelUs.drop n h2
theorem RelUs.set {ρ : List Addr} {H : Hp} {u : U} {v : V} (hu : RelU K ρ H u v) : ∀ {us : List U} {vs : List V} (n : Nat), RelUs K ρ H us vs → RelUs K ρ H (us.set n u) (vs.set n v)
  | [], _, _, h => by simp only [RelUs] at h; subst h; simp [RelUs]
  | w :: us, vs, 0, h => by
    simp only [RelUs] at h
    obtain ⟨v', vs', rfl, h1, h2⟩ := h
    exact RelUs.cons hu h2
  | w :: us, vs, n + 1, h => by
    simp only [RelUs] at h
    obtain ⟨v', vs', rfl, h1, h2⟩ := h
    exact RelUs.cons h1 (RelUs.set hu n h2)
theorem RelUs.dropLast {ρ : List Addr} {H : Hp} {us : List U} {vs : List V} (h : RelUs K ρ H us vs) : RelUs K ρ H us.dropLast vs.dropLast := by
  rw [List.dropLast_eq_take, List.dropLast_eq_take, h.length]
  exact RelUs.take _ h
theorem RelUs.cut {ρ : List Addr} {H : Hp} {us : List U} {vs : List V} (lo hi : Option Int) (h : RelUs K ρ H us vs) : RelUs K ρ H (cutA us lo hi) (cutV vs lo hi) := by
  unfold cutA cutV
  rw [h.length]
  exact RelUs.take _ (RelUs.drop _ h)
theorem RelUs.ints {ρ : List Addr} {H : Hp} : ∀ {us : List U} {ns : List Int} {vs : List V}, RelUs K ρ H us vs → intsU us = some ns → vs = ns.map V.int
  | [], ns, vs, h, e => by
    simp only [RelUs] at h
    simp only [intsU, Option.some.injEq] at e
    subst e h
    rfl
  | u :: us, ns, vs, h, e => by
    simp only [RelUs] at h
    obtain ⟨v, vs', rfl, h1, h2⟩ := h
    cases u <;> simp only [intsU] at e <;> try cases e
    rename_i i
    cases q : intsU us with
    | none => rw [q] at e; cases e
    | some ms =>
      rw [q] at e
      simp only [Option.map_some, Option.some.injEq] at e
      subst e
      have := RelUs.ints h2 q
      simp only [RelU] at h1
      subst h1 this
      rfl

/-- an instance's fields -/
def RelF (K : PySem.W.Frag) (ρ : List Addr) (H : Hp) (fs : List (Str × U)) (vfs : List (Str × V)) : Prop := Paired (fun (p : Str × U) (q : Str × V) => p.1 = q.1 ∧ RelU K ρ H p.2 q.2) fs vfs
theorem RelF.mono {ρ ρ' : List Addr} {H H' : Hp} (e : Ext ρ H ρ' H') {fs : List (Str × U)} {vfs : List (Str × V)} (h : RelF K ρ H fs vfs) : RelF K ρ' H' fs vfs :=
  L2.Paired.mapP h fun _ _ q => ⟨q.1, q.2.mono e⟩
theorem RelF.look {ρ : List Addr} {H : Hp} {f : Str} : ∀ {fs : List (Str × U)} {vfs : List (Str × V)}, RelF K ρ H fs vfs → (∀ u, fs.lookup f = some u → ∃ v, vfs.lookup f = some v ∧ RelU K ρ H u v) ∧ (fs.lookup f = none → vfs.lookup f = none)
  | [], _, .nil => ⟨fun u e => by simp at e, fun _ => rfl⟩
  | (g, u) :: fs, (g', v) :: vfs, .cons q r => by
    obtain ⟨rfl, h1⟩ := q
    have ih := RelF.look (f := f) r
    by_cases hg : f == g
    · constructor
      · intro w e
        simp only [List.lookup_cons, hg] at e ⊢
        cases e
        exact ⟨v, rfl, h1⟩
      · intro e
        simp only [List.lookup_cons, hg] at e
        cases e
    · have hg' : (f == g) = false := by simpa using hg
      constructor
      · intro w e
        simp only [List.lookup_cons, hg'] at e ⊢
        exact ih.1 w e
      · intro e
        simp only [List.lookup_cons, hg'] at e ⊢
        exact ih.2 e
theorem RelF.length {ρ : List Addr} {H : Hp} {fs : List (Str × U)} {vfs : List (Str × V)} (h : RelF K ρ H fs vfs) : fs.length = vfs.length := Paired.length h
theorem RelF.put {ρ : List Addr} {H : Hp} {f : Str} {u : U} {v : V} (hu : RelU K ρ H u v) : ∀ {fs : List (Str × U)} {vfs : List (Str × V)}, RelF K ρ H fs vfs → RelF K ρ H (putU f u fs) (L2.putF f v vfs)
  | [], _, .nil => .cons ⟨rfl, hu⟩ .nil
  | (g, w) :: fs, (g', x) :: vfs, .cons q r => by
    obtain ⟨rfl, h1⟩ := q
    unfold putU L2.putF
    by_cases hg : g = f
    · rw [if_pos hg, if_pos hg]
      exact .cons ⟨hg.symm, hu⟩ r
    · rw [if_neg hg, if_neg hg]
      exact .cons ⟨rfl, h1⟩ (RelF.put hu r)

/-- a list that is read only -/
def FroL (K : PySem.W.Frag) (H : Hp) (a : Addr) (vs : List V) : Prop := (∃ o, H a = some (.frz o (.lst vs))) ∨
  ∃ (o : Obj) (its : Array Value) (n : Nat), K.lookup a = some o ∧ o.cls = .type "list" ∧ o.dict = none ∧ o.data = .seq its n ∧ its.size ≤ sizeLine ∧ Vals vs its.toList
theorem FroL.sql {K : PySem.W.Frag} {H : Hp} {a : Addr} {vs : List V} (h : FroL K H a vs) : SqL K H a vs := by
  rcases h with ⟨o, h⟩ | h
  · exact .inl (.inr ⟨o, h⟩)
  · exact .inr h
theorem FroL.ext {K : PySem.W.Frag} {ρ ρ' : List Addr} {H H' : Hp} (e : Ext ρ H ρ' H') {a : Addr} {vs : List V} (h : FroL K H a vs) : FroL K H' a vs := by
  rcases h with ⟨o, h⟩ | h
  · exact .inl ⟨o, e.imm _ _ h trivial⟩
  · exact .inr h
def isFro : Cel → Bool
  | .fro _ => true
  | _ => false
def CelOk (K : PySem.W.Frag) (mg : Str → Option Value) (ρ : List Addr) (H : Hp) (a : Addr) : Cel → Prop
  | .lst us => ∃ vs, H a = some (.lst vs) ∧ RelUs K ρ H us vs
  | .fro us => ∃ vs, FroL K H a vs ∧ RelUs K ρ H us vs
  | .ins C fs => ∃ Ca dx vfs, mg C = some (.ref Ca) ∧ H a = some (.ins Ca dx vfs) ∧ RelF K ρ H fs vfs
  | .dic kvs => ∃ vkvs, H a = some (.dK vkvs) ∧ Paired (fun (p : Key × U) (q : Key × V) => p.1 = q.1 ∧ RelU K ρ H p.2 q.2) kvs vkvs
theorem CelOk.there {ρ : List Addr} {H : Hp} {a : Addr} {c : Cel} (h : CelOk K mg ρ H a c) (hf : isFro c = false) : ∃ o, H a = some o := by
  cases c with
  | lst us => obtain ⟨vs, e, _⟩ := h; exact ⟨_, e⟩
  | fro us => cases hf
  | ins C fs => obtain ⟨_, _, _, _, e, _⟩ := h; exact ⟨_, e⟩
  | dic kvs => obtain ⟨_, e, _⟩ := h; exact ⟨_, e⟩
theorem CelOk.keep {ρ ρ' : List Addr} {H H' : Hp} (e : Ext ρ H ρ' H') {a : Addr} {c : Cel} (h : CelOk K mg ρ H a c) (k : isFro c = false → ∀ o, H a = some o → H' a = some o) : CelOk K mg ρ' H' a c := by
  cases c with
  | lst us => obtain ⟨vs, q, r⟩ := h; exact ⟨vs, k rfl _ q, r.mono e⟩
  | fro us => obtain ⟨vs, q, r⟩ := h; exact ⟨vs, q.ext e, r.mono e⟩
  | ins C fs => obtain ⟨Ca, dx, vfs, m, q, r⟩ := h; exact ⟨Ca, dx, vfs, m, k rfl _ q, r.mono e⟩
  | dic kvs => obtain ⟨vk, q, r⟩ := h; exact ⟨vk, k rfl _ q, L2.Paired.mapP r fun _ _ z => ⟨z.1, z.2.mono e⟩⟩

structure Wok (K : PySem.W.Frag) (mg : Str → Option Value) (ρ : List Addr) (S : Sto) (H : Hp) : Prop where
  len : ρ.length = S.length
  nd : ∀ (m n : Nat) (a : Addr) (c c' : Cel), ρ[m]? = some a → ρ[n]? = some a → S[m]? = some c → S[n]? = some c' → isFro c = false → isFro c' = false → m = n
  ok : ∀ (n : Nat) (a : Addr) (c : Cel), ρ[n]? = some a → S[n]? = some c → CelOk K mg ρ H a c
theorem Wok.cel {ρ : List Addr} {S : Sto} {H : Hp} (w : Wok K mg ρ S H) {n : Nat} {c : Cel} (h : S[n]? = some c) : ∃ a, ρ[n]? = some a ∧ CelOk K mg ρ H a c := by
  have hn : n < S.length := (List.getElem?_eq_some_iff.mp h).1
  have hr : n < ρ.length := by rw [w.len]; exact hn
  exact ⟨ρ[n], List.getElem?_eq_getElem hr, w.ok n _ c (List.getElem?_eq_getElem hr) h⟩
theorem Wok.at_ {ρ : List Addr} {S : Sto} {H : Hp} (w : Wok K mg ρ S H) {n : Nat} {a : Addr} {c : Cel} (h : S[n]? = some c) (ha : ρ[n]? = some a) : CelOk K mg ρ H a c := w.ok n a c ha h
/-- the heap grows by what is not the store's -/
theorem Wok.grow {ρ : List Addr} {S : Sto} {H H' : Hp} (w : Wok K mg ρ S H) (k : ∀ a o, H a = some o → H' a = some o) : Wok K mg ρ S H' :=
  ⟨w.len, w.nd, fun n a c h1 h2 => (w.ok n a c h1 h2).keep ⟨⟨[], by simp⟩, fun a o h _ => k a o h⟩ fun _ o h => k a o h⟩
theorem Ext.grow {ρ : List Addr} {H H' : Hp} (k : ∀ a o, H a = some o → H' a = some o) : Ext ρ H ρ H' := ⟨⟨[], by simp⟩, fun a o h _ => k a o h⟩
theorem upd_grow {H : Hp} {p : Addr} {o : HO} (h : H p = none) : ∀ a u, H a = some u → upd H p o a = some u := fun a u e => by
  rw [upd_ne (ne_of_none e h)]
  exact e
/-- a new thing in the store -/
theorem Ext.push {ρ : List Addr} {H H' : Hp} {p : Addr} (k : ∀ a o, H a = some o → H' a = some o) : Ext ρ H (ρ ++ [p]) H' := ⟨⟨[p], rfl⟩, fun a o h _ => k a o h⟩
theorem Wok.push {ρ : List Addr} {S : Sto} {H H' : Hp} {p : Addr} {c : Cel} (w : Wok K mg ρ S H) (hp : H p = none) (k : ∀ a o, H a = some o → H' a = some o) (hc : CelOk K mg (ρ ++ [p]) H' p c) : Wok K mg (ρ ++ [p]) (S ++ [c]) H' := by
  have old : ∀ {n : Nat} {a : Addr}, (ρ ++ [p])[n]? = some a → n < S.length → ρ[n]? = some a := fun {n a} h hn => by
    rw [List.getElem?_append_left (by rw [w.len]; exact hn)] at h
    exact h
  have oldS : ∀ {n : Nat} {d : Cel}, (S ++ [c])[n]? = some d → n < S.length → S[n]? = some d := fun {n d} h hn => by
    rw [List.getElem?_append_left hn] at h
    exact h
  have last : ∀ {n : Nat} {a : Addr}, (ρ ++ [p])[n]? = some a → ¬ n < S.length → n = S.length ∧ a = p := fun {n a} h hn => by
    have e : n = ρ.length := by
      have := (List.getElem?_eq_some_iff.mp h).1
      simp at this
      have := w.len
      omega
    subst e
    rw [List.getElem?_append_right (Nat.le_refl _)] at h
    simp at h
    exact ⟨w.len, h.symm⟩
  have fresh : ∀ {n : Nat} {d : Cel}, ρ[n]? = some p → S[n]? = some d → isFro d = false → False := fun {n d} h1 h2 h3 => by
    obtain ⟨o, e⟩ := (w.ok n p d h1 h2).there h3
    rw [hp] at e
    cases e
  refine ⟨by simp [w.len], fun m n a d d' h1 h2 h3 h4 f1 f2 => ?_, fun n a d h1 h2 => ?_⟩
  · by_cases hm : m < S.length
    · by_cases hn : n < S.length
      · exact w.nd m n a d d' (old h1 hm) (old h2 hn) (oldS h3 hm) (oldS h4 hn) f1 f2
      · obtain ⟨_, rfl⟩ := last h2 hn
        exact (fresh (old h1 hm) (oldS h3 hm) f1).elim
    · obtain ⟨e1, rfl⟩ := last h1 hm
      by_cases hn : n < S.length
      · exact (fresh (old h2 hn) (oldS h4 hn) f2).elim
      · obtain ⟨e2, _⟩ := last h2 hn
        rw [e1, e2]
  · by_cases hn : n < S.length
    · exact (w.ok n a d (old h1 hn) (oldS h2 hn)).keep (Ext.push k) fun _ o h => k a o h
    · obtain ⟨e, rfl⟩ := last h1 hn
      subst e
      rw [List.getElem?_append_right (Nat.le_refl _)] at h2
      simp at h2
      subst h2
      exact hc
theorem push_at {ρ : List Addr} {p : Addr} {S : Sto} (h : ρ.length = S.length) : (ρ ++ [p])[S.length]? = some p := by
  rw [← h]
  simp
/-- a thing of the store is written -/
theorem Ext.write {ρ : List Addr} {H : Hp} {a : Addr} {o : HO} (hm : ∀ u, H a = some u → ¬ Imm u) : Ext ρ H ρ (upd H a o) := ⟨⟨[], by simp⟩, fun b u h i => by
  by_cases hb : b = a
  · subst hb
    exact absurd i (hm u h)
  · rw [upd_ne hb]
    exact h⟩
theorem Wok.write {ρ : List Addr} {S : Sto} {H : Hp} {n : Nat} {a : Addr} {o : HO} {c c0 : Cel} (w : Wok K mg ρ S H) (hn : ρ[n]? = some a) (h0 : S[n]? = some c0) (f0 : isFro c0 = false) (f1 : isFro c = false) (hm : ∀ u, H a = some u → ¬ Imm u) (hc : CelOk K mg ρ (upd H a o) a c) : Wok K mg ρ (S.set n c) (upd H a o) := by
  have hl : n < S.length := (List.getElem?_eq_some_iff.mp h0).1
  have look : ∀ {m : Nat} {d : Cel}, (S.set n c)[m]? = some d → (m = n ∧ d = c) ∨ (m ≠ n ∧ S[m]? = some d) := fun {m d} h => by
    by_cases e : m = n
    · subst e
      rw [List.getElem?_set_self hl] at h
      exact .inl ⟨rfl, (Option.some.inj h).symm⟩
    · rw [List.getElem?_set_ne (Ne.symm e)] at h
      exact .inr ⟨e, h⟩
  refine ⟨by simp [w.len], fun m k b d d' h1 h2 h3 h4 g1 g2 => ?_, fun m b d h1 h2 => ?_⟩
  · rcases look h3 with ⟨e3, _⟩ | ⟨e3, h5⟩
    · rcases look h4 with ⟨e4, _⟩ | ⟨e4, h6⟩
      · rw [e3, e4]
      · rw [e3] at h1 ⊢
        exact w.nd _ _ b c0 d' h1 h2 h0 h6 f0 g2
    · rcases look h4 with ⟨e4, _⟩ | ⟨e4, h6⟩
      · rw [e4] at h2 ⊢
        exact w.nd _ _ b d c0 h1 h2 h5 h0 g1 f0
      · exact w.nd _ _ b d d' h1 h2 h5 h6 g1 g2
  · rcases look h2 with ⟨rfl, rfl⟩ | ⟨e, h2⟩
    · rw [hn] at h1
      cases h1
      exact hc
    · refine (w.ok m b d h1 h2).keep (Ext.write hm) fun f u q => ?_
      have hb : b ≠ a := fun z => by
        subst z
        exact e (w.nd m n b d c0 h1 hn h2 h0 f f0)
      rw [upd_ne hb]
      exact q

/-! ### the def's names -/
structure EnvOk (K : PySem.W.Frag) (ρ : List Addr) (H : Hp) (env : Env) (σ : L2.St) : Prop where
  len : env.length = σ.length
  ok : ∀ (i : Nat) (u : U), env[i]? = some (some u) → ∃ v : V, σ[i]? = some (some v) ∧ RelU K ρ H u v
theorem EnvOk.mono {ρ ρ' : List Addr} {H H' : Hp} {env : Env} {σ : L2.St} (e : Ext ρ H ρ' H') (h : EnvOk K ρ H env σ) : EnvOk K ρ' H' env σ :=
  ⟨h.len, fun i u q => let ⟨v, a, b⟩ := h.ok i u q; ⟨v, a, b.mono e⟩⟩
theorem EnvOk.set {ρ : List Addr} {H : Hp} {env : Env} {σ : L2.St} (h : EnvOk K ρ H env σ) (i : Nat) {u : U} {v : V} (r : RelU K ρ H u v) : EnvOk K ρ H (env.set i (some u)) (σ.set i (some v)) := by
  refine ⟨by simp [h.len], fun j w q => ?_⟩
  by_cases hj : j = i
  · subst hj
    have hl : j < env.length := by
      have := (List.getElem?_eq_some_iff.mp q).1
      simpa using this
    rw [List.getElem?_set_self hl] at q
    cases q
    exact ⟨v, List.getElem?_set_self (by rw [← h.len]; exact hl), r⟩
  · rw [List.getElem?_set_ne (Ne.symm hj)] at q
    obtain ⟨x, a, b⟩ := h.ok j w q
    exact ⟨x, by rw [List.getElem?_set_ne (Ne.symm hj)]; exact a, b⟩
theorem EnvOk.setNone {ρ : List Addr} {H : Hp} {env : Env} {σ : L2.St} (h : EnvOk K ρ H env σ) (i : Nat) : EnvOk K ρ H (env.set i none) (σ.set i none) := by
  refine ⟨by simp [h.len], fun j w q => ?_⟩
  by_cases hj : j = i
  · subst hj
    have hl : j < env.length := by
      have := (List.getElem?_eq_some_iff.mp q).1
      simpa using this
    rw [List.getElem?_set_self hl] at q
    cases q
  · rw [List.getElem?_set_ne (Ne.symm hj)] at q
    obtain ⟨x, a, b⟩ := h.ok j w q
    exact ⟨x, by rw [List.getElem?_set_ne (Ne.symm hj)]; exact a, b⟩
theorem EnvOk.wipe {ρ : List Addr} {H : Hp} {env : Env} {σ : L2.St} (h : EnvOk K ρ H env σ) : ∀ is : List Nat, EnvOk K ρ H (wipeE env is) (L2.wipe σ is)
  | [] => h
  | i :: is => (EnvOk.wipe h is).setNone i

/-! ### what is wanted of an end -/
def Post {α β : Type} (mg : Str → Option Value) (K : PySem.W.Frag) (Rr : List Addr → Hp → α → β → Prop) (W : XK) (ρ : List Addr) (H : Hp) (r : R α) (Q : β → Hp → Prop) : Prop :=
  match r with
  | .ok a S => ∀ ρ' H' b, Ext ρ H ρ' H' → Wok K mg ρ' S H' → Rr ρ' H' a b → Q b H'
  | .exc c fs S => ∀ ρ' H' C d vfs, Ext ρ H ρ' H' → Wok K mg ρ' S H' → mg c = some (.ref C) → H' d = some (.xd vfs) → RelF K ρ' H' fs vfs → W (.ref C) (some d) H'
  | .bad => False
theorem Post.ext {α β : Type} {Rr : List Addr → Hp → α → β → Prop} {W : XK} {ρ ρ1 : List Addr} {H H1 : Hp} {r : R α} {Q : β → Hp → Prop} (e : Ext ρ H ρ1 H1) (h : Post mg K Rr W ρ H r Q) : Post mg K Rr W ρ1 H1 r Q := by
  cases r with
  | ok a S => exact fun ρ' H' b e' w r => h ρ' H' b (e.trans e') w r
  | exc c fs S => exact fun ρ' H' C d vfs e' w m x r => h ρ' H' C d vfs (e.trans e') w m x r
  | bad => exact h
theorem Post.imp {α β : Type} {Rr : List Addr → Hp → α → β → Prop} {W : XK} {ρ : List Addr} {H : Hp} {r : R α} {Q Q' : β → Hp → Prop} (h : Post mg K Rr W ρ H r Q) (i : ∀ b H, Q b H → Q' b H) : Post mg K Rr W ρ H r Q' := by
  cases r with
  | ok a S => exact fun ρ' H' b e' w r => i _ _ (h ρ' H' b e' w r)
  | exc c fs S => exact h
  | bad => exact h
/-- one after another -/
theorem Post.bind {α β γ δ : Type} {Rr : List Addr → Hp → α → γ → Prop} {Rs : List Addr → Hp → β → δ → Prop} {W : XK} {ρ : List Addr} {H : Hp} {r : R α} {f : α → Sto → R β} {Q : δ → Hp → Prop} (h : Post mg K Rs W ρ H (r.bind f) Q) :
    Post mg K Rr W ρ H r fun b H1 => ∃ ρ1 S1 a, Ext ρ H ρ1 H1 ∧ Wok K mg ρ1 S1 H1 ∧ Rr ρ1 H1 a b ∧ Post mg K Rs W ρ1 H1 (f a S1) Q := by
  cases r with
  | ok a S => exact fun ρ' H' b e w r => ⟨ρ', S, a, e, w, r, Post.ext e h⟩
  | exc c fs S => exact h
  | bad => exact h
end
end Oz

end

section
set_option maxHeartbeats 4000000
/-! Oz4: operators by values. -/
namespace Oz
open PySem PySem.Spec PyProof.Rows L2
section
variable {X : Cx} {W : XK}
/-- two values, then what f says -/
def r2 (X : Cx) (W : XK) (f : U → U → Sto → R U) : R2 := fun x y H Q => ∃ ρ S a b, Wok X.K X.mg ρ S H ∧ RelU X.K ρ H a x ∧ RelU X.K ρ H b y ∧ Post X.mg X.K (RelU X.K) W ρ H (f a b S) Q
theorem relInt {K : PySem.W.Frag} {ρ : List Addr} {H : Hp} {i : Int} : RelU K ρ H (.int i) (.int i) := by simp [RelU]
theorem relStr {K : PySem.W.Frag} {ρ : List Addr} {H : Hp} {i : Str} : RelU K ρ H (.str i) (.str i) := by simp [RelU]
theorem relBl {K : PySem.W.Frag} {ρ : List Addr} {H : Hp} {i : Bool} : RelU K ρ H (.bl i) (.bl i) := by simp [RelU]
theorem relNon {K : PySem.W.Frag} {ρ : List Addr} {H : Hp} : RelU K ρ H .non .non := by simp [RelU]
/-- the same store, a plain value -/
theorem Post.here {α β : Type} {K : PySem.W.Frag} {mg : Str → Option Value} {Rr : List Addr → Hp → α → β → Prop} {ρ : List Addr} {S : Sto} {H : Hp} {a : α} {b : β} {Q : β → Hp → Prop} (h : Post mg K Rr W ρ H (.ok a S) Q) (w : Wok K mg ρ S H) (r : Rr ρ H a b) : Q b H := h ρ H b Ext.refl w r
/-- a new tuple -/
theorem Post.tup {K : PySem.W.Frag} {mg : Str → Option Value} {ρ : List Addr} {S : Sto} {H : Hp} {us : List U} {vs : List V} {Q : VK} (h : Post mg K (RelU K) W ρ H (.ok (.tup us) S) Q) (w : Wok K mg ρ S H) (r : RelUs K ρ H us vs) {p : Addr} (hp : H p = none) : Q (.ref p) (upd H p (.tup vs)) := by
  have e : Ext ρ H ρ (upd H p (.tup vs)) := Ext.grow (upd_grow hp)
  refine h ρ _ _ e (w.grow (upd_grow hp)) ?_
  simp only [RelU]
  exact ⟨p, vs, rfl, .of upd_same, r.mono e⟩
/-- a new list -/
theorem Post.lst {K : PySem.W.Frag} {mg : Str → Option Value} {ρ : List Addr} {S : Sto} {H : Hp} {us : List U} {vs : List V} {Q : VK} (h : Post mg K (RelU K) W ρ H (.ok (.loc S.length) (S ++ [.lst us])) Q) (w : Wok K mg ρ S H) (r : RelUs K ρ H us vs) {p : Addr} (hp : H p = none) : Q (.ref p) (upd H p (.lst vs)) := by
  have e : Ext ρ H (ρ ++ [p]) (upd H p (.lst vs)) := Ext.push (upd_grow hp)
  refine h (ρ ++ [p]) _ _ e (w.push hp (upd_grow hp) ⟨vs, upd_same, r.mono e⟩) ?_
  simp only [RelU]
  exact ⟨p, rfl, push_at w.len⟩
theorem RelU.tup {K : PySem.W.Frag} {ρ : List Addr} {H : Hp} {us : List U} {v : V} (h : RelU K ρ H (.tup us) v) : ∃ a vs, v = .ref a ∧ SqT K H a vs ∧ RelUs K ρ H us vs := by simpa [RelU] using h
theorem RelU.loc {K : PySem.W.Frag} {ρ : List Addr} {H : Hp} {n : Nat} {v : V} (h : RelU K ρ H (.loc n) v) : ∃ a, v = .ref a ∧ ρ[n]? = some a := by simpa [RelU] using h
theorem RelU.int {K : PySem.W.Frag} {ρ : List Addr} {H : Hp} {n : Int} {v : V} (h : RelU K ρ H (.int n) v) : v = .int n := by simpa [RelU] using h
theorem RelU.str {K : PySem.W.Frag} {ρ : List Addr} {H : Hp} {n : Str} {v : V} (h : RelU K ρ H (.str n) v) : v = .str n := by simpa [RelU] using h
theorem RelU.bl {K : PySem.W.Frag} {ρ : List Addr} {H : Hp} {n : Bool} {v : V} (h : RelU K ρ H (.bl n) v) : v = .bl n := by simpa [RelU] using h
theorem RelU.non {K : PySem.W.Frag} {ρ : List Addr} {H : Hp} {v : V} (h : RelU K ρ H .non v) : v = .non := by simpa [RelU] using h
/-- a list that is read -/
theorem Wok.list {K : PySem.W.Frag} {mg : Str → Option Value} {ρ : List Addr} {S : Sto} {H : Hp} (w : Wok K mg ρ S H) {u : U} {us : List U} {v : V} (h : list? S u = some us) (r : RelU K ρ H u v) : ∃ a vs, v = .ref a ∧ SqL K H a vs ∧ RelUs K ρ H us vs := by
  unfold list? at h
  split at h
  · rename_i n
    obtain ⟨a, rfl, hn⟩ := r.loc
    split at h
    · rename_i xs hx
      cases h
      obtain ⟨vs, e, q⟩ := w.at_ hx hn
      exact ⟨a, vs, rfl, .of e, q⟩
    · rename_i xs hx
      cases h
      obtain ⟨vs, e, q⟩ := w.at_ hx hn
      exact ⟨a, vs, rfl, e.sql, q⟩
    · cases h
  · cases h
theorem list_items {S : Sto} {u : U} {us : List U} (h : items? S u = some us) : u = .tup us ∨ list? S u = some us := by
  unfold items? at h
  split at h
  · cases h; exact .inl rfl
  · exact .inr h
  · cases h
theorem Wok.items {K : PySem.W.Frag} {mg : Str → Option Value} {ρ : List Addr} {S : Sto} {H : Hp} (w : Wok K mg ρ S H) {u : U} {us : List U} {v : V} (h : items? S u = some us) (r : RelU K ρ H u v) : ∃ a vs, v = .ref a ∧ (SqL K H a vs ∨ SqT K H a vs) ∧ RelUs K ρ H us vs := by
  rcases list_items h with rfl | h
  · obtain ⟨a, vs, e, q, z⟩ := r.tup
    exact ⟨a, vs, e, .inr q, z⟩
  · obtain ⟨a, vs, e, q, z⟩ := w.list h r
    exact ⟨a, vs, e, .inl q, z⟩

def opOf : Op → Operator
  | .add => .Add | .sub => .Sub | .mul => .Mult | .fdiv => .FloorDiv | .mod => .Mod | .pow => .Pow | .shl => .LShift
theorem op_mul_str : OpR X (binaryOp .Mult) (fun x y H Q => ∃ z n, x = .str z ∧ y = .int n ∧ PySem.MulOk z n ∧ Q (.str (PySem.Txt.mul z n)) H) := by
  rintro pins s σ H x y v u Q I rx ry ⟨z, n, rfl, rfl, ok, q⟩
  obtain ⟨t, rfl⟩ := rx
  obtain ⟨t', rfl⟩ := ry
  exact PySem.SB.mul ok fun t2 k => ⟨.str _, H, I.tok _, ⟨_, rfl⟩, q⟩
theorem op_bin (o : Op) : OpR X (binaryOp (opOf o)) (r2 X W (binU o)) := by
  rintro pins s σ H x y v u Q I rx ry ⟨ρ, S, a, b, w, ra, rb, h⟩
  unfold binU at h
  split at h
  · cases ra.int; cases rb.int
    exact op_add pins s σ H _ _ v u Q I rx ry ⟨_, _, rfl, rfl, h.here w relInt⟩
  · cases ra.str; cases rb.str
    split at h
    · rename_i hz
      exact op_add_str pins s σ H _ _ v u Q I rx ry ⟨_, _, rfl, rfl, hz, h.here w relStr⟩
    · cases h
  · obtain ⟨p, vs, rfl, hp, hr⟩ := ra.tup
    obtain ⟨q, ws, rfl, hq, hs⟩ := rb.tup
    split at h
    · rename_i xs ys hz
      refine op_catA pins s σ H _ _ v u Q I rx ry ⟨p, q, vs, ws, rfl, rfl, hp, hq, by rw [hr.length, hs.length]; exact hz, fun e => ?_, fun e1 e2 => ?_, fun e1 e2 a ha => ?_⟩
      · have e' : xs = [] := by
          have := hr.length
          rw [e] at this
          exact List.length_eq_zero_iff.mp this.symm
        subst e'
        exact h.here w (by simp only [RelU]; exact ⟨q, ws, rfl, hq, by simpa using hs⟩)
      · have e' : ys = [] := by
          have := hs.length
          rw [e2] at this
          exact List.length_eq_zero_iff.mp this.symm
        subst e'
        exact h.here w (by simp only [RelU]; exact ⟨p, vs, rfl, hp, by simpa using hr⟩)
      · exact h.tup w (hr.append hs) ha
    · cases h
  · split at h
    · rename_i m n _ _ xs ys hx hy
      split at h
      · rename_i hz
        obtain ⟨a, rfl, ha⟩ := ra.loc
        obtain ⟨b, rfl, hb⟩ := rb.loc
        obtain ⟨vs, e1, q1⟩ := w.at_ hx ha
        obtain ⟨ws, e2, q2⟩ := w.at_ hy hb
        exact op_cat pins s σ H _ _ v u Q I rx ry ⟨a, b, vs, ws, rfl, rfl, e1, e2, by rw [q1.length, q2.length]; exact hz, fun p hp => h.lst w (q1.append q2) hp⟩
      · cases h
    · cases h
  · cases ra.int; cases rb.int
    exact op_sub pins s σ H _ _ v u Q I rx ry ⟨_, _, rfl, rfl, h.here w relInt⟩
  · cases ra.int; cases rb.int
    split at h
    · rename_i hz
      exact op_mul pins s σ H _ _ v u Q I rx ry ⟨_, _, rfl, rfl, hz, h.here w relInt⟩
    · cases h
  · cases ra.str; cases rb.int
    split at h
    · rename_i hz
      exact op_mul_str pins s σ H _ _ v u Q I rx ry ⟨_, _, rfl, rfl, hz, h.here w relStr⟩
    · cases h
  · cases ra.int; cases rb.int
    split at h
    · rename_i hz
      exact op_fdiv pins s σ H _ _ v u Q I rx ry ⟨_, _, rfl, rfl, hz, h.here w relInt⟩
    · cases h
  · cases ra.int; cases rb.int
    split at h
    · rename_i hz
      exact op_mod pins s σ H _ _ v u Q I rx ry ⟨_, _, rfl, rfl, hz, h.here w relInt⟩
    · cases h
  · cases ra.int; cases rb.int
    split at h
    · rename_i hz
      exact op_pow pins s σ H _ _ v u Q I rx ry ⟨_, _, rfl, rfl, hz, h.here w relInt⟩
    · cases h
  · cases ra.int; cases rb.int
    split at h
    · rename_i hz
      exact op_shl pins s σ H _ _ v u Q I rx ry ⟨_, _, rfl, rfl, hz, h.here w relInt⟩
    · cases h
  · cases h

/-! ### data for == -/
mutual
theorem dpU {K : PySem.W.Frag} {ρ : List Addr} {H : Hp} : ∀ {u : U} {v : V}, purU u = true → RelU K ρ H u v → Dp K H v (pdU u)
  | .non, v, _, r => by cases r.non; exact .non
  | .bl b, v, _, r => by cases r.bl; exact .bl b
  | .int i, v, _, r => by cases r.int; exact .int i
  | .str x, v, _, r => by cases r.str; exact .str x
  | .tup us, v, h, r => by
    obtain ⟨a, vs, rfl, hs, hr⟩ := r.tup
    exact .tup hs (dpUs (by simpa [purU] using h) hr)
  | .loc n, v, h, _ => by simp [purU] at h
theorem dpUs {K : PySem.W.Frag} {ρ : List Addr} {H : Hp} : ∀ {us : List U} {vs : List V}, purUs us = true → RelUs K ρ H us vs → DpAll K H vs (pdUs us)
  | [], vs, _, r => by simp only [RelUs] at r; subst r; exact .nil
  | u :: us, vs, h, r => by
    simp only [RelUs] at r
    obtain ⟨v, vs', rfl, h1, h2⟩ := r
    simp only [purUs, Bool.and_eq_true] at h
    exact .cons (dpU h.1 h1) (dpUs h.2 h2)
end
theorem okU_pur {u : U} (h : okU u = true) : purU u = true := by unfold okU at h; rw [Bool.and_eq_true] at h; exact h.1
theorem okU_shp {u : U} (h : okU u = true) : SeqAt.shaped (pdU u) = true := by unfold okU at h; rw [Bool.and_eq_true] at h; exact h.2
theorem okUs_pur {u : List U} (h : okUs u = true) : purUs u = true := by unfold okUs at h; rw [Bool.and_eq_true] at h; exact h.1
theorem okUs_shp {u : List U} (h : okUs u = true) : SeqAt.shaped (.list (pdUs u)) = true := by unfold okUs at h; rw [Bool.and_eq_true] at h; exact h.2
def rK (X : Cx) (f : U → U → Sto → Option Bool) (neg : Bool) : R2 := fun x y H Q => ∃ ρ S a b k, Wok X.K X.mg ρ S H ∧ RelU X.K ρ H a x ∧ RelU X.K ρ H b y ∧ f a b S = some k ∧ Q (.bl (if neg then !k else k)) H
theorem op_eqR (hu : X.A.units + 64 < cLine) (neg : Bool) : OpR X (compareOp (if neg then .NotEq else .Eq)) (rK X eqR neg) := by
  rintro pins s σ H x y v u Q I rx ry ⟨ρ, S, a, b, k, w, ra, rb, e, q⟩
  unfold eqR at e
  split at e
  · cases ra.int; cases rb.int; cases e
    cases neg
    · exact op_eq pins s σ H _ _ v u Q I rx ry ⟨rfl, by simpa using q⟩
    · exact op_ne pins s σ H _ _ v u Q I rx ry ⟨rfl, by simpa using q⟩
  · cases ra.str; cases rb.str; cases e
    cases neg
    · exact op_eq pins s σ H _ _ v u Q I rx ry ⟨rfl, by simpa using q⟩
    · exact op_ne pins s σ H _ _ v u Q I rx ry ⟨rfl, by simpa using q⟩
  · split at e
    · rename_i xs ys hx hy
      split at e
      · rename_i hz
        cases e
        rw [Bool.and_eq_true] at hz
        obtain ⟨a, vs, rfl, h1, r1⟩ := w.list hx ra
        obtain ⟨b, ws, rfl, h2, r2⟩ := w.list hy rb
        have d1 := dpUs (okUs_pur hz.1) r1
        have d2 := dpUs (okUs_pur hz.2) r2
        have ee : PyData.eqv (.list (pdUs xs)) (.list (pdUs ys)) = eqUs xs ys := by
          simp only [PyData.eqv]
          exact eqvs_pd _ _ (okUs_pur hz.1) (okUs_pur hz.2)
        cases neg
        · exact op_eqD hu pins s σ H _ _ v u Q I rx ry ⟨_, _, .lst h1 d1, .lst h2 d2, okUs_shp hz.1, okUs_shp hz.2, by rw [ee]; simpa using q⟩
        · exact op_neD hu pins s σ H _ _ v u Q I rx ry ⟨_, _, .lst h1 d1, .lst h2 d2, okUs_shp hz.1, okUs_shp hz.2, by rw [ee]; simpa using q⟩
      · cases e
    · cases e
  · split at e
    · rename_i hz
      cases e
      rw [Bool.and_eq_true] at hz
      have d1 := dpU (okU_pur hz.1) ra
      have d2 := dpU (okU_pur hz.2) rb
      have ee := eqv_pd _ _ (okU_pur hz.1) (okU_pur hz.2)
      cases neg
      · exact op_eqD hu pins s σ H _ _ v u Q I rx ry ⟨_, _, d1, d2, okU_shp hz.1, okU_shp hz.2, by rw [ee]; simpa using q⟩
      · exact op_neD hu pins s σ H _ _ v u Q I rx ry ⟨_, _, d1, d2, okU_shp hz.1, okU_shp hz.2, by rw [ee]; simpa using q⟩
    · cases e
theorem flat_rel {K : PySem.W.Frag} {ρ : List Addr} {H : Hp} {u : U} {v : V} (f : flatU u = true) (r : RelU K ρ H u v) : flatV v = true := by
  cases u with
  | non => cases r.non; rfl
  | bl b => cases r.bl; rfl
  | int b => cases r.int; rfl
  | str b => cases r.str; rfl
  | tup b => cases f
  | loc b => cases f
theorem flat_all {K : PySem.W.Frag} {ρ : List Addr} {H : Hp} : ∀ {us : List U} {vs : List V}, us.all flatU = true → RelUs K ρ H us vs → vs.all flatV = true
  | [], vs, _, r => by simp only [RelUs] at r; subst r; rfl
  | u :: us, vs, h, r => by
    simp only [RelUs] at r
    obtain ⟨v, vs', rfl, h1, h2⟩ := r
    simp only [List.all_cons, Bool.and_eq_true] at h ⊢
    exact ⟨flat_rel h.1 h1, flat_all h.2 h2⟩
theorem eqV_rel {K : PySem.W.Frag} {ρ : List Addr} {H : Hp} {u u' : U} {v v' : V} (f : flatU u = true) (f' : flatU u' = true) (r : RelU K ρ H u v) (r' : RelU K ρ H u' v') : eqV v v' = eqU u u' := by
  cases u <;> cases f <;> cases u' <;> cases f' <;> simp only [RelU] at r r' <;> subst r r' <;> simp [eqV, eqU]
theorem inV_rel {K : PySem.W.Frag} {ρ : List Addr} {H : Hp} {u : U} {v : V} (f : flatU u = true) (r : RelU K ρ H u v) : ∀ {us : List U} {vs : List V}, us.all flatU = true → RelUs K ρ H us vs → inV v vs = us.any fun y => eqU y u
  | [], vs, _, q => by simp only [RelUs] at q; subst q; rfl
  | u' :: us, vs, h, q => by
    simp only [RelUs] at q
    obtain ⟨v', vs', rfl, h1, h2⟩ := q
    simp only [List.all_cons, Bool.and_eq_true] at h
    have ih := inV_rel f r h.2 h2
    unfold inV at ih ⊢
    simp only [List.any_cons]
    rw [ih, eqV_rel h.1 f h1 r]
theorem any_pd {u : U} (hu : purU u = true) : ∀ {us : List U}, purUs us = true → ((pdUs us).any fun z => PyData.eqv z (pdU u)) = us.any fun y => eqU y u
  | [], _ => rfl
  | w :: us, h => by
    simp only [purUs, Bool.and_eq_true] at h
    simp only [pdUs, List.any_cons]
    rw [any_pd hu h.2, eqv_pd _ _ h.1 hu]
theorem op_inR (hu : X.A.units + 65 < cLine) (neg : Bool) : OpR X (compareOp (if neg then .NotIn else .In)) (rK X inR neg) := by
  rintro pins s σ H x y v u Q I rx ry ⟨ρ, S, a, b, k, w, ra, rb, e, q⟩
  unfold inR at e
  split at e
  · rename_i x' z'
    cases ra.str; cases rb.str
    split at e
    · rename_i c hc
      cases e
      have hx : x' = ⟨#[c]⟩ := by
        cases x'
        simp only [Str.mk.injEq]
        apply Array.ext'
        exact hc
      subst hx
      cases neg
      · exact op_in_sign pins s σ H _ _ v u Q I rx ry ⟨c, z', rfl, rfl, by simpa using q⟩
      · exact op_notIn_sign pins s σ H _ _ v u Q I rx ry ⟨c, z', rfl, rfl, by simpa using q⟩
    · cases e
  · split at e
    · rename_i xs hx
      obtain ⟨p, vs, rfl, hq, hr⟩ := w.items hx rb
      split at e
      · rename_i hz
        cases e
        rw [Bool.and_eq_true] at hz
        have fx := flat_rel hz.1 ra
        have fs := flat_all hz.2 hr
        have ee := inV_rel hz.1 ra hz.2 hr
        cases neg
        · exact op_in_seq pins s σ H _ _ v u Q I rx ry ⟨p, vs, rfl, hq, fx, fs, by rw [ee]; simpa using q⟩
        · exact op_notIn_seq pins s σ H _ _ v u Q I rx ry ⟨p, vs, rfl, hq, fx, fs, by rw [ee]; simpa using q⟩
      · split at e
        · rename_i ys hy
          split at e
          · rename_i hz
            cases e
            rw [Bool.and_eq_true] at hz
            obtain ⟨p', ws, e', hl, hr'⟩ := w.list hy rb
            have d1 := dpU (okU_pur hz.1) ra
            have d2 : Dp X.K H (V.ref p) (.list (pdUs ys)) := by
              cases e'
              exact .lst hl (dpUs (okUs_pur hz.2) hr')
            have ee := any_pd (okU_pur hz.1) (okUs_pur hz.2)
            cases neg
            · exact op_inD hu pins s σ H _ _ v u Q I rx ry ⟨_, _, d1, d2, okU_shp hz.1, okUs_shp hz.2, by rw [ee]; simpa using q⟩
            · exact op_notInD hu pins s σ H _ _ v u Q I rx ry ⟨_, _, d1, d2, okU_shp hz.1, okUs_shp hz.2, by rw [ee]; simpa using q⟩
          · cases e
        · cases e
    · cases e
def cmOf : Cm → CmpOp
  | .eq => .Eq | .ne => .NotEq | .lt => .Lt | .le => .LtE | .gt => .Gt | .ge => .GtE | .in_ => .In | .notIn => .NotIn | .isN => .Is | .isNotN => .IsNot
theorem decNon {K : PySem.W.Frag} {ρ : List Addr} {H : Hp} {u : U} {v : V} (r : RelU K ρ H u v) : decide (v = V.non) = decide (u = U.non) := by
  cases u with
  | non => cases r.non; simp
  | bl b => cases r.bl; simp
  | int b => cases r.int; simp
  | str b => cases r.str; simp
  | tup b => obtain ⟨_, _, rfl, _⟩ := r.tup; simp
  | loc b => obtain ⟨_, rfl, _⟩ := r.loc; simp
theorem op_isB (neg : Bool) : OpR X (compareOp (if neg then .IsNot else .Is)) (fun x y H Q => ∃ a b, x = .bl a ∧ y = .bl b ∧ Q (.bl (if neg then !(a == b) else (a == b))) H) := by
  rintro pins s σ H x y v u Q I rx ry ⟨a, b, rfl, rfl, q⟩
  cases rx
  cases ry
  have e : (Value.bool a == Value.bool b) = (a == b) := by cases a <;> cases b <;> rfl
  cases neg
  · refine wpAny_is_plain rfl ⟨.bl (a == b), H, I, ?_, q⟩
    rw [e]
    rfl
  · refine wpAny_isNot_plain rfl ⟨.bl (!(a == b)), H, I, ?_, q⟩
    rw [e]
    rfl
theorem op_cmp (hu : X.A.units + 65 < cLine) (o : Cm) : OpR X (compareOp (cmOf o)) (r2 X W (cmpU o)) := by
  rintro pins s σ H x y v u Q I rx ry ⟨ρ, S, a, b, w, ra, rb, h⟩
  unfold cmpU at h
  split at h
  · rename_i k hk
    have q : Q (.bl k) H := h.here w relBl
    cases o with
    | eq => exact op_eqR (by omega) false pins s σ H _ _ v u Q I rx ry ⟨ρ, S, a, b, k, w, ra, rb, hk, q⟩
    | ne =>
      simp only [cmpB, Option.map_eq_some_iff] at hk
      obtain ⟨k', hk, rfl⟩ := hk
      exact op_eqR (by omega) true pins s σ H _ _ v u Q I rx ry ⟨ρ, S, a, b, k', w, ra, rb, hk, q⟩
    | in_ => exact op_inR hu false pins s σ H _ _ v u Q I rx ry ⟨ρ, S, a, b, k, w, ra, rb, hk, q⟩
    | notIn =>
      simp only [cmpB, Option.map_eq_some_iff] at hk
      obtain ⟨k', hk, rfl⟩ := hk
      exact op_inR hu true pins s σ H _ _ v u Q I rx ry ⟨ρ, S, a, b, k', w, ra, rb, hk, q⟩
    | isN =>
      simp only [cmpB] at hk
      split at hk
      · cases hk
        cases rb.non
        exact op_isN pins s σ H _ _ v u Q I rx ry ⟨rfl, by rw [decNon ra]; exact q⟩
      · cases rb.bl
        split at hk
        · cases hk
          cases ra.bl
          exact op_isB false pins s σ H _ _ v u Q I rx ry ⟨_, _, rfl, rfl, q⟩
        · cases hk
      · cases hk
    | isNotN =>
      simp only [cmpB] at hk
      split at hk
      · cases hk
        cases rb.non
        exact op_notN pins s σ H _ _ v u Q I rx ry ⟨rfl, by rw [decNon ra]; exact q⟩
      · cases rb.bl
        split at hk
        · cases hk
          cases ra.bl
          exact op_isB true pins s σ H _ _ v u Q I rx ry ⟨_, _, rfl, rfl, q⟩
        · cases hk
      · cases hk
    | lt =>
      simp only [cmpB] at hk
      split at hk
      · cases hk; cases ra.int; cases rb.int
        exact op_lt pins s σ H _ _ v u Q I rx ry ⟨_, _, rfl, rfl, q⟩
      · cases hk
    | le =>
      simp only [cmpB] at hk
      split at hk
      · cases hk; cases ra.int; cases rb.int
        exact op_le pins s σ H _ _ v u Q I rx ry ⟨_, _, rfl, rfl, q⟩
      · cases hk
    | gt =>
      simp only [cmpB] at hk
      split at hk
      · cases hk; cases ra.int; cases rb.int
        exact op_gt pins s σ H _ _ v u Q I rx ry ⟨_, _, rfl, rfl, q⟩
      · cases hk
    | ge =>
      simp only [cmpB] at hk
      split at hk
      · cases hk; cases ra.int; cases rb.int
        exact op_ge pins s σ H _ _ v u Q I rx ry ⟨_, _, rfl, rfl, q⟩
      · cases hk
  · cases h
/-! ### items, slices -/
theorem at_rel {K : PySem.W.Frag} {ρ : List Addr} {H : Hp} {us : List U} {vs : List V} {j : Int} {u : U} (r : RelUs K ρ H us vs) (h : atI us j = some u) : ∃ v, atI vs j = some v ∧ RelU K ρ H u v := by
  unfold atI at h ⊢
  rw [r.length]
  cases q : ixN us.length j with
  | none => rw [q] at h; cases h
  | some k =>
    rw [q] at h
    obtain ⟨v, e, z⟩ := r.get (i := k) h
    exact ⟨v, e, z⟩
theorem ix_any : IxR X (r2 X W ixU) := by
  rintro value slice pins s σ H x y v u Q I rx ry ⟨ρ, S, a, b, w, ra, rb, h⟩ hs
  unfold ixU at h
  split at h
  · cases ra.str; cases rb.int
    split at h
    · rename_i hz
      split at h
      · rename_i c hc
        exact ix_str value slice pins s σ H _ _ v u Q I rx ry ⟨_, _, c, rfl, rfl, hz, hc, h.here w relStr⟩ hs
      · cases h
    · cases h
  · cases rb.int
    split at h
    · rename_i xs hx
      obtain ⟨p, vs, rfl, hq, hr⟩ := w.items hx ra
      split at h
      · rename_i c hc
        obtain ⟨z, hz, rz⟩ := at_rel hr hc
        rcases hq with hq | hq
        · exact ix_list value slice pins s σ H _ _ v u Q I rx ry ⟨p, vs, _, z, rfl, rfl, hq, hz, h.here w rz⟩ hs
        · exact ix_tup value slice pins s σ H _ _ v u Q I rx ry ⟨p, vs, _, z, rfl, rfl, hq, hz, h.here w rz⟩ hs
      · cases h
    · cases h
  · cases h
def rSl (X : Cx) (W : XK) : V → Option Int → Option Int → Hp → VK → Prop := fun x lo hi H Q => ∃ ρ S a, Wok X.K X.mg ρ S H ∧ RelU X.K ρ H a x ∧ Post X.mg X.K (RelU X.K) W ρ H (slU a lo hi S) Q
theorem sl_any : SlR X (rSl X W) := by
  rintro pins s σ H x v vl vu lo hi sl Q I rx hs pl pu ⟨ρ, S, a, w, ra, h⟩
  unfold slU at h
  split at h
  · cases ra.str
    split at h
    · rename_i hz
      exact sl_str pins s σ H _ v vl vu lo hi sl Q I rx hs pl pu ⟨_, rfl, hz, h.here w relStr⟩
    · cases h
  · rename_i xs
    obtain ⟨p, vs, rfl, hq, hr⟩ := ra.tup
    refine sl_tupA pins s σ H _ v vl vu lo hi sl Q I rx hs pl pu ⟨p, vs, rfl, hq, fun c => ?_, fun c q hq' => ?_⟩
    · refine h.here w ?_
      simp only [RelU]
      refine ⟨p, vs, rfl, hq, ?_⟩
      have e := RelUs.cut lo hi hr
      have e2 : cutV vs lo hi = vs := by
        unfold cutV
        rw [c.1, c.2]
        simp
      rw [e2] at e
      exact e
    · exact h.tup w (hr.cut lo hi) hq'
  · split at h
    · rename_i xs hx
      obtain ⟨p, vs, rfl, hq, hr⟩ := w.list hx ra
      exact sl_list pins s σ H _ v vl vu lo hi sl Q I rx hs pl pu ⟨p, vs, rfl, hq, fun q hq' => h.lst w (hr.cut lo hi) hq'⟩
    · cases h
  · cases h
end
end Oz

end

section
set_option maxHeartbeats 4000000
/-! Oz5: built-in functions, methods, and the rules of expressions. -/
namespace Oz
open PySem PySem.Spec PyProof.Rows L2
section
variable {X : Cx} {W : XK}
/-! ### built-in functions -/
def bfR (X : Cx) (W : XK) (b : Bf) : List V → Hp → VK → Prop := fun vs H Q => ∃ ρ S us, Wok X.K X.mg ρ S H ∧ RelUs X.K ρ H us vs ∧ Post X.mg X.K (RelU X.K) W ρ H (bfU b us S) Q
theorem rel1 {K : PySem.W.Frag} {ρ : List Addr} {H : Hp} {a : U} {vs : List V} (r : RelUs K ρ H [a] vs) : ∃ v, vs = [v] ∧ RelU K ρ H a v := by
  simp only [RelUs] at r
  obtain ⟨v, vs', rfl, h, rfl⟩ := r
  exact ⟨v, rfl, h⟩
theorem rel2 {K : PySem.W.Frag} {ρ : List Addr} {H : Hp} {a b : U} {vs : List V} (r : RelUs K ρ H [a, b] vs) : ∃ v w, vs = [v, w] ∧ RelU K ρ H a v ∧ RelU K ρ H b w := by
  simp only [RelUs] at r
  obtain ⟨v, vs', rfl, h, w, _, rfl, h2, rfl⟩ := r
  exact ⟨v, w, rfl, h, h2⟩
theorem lenV_rel {K : PySem.W.Frag} {mg : Str → Option Value} {ρ : List Addr} {S : Sto} {H : Hp} {a : U} {v : V} {n : Nat} (w : Wok K mg ρ S H) (r : RelU K ρ H a v) (h : lenU a S = some n) : LenV K v H n := by
  unfold lenU at h
  split at h
  · cases r.str
    split at h
    · rename_i hz; cases h; exact ⟨hz, rfl⟩
    · cases h
  · simp only [Option.map_eq_some_iff] at h
    obtain ⟨xs, hx, rfl⟩ := h
    obtain ⟨p, vs, rfl, hq, hr⟩ := w.items hx r
    rcases hq with hq | hq
    · exact .inl ⟨vs, hq, hr.length.symm⟩
    · exact .inr ⟨vs, hq, hr.length.symm⟩
theorem cf_len : CallR X (.builtin "len") (bfR X W .len) := by
  rintro pins s σ H vs us Q I rv ⟨ρ, S, ws, w, rs, h⟩
  replace h : Post X.mg X.K (RelU X.K) W ρ H (lenF ws S) Q := h
  unfold lenF at h
  split at h
  · obtain ⟨v, rfl, ra⟩ := rel1 rs
    split at h
    · rename_i n hn
      exact call_len pins s σ H _ us Q I rv ⟨v, n, rfl, lenV_rel w ra hn, h.here w relInt⟩
    · cases h
  · cases h
theorem cf_abs : CallR X (.builtin "abs") (bfR X W .abs) := by
  rintro pins s σ H vs us Q I rv ⟨ρ, S, ws, w, rs, h⟩
  replace h : Post X.mg X.K (RelU X.K) W ρ H (absF ws S) Q := h
  unfold absF at h
  split at h
  · obtain ⟨v, rfl, ra⟩ := rel1 rs
    cases ra.int
    exact call_abs pins s σ H _ us Q I rv ⟨_, rfl, h.here w relInt⟩
  · cases h
theorem cf_int : CallR X (.type "int") (bfR X W .int) := by
  rintro pins s σ H vs us Q I rv ⟨ρ, S, ws, w, rs, h⟩
  replace h : Post X.mg X.K (RelU X.K) W ρ H (intF ws S) Q := h
  unfold intF at h
  split at h
  · obtain ⟨v, rfl, ra⟩ := rel1 rs
    cases ra.int
    exact call_int1 pins s σ H _ us Q I rv (.inl ⟨_, rfl, h.here w relInt⟩)
  · obtain ⟨v, rfl, ra⟩ := rel1 rs
    cases ra.bl
    exact call_int1 pins s σ H _ us Q I rv (.inr ⟨_, rfl, h.here w relInt⟩)
  · obtain ⟨v, rfl, ra⟩ := rel1 rs
    cases ra.str
    split at h
    · rename_i n hn
      split at h
      · rename_i hz
        exact call_int_str pins s σ H _ us Q I rv ⟨_, n, rfl, hn, hz, h.here w relInt⟩
      · cases h
    · cases h
  · cases h
theorem maxI_ge : ∀ {ns : List Int} {y : Int}, y ∈ ns → y ≤ maxI ns
  | [i], y, h => by simp at h; subst h; exact Int.le_refl _
  | i :: j :: is, y, h => by
    have ih := fun z => @maxI_ge (j :: is) z
    unfold maxI
    rcases List.mem_cons.mp h with rfl | h
    · split <;> omega
    · have := ih y h
      split <;> omega
theorem maxI_mem : ∀ {ns : List Int}, 0 < ns.length → maxI ns ∈ ns
  | [i], _ => by simp [maxI]
  | i :: j :: is, _ => by
    have ih := @maxI_mem (j :: is) (by simp)
    unfold maxI
    split
    · exact List.mem_cons_of_mem _ ih
    · exact List.mem_cons_self
theorem cf_max (hc : X.calm = true) : CallR X (.builtin "max") (bfR X W .max) := by
  rintro pins s σ H vs us Q I rv ⟨ρ, S, ws, w, rs, h⟩
  replace h : Post X.mg X.K (RelU X.K) W ρ H (maxF ws S) Q := h
  unfold maxF at h
  split at h
  · obtain ⟨v, rfl, ra⟩ := rel1 rs
    split at h
    · rename_i ns hns
      split at h
      · rename_i hz
        rw [Option.bind_eq_some_iff] at hns
        obtain ⟨xs, hx, hi⟩ := hns
        obtain ⟨p, vs, rfl, hq, hr⟩ := w.list hx ra
        have e := hr.ints hi
        subst e
        refine cr_max hc pins s σ H _ us Q I rv ⟨p, ns, rfl, hq, hz, fun m hm hle => ?_⟩
        have e1 := maxI_ge hm
        have e2 := hle _ (maxI_mem hz)
        have e3 : m = maxI ns := by omega
        subst e3
        exact h.here w relInt
      · cases h
    · cases h
  · cases h
theorem cf_sum (hc : X.calm = true) : CallR X (.builtin "sum") (bfR X W .sum) := by
  rintro pins s σ H vs us Q I rv ⟨ρ, S, ws, w, rs, h⟩
  replace h : Post X.mg X.K (RelU X.K) W ρ H (sumF ws S) Q := h
  unfold sumF at h
  split at h
  · obtain ⟨v, rfl, ra⟩ := rel1 rs
    split at h
    · rename_i ns hns
      rw [Option.bind_eq_some_iff] at hns
      obtain ⟨xs, hx, hi⟩ := hns
      obtain ⟨p, vs, rfl, hq, hr⟩ := w.list hx ra
      have e := hr.ints hi
      subst e
      exact cr_sum hc pins s σ H _ us Q I rv ⟨p, ns, rfl, hq, h.here w relInt⟩
    · cases h
  · cases h
theorem RelUs.bols {K : PySem.W.Frag} {ρ : List Addr} {H : Hp} : ∀ {us : List U} {ns : List Bool} {vs : List V}, RelUs K ρ H us vs → bolsU us = some ns → vs = ns.map V.bl
  | [], ns, vs, h, e => by
    simp only [RelUs] at h
    simp only [bolsU, Option.some.injEq] at e
    subst e h
    rfl
  | u :: us, ns, vs, h, e => by
    simp only [RelUs] at h
    obtain ⟨v, vs', rfl, h1, h2⟩ := h
    cases u <;> simp only [bolsU] at e <;> try cases e
    rename_i i
    cases q : bolsU us with
    | none => rw [q] at e; cases e
    | some ms =>
      rw [q] at e
      simp only [Option.map_some, Option.some.injEq] at e
      subst e
      have := RelUs.bols h2 q
      simp only [RelU] at h1
      subst h1 this
      rfl
theorem cr_allT (hc : X.calm = true) {pins : List (Addr × Obj)} {s : Shared} {σ : L2.St} {H : Hp} {us : List Value} {Q : VK} {a : Addr} {bs : List Bool} (I : Inv X pins σ H s) (r : Vals [V.ref a] us) (hs : SqT X.K H a (bs.map V.bl)) (q : Q (.bl (bs.all id)) H) :
    wpAny (model X.prog X.w) X.A (call (.builtin "all") us) (EP X pins σ Q) X.xe s := by
  obtain ⟨its, rv, p, _⟩ := I.tuple hs
  rw [Vals.ref1 r]
  have hb := rv.bls
  have ht : s.heap.IsTuple a its.toArray := p
  have hlt : a < s.heap.objs.size := by obtain ⟨_, e, _⟩ := ht; exact Heap.lt_size e
  refine call_all_walk (wpAny_pyIter_tuple ht ?_)
  refine ⟨_, _, _, _, _, _, _, rfl, Walks.tuple (A := X.A.in1) (I.ok.hd hc) _ a (Nat.ne_of_lt hlt) its.toArray, ⟨⟨_, Heap.get?_push_size _ rfl, rfl, rfl⟩, ht.push _⟩, truth_bools hb, fun h' tk hk => ?_⟩
  refine ⟨.bl _, H, I.kept fun b o eo => hk b o (fun hmem => ?_) (Heap.get?_push_of_some _ eo), ?_, q⟩
  · rcases List.mem_cons.mp hmem with e1 | hmem
    · exact absurd (e1 ▸ Heap.lt_size eo) (Nat.lt_irrefl _)
    · cases hmem
  · show Value.bool _ = Value.bool _
    rw [← L2.all_range, hb, List.size_toArray, List.length_map]
theorem cf_all (hc : X.calm = true) : CallR X (.builtin "all") (bfR X W .all) := by
  rintro pins s σ H vs us Q I rv ⟨ρ, S, ws, w, rs, h⟩
  replace h : Post X.mg X.K (RelU X.K) W ρ H (allF ws S) Q := h
  unfold allF at h
  split at h
  · obtain ⟨v, rfl, ra⟩ := rel1 rs
    obtain ⟨p, vs, rfl, hq, hr⟩ := ra.tup
    split at h
    · rename_i ns hi
      have e := hr.bols hi
      subst e
      exact cr_allT hc I rv hq (h.here w relBl)
    · cases h
  · obtain ⟨v, rfl, ra⟩ := rel1 rs
    split at h
    · rename_i ns hns
      rw [Option.bind_eq_some_iff] at hns
      obtain ⟨xs, hx, hi⟩ := hns
      obtain ⟨p, vs, rfl, hq, hr⟩ := w.list hx ra
      have e := hr.bols hi
      subst e
      exact cr_all hc pins s σ H _ us Q I rv ⟨p, ns, rfl, hq, h.here w relBl⟩
    · cases h
  · cases h
theorem cf_any (hc : X.calm = true) : CallR X (.builtin "any") (bfR X W .any) := by
  rintro pins s σ H vs us Q I rv ⟨ρ, S, ws, w, rs, h⟩
  replace h : Post X.mg X.K (RelU X.K) W ρ H (anyF ws S) Q := h
  unfold anyF at h
  split at h
  · obtain ⟨v, rfl, ra⟩ := rel1 rs
    split at h
    · rename_i ns hns
      rw [Option.bind_eq_some_iff] at hns
      obtain ⟨xs, hx, hi⟩ := hns
      obtain ⟨p, vs, rfl, hq, hr⟩ := w.list hx ra
      have e := hr.bols hi
      subst e
      exact cr_any hc pins s σ H _ us Q I rv ⟨p, ns, rfl, hq, h.here w relBl⟩
    · cases h
  · cases h
theorem cf_max2 (hc : X.calm = true) : CallR X (.builtin "max") (bfR X W .max2) := by
  rintro pins s σ H vs us Q I rv ⟨ρ, S, ws, w, rs, h⟩
  replace h : Post X.mg X.K (RelU X.K) W ρ H (max2F ws S) Q := h
  unfold max2F at h
  split at h
  · obtain ⟨v, v', rfl, ra, rb⟩ := rel2 rs
    cases ra.int; cases rb.int
    exact call_max2 hc pins s σ H _ us Q I rv ⟨_, _, rfl, h.here w relInt⟩
  · cases h
theorem cf_min2 (hc : X.calm = true) : CallR X (.builtin "min") (bfR X W .min2) := by
  rintro pins s σ H vs us Q I rv ⟨ρ, S, ws, w, rs, h⟩
  replace h : Post X.mg X.K (RelU X.K) W ρ H (min2F ws S) Q := h
  unfold min2F at h
  split at h
  · obtain ⟨v, v', rfl, ra, rb⟩ := rel2 rs
    cases ra.int; cases rb.int
    exact call_min2 hc pins s σ H _ us Q I rv ⟨_, _, rfl, h.here w relInt⟩
  · cases h
theorem cf_repr (hg : X.A.guards = some []) (hu : X.A.units + 70 < cLine) : CallR X (.builtin "repr") (bfR X W .repr) := by
  rintro pins s σ H vs us Q I rv ⟨ρ, S, ws, w, rs, h⟩
  replace h : Post X.mg X.K (RelU X.K) W ρ H (reprF ws S) Q := h
  unfold reprF at h
  split at h
  · rename_i a
    obtain ⟨v, rfl, ra⟩ := rel1 rs
    split at h
    · rename_i hk
      unfold reprOk at hk
      simp only [Bool.and_eq_true] at hk
      obtain ⟨h0, h1, h2, h3⟩ := hk
      have dp := dpU (okU_pur h1) ra
      have hsh := okU_shp h1
      have hdep := SeqAt.depth_of_shaped hsh
      obtain ⟨x, rfl, rx⟩ : ∃ x, us = [x] ∧ RelV v x := by
        cases rv with
        | cons r rr =>
          cases rr
          exact ⟨_, rfl, r⟩
      obtain ⟨as, rd⟩ := Dp.reads I _ _ _ dp rx
      have hr : ∃ p, x = .ref p := by
        cases a with
        | tup xs =>
          obtain ⟨p, _, e, _⟩ := ra.tup
          subst e
          exact ⟨p, rx⟩
        | _ => cases h0
      obtain ⟨p, rfl⟩ := hr
      refine repr_of_reads' (h₀ := s.heap) rd h2 (PyData.noDict_hsm (PyData.hasDict_of_canLay _ (SeqAt.canLay_of_shaped hsh))) hg (by omega) (fun _ _ e => e) (fun h' u tk hk => ⟨.str _, H, I.kept (t' := tk) hk, ⟨u, rfl⟩, h.here w relStr⟩) (of_decide_eq_true h3)
    · cases h
  · cases h
theorem cf_str : CallR X (.type "str") (bfR X W .str) := by
  rintro pins s σ H vs us Q I rv ⟨ρ, S, ws, w, rs, h⟩
  replace h : Post X.mg X.K (RelU X.K) W ρ H (strF ws S) Q := h
  unfold strF at h
  split at h
  · obtain ⟨v, rfl, ra⟩ := rel1 rs
    cases ra.int
    split at h
    · rename_i hz
      exact call_str_int pins s σ H _ us Q I rv ⟨_, rfl, hz, h.here w relStr⟩
    · cases h
  · cases h
theorem cf_tup : CallR X (.type "tuple") (bfR X W .tup) := by
  rintro pins s σ H vs us Q I rv ⟨ρ, S, ws, w, rs, h⟩
  replace h : Post X.mg X.K (RelU X.K) W ρ H (tupF ws S) Q := h
  unfold tupF at h
  split at h
  · obtain ⟨v, rfl, ra⟩ := rel1 rs
    split at h
    · rename_i xs hx
      obtain ⟨p, vs, rfl, hq, hr⟩ := w.items hx ra
      refine call_tuple_of pins s σ H _ us Q I rv ⟨p, vs, rfl, ?_⟩
      rcases hq with hq | hq
      · exact .inl ⟨hq, fun l hl => h.tup w hr hl⟩
      · exact .inr ⟨hq, h.here w (by simp only [RelU]; exact ⟨p, vs, rfl, hq, hr⟩)⟩
    · cases h
  · cases h
theorem cf_list : CallR X (.type "list") (bfR X W .list) := by
  rintro pins s σ H vs us Q I rv ⟨ρ, S, ws, w, rs, h⟩
  replace h : Post X.mg X.K (RelU X.K) W ρ H (listF ws S) Q := h
  unfold listF at h
  split at h
  · obtain ⟨v, rfl, ra⟩ := rel1 rs
    split at h
    · rename_i xs hx
      obtain ⟨p, vs, rfl, hq, hr⟩ := w.items hx ra
      exact call_list_of pins s σ H _ us Q I rv ⟨p, vs, rfl, hq, fun l hl => h.lst w hr hl⟩
    · cases h
  · cases h
/-! ### methods of built-in types -/
def bmR (X : Cx) (W : XK) (b : Bm) : V → List V → Hp → VK → Prop := fun x vs H Q => ∃ ρ S o us, Wok X.K X.mg ρ S H ∧ RelU X.K ρ H o x ∧ RelUs X.K ρ H us vs ∧ Post X.mg X.K (RelU X.K) W ρ H (bmU b o us S) Q
theorem lst_mut {H : Hp} {a : Addr} {vs : List V} (e : H a = some (.lst vs)) : ∀ u, H a = some u → ¬ Imm u := fun u q => by
  rw [e] at q
  cases q
  exact id
theorem ins_mut {H : Hp} {a C dx : Addr} {vs : List (Str × V)} (e : H a = some (.ins C dx vs)) : ∀ u, H a = some u → ¬ Imm u := fun u q => by
  rw [e] at q
  cases q
  exact id
/-- a list is written -/
theorem Post.set {α β : Type} {K : PySem.W.Frag} {mg : Str → Option Value} {Rr : List Addr → Hp → α → β → Prop} {ρ : List Addr} {S : Sto} {H : Hp} {n : Nat} {p : Addr} {us : List U} {vs vs0 : List V} {a : α} {b : β} {Q : β → Hp → Prop} (h : Post mg K Rr W ρ H (.ok a (S.set n (.lst us))) Q) (w : Wok K mg ρ S H)
    (hp : ρ[n]? = some p) {us0 : List U} (hs : S[n]? = some (.lst us0)) (e : H p = some (.lst vs0)) (r : RelUs K ρ H us vs) (hr : ∀ H', Ext ρ H ρ H' → Rr ρ H' a b) : Q b (upd H p (.lst vs)) := by
  have x : Ext ρ H ρ (upd H p (.lst vs)) := Ext.write (lst_mut e)
  exact h ρ _ b x (w.write hp hs rfl rfl (lst_mut e) ⟨vs, upd_same, r.mono x⟩) (hr _ x)
theorem bm_append : MtR X "list.append" (bmR X W .append) := by
  rintro pins s σ H x vs v us Q I rx rv ⟨ρ, S, o, ws, w, ro, rs, h⟩
  replace h : Post X.mg X.K (RelU X.K) W ρ H (appendF o ws S) Q := h
  unfold appendF at h
  split at h
  · obtain ⟨y, rfl, ry⟩ := rel1 rs
    obtain ⟨a, rfl, ha⟩ := ro.loc
    split at h
    · rename_i xs hx
      split at h
      · rename_i hz
        obtain ⟨vs, e, hr⟩ := w.at_ hx ha
        exact mt_append pins s σ H _ _ v us Q I rx rv ⟨a, vs, y, rfl, rfl, e, by rw [hr.length]; exact hz, h.set w ha hx e (hr.append (.cons ry .nil)) fun _ _ => relNon⟩
      · cases h
    · cases h
  · cases h
theorem bm_extend : MtR X "list.extend" (bmR X W .extend) := by
  rintro pins s σ H x vs v us Q I rx rv ⟨ρ, S, o, ws, w, ro, rs, h⟩
  replace h : Post X.mg X.K (RelU X.K) W ρ H (extendF o ws S) Q := h
  unfold extendF at h
  split at h
  · obtain ⟨y, rfl, ry⟩ := rel1 rs
    obtain ⟨a, rfl, ha⟩ := ro.loc
    obtain ⟨b, rfl, hb⟩ := ry.loc
    split at h
    · rename_i xs ys hx hy
      split at h
      · rename_i hz
        obtain ⟨vs, e, hr⟩ := w.at_ hx ha
        obtain ⟨ws, e2, hr2⟩ := w.at_ hy hb
        exact mt_extend pins s σ H _ _ v us Q I rx rv ⟨a, b, vs, ws, rfl, rfl, e, e2, by rw [hr.length, hr2.length]; exact hz, h.set w ha hx e (hr.append hr2) fun _ _ => relNon⟩
      · cases h
    · cases h
  · cases h
theorem dropLast_get {α : Type} {xs : List α} : xs[xs.length - 1]? = xs.getLast? := by
  rw [List.getLast?_eq_getElem?]
theorem bm_pop : MtR X "list.pop" (bmR X W .pop) := by
  rintro pins s σ H x vs v us Q I rx rv ⟨ρ, S, o, ws, w, ro, rs, h⟩
  replace h : Post X.mg X.K (RelU X.K) W ρ H (popF o ws S) Q := h
  unfold popF at h
  split at h
  · simp only [RelUs] at rs
    subst rs
    obtain ⟨a, rfl, ha⟩ := ro.loc
    split at h
    · rename_i xs hx
      split at h
      · rename_i y hy
        obtain ⟨vs, e, hr⟩ := w.at_ hx ha
        obtain ⟨z, hz, rz⟩ := hr.get hy
        exact mt_pop pins s σ H _ _ v us Q I rx rv ⟨a, vs, z, rfl, rfl, e, by rw [hr.length]; exact hz, h.set w ha hx e hr.dropLast fun _ x => rz.mono x⟩
      · cases h
    · cases h
  · cases h
theorem bm_startswith3 : MtR X "str.startswith" (bmR X W .startswith3) := by
  rintro pins s σ H x vs v us Q I rx rv ⟨ρ, S, o, ws, w, ro, rs, h⟩
  replace h : Post X.mg X.K (RelU X.K) W ρ H (startsF o ws S) Q := h
  unfold startsF at h
  split at h
  · obtain ⟨y, z, rfl, ry, rz⟩ := rel2 rs
    cases ro.str; cases ry.str; cases rz.int
    exact mt_startswith3 pins s σ H _ _ v us Q I rx rv ⟨_, _, _, rfl, rfl, h.here w relBl⟩
  · cases h
def tyOfB : Bm → String
  | .startswith3 => "str"
  | _ => "list"
theorem tyB_rel {K : PySem.W.Frag} {mg : Str → Option Value} {ρ : List Addr} {S : Sto} {H : Hp} {a : U} {v : V} {b : Bm} (w : Wok K mg ρ S H) (r : RelU K ρ H a v) (h : tyB b a S = true) : tyV K (tyOfB b) v H := by
  cases b with
  | startswith3 =>
    cases a with
    | str x => cases r.str; rfl
    | _ => cases h
  | extend =>
    obtain ⟨xs, hx⟩ := Option.isSome_iff_exists.mp (show (list? S a).isSome = true from h)
    obtain ⟨p, vs, rfl, hq, hr⟩ := w.list hx r
    exact .inl ⟨rfl, vs, hq⟩
  | append =>
    obtain ⟨xs, hx⟩ := Option.isSome_iff_exists.mp (show (list? S a).isSome = true from h)
    obtain ⟨p, vs, rfl, hq, hr⟩ := w.list hx r
    exact .inl ⟨rfl, vs, hq⟩
  | pop =>
    obtain ⟨xs, hx⟩ := Option.isSome_iff_exists.mp (show (list? S a).isSome = true from h)
    obtain ⟨p, vs, rfl, hq, hr⟩ := w.list hx r
    exact .inl ⟨rfl, vs, hq⟩
end
end Oz

end

section
set_option maxHeartbeats 4000000
/-! OzR: calls, where one level takes one frame. -/
namespace Oz
open PySem PySem.Spec PyProof.Rows L2
/-- room for k calls, one in another -/
structure Rm (k : Nat) (A : Around) : Prop where
  hd : A.handled = none
  dp : A.depth + k + 12 < recursionLimit
  un : A.units + 4 * k + 300 < cLine
  gd : A.guards = some []
theorem Rm.mono {j k : Nat} {A : Around} (r : Rm k A) (h : j ≤ k) : Rm j A := ⟨r.hd, by have := r.dp; omega, by have := r.un; omega, r.gd⟩
theorem Rm.inner {k : Nat} {A : Around} (r : Rm (k + 1) A) (env : PySem.Env) : Rm k (A.deeper env) where
  hd := r.hd
  dp := by
    have := r.dp
    show A.depth + 1 + k + 12 < recursionLimit
    omega
  un := by
    have := r.un
    show A.units + 3 + 4 * k + 300 < cLine
    omega
  gd := r.gd
theorem Rm.make {k : Nat} {A : Around} (r : Rm (k + 1) A) (C : Addr) (us : List Value) : Rm k (A.under (.builtin "type.__call__" ⟨.ref C :: us, []⟩)) where
  hd := r.hd
  dp := by
    have := r.dp
    rw [make_depth]
    omega
  un := by
    have := r.un
    rw [make_units]
    omega
  gd := by
    unfold Around.under
    simp only [r.gd]
    rfl
theorem Rm.room {k : Nat} {A : Around} (r : Rm k A) : Room 2 A := ⟨r.hd, by have := r.dp; omega, by have := r.un; omega⟩
theorem Rm.depth {k : Nat} {A : Around} (r : Rm k A) : A.depth < recursionLimit := by have := r.dp; omega
theorem rm_caller : Rm 680 callerA := ⟨rfl, by decide, by decide, rfl⟩
/-- a promise by positional values -/
def FnQ (P : Program) (w : World) (K : PySem.W.Frag) (mg : Str → Option Value) (base : Heap) (CX : CXT) (k : Nat) (f : Addr) (sp : Sp) : Prop :=
  ∀ A outer s H us vs Q E, Rm k A → Env0 P w K mg base A outer s H → Vals vs us → sp vs H Q E → codeAny (model P w) A (.call (.ref f) ⟨us, []⟩) (CR CX outer P w H s Q E) s
/-- a promise by n positional values and the keywords ks -/
def FnK (P : Program) (w : World) (K : PySem.W.Frag) (mg : Str → Option Value) (base : Heap) (CX : CXT) (k : Nat) (f : Addr) (n : Nat) (ks : List Str) (sp : Sp) : Prop :=
  ∀ A outer s H us ws vs zs Q E, Rm k A → Env0 P w K mg base A outer s H → Vals vs us → Vals zs ws → us.length = n → ws.length = ks.length → sp (vs ++ zs) H Q E → codeAny (model P w) A (.call (.ref f) ⟨us, ks.zip ws⟩) (CR CX outer P w H s Q E) s
section
variable {P : Program} {w : World} {K : PySem.W.Frag} {mg : Str → Option Value} {base : Heap} {CX : CXT} {j k : Nat} {f : Addr} {sp sp' : Sp}
theorem FnK.mono {n : Nat} {ks : List Str} (F : FnK P w K mg base CX j f n ks sp) (h : j ≤ k) : FnK P w K mg base CX k f n ks sp := fun A outer s H us ws vs zs Q E hr e0 r rz l1 l2 hs => F A outer s H us ws vs zs Q E (hr.mono h) e0 r rz l1 l2 hs
theorem FnQ.mono (F : FnQ P w K mg base CX j f sp) (h : j ≤ k) : FnQ P w K mg base CX k f sp := fun A outer s H us vs Q E hr e0 r hs => F A outer s H us vs Q E (hr.mono h) e0 r hs
theorem FnQ.imp (F : FnQ P w K mg base CX k f sp) (h : ∀ vs H Q E, sp' vs H Q E → sp vs H Q E) : FnQ P w K mg base CX k f sp' := fun A outer s H us vs Q E hr e0 r hs => F A outer s H us vs Q E hr e0 r (h _ _ _ _ hs)
end
section
variable {X : Cx} {CX : CXT} {k : Nat} {f C : Addr} {sp : Sp} {E : XK}
theorem ends_of {pins : List (Addr × Obj)} {σ : L2.St} {H : Hp} {s : Shared} {Q : VK} (hx : Passes CX X E) (I : L2.Inv X pins σ H s) : ∀ (r : Result) (s' : Shared), CR CX X.stack X.prog X.w H s Q E r s' → (match r with | .ok (.ret v) => EP X pins σ Q v s' | .ok _ => False | .error e => X.xe e s')
  | .error e, s', hq => hx pins σ H s e s' I hq
  | .ok (.ret u), s', hq => I.after hq
  | .ok .next, _, hq => hq.elim
  | .ok .brk, _, hq => hq.elim
  | .ok .cont, _, hq => hq.elim
theorem run_fnQ {pins : List (Addr × Obj)} {σ : L2.St} {H : Hp} {s : Shared} {Q : VK} {us : List Value} {vs : List V} (F : FnQ X.prog X.w X.K X.mg X.base CX k f sp) (hr : Rm k X.A) (hx : Passes CX X E) (I : L2.Inv X pins σ H s) (r : Vals vs us) (h : sp vs H Q E) :
    wpAny (model X.prog X.w) X.A (call (.ref f) us) (EP X pins σ Q) X.xe s :=
  wpAny_call (codeAny_mono (F X.A X.stack s H us vs Q E hr I.env0 r h) fun z s' hq => ends_of hx I z s' hq)
theorem run_fnK {pins : List (Addr × Obj)} {σ : L2.St} {H : Hp} {s : Shared} {Q : VK} {us ws : List Value} {vs zs : List V} {n : Nat} {ks : List Str} (F : FnK X.prog X.w X.K X.mg X.base CX k f n ks sp) (hr : Rm k X.A) (hx : Passes CX X E) (I : L2.Inv X pins σ H s) (r : Vals vs us) (rz : Vals zs ws) (l1 : us.length = n) (l2 : ws.length = ks.length) (h : sp (vs ++ zs) H Q E) :
    wpAny (model X.prog X.w) X.A (call (.ref f) us (ks.zip ws)) (EP X pins σ Q) X.xe s :=
  wpAny_call (codeAny_mono (F X.A X.stack s H us ws vs zs Q E hr I.env0 r rz l1 l2 h) fun z s' hq => ends_of hx I z s' hq)
theorem run_mkQ {pins : List (Addr × Obj)} {σ : L2.St} {H : Hp} {s : Shared} {Q : VK} {us : List Value} {vs : List V} (M : Mk X.K C f) (F : FnQ X.prog X.w X.K X.mg X.base CX k f sp) (hr : Rm (k + 1) X.A) (hx : Passes CX X E) (I : L2.Inv X pins σ H s) (r : Vals vs us)
    (h : ∀ x dx, H x = none → H dx = none → dx ≠ x → sp (.ref x :: vs) (upd (upd H dx (.own x)) x (.ins C dx [])) (fun v H2 => v = .non ∧ Q (.ref x) H2) E) : wpAny (model X.prog X.w) X.A (call (.ref C) us) (EP X pins σ Q) X.xe s := by
  have h0 : H s.heap.objs.size = none := I.hok.fresh (Nat.le_refl _)
  have h1 : H (s.heap.objs.size + 1) = none := I.hok.fresh (Nat.le_succ _)
  have hq := h _ _ h1 h0 (Nat.ne_of_lt (Nat.lt_succ_self _))
  have J := L2.Inv.made (C := C) I
  have rr : Vals (V.ref (s.heap.objs.size + 1) :: vs) (Value.ref (s.heap.objs.size + 1) :: us) := .cons rfl r
  have run := F _ X.stack _ _ (Value.ref (s.heap.objs.size + 1) :: us) _ _ E (hr.make C us) (J.env0.make C us []) rr hq
  refine wpAny_call (make_map (f := f) I.kIn M.makes M.init (beq_iff_eq.mp M.fn) (codeAny_mono run fun z s' hz => ?_))
  have hz' := ends_of hx J z s' hz
  match z, hz' with
  | .error e, q => exact q
  | .ok (.ret u), ⟨v, H', I3, rv, ev, q3⟩ =>
    subst ev
    exact ⟨rv, V.ref (s.heap.objs.size + 1), H', I3, rfl, q3⟩
  | .ok .next, q => exact q.elim
  | .ok .brk, q => exact q.elim
  | .ok .cont, q => exact q.elim
end
/-! ### a body -/
section
variable {CX : CXT} {P : Program} {w : World} {K : PySem.W.Frag} {mg : Str → Option Value} {base : Heap} {k : Nat} {f : Addr} {name qual : Str} {params : Arguments} {body : List Stmt} {scope : Scope} {dV kV doc pm cdv ct oc : Value} {an od : Option Addr}
  {osl : Array (Option Value)} {N ps : List Str}
theorem body_end {A : Around} {outer : List PySem.Env} {s0 s1 : Shared} {H0 H1 : Hp} {E : XK} {Q : VK} {fl : Flow} {s' : Shared} (un : Un (frs outer) [] H0 H1 s0.heap s1.heap) (ho : s1.os = s0.os)
    (h : SP (cxOf CX P w K mg base N qual scope f cdv A outer s1 H1 E) [] { nx := fun _ H' => Q .non H', rt := Q } fl s') : CR CX outer P w H0 s0 Q E (.ok (match fl with | .ret v => .ret v | _ => .ret .none)) s' := by
  have fin : ∀ {σ' : L2.St} {H' : Hp} {v : V} {u : Value}, L2.Inv (cxOf CX P w K mg base N qual scope f cdv A outer s1 H1 E) [] σ' H' s' → RelV v u → Q v H' → CE outer P w H0 s0 Q u s' :=
    fun J rv q => ⟨_, _, J.os.trans ho, J.bare, un.trans J.base, J.hok, rv, q⟩
  match fl, h with
  | .ret u, ⟨v, σ', H', J, rv, q⟩ => exact fin J rv q
  | .next, ⟨σ', H', J, q⟩ => exact fin (v := .non) (u := .none) J rfl q
  | .brk, ⟨_, _, _, q⟩ => exact q.elim
  | .cont, ⟨_, _, _, q⟩ => exact q.elim
/-- the arguments bound with objects laid on the way: G tells of the bound values and the heap -/
theorem run_body {A : Around} {outer : List PySem.Env} {s : Shared} {H : Hp} {args : Args} {Q : VK} {E : XK} {G : List V → Hp → Prop} (lk : K.lookup f = some ⟨oc, od, .func (PySem.W.fnOf name qual params body scope dV kV doc pm an cdv ct), osl⟩) (hcd : PySem.W.codeIn K cdv qual = true)
    (S : FnScope N ps scope) (hr : Rm (k + 1) A) (e0 : Env0 P w K mg base A outer s H) (hb : StX.Bnd CX P w K mg base (PySem.W.fnOf name qual params body scope dV kV doc pm an cdv ct) args ps A outer s H E G)
    (hbody : ∀ (s2 : Shared) (H2 : Hp) (vs : List V), G vs H2 → Rm k (A.deeper (envOfC qual scope s2.heap.objs.size f cdv)) → ∃ t, PSs (cxOf CX P w K mg base N qual scope f cdv A outer s2 H2 E) body t ∧ t { nx := fun _ H' => Q .non H', rt := Q } (L2.start N vs) H2) :
    codeAny (model P w) A (.call (.ref f) args) (CR CX outer P w H s Q E) s := by
  have KX : K.In s.heap := e0.mod.kin.keeps fun b o e => (e0.bs b o e).1
  refine codeAny_call_function hr.depth (KX _ _ lk) rfl S.co S.gen rfl (PySem.W.codeRec_of KX hcd) (hb _ _ _ fun s2 H2 vs us e2 un ho hx r hl g => ?_)
  have lim : s2.heap.NoLimit := e0.mod.nolimit.keeps fun b o e => (e2.bs b o e).1
  have hkind : ∀ y ∈ ps.zip us, scope.names.lookup y.1 = some .local ∨ (scope.names.lookup y.1 = some .cell ∧ ((cellsFrom (s2.heap.objs.size + 1) scope.names []).lookup y.1).isSome = true) := by
    intro y hy
    rcases S.par y.1 (List.of_mem_zip hy).1 with q | q
    · exact Or.inl q
    · exact Or.inr ⟨q, PySem.W.cellsFrom_some _ _ _ (Or.inl q)⟩
  refine wpAny_newFunctionEnv_cells (s := s2) S.kind hkind fun env he s1 x => ?_
  subst he
  refine ⟨lim.keeps x.toInCall.keep, codeAny_func ?_⟩
  obtain ⟨t, ht, hq⟩ := hbody s2 H2 vs g (hr.inner _)
  have I := inv_start (CX := CX) (E := E) (w := w) S hr.hd e2 hl r x
  refine wpAny_mono (ht.run [] s1 _ _ _ I hq) (fun fl s' hs => ?_) fun e s' hs => ?_
  · have z := body_end (cdv := cdv) un ho hs
    cases fl with
    | ret u => exact z
    | next => exact z
    | brk => exact z
    | cont => exact z
  · exact wpAny_mono hs (fun _ s'' z => hx e s'' z) fun e' s'' z => hx e' s'' z
end
end Oz

end

section
set_option maxHeartbeats 4000000
/-! Oz6: the rules of expressions. -/
namespace Oz
open PySem PySem.Spec PyProof.Rows L2
/-! ### what is asked of the program around -/
/-- a def's promise: it does what g does -/
def spC (K : PySem.W.Frag) (mg : Str → Option Value) (g : List U → Sto → R U) : Sp := fun vs H Q E => ∃ ρ S us, Wok K mg ρ S H ∧ RelUs K ρ H us vs ∧ Post mg K (RelU K) E ρ H (g us S) Q
structure Names where
  fns : List Str
  mets : List (Str × Str)
  clss : List Str
  flds : List (Str × Str)
  xcs : List (Str × Str)
  bins : List Str
  kws : List (Str × Nat × List Str)
/-- what the written part says, once for all -/
structure Sta (p : Pg) (nm : Names) (K : PySem.W.Frag) (mg : Str → Option Value) (ad : Str → Addr) : Prop where
  glo : ∀ x u, p.glo x = some u → ∃ w v, mg x = some w ∧ RelV v w ∧ ∀ ρ H, RelU K ρ H u v
  fn : ∀ f, f ∈ nm.fns → mg f = some (.ref (ad f)) ∧ PySem.W.keepIn K (.ref (ad f)) = true
  met : ∀ C m, (C, m) ∈ nm.mets → BMeth K (ad C) m (ad (C ++ "." ++ m))
  cls : ∀ C, C ∈ nm.clss → mg C = some (.ref (ad C)) ∧ Cls K (ad C) ∧ Mk K (ad C) (ad (C ++ ".__init__"))
  fld : ∀ C f, (C, f) ∈ nm.flds → NoAttr K (ad C) f
  bin : ∀ x, x ∈ nm.bins → mg x = none
/-- what an exception's __init__ does -/
def spX (C : Addr) (f : Str) : Sp := fun vs H Q _ => ∃ a y, vs = [.ref a, y] ∧ H a = some (exo a C none) ∧ ∀ dx, H dx = none → dx ≠ a → Q .non (upd (upd H dx (exd dx [(f, y)])) a (exo a C (some dx)))
structure XcOk (P : Program) (w : World) (K : PySem.W.Frag) (mg : Str → Option Value) (base : Heap) (ad : Str → Addr) (C f : Str) : Prop where
  gC : mg C = some (.ref (ad C))
  T : OexC K (ad C)
  iC : PySem.W.findIn K (.ref (ad C)) "__init__" = some (some (.ref (ad (C ++ ".__init__"))))
  tI : PySem.W.typeIn K (.ref (ad (C ++ ".__init__"))) = some (.type "function")
  fn : ∃ fd ps, FnOk P w K mg base (L2.CX P w) 1 (ad (C ++ ".__init__")) fd ps (spX (ad C) f) ∧ Binds K fd ps []
  kp : PySem.W.keepIn K (.ref (ad C)) = true
/-- the module's dicts with text keys -/
def GdOk (p : Pg) (K : PySem.W.Frag) (mg : Str → Option Value) (w : World) : Prop := ∀ x kvs, p.gd x = some kvs → ∃ a es n, mg x = some (.ref a) ∧ KDict K w a es n ∧ (∀ z u, kvs.lookup z = some u → ∃ u0 v, PySem.W.nsIn K a z = some (some u0) ∧ RelV v u0 ∧ ∀ ρ H, RelU K ρ H u v) ∧ ∀ z, kvs.lookup z = none → PySem.W.nsIn K a z = some none
structure Ok (X : Cx) (p : Pg) (nm : Names) (ad : Str → Addr) (d : Nat) (W : XK) : Prop where
  sta : Sta p nm X.K X.mg ad
  gdi : GdOk p X.K X.mg X.w
  xc : ∀ C f, (C, f) ∈ nm.xcs → XcOk X.prog X.w X.K X.mg X.base ad C f
  take : Takes X (fun cls d _ H => W cls d H)
  own : PassesOwn (model X.prog X.w) X.A X.env X.xe
  calm : X.calm = true
  room : Rm (d + 2) X.A
  pass : Passes (L2.CX X.prog X.w) X W
  call : ∀ f, FnQ X.prog X.w X.K X.mg X.base (L2.CX X.prog X.w) (d + 2) (ad f) (spC X.K X.mg ((p.cal d).call f))
  init : ∀ f, FnQ X.prog X.w X.K X.mg X.base (L2.CX X.prog X.w) (d + 1) (ad f) (spC X.K X.mg ((p.cal d).init f))
  kcall : ∀ f n ks, (f, n, ks) ∈ nm.kws → FnK X.prog X.w X.K X.mg X.base (L2.CX X.prog X.w) (d + 2) (ad f) n ks (spC X.K X.mg ((p.cal d).kcal f))
theorem Ok.hu {X : Cx} {p : Pg} {nm : Names} {ad : Str → Addr} {d : Nat} {W : XK} (O : Ok X p nm ad d W) : X.A.units + 65 < cLine := by
  have := O.room.un
  omega

/-! ### readings -/
def tE (X : Cx) (Φ : Cal) (W : XK) (e : E) : TE := fun σ H Q => ∃ ρ S env, Wok X.K X.mg ρ S H ∧ EnvOk X.K ρ H env σ ∧ Post X.mg X.K (RelU X.K) W ρ H (ev Φ e env S) Q
def tEs (X : Cx) (Φ : Cal) (W : XK) (e : Es) : TA := fun σ H Q => ∃ ρ S env, Wok X.K X.mg ρ S H ∧ EnvOk X.K ρ H env σ ∧ Post X.mg X.K (RelUs X.K) W ρ H (evs Φ e env S) Q
def Rid {α : Type} : List Addr → Hp → α → α → Prop := fun _ _ a b => a = b
def tTs (X : Cx) (Φ : Cal) (W : XK) (e : T) : TT := fun σ H Q => ∃ ρ S env, Wok X.K X.mg ρ S H ∧ EnvOk X.K ρ H env σ ∧ Post X.mg X.K Rid W ρ H (evt Φ e env S) Q
def tEo (X : Cx) (Φ : Cal) (W : XK) (e : Eo) : TO := fun σ H Q => ∃ ρ S env, Wok X.K X.mg ρ S H ∧ EnvOk X.K ρ H env σ ∧ Post X.mg X.K Rid W ρ H (evo Φ e env S) Q
theorem PEw {X : Cx} {e : Expr} {t t' : TE} (h : PE X e t) (i : ∀ σ H Q, t' σ H Q → t σ H Q) : PE X e t' := ⟨fun pins s σ H Q I q => h.run pins s σ H Q I (i _ _ _ q)⟩
theorem PTw' {X : Cx} {e : Expr} {t t' : TT} (h : PT X e t) (i : ∀ σ H Q, t' σ H Q → t σ H Q) : PT X e t' := ⟨fun pins s σ H Q I q => h.run pins s σ H Q I (i _ _ _ q)⟩
theorem PWw {X : Cx} {e : Expr} {t t' : TT} (h : PW X e t) (i : ∀ σ H Q, t' σ H Q → t σ H Q) : PW X e t' := ⟨fun wh pins s σ H Q I q => h.run wh pins s σ H Q I (i _ _ _ q)⟩
theorem PAw {X : Cx} {e : List Expr} {t t' : TA} (h : PA X e t) (i : ∀ σ H Q, t' σ H Q → t σ H Q) : PA X e t' := ⟨fun pos pins s σ H Q I q => h.run pos pins s σ H Q I (i _ _ _ q)⟩
theorem POw {X : Cx} {e : Option Expr} {t t' : TO} (h : PO X e t) (i : ∀ σ H Q, t' σ H Q → t σ H Q) : PO X e t' := ⟨fun pins s σ H Q I q => h.run pins s σ H Q I (i _ _ _ q)⟩

section
variable {X : Cx} {p : Pg} {nm : Names} {ad : Str → Addr} {d : Nat} {W : XK} {a b e c o : Expr} {es : List Expr} {ta tb te to : E} {tc td : T} {tes : Es} {pos : Pos}
/-! ### names, constants -/
theorem s_v (i : Nat) {x : Str} (hN : X.N[i]? = some x := by rfl) (hv : Vis X.env.scope x := by first | exact Or.inl rfl | exact Or.inr (Or.inl rfl) | exact Or.inr (Or.inr rfl)) (hd : (x == ("__debug__" : Str)) = false := by decide)
    (hcd : (x == ("__classdict__" : Str)) = false := by decide) {Φ : Cal} : PE X (.Name x pos) (tE X Φ W (.v i)) := by
  refine PEw (pe_var hN hv hd hcd) fun σ H Q ⟨ρ, S, env, w, eo, h⟩ => ?_
  rw [ev] at h
  split at h
  · rename_i u hu
    obtain ⟨v, e, r⟩ := eo.ok i u hu
    exact ⟨v, e, h.here w r⟩
  · cases h
theorem s_int {i : Int} {j : Nat} {Φ : Cal} : PE X (.Constant (.int i) j pos) (tE X Φ W (.k (.int i))) := PEw pe_int fun σ H Q ⟨ρ, S, env, w, eo, h⟩ => by rw [ev] at h; exact h.here w relInt
theorem s_bl {i : Bool} {j : Nat} {Φ : Cal} : PE X (.Constant (.bool i) j pos) (tE X Φ W (.k (.bl i))) := PEw pe_bl fun σ H Q ⟨ρ, S, env, w, eo, h⟩ => by rw [ev] at h; exact h.here w relBl
theorem s_str {i : Str} {j : Nat} {Φ : Cal} : PE X (.Constant (.str i) j pos) (tE X Φ W (.k (.str i))) := PEw pe_str fun σ H Q ⟨ρ, S, env, w, eo, h⟩ => by rw [ev] at h; exact h.here w relStr
theorem s_non {j : Nat} {Φ : Cal} : PE X (.Constant .none j pos) (tE X Φ W (.k .non)) := PEw pe_non fun σ H Q ⟨ρ, S, env, w, eo, h⟩ => by rw [ev] at h; exact h.here w relNon
theorem cal_glo (p : Pg) : ∀ d, (p.cal d).glo = p.glo
  | 0 => rfl
  | _ + 1 => rfl
theorem cal_xf (p : Pg) : ∀ d, (p.cal d).xf = p.xf
  | 0 => rfl
  | _ + 1 => rfl
theorem s_g (O : Ok X p nm ad d W) {x : Str} (hg : Gl X x := by rfl) (hp : (p.glo x).isSome = true := by decide +kernel) (hd : (x == ("__debug__" : Str)) = false := by decide) : PE X (.Name x pos) (tE X (p.cal d) W (.g x)) := by
  obtain ⟨u, hu⟩ := Option.isSome_iff_exists.mp hp
  obtain ⟨w0, v, hm, rv, ru⟩ := O.sta.glo x u hu
  refine PEw (pe_glob hg hm rv hd) fun σ H Q ⟨ρ, S, env, w, eo, h⟩ => ?_
  rw [ev, cal_glo, hu] at h
  exact h.here w (ru ρ H)
theorem cal_gd (p : Pg) : ∀ d, (p.cal d).gd = p.gd
  | 0 => rfl
  | _ + 1 => rfl
/-- an item of a dict of the module -/
theorem s_gd (O : Ok X p nm ad d W) {x : Str} {px : Pos} (hb : PE X b (tE X (p.cal d) W tb)) (hg : Gl X x := by rfl) (hp : (p.gd x).isSome = true := by decide +kernel) (hd : (x == ("__debug__" : Str)) = false := by decide) (hs : PlainIx b := by exact fun _ _ => rfl) :
    PE X (.Subscript (.Name x px) b pos) (tE X (p.cal d) W (.gd x tb)) := by
  obtain ⟨kvs, hk⟩ := Option.isSome_iff_exists.mp hp
  obtain ⟨a, es, n, hm, kd, hv, _⟩ := O.gdi x kvs hk
  refine PEw (pe_ix ix_kdict (pe_glob hg hm (v := .ref a) rfl hd) hb hs) fun σ H Q ⟨ρ, S, env, w, eo, h⟩ => ?_
  rw [ev, cal_gd, hk] at h
  refine ⟨ρ, S, env, w, eo, (Post.bind h).imp fun y H1 ⟨ρ1, S1, u, e1, w1, r1, h1⟩ => ?_⟩
  cases u with
  | str z =>
    cases r1.str
    replace h1 : Post X.mg X.K (RelU X.K) W ρ1 H1 (rO (kvs.lookup z) S1) Q := h1
    unfold rO at h1
    split at h1
    · rename_i u' hu
      obtain ⟨u0, v, hn, rv, ru⟩ := hv z u' hu
      exact ⟨a, z, v, rfl, rfl, ⟨es, n, u0, kd.at_, kd.lit, hn, rv⟩, h1.here w1 (ru ρ1 H1)⟩
    · cases h1
  | _ => exact h1.elim
/-- k in a dict of the module -/
theorem s_din (O : Ok X p nm ad d W) {x : Str} {px : Pos} (hb : PE X b (tE X (p.cal d) W tb)) (hg : Gl X x := by rfl) (hp : (p.gd x).isSome = true := by decide +kernel) (hd : (x == ("__debug__" : Str)) = false := by decide) (hmk : behindInMarks CmpOp.In (.Name x px) = false := by rfl) :
    PE X (.Compare b [.In] [.Name x px] pos) (tE X (p.cal d) W (.din x tb)) := by
  obtain ⟨kvs, hk⟩ := Option.isSome_iff_exists.mp hp
  obtain ⟨a, es, n, hm, kd, hv, hn⟩ := O.gdi x kvs hk
  refine PEw (pe_cmpR (op_in_kd kd) hb (pe_glob hg hm (v := .ref a) rfl hd) hmk) fun σ H Q ⟨ρ, S, env, w, eo, h⟩ => ?_
  rw [ev, cal_gd, hk] at h
  refine ⟨ρ, S, env, w, eo, (Post.bind h).imp fun y H1 ⟨ρ1, S1, u, e1, w1, r1, h1⟩ => ?_⟩
  cases u with
  | str z =>
    cases r1.str
    replace h1 : Post X.mg X.K (RelU X.K) W ρ1 H1 (.ok (.bl (kvs.lookup z).isSome) S1) Q := h1
    cases hl : kvs.lookup z with
    | some u' =>
      obtain ⟨u0, v, hn', _, _⟩ := hv z u' hl
      rw [hl] at h1
      exact ⟨z, some u0, rfl, rfl, hn', h1.here w1 relBl⟩
    | none =>
      rw [hl] at h1
      exact ⟨z, none, rfl, rfl, hn z hl, h1.here w1 relBl⟩
  | _ => exact h1.elim
/-- D.get(k, v) of a dict of the module -/
theorem s_gget (O : Ok X p nm ad d W) {x : Str} {px apos : Pos} (hb : PE X b (tE X (p.cal d) W tb)) (hc : PE X c (tE X (p.cal d) W te)) (hg : Gl X x := by rfl) (hp : (p.gd x).isSome = true := by decide +kernel) (hd : (x == ("__debug__" : Str)) = false := by decide)
    (base : attributeBase (.Name x px) "get" X.env (eval (.Name x px) X.env) = eval (.Name x px) X.env := by rfl)
    (few : ((backTo pos (starEach [b, c] X.env)).all (fun x => !x.1) && (backToKw pos (keywordEach [] X.env)).all (fun x => x.1.isSome) && decide (([b, c] : List Expr).length + ([] : List Keyword).length + (if ([] : List Keyword).isEmpty then 0 else 1) < 30)) = true := by rfl)
    (line : (apos.endLine == pos.line) = true := by rfl) (trees : backTo pos (starEach [b, c] X.env) = [(false, eval b X.env), (false, eval c X.env)] := by rfl) :
    PE X (.Call (.Attribute (.Name x px) "get" apos) [b, c] [] pos) (tE X (p.cal d) W (.gget x tb te)) := by
  obtain ⟨kvs, hk⟩ := Option.isSome_iff_exists.mp hp
  obtain ⟨a, es, n, hm, kd, hv, hn⟩ := O.gdi x kvs hk
  refine ⟨fun pins s σ H Q I ⟨ρ, S, env, w, eo, h⟩ => ?_⟩
  rw [ev, cal_gd, hk] at h
  have ld := (pe_glob (X := X) (x := x) (pos := px) hg hm (v := .ref a) rfl hd).run pins s σ H (fun v H1 => v = .ref a ∧ H1 = H) I ⟨rfl, rfl⟩
  refine wpAny_Call_method base few line PySem.F.plainAttrs_dict PySem.F.slot_dict_get PySem.F.type_dict_get (thn ld fun u s1 ⟨v, H1, I1, rv, ev1, eh⟩ => ?_)
  subst ev1 eh
  obtain rfl : u = Value.ref a := rv
  have mo := PySem.W.mapOf_K (prog := X.prog) (w := X.w) I1.kIn kd.at_ kd.lit
  refine ⟨mo.typeIs, fun q e => ?_, ?_⟩
  · cases e
    exact ⟨_, I1.kIn _ _ kd.at_, rfl⟩
  · rw [trees]
    refine Calls.callWith_builtin rfl (Calls.evalArgs_plain (Calls.spliced_cons (thn (hb.run pins s1 σ H1 _ I1 ⟨ρ, S, env, w, eo, Post.bind h⟩) fun iv s2 ⟨y, H2, I2, ry, ρ2, S2, k, e2, w2, r2, h2⟩ =>
      Calls.spliced_cons (thn (hc.run pins s2 σ H2 _ I2 ⟨ρ2, S2, env, w2, eo.mono e2, Post.bind h2⟩) fun fv s3 ⟨z, H3, I3, rz, ρ3, S3, v, e3, w3, r3, h3⟩ => Calls.spliced_nil ?_))))
    cases k with
    | str t =>
      cases r2.str
      obtain ⟨tk, rfl⟩ := ry
      replace h3 : Post X.mg X.K (RelU X.K) W ρ3 H3 (.ok ((kvs.lookup t).getD v) S3) Q := h3
      have mo3 := PySem.W.mapOf_K (prog := X.prog) (w := X.w) I3.kIn kd.at_ kd.lit
      cases hl : kvs.lookup t with
      | some u' =>
        obtain ⟨u0, v0, hn0, rv0, ru⟩ := hv t u' hl
        rw [hl] at h3
        refine PySem.call_meetsIn PySem.F.slot_dict_get mo3.typeIs PySem.F.entry_dict_get (PySem.F.args_dict_get_3 _ _ _) (meets_dict_get_default (strKind X.prog X.w) a (strKind_is X.prog X.w t tk) kd.low fv) ⟨_, mo3, ?_⟩
        rw [PySem.W.find_K kd.at_ hn0]
        exact ⟨v0, H3, I3.tok _, rv0, h3.here w3 (ru ρ3 H3)⟩
      | none =>
        rw [hl] at h3
        refine PySem.call_meetsIn PySem.F.slot_dict_get mo3.typeIs PySem.F.entry_dict_get (PySem.F.args_dict_get_3 _ _ _) (meets_dict_get_default (strKind X.prog X.w) a (strKind_is X.prog X.w t tk) kd.low fv) ⟨_, mo3, ?_⟩
        rw [PySem.W.find_K kd.at_ (hn t hl)]
        exact ⟨z, H3, I3.tok _, rz, h3.here w3 r3⟩
    | _ => exact h3.elim

/-! ### argument lists, displays -/
theorem s_nil {Φ : Cal} : PA X [] (tEs X Φ W .nil) := PAw pa_nil fun σ H Q ⟨ρ, S, env, w, eo, h⟩ => by rw [evs] at h; exact h.here w RelUs.nil
theorem s_cons {Φ : Cal} (ha : PE X e (tE X Φ W te)) (hr : PA X es (tEs X Φ W tes)) (hs : starEach (e :: es) X.env = (false, eval e X.env) :: starEach es X.env := by rfl) : PA X (e :: es) (tEs X Φ W (.cons te tes)) := by
  refine PAw (pa_cons ha hr hs) fun σ H Q ⟨ρ, S, env, w, eo, h⟩ => ?_
  rw [evs] at h
  refine ⟨ρ, S, env, w, eo, (Post.bind h).imp fun x H1 ⟨ρ1, S1, u, e1, w1, r1, h1⟩ => ⟨ρ1, S1, env, w1, eo.mono e1, (Post.bind h1).imp fun xs H2 ⟨ρ2, S2, us, e2, w2, r2, h2⟩ => ?_⟩⟩
  exact h2.here w2 (RelUs.cons (r1.mono e2) r2)
theorem s_star {Φ : Cal} {sp : Pos} (ha : PE X e (tE X Φ W te)) (hr : PA X es (tEs X Φ W tes)) (hs : starEach (.Starred e sp :: es) X.env = (true, eval e X.env) :: starEach es X.env := by rfl) : PA X (.Starred e sp :: es) (tEs X Φ W (.star te tes)) := by
  refine PAw (StX.pa_star ha hr hs) fun σ H Q ⟨ρ, S, env, w, eo, h⟩ => ?_
  rw [evs] at h
  refine ⟨ρ, S, env, w, eo, (Post.bind h).imp fun x H1 ⟨ρ1, S1, u, e1, w1, r1, h1⟩ => ?_⟩
  split at h1
  · rename_i xs hx
    obtain ⟨a, vs, rfl, hq, hr⟩ := w1.items hx r1
    refine ⟨a, vs, rfl, hq.symm, ρ1, S1, env, w1, eo.mono e1, (Post.bind h1).imp fun ys H2 ⟨ρ2, S2, us, e2, w2, r2, h2⟩ => ?_⟩
    exact h2.here w2 ((hr.mono e2).append r2)
  · cases h1
theorem s_tup {Φ : Cal} {k : Nat} (h : PA X es (tEs X Φ W tes)) : PE X (.Tuple es k pos) (tE X Φ W (.tup tes)) := by
  refine PEw (pe_tup h) fun σ H Q ⟨ρ, S, env, w, eo, h⟩ => ?_
  rw [ev] at h
  refine ⟨ρ, S, env, w, eo, (Post.bind h).imp fun xs H1 ⟨ρ1, S1, us, e1, w1, r1, h1⟩ => ?_⟩
  split at h1
  · rename_i hz
    exact ⟨by rw [r1.length]; exact hz, fun q hq => h1.tup w1 r1 hq⟩
  · cases h1
theorem s_lst {Φ : Cal} (h : PA X es (tEs X Φ W tes)) : PE X (.List es pos) (tE X Φ W (.lst tes)) := by
  refine PEw (pe_lst h) fun σ H Q ⟨ρ, S, env, w, eo, h⟩ => ?_
  rw [ev] at h
  refine ⟨ρ, S, env, w, eo, (Post.bind h).imp fun xs H1 ⟨ρ1, S1, us, e1, w1, r1, h1⟩ => ?_⟩
  split at h1
  · rename_i hz
    exact ⟨by rw [r1.length]; exact hz, fun q hq => h1.lst w1 r1 hq⟩
  · cases h1

/-! ### operators -/
theorem two {Φ : Cal} {f : U → U → Sto → R U} {σ : L2.St} {H : Hp} {Q : VK} {ρ : List Addr} {S : Sto} {env : Env} (w : Wok X.K X.mg ρ S H) (eo : EnvOk X.K ρ H env σ)
    (h : Post X.mg X.K (RelU X.K) W ρ H ((ev Φ ta env S).bind fun x S => (ev Φ tb env S).bind fun y S => f x y S) Q) : tE X Φ W ta σ H fun x H1 => tE X Φ W tb σ H1 fun y H2 => r2 X W f x y H2 Q :=
  ⟨ρ, S, env, w, eo, (Post.bind h).imp fun x H1 ⟨ρ1, S1, u, e1, w1, r1, h1⟩ => ⟨ρ1, S1, env, w1, eo.mono e1, (Post.bind h1).imp fun y H2 ⟨ρ2, S2, u2, e2, w2, r2, h2⟩ => ⟨ρ2, S2, u, u2, w2, r1.mono e2, r2, h2⟩⟩⟩
theorem s_bin {Φ : Cal} (o : Op) (ha : PE X a (tE X Φ W ta)) (hb : PE X b (tE X Φ W tb)) : PE X (.BinOp a (opOf o) b pos) (tE X Φ W (.bin o ta tb)) :=
  PEw (pe_op (op_bin (W := W) o) ha hb) fun σ H Q ⟨ρ, S, env, w, eo, h⟩ => by rw [ev] at h; exact two w eo h
theorem s_neg {Φ : Cal} (ha : PE X a (tE X Φ W ta)) : PE X (.UnaryOp .USub a pos) (tE X Φ W (.neg ta)) := by
  refine PEw (pe_un un_neg ha) fun σ H Q ⟨ρ, S, env, w, eo, h⟩ => ?_
  rw [ev] at h
  refine ⟨ρ, S, env, w, eo, (Post.bind h).imp fun x H1 ⟨ρ1, S1, u, e1, w1, r1, h1⟩ => ?_⟩
  split at h1
  · cases r1.int
    exact ⟨_, rfl, h1.here w1 relInt⟩
  · cases h1
theorem s_cmp (O : Ok X p nm ad d W) {Φ : Cal} (o : Cm) (ha : PE X a (tE X Φ W ta)) (hb : PE X b (tE X Φ W tb)) (hm : behindInMarks (cmOf o) b = false := by rfl) : PE X (.Compare a [cmOf o] [b] pos) (tE X Φ W (.cmp o ta tb)) :=
  PEw (pe_cmpR (op_cmp (W := W) O.hu o) ha hb hm) fun σ H Q ⟨ρ, S, env, w, eo, h⟩ => by rw [ev] at h; exact two w eo h
theorem s_one {Φ : Cal} {op : BoolOp} (h : PE X a (tE X Φ W ta)) : PE X (.BoolOp op [a] pos) (tE X Φ W ta) := pe_one h
theorem s_and {Φ : Cal} {rest : List Expr} (ha : PE X a (tE X Φ W ta)) (hb : PE X (.BoolOp .And (b :: rest) pos) (tE X Φ W tb)) : PE X (.BoolOp .And (a :: b :: rest) pos) (tE X Φ W (.and ta tb)) := by
  refine PEw (pe_and ha hb) fun σ H Q ⟨ρ, S, env, w, eo, h⟩ => ?_
  rw [ev] at h
  refine ⟨ρ, S, env, w, eo, (Post.bind h).imp fun x H1 ⟨ρ1, S1, u, e1, w1, r1, h1⟩ => ?_⟩
  split at h1
  · cases r1.bl
    exact ⟨true, rfl, iteT ⟨ρ1, S1, env, w1, eo.mono e1, h1⟩⟩
  · cases r1.bl
    exact ⟨false, rfl, iteF (h1.here w1 relBl)⟩
  · cases h1
theorem s_or {Φ : Cal} {rest : List Expr} (ha : PE X a (tE X Φ W ta)) (hb : PE X (.BoolOp .Or (b :: rest) pos) (tE X Φ W tb)) : PE X (.BoolOp .Or (a :: b :: rest) pos) (tE X Φ W (.or ta tb)) := by
  refine PEw (pe_or ha hb) fun σ H Q ⟨ρ, S, env, w, eo, h⟩ => ?_
  rw [ev] at h
  refine ⟨ρ, S, env, w, eo, (Post.bind h).imp fun x H1 ⟨ρ1, S1, u, e1, w1, r1, h1⟩ => ?_⟩
  split at h1
  · cases r1.bl
    exact ⟨true, rfl, iteT (h1.here w1 relBl)⟩
  · cases r1.bl
    exact ⟨false, rfl, iteF ⟨ρ1, S1, env, w1, eo.mono e1, h1⟩⟩
  · cases h1
theorem s_not {Φ : Cal} (ha : PE X a (tE X Φ W ta)) : PE X (.UnaryOp .Not a pos) (tE X Φ W (.not ta)) := by
  refine PEw (pe_not ha) fun σ H Q ⟨ρ, S, env, w, eo, h⟩ => ?_
  rw [ev] at h
  refine ⟨ρ, S, env, w, eo, (Post.bind h).imp fun x H1 ⟨ρ1, S1, u, e1, w1, r1, h1⟩ => ?_⟩
  split at h1
  · cases r1.bl
    exact ⟨_, rfl, h1.here w1 relBl⟩
  · cases h1
theorem s_ife {Φ : Cal} (hc : PT X c (tTs X Φ W tc)) (ha : PE X a (tE X Φ W ta)) (hb : PE X b (tE X Φ W tb)) : PE X (.IfExp c a b pos) (tE X Φ W (.ife tc ta tb)) := by
  refine PEw (pe_ifExp hc ha hb) fun σ H Q ⟨ρ, S, env, w, eo, h⟩ => ?_
  rw [ev] at h
  refine ⟨ρ, S, env, w, eo, (Post.bind (Rr := Rid) h).imp fun x H1 ⟨ρ1, S1, u, e1, w1, r1, h1⟩ => ?_⟩
  cases r1
  cases x with
  | true => exact iteT ⟨ρ1, S1, env, w1, eo.mono e1, h1⟩
  | false => exact iteF ⟨ρ1, S1, env, w1, eo.mono e1, h1⟩
theorem s_ix {Φ : Cal} (ha : PE X a (tE X Φ W ta)) (hb : PE X b (tE X Φ W tb)) (hs : PlainIx b := by exact fun _ _ => rfl) : PE X (.Subscript a b pos) (tE X Φ W (.ix ta tb)) :=
  PEw (pe_ix (ix_any (W := W)) ha hb hs) fun σ H Q ⟨ρ, S, env, w, eo, h⟩ => by rw [ev] at h; exact two w eo h
theorem s_no {Φ : Cal} : PO X none (tEo X Φ W .no) := POw po_none fun σ H Q ⟨ρ, S, env, w, eo, h⟩ => by rw [evo] at h; exact h.here w rfl
theorem s_so {Φ : Cal} (h : PE X a (tE X Φ W ta)) : PO X (some a) (tEo X Φ W (.so ta)) := by
  refine POw (po_some h) fun σ H Q ⟨ρ, S, env, w, eo, h⟩ => ?_
  rw [evo] at h
  refine ⟨ρ, S, env, w, eo, (Post.bind h).imp fun x H1 ⟨ρ1, S1, u, e1, w1, r1, h1⟩ => ?_⟩
  split at h1
  · cases r1.int
    exact ⟨_, rfl, h1.here w1 rfl⟩
  · cases h1
theorem s_sl {Φ : Cal} {lo hi : Option Expr} {tl th : Eo} {p2 : Pos} (ha : PE X a (tE X Φ W ta)) (hl : PO X lo (tEo X Φ W tl)) (hh : PO X hi (tEo X Φ W th)) : PE X (.Subscript a (.Slice lo hi none p2) pos) (tE X Φ W (.sl ta tl th)) := by
  refine PEw (pe_slice (sl_any (W := W)) ha hl hh) fun σ H Q ⟨ρ, S, env, w, eo, h⟩ => ?_
  rw [ev] at h
  exact ⟨ρ, S, env, w, eo, (Post.bind h).imp fun x H1 ⟨ρ1, S1, u, e1, w1, r1, h1⟩ => ⟨ρ1, S1, env, w1, eo.mono e1, (Post.bind (Rr := Rid) h1).imp fun l H2 ⟨ρ2, S2, l', e2, w2, r2, h2⟩ =>
    ⟨ρ2, S2, env, w2, (eo.mono e1).mono e2, (Post.bind (Rr := Rid) h2).imp fun l2 H3 ⟨ρ3, S3, l3, e3, w3, r3, h3⟩ => by cases r2; cases r3; exact ⟨ρ3, S3, u, w3, (r1.mono e2).mono e3, h3⟩⟩⟩⟩
/-! ### fields, calls -/
theorem ins_at {ρ : List Addr} {S : Sto} {H : Hp} {n : Nat} {x : V} {C : Str} {fs : List (Str × U)} (O : Ok X p nm ad d W) (hC : C ∈ nm.clss) (w : Wok X.K X.mg ρ S H) (r : RelU X.K ρ H (.loc n) x) (h : S[n]? = some (.ins C fs)) :
    ∃ a dx vfs, x = .ref a ∧ ρ[n]? = some a ∧ H a = some (.ins (ad C) dx vfs) ∧ RelF X.K ρ H fs vfs := by
  obtain ⟨a, rfl, ha⟩ := r.loc
  obtain ⟨Ca, dx, vfs, m, e, q⟩ := w.at_ h ha
  rw [(O.sta.cls C hC).1] at m
  cases m
  exact ⟨a, dx, vfs, rfl, ha, e, q⟩
theorem s_fld (O : Ok X p nm ad d W) {Φ : Cal} (C : Str) {f : Str} (ha : PE X a (tE X Φ W ta)) (hC : C ∈ nm.clss := by decide +kernel) (hf : (C, f) ∈ nm.flds := by decide +kernel) (hb : attributeBase a f X.env (eval a X.env) = eval a X.env := by rfl) :
    PE X (.Attribute a f pos) (tE X Φ W (.fld ta C f)) := by
  refine PEw (pe_fld ha hb) fun σ H Q ⟨ρ, S, env, w, eo, h⟩ => ?_
  rw [ev] at h
  refine ⟨ρ, S, env, w, eo, (Post.bind h).imp fun x H1 ⟨ρ1, S1, u, e1, w1, r1, h1⟩ => ?_⟩
  split at h1
  · split at h1
    · rename_i hn
      split at h1
      · rename_i hD
        subst hD
        obtain ⟨a, dx, vfs, rfl, hn', e, q⟩ := ins_at O hC w1 r1 hn
        unfold rO at h1
        split at h1
        · rename_i u' hu
          obtain ⟨v, l, rv⟩ := (q.look (f := f)).1 u' hu
          exact ⟨a, _, dx, vfs, v, rfl, e, (O.sta.cls _ hC).2.1, O.sta.fld _ _ hf, l, h1.here w1 rv⟩
        · cases h1
      · cases h1
    · cases h1
  · cases h1
theorem s_call (O : Ok X p nm ad d W) {f : Str} {px : Pos} (ha : PA X (e :: es) (tEs X (p.cal d) W tes)) (hg : Gl X f := by rfl) (hf : f ∈ nm.fns := by decide +kernel) (hdb : (f == ("__debug__" : Str)) = false := by decide)
    (he : starEach (e :: es) X.env = (false, eval e X.env) :: starEach es X.env := by rfl) (hpl : (backTo pos (starEach es X.env)).any (·.1) = false := by rfl) : PE X (.Call (.Name f px) (e :: es) [] pos) (tE X (p.cal d) W (.call f tes)) := by
  refine ⟨fun pins s σ H Q I ⟨ρ, S, env, w, eo, h⟩ => ?_⟩
  obtain ⟨hm, hk⟩ := O.sta.fn f hf
  rw [ev] at h
  refine wpAny_Call_Name_kw (ld_glob I hg hm ?_ hdb)
  refine PySem.W.callWith_K (h₀ := X.base) I.ok.mod.kin hk (thn (ha.run pos pins s σ H _ I ⟨ρ, S, env, w, eo, Post.bind h⟩) fun us s1 ⟨vs, H1, I1, r, ρ1, S1, us', e1, w1, r1, h1⟩ => ⟨I1.kIn, ?_⟩) he hpl
  exact run_fnQ (O.call f) O.room O.pass I1 r ⟨ρ1, S1, us', w1, r1, h1⟩
theorem s_call0 (O : Ok X p nm ad d W) {f : Str} {px : Pos} (hg : Gl X f := by rfl) (hf : f ∈ nm.fns := by decide +kernel) (hdb : (f == ("__debug__" : Str)) = false := by decide) : PE X (.Call (.Name f px) [] [] pos) (tE X (p.cal d) W (.call f .nil)) := by
  refine ⟨fun pins s σ H Q I ⟨ρ, S, env, w, eo, h⟩ => ?_⟩
  obtain ⟨hm, hk⟩ := O.sta.fn f hf
  rw [ev] at h
  simp only [evs, R.bind] at h
  refine wpAny_Call_Name_kw (ld_glob I hg hm ?_ hdb)
  exact PySem.W.callWith_K0 I.kIn hk (run_fnQ (us := []) (O.call f) O.room O.pass I .nil ⟨ρ, S, [], w, RelUs.nil, h⟩)
/-! ### keywords -/
def tK (X : Cx) (Φ : Cal) (W : XK) (e : Es) : TA := tEs X Φ W e
theorem PKw {kws : List Keyword} {t t' : TA} (h : PK X kws t) (i : ∀ σ H Q, t' σ H Q → t σ H Q) : PK X kws t' := ⟨fun pos pins s σ H Q I q => h.run pos pins s σ H Q I (i _ _ _ q)⟩
theorem k_nil {Φ : Cal} : PK X [] (tEs X Φ W .nil) := PKw pk_nil fun σ H Q ⟨ρ, S, env, w, eo, h⟩ => by rw [evs] at h; exact h.here w RelUs.nil
theorem k_cons {Φ : Cal} {kws : List Keyword} {na : Option Str} {kpos : Pos} (ha : PE X e (tE X Φ W te)) (hr : PK X kws (tEs X Φ W tes)) : PK X (⟨na, e, kpos⟩ :: kws) (tEs X Φ W (.cons te tes)) := by
  refine PKw (pk_cons ha hr) fun σ H Q ⟨ρ, S, env, w, eo, h⟩ => ?_
  rw [evs] at h
  refine ⟨ρ, S, env, w, eo, (Post.bind h).imp fun x H1 ⟨ρ1, S1, u, e1, w1, r1, h1⟩ => ⟨ρ1, S1, env, w1, eo.mono e1, (Post.bind h1).imp fun xs H2 ⟨ρ2, S2, us, e2, w2, r2, h2⟩ => ?_⟩⟩
  exact h2.here w2 (RelUs.cons (r1.mono e2) r2)
theorem RelUs.mono' {ρ ρ' : List Addr} {H H' : Hp} {us : List U} {vs : List V} {K : PySem.W.Frag} (e : Ext ρ H ρ' H') (h : RelUs K ρ H us vs) : RelUs K ρ' H' us vs := RelUs.mono e h
/-- how many there are -/
def Es.plain : Es → Option Nat
  | .nil => some 0
  | .cons _ es => es.plain.map (· + 1)
  | .star _ _ => none
theorem evs_len {Φ : Cal} : ∀ {es : Es} {n : Nat} {env : Env} {S S' : Sto} {us : List U}, es.plain = some n → evs Φ es env S = .ok us S' → us.length = n
  | .nil, n, env, S, S', us, h, e => by
    rw [evs] at e
    cases e
    simp only [Es.plain, Option.some.injEq] at h
    exact h
  | .cons te es, n, env, S, S', us, h, e => by
    rw [evs] at e
    simp only [Es.plain] at h
    cases q : es.plain with
    | none => rw [q] at h; cases h
    | some m =>
      rw [q] at h
      simp only [Option.map_some, Option.some.injEq] at h
      cases q1 : ev Φ te env S with
      | ok u S1 =>
        rw [q1] at e
        simp only [R.bind] at e
        cases q2 : evs Φ es env S1 with
        | ok us1 S2 =>
          rw [q2] at e
          simp only [R.bind] at e
          cases e
          have := evs_len q q2
          simp [this, h]
        | exc c fs S2 => rw [q2] at e; cases e
        | bad => rw [q2] at e; cases e
      | exc c fs S1 => rw [q1] at e; cases e
      | bad => rw [q1] at e; cases e
  | .star _ _, _, _, _, _, _, h, _ => by simp [Es.plain] at h
theorem Post.bind' {α β γ δ : Type} {K : PySem.W.Frag} {mg : Str → Option Value} {Rr : List Addr → Hp → α → γ → Prop} {Rs : List Addr → Hp → β → δ → Prop} {ρ : List Addr} {H : Hp} {r : R α} {f : α → Sto → R β} {Q : δ → Hp → Prop} (h : Post mg K Rs W ρ H (r.bind f) Q) :
    Post mg K Rr W ρ H r fun b H1 => ∃ ρ1 S1 a, r = .ok a S1 ∧ Ext ρ H ρ1 H1 ∧ Wok K mg ρ1 S1 H1 ∧ Rr ρ1 H1 a b ∧ Post mg K Rs W ρ1 H1 (f a S1) Q := by
  cases r with
  | ok a S => exact fun ρ' H' b e w r => ⟨ρ', S, a, rfl, e, w, r, Post.ext e h⟩
  | exc c fs S => exact h
  | bad => exact h
/-- f(e, .., k = v, ..) -/
theorem s_kcall (O : Ok X p nm ad d W) {f : Str} {px : Pos} (n : Nat) (ks : List Str) {kws : List Keyword} {tks : Es} (ha : PA X (e :: es) (tEs X (p.cal d) W tes)) (hk : PK X kws (tEs X (p.cal d) W tks)) (hg : Gl X f := by rfl) (hf : f ∈ nm.fns := by decide +kernel) (hkw : (f, n, ks) ∈ nm.kws := by decide +kernel) (hdb : (f == ("__debug__" : Str)) = false := by decide)
    (h1 : tes.plain = some n := by rfl) (h2 : tks.plain = some ks.length := by rfl)
    (hall : (backToKw pos (keywordEach kws X.env)).all (·.1.isSome) = true := by rfl) (hks : (backToKw pos (keywordEach kws X.env)).filterMap (·.1) = ks := by rfl)
    (he : starEach (e :: es) X.env = (false, eval e X.env) :: starEach es X.env := by rfl)
    (hpl : ((backTo pos (starEach (e :: es) X.env)).any (·.1) || (backToKw pos (keywordEach kws X.env)).any (·.1.isNone)) = false := by rfl) : PE X (.Call (.Name f px) (e :: es) kws pos) (tE X (p.cal d) W (.kcall f tes tks)) := by
  refine ⟨fun pins s σ H Q I ⟨ρ, S, env, w, eo, h⟩ => ?_⟩
  obtain ⟨hm, hkp⟩ := O.sta.fn f hf
  rw [ev] at h
  refine wpAny_Call_Name_kw (ld_glob I hg hm ?_ hdb)
  refine PySem.W.callWith_KW (h₀ := X.base) I.ok.mod.kin hkp hall (thn (ha.run pos pins s σ H _ I ⟨ρ, S, env, w, eo, Post.bind' h⟩) fun us s1 ⟨vs, H1, I1, r, ρ1, S1, us', q1, e1, w1, r1, h1'⟩ => ?_) hpl he
  refine thn (hk.run pos pins s1 σ H1 _ I1 ⟨ρ1, S1, env, w1, eo.mono e1, Post.bind' h1'⟩) fun ws s2 ⟨zs, H2, I2, rz, ρ2, S2, zs', q2, e2, w2, r2, h2'⟩ => ⟨I2.kIn, ?_⟩
  rw [hks]
  exact run_fnK (O.kcall f n ks hkw) O.room O.pass I2 r rz (by show us.length = n; rw [← r.length, r1.length]; exact evs_len h1 q1) (by rw [← rz.length, r2.length]; exact evs_len h2 q2) ⟨ρ2, S2, us' ++ zs', w2, (r1.mono e2).append r2, h2'⟩
/-- f(e, .., *y) -/
theorem s_callS (O : Ok X p nm ad d W) {f : Str} {px : Pos} (ha : PA X (e :: es) (tEs X (p.cal d) W tes)) (hg : Gl X f := by rfl) (hf : f ∈ nm.fns := by decide +kernel) (hdb : (f == ("__debug__" : Str)) = false := by decide)
    (he : starEach (e :: es) X.env = (false, eval e X.env) :: starEach es X.env := by rfl) (hst : (backTo pos (starEach es X.env)).any (·.1) = true := by rfl) : PE X (.Call (.Name f px) (e :: es) [] pos) (tE X (p.cal d) W (.call f tes)) := by
  refine ⟨fun pins s σ H Q I ⟨ρ, S, env, w, eo, h⟩ => ?_⟩
  obtain ⟨hm, hk⟩ := O.sta.fn f hf
  rw [ev] at h
  refine wpAny_Call_Name_kw (ld_glob I hg hm ?_ hdb)
  refine PySem.W.callWith_S2 (h₀ := X.base) I.ok.mod.kin hk (thn (ha.run pos pins s σ H _ I ⟨ρ, S, env, w, eo, Post.bind h⟩) fun us s1 ⟨vs, H1, I1, r, ρ1, S1, us', e1, w1, r1, h1⟩ => ⟨I1.kIn, ?_⟩) he hst
  exact run_fnQ (O.call f) O.room O.pass I1 r ⟨ρ1, S1, us', w1, r1, h1⟩
theorem met_split {Φ : Cal} {C m : Str} {ρ : List Addr} {S : Sto} {H : Hp} {x : V} {u : U} {env : Env} {Q : VK} (O : Ok X p nm ad d W) (hC : C ∈ nm.clss) (w : Wok X.K X.mg ρ S H)
    (h : Post X.mg X.K (RelU X.K) W ρ H (match u with
      | .loc n => (match S[n]? with
        | some (.ins D fs) => if D = C ∧ fs.lookup m = none then (evs Φ tes env S).bind fun us S => Φ.call (C ++ "." ++ m) (.loc n :: us) S else .bad
        | _ => .bad)
      | _ => .bad) Q) (r : RelU X.K ρ H u x) : ∃ n a dx vfs, u = .loc n ∧ x = .ref a ∧ ρ[n]? = some a ∧ H a = some (.ins (ad C) dx vfs) ∧ vfs.lookup m = none ∧ Post X.mg X.K (RelU X.K) W ρ H ((evs Φ tes env S).bind fun us S => Φ.call (C ++ "." ++ m) (.loc n :: us) S) Q := by
  split at h
  · rename_i n
    split at h
    · rename_i hn
      split at h
      · rename_i hD
        obtain ⟨rfl, hl⟩ := hD
        obtain ⟨a, dx, vfs, rfl, hn', e, q⟩ := ins_at O hC w r hn
        exact ⟨n, a, dx, vfs, rfl, rfl, hn', e, (q.look (f := m)).2 hl, h⟩
      · cases h
    · cases h
  · cases h
theorem relLoc {K : PySem.W.Frag} {ρ : List Addr} {H : Hp} {n : Nat} {a : Addr} (h : ρ[n]? = some a) : RelU K ρ H (.loc n) (.ref a) := by simp only [RelU]; exact ⟨a, rfl, h⟩
theorem s_meth (O : Ok X p nm ad d W) (C : Str) {m : Str} {apos : Pos} {pl : Sem Bool} (ho : PE X o (tE X (p.cal d) W to)) (ha : PA X (e :: es) (tEs X (p.cal d) W tes)) (hC : C ∈ nm.clss := by decide +kernel) (hm : (C, m) ∈ nm.mets := by decide +kernel)
    (hst : starEach (e :: es) X.env = (false, eval e X.env) :: starEach es X.env := by rfl) (hpl : (backTo pos (starEach es X.env)).any (·.1) = false := by rfl)
    (ht : eval (.Call (.Attribute o m apos) (e :: es) [] pos) X.env = (do
      let ov ← eval o X.env
      standAt apos.atName
      let (f, first) ← holding [ov] (getMethod ov m pl)
      callWith pos f first (backTo pos (starEach (e :: es) X.env)) (backToKw pos (keywordEach [] X.env))) := by rfl) :
    PE X (.Call (.Attribute o m apos) (e :: es) [] pos) (tE X (p.cal d) W (.meth to C m tes)) := by
  refine ⟨fun pins s σ H Q I ⟨ρ, S, env, w, eo, h⟩ => ?_⟩
  rw [ev] at h
  refine PySem.W.methodCall_KW (pl := pl) (thn (ho.run pins s σ H _ I ⟨ρ, S, env, w, eo, Post.bind h⟩) fun u s1 ⟨x, H1, I1, rx, ρ1, S1, u', e1, w1, r1, h1⟩ => ?_) ht
  obtain ⟨n, a, dx, vfs, rfl, rfl, hn, ea, l, h1⟩ := met_split O hC w1 h1 r1
  obtain rfl : u = Value.ref a := rx
  refine getmeth_ok I1 ea (O.sta.cls C hC).2.1 (O.sta.met C m hm).mt l ?_
  refine PySem.W.callWith_K (first := [.ref a]) (h₀ := X.base) I1.ok.mod.kin (O.sta.met C m hm).mt.kp (thn (ha.run pos pins s1 σ H1 _ I1 ⟨ρ1, S1, env, w1, eo.mono e1, Post.bind h1⟩) fun us s2 ⟨vs, H2, I2, r, ρ2, S2, us', e2, w2, r2, h2⟩ => ⟨I2.kIn, ?_⟩) hst hpl
  exact run_fnQ (us := .ref a :: us) (vs := .ref a :: vs) (O.call (C ++ "." ++ m)) O.room O.pass I2 (.cons rfl r) ⟨ρ2, S2, .loc n :: us', w2, RelUs.cons (relLoc (e2.at_ hn)) r2, h2⟩
theorem s_meth0 (O : Ok X p nm ad d W) (C : Str) {m : Str} {apos : Pos} {pl : Sem Bool} (ho : PE X o (tE X (p.cal d) W to)) (hC : C ∈ nm.clss := by decide +kernel) (hm : (C, m) ∈ nm.mets := by decide +kernel)
    (ht : eval (.Call (.Attribute o m apos) [] [] pos) X.env = (do
      let ov ← eval o X.env
      standAt apos.atName
      let (f, first) ← holding [ov] (getMethod ov m pl)
      callWith pos f first (backTo pos (starEach [] X.env)) (backToKw pos (keywordEach [] X.env))) := by rfl) :
    PE X (.Call (.Attribute o m apos) [] [] pos) (tE X (p.cal d) W (.meth to C m .nil)) := by
  refine ⟨fun pins s σ H Q I ⟨ρ, S, env, w, eo, h⟩ => ?_⟩
  rw [ev] at h
  refine PySem.W.methodCall_KW (pl := pl) (thn (ho.run pins s σ H _ I ⟨ρ, S, env, w, eo, Post.bind h⟩) fun u s1 ⟨x, H1, I1, rx, ρ1, S1, u', e1, w1, r1, h1⟩ => ?_) ht
  obtain ⟨n, a, dx, vfs, rfl, rfl, hn, e, l, h1⟩ := met_split O hC w1 h1 r1
  obtain rfl : u = Value.ref a := rx
  simp only [evs, R.bind] at h1
  refine getmeth_ok I1 e (O.sta.cls C hC).2.1 (O.sta.met C m hm).mt l ?_
  exact PySem.W.callWith_K0 (first := [.ref a]) I1.kIn (O.sta.met C m hm).mt.kp (run_fnQ (us := [.ref a]) (vs := [.ref a]) (O.call (C ++ "." ++ m)) O.room O.pass I1 (.cons rfl .nil) ⟨ρ1, S1, [.loc n], w1, RelUs.cons (relLoc hn) RelUs.nil, h1⟩)
/-- o.m( *y) -/
theorem s_methS (O : Ok X p nm ad d W) (C : Str) {m : Str} {sp apos : Pos} (ho : PE X o (tE X (p.cal d) W to)) (ha : PE X e (tE X (p.cal d) W te)) (hC : C ∈ nm.clss := by decide +kernel) (hm : (C, m) ∈ nm.mets := by decide +kernel)
    (hbase : attributeBase o m X.env (eval o X.env) = eval o X.env := by rfl) : PE X (.Call (.Attribute o m apos) [.Starred e sp] [] pos) (tE X (p.cal d) W (.meth to C m (.star te .nil))) := by
  refine ⟨fun pins s σ H Q I ⟨ρ, S, env, w, eo, h⟩ => ?_⟩
  rw [ev] at h
  refine starcall_of hbase (thn (ho.run pins s σ H _ I ⟨ρ, S, env, w, eo, Post.bind h⟩) fun uo s1 ⟨x, H1, I1, rx, ρ1, S1, u, e1, w1, r1, h1⟩ => ?_)
  obtain ⟨n, a, dx, vfs, rfl, rfl, hn, ea, l, h1⟩ := met_split O hC w1 h1 r1
  obtain rfl : uo = Value.ref a := rx
  have bm := O.sta.met C m hm
  refine getbound_ok I1 ea (O.sta.cls C hC).2.1 bm l fun q s2 hq I2 => ?_
  have x0 : Ext ρ1 H1 ρ1 (upd H1 q (.met (ad (C ++ "." ++ m)) a)) := Ext.grow (upd_grow hq)
  have w0 := w1.grow (upd_grow (o := .met (ad (C ++ "." ++ m)) a) hq)
  rw [evs] at h1
  refine PySem.W.ks_call (P := PySem.W.MethP X.K q (ad (C ++ "." ++ m)) (.ref a)) rfl (PySem.W.keeps_M bm.fi) (PySem.W.ks_lone ?_)
  have hp : tE X (p.cal d) W te σ (upd H1 q (.met (ad (C ++ "." ++ m)) a)) fun y H2 => ∃ b vs, y = .ref b ∧ (SqT X.K H2 b vs ∨ SqL X.K H2 b vs) ∧ H2 q = some (.met (ad (C ++ "." ++ m)) a) ∧ spC X.K X.mg ((p.cal d).call (C ++ "." ++ m)) (.ref a :: vs) H2 Q W := by
    refine ⟨ρ1, S1, env, w0, (eo.mono e1).mono x0, ?_⟩
    cases hev : ev (p.cal d) te env S1 with
    | ok u2 S2 =>
      rw [hev] at h1
      simp only [R.bind] at h1
      intro ρ2 H2 y e2 w2 r2
      cases hi : items? S2 u2 with
      | some us =>
        rw [hi] at h1
        simp only [evs, List.append_nil] at h1
        obtain ⟨b, vs, rfl, hb, hr⟩ := w2.items hi r2
        refine ⟨b, vs, rfl, hb.symm, e2.imm q _ upd_same trivial, ρ2, S2, .loc n :: us, w2, RelUs.cons (relLoc (e2.at_ hn)) hr, ?_⟩
        exact Post.ext (x0.trans e2) h1
      | none =>
        rw [hi] at h1
        exact h1.elim
    | exc c fs S2 =>
      rw [hev] at h1
      exact Post.ext x0 h1
    | bad =>
      rw [hev] at h1
      exact h1.elim
  refine thn (ha.run pins s2 σ _ _ I2 hp) fun v s3 ⟨y, H2, I3, ry, b, vs, ey, ht, hmq, hsp⟩ => ?_
  subst ey
  obtain rfl : v = Value.ref b := ry
  refine StX.star_any I3 ht fun us s4 I4 rv => ⟨met_P I4 hmq, wpAny_call (PySem.W.method_call (met_P I4 hmq).1 ?_)⟩
  exact codeAny_mono (O.call (C ++ "." ++ m) X.A X.stack s4 _ (.ref a :: us) (.ref a :: vs) Q W O.room I4.env0 (.cons rfl rv) hsp) fun z s' hz => ends_of O.pass I4 z s' hz
theorem s_mk (O : Ok X p nm ad d W) {C : Str} {px : Pos} (ha : PA X (e :: es) (tEs X (p.cal d) W tes)) (hg : Gl X C := by rfl) (hC : C ∈ nm.clss := by decide +kernel) (hdb : (C == ("__debug__" : Str)) = false := by decide)
    (he : starEach (e :: es) X.env = (false, eval e X.env) :: starEach es X.env := by rfl) (hpl : (backTo pos (starEach es X.env)).any (·.1) = false := by rfl) : PE X (.Call (.Name C px) (e :: es) [] pos) (tE X (p.cal d) W (.mk C tes)) := by
  obtain ⟨hm, hc, hM⟩ := O.sta.cls C hC
  refine ⟨fun pins s σ H Q I ⟨ρ, S, env, w, eo, h⟩ => ?_⟩
  rw [ev] at h
  refine wpAny_Call_Name_kw (ld_glob I hg hm ?_ hdb)
  refine PySem.W.callWith_K (h₀ := X.base) I.ok.mod.kin hM.kp (thn (ha.run pos pins s σ H _ I ⟨ρ, S, env, w, eo, Post.bind h⟩) fun us0 s1 ⟨vs, H1, I1, rr, ρ1, S1, us, e1, w1, r1, h1⟩ => ⟨I1.kIn, ?_⟩) he hpl
  refine run_mkQ hM (O.init (C ++ ".__init__")) O.room O.pass I1 rr ?_
  intro x dx hx hdx hne
  have g1 : ∀ a o, H1 a = some o → upd (upd H1 dx (.own x)) x (.ins (ad C) dx []) a = some o := fun a o q => by
    rw [upd_ne (ne_of_none q hx), upd_ne (ne_of_none q hdx)]
    exact q
  have e2 : Ext ρ1 H1 (ρ1 ++ [x]) (upd (upd H1 dx (.own x)) x (.ins (ad C) dx [])) := Ext.push g1
  have w2 := w1.push (c := .ins C []) hx g1 ⟨ad C, dx, [], hm, upd_same, .nil⟩
  have hn := push_at (p := x) w1.len
  refine ⟨ρ1 ++ [x], _, .loc S1.length :: us, w2, RelUs.cons (relLoc hn) (r1.mono e2), ?_⟩
  refine (Post.bind (Post.ext e2 h1)).imp fun v H2 ⟨ρ3, S3, u, e3, w3, r3, h3⟩ => ?_
  split at h3
  · cases r3.non
    exact ⟨rfl, h3.here w3 (relLoc (e3.at_ hn))⟩
  · cases h3
end
end Oz

end

section
set_option maxHeartbeats 4000000
/-! Oz7: tests, built-in calls, what is walked, comprehensions. -/
namespace Oz
open PySem PySem.Spec PyProof.Rows L2
section
variable {X : Cx} {p : Pg} {nm : Names} {ad : Str → Addr} {d : Nat} {W : XK} {Φ : Cal} {a b e c o : Expr} {es rest : List Expr} {ta tb te to : E} {tc td : T} {tes : Es} {pos : Pos}
/-! ### tests -/
theorem truV_rel {K : PySem.W.Frag} {mg : Str → Option Value} {ρ : List Addr} {S : Sto} {H : Hp} {a : U} {v : V} {k : Bool} (w : Wok K mg ρ S H) (r : RelU K ρ H a v) (h : truU a S = some k) : TruV K v H k := by
  unfold truU at h
  split at h
  · cases h; cases r.non; rfl
  · cases h; cases r.bl; rfl
  · cases h; cases r.int; rfl
  · cases r.str
    split at h
    · rename_i hz; cases h; exact ⟨hz, rfl⟩
    · cases h
  · rw [Option.map_eq_some_iff] at h
    obtain ⟨xs, hx, rfl⟩ := h
    obtain ⟨q, vs, rfl, hq, hr⟩ := w.items hx r
    have e : vs.isEmpty = xs.isEmpty := by
      have := hr.length
      cases xs <;> cases vs <;> simp_all
    rcases hq with hq | hq
    · exact .inl ⟨vs, hq, by rw [e]⟩
    · exact .inr (.inl ⟨vs, hq, by rw [e]⟩)
theorem s_tt (ha : PE X a (tE X Φ W ta)) (he : ∀ whole, isTrue a X.env whole = (do let v ← whole; standAt a.pos; holding [v] (truthy v)) := by intro _; rfl) : PT X a (tTs X Φ W (.e ta)) := by
  refine PTw' (pt_truth ha he) fun σ H Q ⟨ρ, S, env, w, eo, h⟩ => ?_
  rw [evt] at h
  refine ⟨ρ, S, env, w, eo, (Post.bind h).imp fun x H1 ⟨ρ1, S1, u, e1, w1, r1, h1⟩ => ?_⟩
  unfold rO at h1
  split at h1
  · rename_i k hk
    exact ⟨k, truV_rel w1 r1 hk, h1.here w1 rfl⟩
  · cases h1
theorem s_tcmp (O : Ok X p nm ad d W) (o : Cm) (ha : PE X a (tE X Φ W ta)) (hb : PE X b (tE X Φ W tb)) (hm : behindInMarks (cmOf o) b = false := by rfl) : PT X (.Compare a [cmOf o] [b] pos) (tTs X Φ W (.e (.cmp o ta tb))) := by
  refine PTw' (pt_cmpR (op_cmp (W := W) O.hu o) ha hb hm) fun σ H Q ⟨ρ, S, env, w, eo, h⟩ => ?_
  rw [evt, ev] at h
  have h0 : Post X.mg X.K Rid W ρ H ((ev Φ ta env S).bind fun x S => (ev Φ tb env S).bind fun y S => (cmpU o x y S).bind fun z S => rO (truU z S) S) Q := by
    cases hx : ev Φ ta env S with
    | ok x S1 =>
      rw [hx] at h
      simp only [R.bind] at h ⊢
      cases hy : ev Φ tb env S1 with
      | ok y S2 => rw [hy] at h; exact h
      | exc c fs S2 => rw [hy] at h; exact h
      | bad => rw [hy] at h; exact h
    | exc c fs S1 => rw [hx] at h; exact h
    | bad => rw [hx] at h; exact h
  refine ⟨ρ, S, env, w, eo, (Post.bind h0).imp fun x H1 ⟨ρ1, S1, u, e1, w1, r1, h1⟩ => ⟨ρ1, S1, env, w1, eo.mono e1, (Post.bind h1).imp fun y H2 ⟨ρ2, S2, u2, e2, w2, r2, h2⟩ => ?_⟩⟩
  refine ⟨ρ2, S2, u, u2, w2, r1.mono e2, r2, ?_⟩
  unfold cmpU at h2 ⊢
  split at h2
  · rename_i k hk
    intro ρ3 H3 v e3 w3 r3
    cases r3.bl
    exact ⟨k, rfl, h2 ρ3 H3 k e3 w3 rfl⟩
  · cases h2
theorem s_tnot (ha : PT X a (tTs X Φ W tc)) : PT X (.UnaryOp .Not a pos) (tTs X Φ W (.not tc)) := by
  refine PTw' (pt_not ha) fun σ H Q ⟨ρ, S, env, w, eo, h⟩ => ?_
  rw [evt] at h
  refine ⟨ρ, S, env, w, eo, (Post.bind (Rr := Rid) h).imp fun x H1 ⟨ρ1, S1, u, e1, w1, r1, h1⟩ => ?_⟩
  cases r1
  exact h1.here w1 rfl
theorem w_and1 (ha : PT X a (tTs X Φ W tc)) : PW X (.BoolOp .And [a] pos) (tTs X Φ W tc) := pw_and1 ha
theorem w_or1 (ha : PT X a (tTs X Φ W tc)) : PW X (.BoolOp .Or [a] pos) (tTs X Φ W tc) := pw_or1 ha
theorem w_and (ha : PT X a (tTs X Φ W tc)) (hb : PW X (.BoolOp .And (b :: rest) pos) (tTs X Φ W td)) : PW X (.BoolOp .And (a :: b :: rest) pos) (tTs X Φ W (.and tc td)) := by
  refine PWw (pw_and ha hb) fun σ H Q ⟨ρ, S, env, w, eo, h⟩ => ?_
  rw [evt] at h
  refine ⟨ρ, S, env, w, eo, (Post.bind (Rr := Rid) h).imp fun x H1 ⟨ρ1, S1, u, e1, w1, r1, h1⟩ => ?_⟩
  cases r1
  cases x with
  | true => exact iteT ⟨ρ1, S1, env, w1, eo.mono e1, h1⟩
  | false => exact iteF (h1.here w1 rfl)
theorem w_or (ha : PT X a (tTs X Φ W tc)) (hb : PW X (.BoolOp .Or (b :: rest) pos) (tTs X Φ W td)) : PW X (.BoolOp .Or (a :: b :: rest) pos) (tTs X Φ W (.or tc td)) := by
  refine PWw (pw_or ha hb) fun σ H Q ⟨ρ, S, env, w, eo, h⟩ => ?_
  rw [evt] at h
  refine ⟨ρ, S, env, w, eo, (Post.bind (Rr := Rid) h).imp fun x H1 ⟨ρ1, S1, u, e1, w1, r1, h1⟩ => ?_⟩
  cases r1
  cases x with
  | true => exact iteT (h1.here w1 rfl)
  | false => exact iteF ⟨ρ1, S1, env, w1, eo.mono e1, h1⟩
/-! ### built-in functions, methods -/
theorem bf_read {bf : Bf} {σ : L2.St} {H : Hp} {Q : VK} (h : tE X Φ W (.bf bf tes) σ H Q) : tEs X Φ W tes σ H fun vs H1 => bfR X W bf vs H1 Q := by
  obtain ⟨ρ, S, env, w, eo, h⟩ := h
  rw [ev] at h
  exact ⟨ρ, S, env, w, eo, (Post.bind h).imp fun x H1 ⟨ρ1, S1, u, e1, w1, r1, h1⟩ => ⟨ρ1, S1, u, w1, r1, h1⟩⟩
theorem s_bfB (O : Ok X p nm ad d W) (bf : Bf) {x : Str} {id : String} {px : Pos} (hc : CallR X (.builtin id) (bfR X W bf)) (hv : bootBuiltins x = some (.builtin id)) (ha : PA X (e :: es) (tEs X Φ W tes)) (hg : Gl X x := by rfl) (hm : x ∈ nm.bins := by decide +kernel) (hn : x ≠ "__name__" := by decide) (hdb : (x == ("__debug__" : Str)) = false := by decide)
    (he : starEach (e :: es) X.env = (false, eval e X.env) :: starEach es X.env := by rfl) (hpl : (backTo pos (starEach es X.env)).any (·.1) = false := by rfl) : PE X (.Call (.Name x px) (e :: es) [] pos) (tE X Φ W (.bf bf tes)) :=
  PEw (pe_callB hc hg (O.sta.bin x hm) hv ha hn hdb he hpl) fun σ H Q h => bf_read h
theorem s_bfT (O : Ok X p nm ad d W) (bf : Bf) {x : Str} {id : String} {px : Pos} (hc : CallR X (.type id) (bfR X W bf)) (hv : bootBuiltins x = some (.type id)) (ha : PA X (e :: es) (tEs X Φ W tes)) (hg : Gl X x := by rfl) (hm : x ∈ nm.bins := by decide +kernel) (hn : x ≠ "__name__" := by decide) (hdb : (x == ("__debug__" : Str)) = false := by decide)
    (he : starEach (e :: es) X.env = (false, eval e X.env) :: starEach es X.env := by rfl) (hpl : (backTo pos (starEach es X.env)).any (·.1) = false := by rfl) : PE X (.Call (.Name x px) (e :: es) [] pos) (tE X Φ W (.bf bf tes)) :=
  PEw (pe_callTy hc hg (O.sta.bin x hm) hv ha hn hdb he hpl) fun σ H Q h => bf_read h
theorem s_bm (bm : Bm) {Ty : String} {name : Str} {id : String} {apos : Pos} (hTy : Ty = tyOfB bm) (pa : PlainAttrs Ty) (slot : Slot Ty name id) (hty : typeOf (.builtin id) = pure (.type "method_descriptor")) (hm : MtR X id (bmR X W bm)) (ho : PE X o (tE X Φ W to)) (ha : PA X (e :: es) (tEs X Φ W tes))
    (hbase : attributeBase o name X.env (eval o X.env) = eval o X.env := by rfl)
    (hfew : ((backTo pos (starEach (e :: es) X.env)).all (fun x => !x.1) && (backToKw pos (keywordEach [] X.env)).all (fun x => x.1.isSome) && decide ((e :: es).length + ([] : List Keyword).length + (if ([] : List Keyword).isEmpty then 0 else 1) < 30)) = true := by rfl)
    (hline : (apos.endLine == pos.line) = true := by rfl) (hs : starEach (e :: es) X.env = (false, eval e X.env) :: starEach es X.env := by rfl) (hplain : (backTo pos (starEach es X.env)).any (·.1) = false := by rfl) : PE X (.Call (.Attribute o name apos) (e :: es) [] pos) (tE X Φ W (.bm bm to tes)) := by
  refine PEw (pe_bm pa slot hty hm ho ha hbase hfew hline hs hplain) fun σ H Q ⟨ρ, S, env, w, eo, h⟩ => ?_
  rw [ev] at h
  refine ⟨ρ, S, env, w, eo, (Post.bind h).imp fun x H1 ⟨ρ1, S1, u, e1, w1, r1, h1⟩ => ?_⟩
  split at h1
  · rename_i hb
    exact ⟨by rw [hTy]; exact tyB_rel w1 r1 hb, ρ1, S1, env, w1, eo.mono e1, (Post.bind h1).imp fun xs H2 ⟨ρ2, S2, us, e2, w2, r2, h2⟩ => ⟨ρ2, S2, u, us, w2, r1.mono e2, r2, h2⟩⟩
  · cases h1
theorem s_bm0 (bm : Bm) {Ty : String} {name : Str} {id : String} {apos : Pos} (hTy : Ty = tyOfB bm) (pa : PlainAttrs Ty) (slot : Slot Ty name id) (hty : typeOf (.builtin id) = pure (.type "method_descriptor")) (hm : MtR X id (bmR X W bm)) (ho : PE X o (tE X Φ W to))
    (hbase : attributeBase o name X.env (eval o X.env) = eval o X.env := by rfl) (hline : (apos.endLine == pos.line) = true := by rfl) : PE X (.Call (.Attribute o name apos) [] [] pos) (tE X Φ W (.bm bm to .nil)) := by
  refine PEw (pe_bm0 pa slot hty hm ho hbase hline) fun σ H Q ⟨ρ, S, env, w, eo, h⟩ => ?_
  rw [ev] at h
  refine ⟨ρ, S, env, w, eo, (Post.bind h).imp fun x H1 ⟨ρ1, S1, u, e1, w1, r1, h1⟩ => ?_⟩
  split at h1
  · rename_i hb
    simp only [evs, R.bind] at h1
    exact ⟨by rw [hTy]; exact tyB_rel w1 r1 hb, ρ1, S1, u, [], w1, r1, RelUs.nil, h1⟩
  · cases h1
/-! ### isinstance of built-in types -/
theorem tyU_rel {K : PySem.W.Frag} {mg : Str → Option Value} {ρ : List Addr} {S : Sto} {H : Hp} {a : U} {v : V} {t : String} (w : Wok K mg ρ S H) (r : RelU K ρ H a v) (h : tyU S a = some t) : TyX K H v (.type t) := by
  unfold tyU at h
  split at h
  · cases h; cases r.non; exact .base .non
  · cases h; cases r.bl; exact .base (.bl _)
  · cases h; cases r.int; exact .base (.int _)
  · cases h; cases r.str; exact .base (.str _)
  · cases h
    obtain ⟨q, vs, rfl, hq, _⟩ := r.tup
    rcases hq with (hq | ⟨o, hq⟩) | ⟨o, _, _, hk, hc, _⟩
    · exact .base (.tup hq)
    · exact .fTuple hq
    · exact .kTuple hk hc
  · obtain ⟨q, rfl, hn⟩ := r.loc
    split at h
    · rename_i hx
      cases h
      obtain ⟨vs, e, _⟩ := w.at_ hx hn
      exact .base (.lst e)
    · rename_i hx
      cases h
      obtain ⟨vs, e, _⟩ := w.at_ hx hn
      rcases e with ⟨o, e⟩ | ⟨o, its, n, hk, hc, _⟩
      · exact .base (.frz e)
      · exact .kList hk hc
    · rename_i hx
      cases h
      obtain ⟨vs, e, _⟩ := w.at_ hx hn
      exact .base (.dK e)
    · cases h
theorem s_isi (O : Ok X p nm ad d W) {t : String} {x : Str} {p1 p2 : Pos} (ha : PE X a (tE X Φ W ta)) (hvx : bootBuiltins x = some (.type t)) (hg : Gl X "isinstance" := by rfl) (hm : ("isinstance" : Str) ∈ nm.bins := by decide +kernel) (hgx : Gl X x := by rfl) (hmx : x ∈ nm.bins := by decide +kernel) (hnx : x ≠ "__name__" := by decide) (hdx : (x == ("__debug__" : Str)) = false := by decide)
    (he : starEach [a, .Name x p2] X.env = (false, eval a X.env) :: starEach [.Name x p2] X.env := by rfl) (he2 : starEach [Expr.Name x p2] X.env = (false, eval (.Name x p2) X.env) :: starEach [] X.env := by rfl) (hpl : (backTo pos (starEach [.Name x p2] X.env)).any (·.1) = false := by rfl) :
    PE X (.Call (.Name "isinstance" p1) [a, .Name x p2] [] pos) (tE X Φ W (.isi ta t)) := by
  refine PEw (pe_callB call_isi hg (O.sta.bin _ hm) boot_isinstance (pa_cons ha (pa_cons (pe_bltn hgx (O.sta.bin _ hmx) hvx (v := .ty t) rfl hnx hdx) pa_nil he2) he) (by decide) (by decide) he hpl) fun σ H Q ⟨ρ, S, env, w, eo, h⟩ => ?_
  rw [ev] at h
  refine ⟨ρ, S, env, w, eo, (Post.bind h).imp fun v H1 ⟨ρ1, S1, u, e1, w1, r1, h1⟩ => ?_⟩
  split at h1
  · rename_i t' ht
    split at h1
    · rename_i k hk
      exact ⟨v, .ty t, .type t', .type t, k, rfl, .ty t, tyU_rel w1 r1 ht, kit_ty hk, h1.here w1 relBl⟩
    · cases h1
  · cases h1
/-! ### what is walked -/
/-- J goes over all -/
def Goes (K : PySem.W.Frag) (mg : Str → Option Value) (J : It) (all : List U) (src : Option Nat) (ρ0 : List Addr) (H0 : Hp) : Prop :=
  ∀ ρ S H (i : Nat), Ext ρ0 H0 ρ H → Wok K mg ρ S H → stays S all src = true → (i < all.length → J.go i H ∧ ∀ x H', J.yld i H x H' → H' = H ∧ ∃ u, all[i]? = some u ∧ RelU K ρ H u x) ∧ (all.length ≤ i → J.stop i H)
def tI (X : Cx) (Φ : Cal) (W : XK) (te : E) : TI := fun σ H R => tE X Φ W te σ H fun x H1 => ∃ ρ1 S1 u all src, Wok X.K X.mg ρ1 S1 H1 ∧ RelU X.K ρ1 H1 u x ∧ iterU S1 u = some (all, src) ∧ ∀ J, Goes X.K X.mg J all src ρ1 H1 → R J H1
theorem goes_tup {K : PySem.W.Frag} {mg : Str → Option Value} {a : Addr} {vs : List V} {all : List U} {ρ0 : List Addr} {H0 : Hp} (h : SqT K H0 a vs) (r : RelUs K ρ0 H0 all vs) : Goes K mg (Itt K a) all none ρ0 H0 ∧ True := by
  refine ⟨fun ρ S H i e w _ => ⟨fun hi => ?_, fun hi => ⟨vs, e.sqt K h, by rw [r.length]; exact hi⟩⟩, trivial⟩
  obtain ⟨v, hv, rv⟩ := (r.mono e).get (List.getElem?_eq_getElem hi)
  exact ⟨⟨vs, v, e.sqt K h, hv⟩, fun x H' y => ⟨y.1, all[i], List.getElem?_eq_getElem hi, by
    have := y.2 vs (e.sqt K h)
    rw [hv] at this
    cases this
    exact rv⟩⟩
theorem goes_lst {K : PySem.W.Frag} {mg : Str → Option Value} {a : Addr} {n : Nat} {all : List U} {ρ0 : List Addr} {H0 : Hp} (hn : ρ0[n]? = some a) : Goes K mg (Itl K a) all (some n) ρ0 H0 := by
  intro ρ S H i e w st
  have hn' := e.at_ hn
  have hl : ∃ vs, SqL K H a vs ∧ RelUs K ρ H all vs := by
    rcases isLst_iff (show isLst S n all = true from st) with h | h
    · obtain ⟨vs, q, r⟩ := w.at_ h hn'
      exact ⟨vs, .of q, r⟩
    · obtain ⟨vs, q, r⟩ := w.at_ h hn'
      exact ⟨vs, q.sql, r⟩
  obtain ⟨vs, q, r⟩ := hl
  refine ⟨fun hi => ?_, fun hi => ⟨vs, q, by rw [r.length]; exact hi⟩⟩
  obtain ⟨v, hv, rv⟩ := r.get (List.getElem?_eq_getElem hi)
  exact ⟨⟨vs, v, q, hv⟩, fun x H' y => ⟨y.1, all[i], List.getElem?_eq_getElem hi, by
    have := y.2 vs q
    rw [hv] at this
    cases this
    exact rv⟩⟩
theorem goes_str {K : PySem.W.Frag} {mg : Str → Option Value} {z : Str} {ρ0 : List Addr} {H0 : Hp} : Goes K mg (Its z) (z.cps.toList.map fun c => U.str ⟨#[c]⟩) none ρ0 H0 := by
  intro ρ S H i e w st
  have hl : (z.cps.toList.map fun c => U.str ⟨#[c]⟩).length = z.cps.size := by simp
  refine ⟨fun hi => ⟨by rw [hl] at hi; exact hi, fun x H' y => ?_⟩, fun hi => by rw [hl] at hi; exact hi⟩
  obtain ⟨y1, c, hc, rfl⟩ := y
  refine ⟨y1, .str ⟨#[c]⟩, ?_, relStr⟩
  rw [List.getElem?_map, Array.getElem?_toList, hc]
  rfl
theorem goes_rng {K : PySem.W.Frag} {mg : Str → Option Value} {a b : Int} {ρ0 : List Addr} {H0 : Hp} : Goes K mg (Itr a (b - a).toNat) (ranged a b) none ρ0 H0 := by
  intro ρ S H i e w st
  have hl : (ranged a b).length = (b - a).toNat := by simp [ranged]
  refine ⟨fun hi => ⟨by rw [hl] at hi; exact hi, fun x H' y => ?_⟩, fun hi => by rw [hl] at hi; exact hi⟩
  obtain ⟨y1, rfl⟩ := y
  rw [hl] at hi
  refine ⟨y1, .int (a + (i : Nat)), ?_, relInt⟩
  unfold ranged
  rw [List.getElem?_map, List.getElem?_range hi]
  rfl
theorem pi_any {tg : Expr} (ha : PE X a (tE X Φ W ta)) : PI X tg a (tI X Φ W ta) := by
  constructor
  intro pins s σ H R I h
  refine thn (ha.run pins s σ H _ I h) fun v s1 ⟨x, H1, I1, r1, q1⟩ => ?_
  obtain ⟨ρ1, S1, u, all, src, w1, ru, hi, hR⟩ := q1
  unfold iterU at hi
  split at hi
  · cases hi
    obtain ⟨q, vs, rfl, hq, hr⟩ := ru.tup
    cases r1
    obtain ⟨its, rv, pt, _⟩ := I1.tuple hq
    refine wpAny_pyIter_tuple (show s1.heap.IsTuple q its.toArray from pt) ?_
    refine ⟨s1.heap.objs.size, [s1.heap.objs.size], _, _, H1, rfl, ?_, turn_tuple q _, ⟨_, Heap.get?_push_size _ rfl, rfl, rfl⟩, ?_, hR _ (goes_tup hq hr).1⟩
    · exact I1.kept (t' := s1.toks) fun b o e => Heap.get?_push_of_some _ e
    · intro b hb
      have eb : b = s1.heap.objs.size := by simpa using hb
      rw [eb]
      exact I1.fpOk (Nat.le_refl _) (I1.hok.fresh (Nat.le_refl _))
  · cases hi
    cases ru.str
    obtain ⟨t, rfl⟩ := r1
    have hg := hR _ (goes_str (K := X.K) (mg := X.mg))
    cases hz : (Array.all _ fun (x : Nat) => decide (x < 128))
    · exact wpAny_pyIter_wide hz (pi_one (tk := s1.toks) I1 _ (turn_str _ _ t "str_iterator" (.inr rfl)) ⟨_, Heap.get?_push_size _ rfl, rfl, rfl⟩ hg)
    · exact wpAny_pyIter_ascii hz (pi_one (tk := s1.toks) I1 _ (turn_str _ _ t "str_ascii_iterator" (.inl rfl)) ⟨_, Heap.get?_push_size _ rfl, rfl, rfl⟩ hg)
  · rename_i n
    obtain ⟨q, rfl, hn⟩ := ru.loc
    have hl : ∃ vs, SqL X.K H1 q vs ∧ src = some n := by
      split at hi
      · rename_i hx
        cases hi
        obtain ⟨vs, e, r⟩ := w1.at_ hx hn
        exact ⟨vs, .of e, rfl⟩
      · rename_i hx
        cases hi
        obtain ⟨vs, e, r⟩ := w1.at_ hx hn
        exact ⟨vs, e.sql, rfl⟩
      · cases hi
    obtain ⟨vs, hq, rfl⟩ := hl
    cases r1
    obtain ⟨its, rv, pl, _⟩ := I1.list hq
    refine wpAny_pyIter_list pl.isList ?_
    refine ⟨s1.heap.objs.size, [s1.heap.objs.size], _, _, H1, rfl, ?_, turn_list q _, ⟨_, Heap.get?_push_size _ rfl, rfl, rfl⟩, ?_, hR _ (goes_lst hn)⟩
    · exact I1.kept (t' := s1.toks) fun b o e => Heap.get?_push_of_some _ e
    · intro b hb
      have eb : b = s1.heap.objs.size := by simpa using hb
      rw [eb]
      exact I1.fpOk (Nat.le_refl _) (I1.hok.fresh (Nat.le_refl _))
  · cases hi
/-! ### targets -/
def gsOf : List Nat → TGs
  | [] => gNil
  | i :: is => gCons (gName i) (gsOf is)
def gOf (K : PySem.W.Frag) (tp : Bool) (is : List Nat) : TG := if tp then gTup K is.length (gsOf is) else match is with | [i] => gName i | _ => fun _ _ _ _ => False
theorem wipe_set {σ : L2.St} {i : Nat} {x : Option V} : ∀ {is : List Nat}, i ∈ is → wipe (σ.set i x) is = wipe σ is
  | j :: is, h => by
    unfold wipe
    by_cases hj : i = j
    · subst hj
      by_cases hm : i ∈ is
      · rw [wipe_set hm]
      · have sw : ∀ (js : List Nat), i ∉ js → wipe (σ.set i x) js = (wipe σ js).set i x := by
          intro js
          induction js with
          | nil => intro _; rfl
          | cons k ks ih =>
            intro hk
            simp only [List.mem_cons, not_or] at hk
            unfold wipe
            rw [ih hk.2, List.set_comm _ _ hk.1]
        rw [sw is hm, List.set_set]
    · rcases List.mem_cons.mp h with z | z
      · exact absurd z hj
      · rw [wipe_set z]
theorem gs_ok {K : PySem.W.Frag} {ρ : List Addr} {H : Hp} : ∀ {is : List Nat} {us : List U} {vs : List V} {env : Env} {σ : L2.St} {Q : L2.St → Hp → Prop} (js : List Nat), (∀ i ∈ is, i ∈ js) → us.length = is.length → EnvOk K ρ H env σ → RelUs K ρ H us vs →
    (∀ σ', EnvOk K ρ H (setAll is us env) σ' → wipe σ' js = wipe σ js → Q σ' H) → gsOf is vs σ H Q
  | [], us, vs, env, σ, Q, js, _, hl, eo, r, q => by
    cases us with
    | nil =>
      simp only [RelUs] at r
      subst r
      exact ⟨rfl, q σ eo rfl⟩
    | cons _ _ => simp at hl
  | i :: is, us, vs, env, σ, Q, js, hj, hl, eo, r, q => by
    cases us with
    | nil => simp at hl
    | cons u us =>
      simp only [RelUs] at r
      obtain ⟨v, vs', rfl, r1, r2⟩ := r
      refine ⟨v, vs', rfl, ?_⟩
      show gsOf is vs' (σ.set i (some v)) H Q
      refine gs_ok js (fun k hk => hj k (List.mem_cons_of_mem _ hk)) (by simpa using hl) (eo.set i r1) r2 fun σ' e1 e2 => q σ' e1 ?_
      rw [e2]
      exact wipe_set (hj i List.mem_cons_self)
theorem g_ok {K : PySem.W.Frag} {ρ : List Addr} {H : Hp} {tp : Bool} {is : List Nat} {u : U} {v : V} {env env' : Env} {σ : L2.St} {Q : L2.St → Hp → Prop} (h : setN tp is u env = some env') (eo : EnvOk K ρ H env σ) (r : RelU K ρ H u v)
    (q : ∀ σ', EnvOk K ρ H env' σ' → wipe σ' is = wipe σ is → Q σ' H) : gOf K tp is v σ H Q := by
  unfold setN at h
  unfold gOf
  cases tp with
  | true =>
    simp only [if_true] at h ⊢
    split at h
    · split at h
      · rename_i us hl
        cases h
        obtain ⟨a, vs, rfl, hq, hr⟩ := r.tup
        exact ⟨a, vs, rfl, hq, by rw [hr.length]; exact hl, gs_ok is (fun _ z => z) hl eo hr q⟩
      · cases h
    · cases h
  | false =>
    simp only [Bool.false_eq_true, if_false] at h ⊢
    split at h
    · rename_i i
      cases h
      exact q _ (eo.set i r) (wipe_set (by simp))
    · cases h
theorem g_name (i : Nat) {x : Str} (hN : X.N.Nodup) (hi : X.N[i]? = some x := by rfl) (hx : Loc X.env.scope x := by first | exact Or.inl rfl | exact Or.inr rfl) (hf : X.fn x = true ∨ X.env.scope.names.lookup x = some .local := by first | exact .inl rfl | exact .inr rfl) : PG X (.Name x pos) (gOf X.K false [i]) := pg_name hN hi hx hf
theorem gs_nil : PGs X [] (gsOf []) := pgs_nil
theorem gs_cons (i : Nat) {is : List Nat} {x : Str} {px : Pos} (hN : X.N.Nodup) (h2 : PGs X es (gsOf is)) (hi : X.N[i]? = some x := by rfl) (hx : Loc X.env.scope x := by first | exact Or.inl rfl | exact Or.inr rfl) (hf : X.fn x = true ∨ X.env.scope.names.lookup x = some .local := by first | exact .inl rfl | exact .inr rfl)
    (hs : (assignEach (.Name x px :: es) X.env).map (·.2) = assign (.Name x px) X.env :: (assignEach es X.env).map (·.2) := by rfl) : PGs X (.Name x px :: es) (gsOf (i :: is)) := pgs_cons (pg_name hN hi hx hf) h2 hs
theorem g_tup {is : List Nat} {k : Nat} (hc : X.calm = true) (h : PGs X es (gsOf is)) (hn : (assignEach es X.env).length = is.length := by rfl) (hst : (assignEach es X.env).findIdx? (·.1) = none := by rfl) : PG X (.Tuple es k pos) (gOf X.K true is) := pg_tup hc h hn hst

/-! ### comprehensions -/
abbrev W0 : XK := fun _ _ _ => False
theorem noex_post {α β : Type} {K : PySem.W.Frag} {mg : Str → Option Value} {Rr : List Addr → Hp → α → β → Prop} {ρ : List Addr} {H : Hp} {r : R α} {Q : β → Hp → Prop} (h : Post mg K Rr W ρ H r.noex Q) : Post mg K Rr W0 ρ H r Q := by
  cases r with
  | ok a S => exact h
  | exc c fs S => exact h.elim
  | bad => exact h.elim
theorem Post.bindN {α β γ δ : Type} {K : PySem.W.Frag} {mg : Str → Option Value} {Rr : List Addr → Hp → α → γ → Prop} {Rs : List Addr → Hp → β → δ → Prop} {ρ : List Addr} {H : Hp} {r : R α} {f : α → Sto → R β} {Q : δ → Hp → Prop} (h : Post mg K Rs W ρ H (r.noex.bind f) Q) :
    Post mg K Rr W0 ρ H r fun b H1 => ∃ ρ1 S1 a, Ext ρ H ρ1 H1 ∧ Wok K mg ρ1 S1 H1 ∧ Rr ρ1 H1 a b ∧ Post mg K Rs W ρ1 H1 (f a S1) Q := by
  cases r with
  | ok a S => exact Post.bind (r := .ok a S) h
  | exc c fs S => exact h.elim
  | bad => exact h.elim
theorem bind_assoc {α β γ : Type} (r : R α) (f : α → Sto → R β) (g : β → Sto → R γ) : (r.bind f).bind g = r.bind fun a S => (f a S).bind g := by
  cases r <;> rfl
theorem pushAt_rel {K : PySem.W.Frag} {mg : Str → Option Value} {ρ : List Addr} {S : Sto} {H : Hp} {n : Nat} {D : Addr} {u : U} {y : V} {Q : VK} {k : Sto → R U} (w : Wok K mg ρ S H) (hn : ρ[n]? = some D) (r : RelU K ρ H u y) (h : Post mg K (RelU K) W ρ H ((pushAt n u S).bind fun _ S => k S) Q) :
    ∃ acc, H D = some (.lst acc) ∧ acc.length < sizeLine ∧ ∃ S', Ext ρ H ρ (upd H D (.lst (acc ++ [y]))) ∧ Wok K mg ρ S' (upd H D (.lst (acc ++ [y]))) ∧ Post mg K (RelU K) W ρ (upd H D (.lst (acc ++ [y]))) (k S') Q := by
  unfold pushAt at h
  split at h
  · rename_i us hx
    split at h
    · rename_i hz
      obtain ⟨acc, e, q⟩ := w.at_ hx hn
      have x := Ext.write (ρ := ρ) (o := .lst (acc ++ [y])) (lst_mut e)
      exact ⟨acc, e, by rw [q.length]; exact hz, S.set n (.lst (us ++ [u])), x, w.write hn hx rfl rfl (lst_mut e) ⟨_, upd_same, (q.append (.cons r .nil)).mono x⟩, Post.ext x h⟩
    · cases h
  · cases h
/-! ### zip -/
def Goes' (K : PySem.W.Frag) (mg : Str → Option Value) (J : It) (all : List U) (st : Sto → Bool) (ρ0 : List Addr) (H0 : Hp) : Prop :=
  ∀ ρ S H (i : Nat), Ext ρ0 H0 ρ H → Wok K mg ρ S H → st S = true → (i < all.length → J.go i H ∧ ∀ x H', J.yld i H x H' → (∀ a o, H a = some o → H' a = some o) ∧ ∃ u, all[i]? = some u ∧ RelU K ρ H' u x) ∧ (all.length ≤ i → J.stop i H)
theorem zipped_len : ∀ xs ys : List U, (zipped xs ys).length = min xs.length ys.length
  | [], _ => by simp [zipped]
  | _ :: _, [] => by simp [zipped]
  | x :: xs, y :: ys => by simp [zipped, zipped_len xs ys]
theorem zipped_at : ∀ {xs ys : List U} {i : Nat} {a b : U}, xs[i]? = some a → ys[i]? = some b → (zipped xs ys)[i]? = some (.tup [a, b])
  | x :: xs, y :: ys, 0, a, b, h1, h2 => by simp at h1 h2; subst h1 h2; rfl
  | x :: xs, y :: ys, i + 1, a, b, h1, h2 => by
    simp only [List.getElem?_cons_succ] at h1 h2
    simp only [zipped, List.getElem?_cons_succ]
    exact zipped_at h1 h2
theorem goes_zipT {K : PySem.W.Frag} {mg : Str → Option Value} {a b : Addr} {vs ws : List V} {xs ys : List U} {ρ0 : List Addr} {H0 : Hp} (h1 : SqT K H0 a vs) (r1 : RelUs K ρ0 H0 xs vs) (h2 : SqT K H0 b ws) (r2 : RelUs K ρ0 H0 ys ws) : Goes' K mg (RZ.ItzT K a b) (zipped xs ys) (fun _ => true) ρ0 H0 := by
  intro ρ S H i e w _
  have l1 := r1.length
  have l2 := r2.length
  rw [zipped_len]
  refine ⟨fun hi => ?_, fun hi => ⟨vs, ws, e.sqt K h1, e.sqt K h2, by omega⟩⟩
  obtain ⟨v, hv, rv⟩ := (r1.mono e).get (List.getElem?_eq_getElem (show i < xs.length by omega))
  obtain ⟨v2, hv2, rv2⟩ := (r2.mono e).get (List.getElem?_eq_getElem (show i < ys.length by omega))
  refine ⟨⟨vs, ws, v, v2, e.sqt K h1, e.sqt K h2, hv, hv2⟩, fun x H' y => ?_⟩
  obtain ⟨T, x1, y1, rfl, hT, rfl, f1, f2⟩ := y
  have g1 := f1 _ (e.sqt K h1)
  have g2 := f2 _ (e.sqt K h2)
  rw [hv] at g1
  rw [hv2] at g2
  cases g1
  cases g2
  refine ⟨upd_grow hT, _, zipped_at (List.getElem?_eq_getElem (by omega)) (List.getElem?_eq_getElem (by omega)), ?_⟩
  have e2 : Ext ρ H ρ (upd H T (.tup [v, v2])) := Ext.grow (upd_grow hT)
  simp only [RelU]
  exact ⟨T, _, rfl, .of upd_same, RelUs.cons (rv.mono e2) (RelUs.cons (rv2.mono e2) RelUs.nil)⟩
theorem goes_zipL {K : PySem.W.Frag} {mg : Str → Option Value} {a b : Addr} {m n : Nat} {xs ys : List U} {ρ0 : List Addr} {H0 : Hp} (hm : ρ0[m]? = some a) (hn : ρ0[n]? = some b) : Goes' K mg (Itz K a b) (zipped xs ys) (fun S => isLst S m xs && isLst S n ys) ρ0 H0 := by
  intro ρ S H i e w st
  rw [Bool.and_eq_true] at st
  have look : ∀ {n : Nat} {a : Addr} {all : List U}, ρ0[n]? = some a → isLst S n all = true → ∃ vs, SqL K H a vs ∧ RelUs K ρ H all vs := fun {n a all} hn st => by
    have hn' := e.at_ hn
    rcases isLst_iff st with h | h
    · obtain ⟨vs, q, r⟩ := w.at_ h hn'
      exact ⟨vs, .of q, r⟩
    · obtain ⟨vs, q, r⟩ := w.at_ h hn'
      exact ⟨vs, q.sql, r⟩
  obtain ⟨vs, h1, r1⟩ := look hm st.1
  obtain ⟨ws, h2, r2⟩ := look hn st.2
  have l1 := r1.length
  have l2 := r2.length
  rw [zipped_len]
  refine ⟨fun hi => ?_, fun hi => ⟨vs, ws, h1, h2, by omega⟩⟩
  obtain ⟨v, hv, rv⟩ := r1.get (List.getElem?_eq_getElem (show i < xs.length by omega))
  obtain ⟨v2, hv2, rv2⟩ := r2.get (List.getElem?_eq_getElem (show i < ys.length by omega))
  refine ⟨⟨vs, ws, v, v2, h1, h2, hv, hv2⟩, fun x H' y => ?_⟩
  obtain ⟨T, x1, y1, rfl, hT, rfl, f1, f2⟩ := y
  have g1 := f1 _ h1
  have g2 := f2 _ h2
  rw [hv] at g1
  rw [hv2] at g2
  cases g1
  cases g2
  refine ⟨upd_grow hT, _, zipped_at (List.getElem?_eq_getElem (by omega)) (List.getElem?_eq_getElem (by omega)), ?_⟩
  have e2 : Ext ρ H ρ (upd H T (.tup [v, v2])) := Ext.grow (upd_grow hT)
  simp only [RelU]
  exact ⟨T, _, rfl, .of upd_same, RelUs.cons (rv.mono e2) (RelUs.cons (rv2.mono e2) RelUs.nil)⟩
/-- the turns -/
theorem lc_turns {tp : Bool} {is : List Nat} {J : It} {all : List U} {src : Option Nat} {ρ1 : List Addr} {S1 : Sto} {H1 : Hp} {σ : L2.St} {env : Env} {Q : VK} {D : Addr} {tx : T} (w1 : Wok X.K X.mg ρ1 S1 H1) (eo : EnvOk X.K ρ1 H1 env σ) (hg : Goes X.K X.mg J all src ρ1 H1) (hD : H1 D = none)
    (h : Post X.mg X.K (RelU X.K) W ρ1 H1 ((lcI tp is (wipeE env is) (fun env S => (evt Φ tx env S).noex) (fun env S => (ev Φ te env S).noex) S1.length all src all (S1 ++ [.lst []])).bind fun _ S' => .ok (.loc S1.length) S') Q) :
    ∃ W' : Nat → Nat → Hp → Prop, (∃ m, W' 0 m (upd H1 D (.lst []))) ∧ ∀ i m H, W' i m H → (J.stop i H ∧ Q (.ref D) H) ∨ (J.go i H ∧ ∃ Nx : Hp → Prop, (∀ H', Nx H' → ∃ m', m' < m ∧ W' (i + 1) m' H') ∧ ∀ x H', J.yld i H x H' → gOf X.K tp is x (wipe σ is) H' fun σ2 H2 => wipe σ2 is = wipe σ is ∧ tTs X Φ W0 tx σ2 H2 fun b H3 =>
      if b = true then tE X Φ W0 te σ2 H3 fun y H4 => ∃ acc, H4 D = some (.lst acc) ∧ acc.length < sizeLine ∧ Nx (upd H4 D (.lst (acc ++ [y]))) else Nx H3) := by
  have e0 : Ext ρ1 H1 (ρ1 ++ [D]) (upd H1 D (.lst [])) := Ext.push (upd_grow hD)
  have w0 := w1.push (c := .lst []) hD (upd_grow hD) ⟨[], upd_same, RelUs.nil⟩
  have hn := push_at (p := D) w1.len
  let Inv' : Nat → Hp → Prop := fun i H => i ≤ all.length ∧ ∃ ρ S, Ext (ρ1 ++ [D]) (upd H1 D (.lst [])) ρ H ∧ Wok X.K X.mg ρ S H ∧ ρ[S1.length]? = some D ∧
    Post X.mg X.K (RelU X.K) W ρ H ((lcI tp is (wipeE env is) (fun env S => (evt Φ tx env S).noex) (fun env S => (ev Φ te env S).noex) S1.length all src (all.drop i) S).bind fun _ S' => .ok (.loc S1.length) S') Q
  refine ⟨fun i m H => m = all.length - i ∧ Inv' i H, ⟨_, rfl, Nat.zero_le _, _, _, Ext.refl, w0, hn, Post.ext e0 (by simpa using h)⟩, ?_⟩
  rintro i m H ⟨rfl, hi, ρ, S, ex, w, hnD, hp⟩
  by_cases hlt : i < all.length
  · refine .inr ?_
    rw [List.drop_eq_getElem_cons hlt] at hp
    unfold lcI at hp
    split at hp
    · rename_i hst
      obtain ⟨hgo, hy⟩ := (hg ρ S H i (e0.trans ex) w hst).1 hlt
      refine ⟨hgo, Inv' (i + 1), fun H' q => ⟨all.length - (i + 1), by omega, rfl, q⟩, fun x H' yl => ?_⟩
      obtain ⟨rfl, u, hu, ru⟩ := hy x H' yl
      rw [List.getElem?_eq_getElem hlt] at hu
      cases hu
      split at hp
      · rename_i env' he
        refine g_ok he ((eo.mono (e0.trans ex)).wipe is) ru fun σ2 eo2 hw => ⟨by rw [hw, wipe_wipe], ρ, S, env', w, eo2, ?_⟩
        rw [bind_assoc] at hp
        refine (Post.bindN (Rr := Rid) hp).imp fun b H3 ⟨ρ3, S3, b', e3, w3, r3, h3⟩ => ?_
        cases r3
        cases b with
        | true =>
          refine iteT ⟨ρ3, S3, env', w3, eo2.mono e3, ?_⟩
          simp only [if_true] at h3
          rw [bind_assoc] at h3
          refine (Post.bindN h3).imp fun y H4 ⟨ρ4, S4, v4, e4, w4, r4, h4⟩ => ?_
          rw [bind_assoc] at h4
          obtain ⟨acc, ha, hz, S5, x5, w5, h5⟩ := pushAt_rel w4 (e4.at_ (e3.at_ hnD)) r4 h4
          exact ⟨acc, ha, hz, hlt, ρ4, S5, ((ex.trans e3).trans e4).trans x5, w5, e4.at_ (e3.at_ hnD), h5⟩
        | false =>
          refine iteF ⟨hlt, ρ3, S3, ex.trans e3, w3, e3.at_ hnD, ?_⟩
          simpa using h3
      · exact hp.elim
    · exact hp.elim
  · refine .inl ?_
    have e : i = all.length := by omega
    subst e
    rw [List.drop_length] at hp
    unfold lcI at hp
    split at hp
    · rename_i hst
      refine ⟨(hg ρ S H _ (e0.trans ex) w hst).2 (Nat.le_refl _), ?_⟩
      exact hp.here w (relLoc hnD)
    · exact hp.elim
where
  wipe_wipe {σ : L2.St} : ∀ {is : List Nat}, wipe (wipe σ is) is = wipe σ is := by
    intro is
    have : ∀ (js ks : List Nat) (τ : L2.St), (∀ j ∈ js, j ∈ ks) → wipe (wipe τ js) ks = wipe τ ks := by
      intro js
      induction js with
      | nil => intro ks τ _; rfl
      | cons j js ih =>
        intro ks τ hs
        show wipe ((wipe τ js).set j none) ks = _
        rw [wipe_set (hs j List.mem_cons_self)]
        exact ih ks τ fun k hk => hs k (List.mem_cons_of_mem _ hk)
    exact this is is σ fun _ z => z
theorem lc_turnsJ {tp : Bool} {is : List Nat} {J : It} {all : List U} {st : Sto → Bool} {ρ1 : List Addr} {S1 : Sto} {H1 : Hp} {σ : L2.St} {env : Env} {Q : VK} {D : Addr} {tx : T} (w1 : Wok X.K X.mg ρ1 S1 H1) (eo : EnvOk X.K ρ1 H1 env σ) (hg : Goes' X.K X.mg J all st ρ1 H1) (hD : H1 D = none)
    (h : Post X.mg X.K (RelU X.K) W ρ1 H1 ((lcJ tp is (wipeE env is) (fun env S => (evt Φ tx env S).noex) (fun env S => (ev Φ te env S).noex) S1.length st all (S1 ++ [.lst []])).bind fun _ S' => .ok (.loc S1.length) S') Q) :
    ∃ W' : Nat → Nat → Hp → Prop, (∃ m, W' 0 m (upd H1 D (.lst []))) ∧ ∀ i m H, W' i m H → (J.stop i H ∧ Q (.ref D) H) ∨ (J.go i H ∧ ∃ Nx : Hp → Prop, (∀ H', Nx H' → ∃ m', m' < m ∧ W' (i + 1) m' H') ∧ ∀ x H', J.yld i H x H' → gOf X.K tp is x (wipe σ is) H' fun σ2 H2 => wipe σ2 is = wipe σ is ∧ tTs X Φ W0 tx σ2 H2 fun b H3 =>
      if b = true then tE X Φ W0 te σ2 H3 fun y H4 => ∃ acc, H4 D = some (.lst acc) ∧ acc.length < sizeLine ∧ Nx (upd H4 D (.lst (acc ++ [y]))) else Nx H3) := by
  have e0 : Ext ρ1 H1 (ρ1 ++ [D]) (upd H1 D (.lst [])) := Ext.push (upd_grow hD)
  have w0 := w1.push (c := .lst []) hD (upd_grow hD) ⟨[], upd_same, RelUs.nil⟩
  have hn := push_at (p := D) w1.len
  let Inv' : Nat → Hp → Prop := fun i H => i ≤ all.length ∧ ∃ ρ S, Ext (ρ1 ++ [D]) (upd H1 D (.lst [])) ρ H ∧ Wok X.K X.mg ρ S H ∧ ρ[S1.length]? = some D ∧
    Post X.mg X.K (RelU X.K) W ρ H ((lcJ tp is (wipeE env is) (fun env S => (evt Φ tx env S).noex) (fun env S => (ev Φ te env S).noex) S1.length st (all.drop i) S).bind fun _ S' => .ok (.loc S1.length) S') Q
  refine ⟨fun i m H => m = all.length - i ∧ Inv' i H, ⟨_, rfl, Nat.zero_le _, _, _, Ext.refl, w0, hn, Post.ext e0 (by simpa using h)⟩, ?_⟩
  rintro i m H ⟨rfl, hi, ρ, S, ex, w, hnD, hp⟩
  by_cases hlt : i < all.length
  · refine .inr ?_
    rw [List.drop_eq_getElem_cons hlt] at hp
    unfold lcJ at hp
    split at hp
    · rename_i hst
      obtain ⟨hgo, hy⟩ := (hg ρ S H i (e0.trans ex) w hst).1 hlt
      refine ⟨hgo, Inv' (i + 1), fun H' q => ⟨all.length - (i + 1), by omega, rfl, q⟩, fun x H' yl => ?_⟩
      obtain ⟨gw, u, hu, ru⟩ := hy x H' yl
      have eg : Ext ρ H ρ H' := Ext.grow gw
      replace hp := Post.ext eg hp
      replace ex := ex.trans eg
      replace w := w.grow gw
      rw [List.getElem?_eq_getElem hlt] at hu
      cases hu
      split at hp
      · rename_i env' he
        refine g_ok he ((eo.mono (e0.trans ex)).wipe is) ru fun σ2 eo2 hw => ⟨by rw [hw, lc_turns.wipe_wipe], ρ, S, env', w, eo2, ?_⟩
        rw [bind_assoc] at hp
        refine (Post.bindN (Rr := Rid) hp).imp fun b H3 ⟨ρ3, S3, b', e3, w3, r3, h3⟩ => ?_
        cases r3
        cases b with
        | true =>
          refine iteT ⟨ρ3, S3, env', w3, eo2.mono e3, ?_⟩
          simp only [if_true] at h3
          rw [bind_assoc] at h3
          refine (Post.bindN h3).imp fun y H4 ⟨ρ4, S4, v4, e4, w4, r4, h4⟩ => ?_
          rw [bind_assoc] at h4
          obtain ⟨acc, ha, hz, S5, x5, w5, h5⟩ := pushAt_rel w4 (e4.at_ (e3.at_ hnD)) r4 h4
          exact ⟨acc, ha, hz, hlt, ρ4, S5, ((ex.trans e3).trans e4).trans x5, w5, e4.at_ (e3.at_ hnD), h5⟩
        | false =>
          refine iteF ⟨hlt, ρ3, S3, ex.trans e3, w3, e3.at_ hnD, ?_⟩
          simpa using h3
      · exact hp.elim
    · exact hp.elim
  · refine .inl ?_
    have e : i = all.length := by omega
    subst e
    rw [List.drop_length] at hp
    unfold lcJ at hp
    split at hp
    · rename_i hst
      refine ⟨(hg ρ S H _ (e0.trans ex) w hst).2 (Nat.le_refl _), ?_⟩
      exact hp.here w (relLoc hnD)
    · exact hp.elim
/-! ### two walks -/
theorem wipe_sub : ∀ (js : List Nat) {ks : List Nat} {τ : L2.St}, (∀ j ∈ js, j ∈ ks) → wipe (wipe τ js) ks = wipe τ ks
  | [], _, _, _ => rfl
  | j :: js, ks, τ, h => by
    show wipe ((wipe τ js).set j none) ks = _
    rw [wipe_set (h j List.mem_cons_self)]
    exact wipe_sub js fun k hk => h k (List.mem_cons_of_mem _ hk)
theorem lc2_turns {tp tp1 : Bool} {is is1 : List Nat} {ti1 : E} {J : It} {all : List U} {src : Option Nat} {ρ1 : List Addr} {S1 : Sto} {H1 : Hp} {σ : L2.St} {env : Env} {Q : VK} {D : Addr} (w1 : Wok X.K X.mg ρ1 S1 H1) (eo : EnvOk X.K ρ1 H1 env σ) (hg : Goes X.K X.mg J all src ρ1 H1) (hD : H1 D = none)
    (h : Post X.mg X.K (RelU X.K) W ρ1 H1 ((lcL tp tp1 is is1 (wipeE env (is ++ is1)) (fun env S => (ev Φ ti1 env S).noex) (fun env S => (ev Φ te env S).noex) S1.length all src all (S1 ++ [.lst []])).bind fun _ S' => .ok (.loc S1.length) S') Q) :
    ∃ W' : Nat → Nat → Hp → Prop, (∃ m, W' 0 m (upd H1 D (.lst []))) ∧ ∀ i m H, W' i m H → (J.stop i H ∧ Q (.ref D) H) ∨ (J.go i H ∧ ∃ Nx : Hp → Prop, (∀ H', Nx H' → ∃ m', m' < m ∧ W' (i + 1) m' H') ∧ ∀ x H', J.yld i H x H' → gOf X.K tp is x (wipe σ (is ++ is1)) H' fun σ2 H2 => wipe σ2 (is ++ is1) = wipe σ (is ++ is1) ∧ tTs X Φ W0 .tt σ2 H2 fun b H3 =>
      if b = true then tI X Φ W0 ti1 σ2 H3 fun J1 H4 => ∃ W1 : Nat → Nat → Hp → Prop, (∃ m, W1 0 m H4) ∧ ∀ j k H, W1 j k H → (J1.stop j H ∧ Nx H) ∨ (J1.go j H ∧ ∃ Nx1 : Hp → Prop, (∀ H', Nx1 H' → ∃ k', k' < k ∧ W1 (j + 1) k' H') ∧ ∀ x H', J1.yld j H x H' → gOf X.K tp1 is1 x (wipe σ2 is1) H' fun σ3 H5 => wipe σ3 is1 = wipe σ2 is1 ∧ tTs X Φ W0 .tt σ3 H5 fun b H6 =>
        if b = true then tE X Φ W0 te σ3 H6 fun y H7 => ∃ acc, H7 D = some (.lst acc) ∧ acc.length < sizeLine ∧ Nx1 (upd H7 D (.lst (acc ++ [y]))) else Nx1 H6) else Nx H3) := by
  have e0 : Ext ρ1 H1 (ρ1 ++ [D]) (upd H1 D (.lst [])) := Ext.push (upd_grow hD)
  have w0 := w1.push (c := .lst []) hD (upd_grow hD) ⟨[], upd_same, RelUs.nil⟩
  have hn := push_at (p := D) w1.len
  let Inv' : Nat → Hp → Prop := fun i H => i ≤ all.length ∧ ∃ ρ S, Ext (ρ1 ++ [D]) (upd H1 D (.lst [])) ρ H ∧ Wok X.K X.mg ρ S H ∧ ρ[S1.length]? = some D ∧
    Post X.mg X.K (RelU X.K) W ρ H ((lcL tp tp1 is is1 (wipeE env (is ++ is1)) (fun env S => (ev Φ ti1 env S).noex) (fun env S => (ev Φ te env S).noex) S1.length all src (all.drop i) S).bind fun _ S' => .ok (.loc S1.length) S') Q
  refine ⟨fun i m H => m = all.length - i ∧ Inv' i H, ⟨_, rfl, Nat.zero_le _, _, _, Ext.refl, w0, hn, Post.ext e0 (by simpa using h)⟩, ?_⟩
  rintro i m H ⟨rfl, hi, ρ, S, exx, w, hnD, hp⟩
  by_cases hlt : i < all.length
  · refine .inr ?_
    rw [List.drop_eq_getElem_cons hlt] at hp
    unfold lcL at hp
    split at hp
    · rename_i hst
      obtain ⟨hgo, hy⟩ := (hg ρ S H i (e0.trans exx) w hst).1 hlt
      refine ⟨hgo, Inv' (i + 1), fun H' q => ⟨all.length - (i + 1), by omega, rfl, q⟩, fun x H' yl => ?_⟩
      obtain ⟨rfl, u, hu, ru⟩ := hy x H' yl
      rw [List.getElem?_eq_getElem hlt] at hu
      cases hu
      split at hp
      · rename_i env' he
        have sb : ∀ j ∈ is, j ∈ is ++ is1 := fun j hj => List.mem_append_left _ hj
        refine g_ok he ((eo.mono (e0.trans exx)).wipe (is ++ is1)) ru fun σ2 eo2 hw => ⟨?_, ρ, S, env', w, eo2, ?_⟩
        · rw [← wipe_sub is (τ := σ2) sb, hw, wipe_sub is sb, wipe_sub (is ++ is1) fun _ z => z]
        rw [evt]
        intro ρ3 H3 b e3 w3 rb
        cases rb
        refine iteT ⟨ρ3, S, env', w3, eo2.mono e3, ?_⟩
        rw [bind_assoc] at hp
        refine (Post.bindN (Post.ext e3 hp)).imp fun x4 H4 ⟨ρ4, S4, u4, e4, w4, r4, h4⟩ => ?_
        split at h4
        · rename_i all1 src1 hit
          refine ⟨ρ4, S4, u4, all1, src1, w4, r4, hit, fun J1 hg1 => ?_⟩
          rw [bind_assoc] at h4
          let Inv1 : Nat → Hp → Prop := fun j H => j ≤ all1.length ∧ ∃ ρ S, Ext ρ4 H4 ρ H ∧ Wok X.K X.mg ρ S H ∧
            Post X.mg X.K (RelU X.K) W ρ H ((lcK is1 tp1 (fun env S => (ev Φ te env S).noex) S1.length all1 src1 (wipeE env' is1) (all1.drop j) S).bind fun _ S' => (lcL tp tp1 is is1 (wipeE env (is ++ is1)) (fun env S => (ev Φ ti1 env S).noex) (fun env S => (ev Φ te env S).noex) S1.length all src (all.drop (i + 1)) S').bind fun _ S' => .ok (.loc S1.length) S') Q
          refine ⟨fun j k H => k = all1.length - j ∧ Inv1 j H, ⟨_, rfl, Nat.zero_le _, ρ4, S4, Ext.refl, w4, by simpa using h4⟩, ?_⟩
          rintro j k H5 ⟨rfl, hj, ρ5, S5, e5, w5, hp5⟩
          by_cases hlt1 : j < all1.length
          · refine .inr ?_
            rw [List.drop_eq_getElem_cons hlt1] at hp5
            unfold lcK at hp5
            split at hp5
            · rename_i hst1
              obtain ⟨hgo1, hy1⟩ := (hg1 ρ5 S5 H5 j e5 w5 hst1).1 hlt1
              refine ⟨hgo1, Inv1 (j + 1), fun H' q => ⟨all1.length - (j + 1), by omega, rfl, q⟩, fun x H' yl => ?_⟩
              obtain ⟨rfl, u, hu, ru⟩ := hy1 x H' yl
              rw [List.getElem?_eq_getElem hlt1] at hu
              cases hu
              split at hp5
              · rename_i env'' he1
                refine g_ok he1 ((((eo2.mono e3).mono e4).mono e5).wipe is1) ru fun σ3 eo3 hw1 => ⟨by rw [hw1, wipe_sub is1 fun _ z => z], ρ5, S5, env'', w5, eo3, ?_⟩
                rw [evt]
                intro ρ6 H6 b6 e6 w6 rb6
                cases rb6
                refine iteT ⟨ρ6, S5, env'', w6, eo3.mono e6, ?_⟩
                rw [bind_assoc] at hp5
                refine (Post.bindN (Post.ext e6 hp5)).imp fun y H7 ⟨ρ7, S7, v7, e7, w7, r7, h7⟩ => ?_
                rw [bind_assoc] at h7
                have hD7 : ρ7[S1.length]? = some D := e7.at_ (e6.at_ (e5.at_ (e4.at_ (e3.at_ hnD))))
                obtain ⟨acc, ha, hz, S8, x8, w8, h8⟩ := pushAt_rel w7 hD7 r7 h7
                exact ⟨acc, ha, hz, hlt1, ρ7, S8, ((e5.trans e6).trans e7).trans x8, w8, h8⟩
              · exact hp5.elim
            · exact hp5.elim
          · refine .inl ?_
            have e : j = all1.length := by omega
            subst e
            rw [List.drop_length] at hp5
            unfold lcK at hp5
            split at hp5
            · rename_i hst1
              exact ⟨(hg1 ρ5 S5 H5 _ e5 w5 hst1).2 (Nat.le_refl _), hlt, ρ5, S5, ((exx.trans e3).trans e4).trans e5, w5, e5.at_ (e4.at_ (e3.at_ hnD)), hp5⟩
            · exact hp5.elim
        · exact h4.elim
      · exact hp.elim
    · exact hp.elim
  · refine .inl ?_
    have e : i = all.length := by omega
    subst e
    rw [List.drop_length] at hp
    unfold lcL at hp
    split at hp
    · rename_i hst
      exact ⟨(hg ρ S H _ (e0.trans exx) w hst).2 (Nat.le_refl _), hp.here w (relLoc hnD)⟩
    · exact hp.elim
end
end Oz

end

section
set_option maxHeartbeats 4000000
/-! Oz8: comprehensions and statements. -/
namespace Oz
open PySem PySem.Spec PyProof.Rows L2
section
variable {X : Cx} {p : Pg} {nm : Names} {ad : Str → Addr} {d : Nat} {W : XK} {Φ : Cal} {a b e c o : Expr} {es rest : List Expr} {ta tb te to : E} {tc td : T} {tes : Es} {pos : Pos}
theorem lc_read {tp : Bool} {is : List Nat} {it : E} {tx : T} {σ : L2.St} {H : Hp} {Q : VK} (h : tE X Φ W (.lc is tp te it tx) σ H Q) : tLc (tI X Φ W it) (gOf X.K tp is) (tTs X Φ W0 tx) (tE X Φ W0 te) is σ H Q := by
  obtain ⟨ρ, S, env, w, eo, h⟩ := h
  rw [ev] at h
  refine ⟨ρ, S, env, w, eo, (Post.bind h).imp fun x H1 ⟨ρ1, S1, u, e1, w1, r1, h1⟩ => ?_⟩
  split at h1
  · rename_i all src hi
    exact ⟨ρ1, S1, u, all, src, w1, r1, hi, fun J hg D hD => lc_turns w1 (eo.mono e1) hg hD h1⟩
  · exact h1.elim
theorem t_tt : PTs X [] (tTs X Φ W .tt) := ⟨fun pins s σ H Q I ⟨ρ, S, env, w, eo, h⟩ => (pts_nil (X := X)).run pins s σ H Q I (by rw [evt] at h; exact h.here w rfl)⟩
theorem s_lc (O : Ok X p nm ad d W) (tp : Bool) (own : List (Str × Nat)) {elt tg iter : Expr} {ifs : List Expr} {scope : Scope} {it : E} {tx : T} (hN : X.N.Nodup) (hi : PE X iter (tE X Φ W it)) (ok : BlkOk X.N X.env.scope scope own)
    (hg : ∀ (s : Shared) (H : Hp) (C : Addr) (cl : List (Str × Addr)) (fp : List Addr), PG (X.blk s H scope (compEnvC scope cl C X.env) fp) tg (gOf X.K tp (own.map (·.2))))
    (ht : ∀ (s : Shared) (H : Hp) (C : Addr) (cl : List (Str × Addr)) (fp : List Addr), PTs (X.blk s H scope (compEnvC scope cl C X.env) fp) ifs (tTs X Φ W0 tx))
    (he : ∀ (s : Shared) (H : Hp) (C : Addr) (cl : List (Str × Addr)) (fp : List Addr), PE (X.blk s H scope (compEnvC scope cl C X.env) fp) elt (tE X Φ W0 te)) (hs : ∀ x, foldedSetIterable iter X.env x = pure x := by intro _; rfl) :
    PE X (.ListComp elt [⟨tg, iter, ifs, 0⟩] scope pos) (tE X Φ W (.lc (own.map (·.2)) tp te it tx)) :=
  PEw (pe_lc O.calm hN (pi_any hi) ok hg ht he hs) fun σ H Q h => lc_read h
/-- over zip -/
theorem lcz_read {is : List Nat} {tes : Es} {tx : T} {σ : L2.St} {H : Hp} {Q : VK} (h : tE X Φ W (.lcz is te tes tx) σ H Q) : tLc (RZ.iZipA X.K (tEs X Φ W tes)) (gOf X.K true is) (tTs X Φ W0 tx) (tE X Φ W0 te) is σ H Q := by
  obtain ⟨ρ, S, env, w, eo, h⟩ := h
  rw [ev] at h
  refine ⟨ρ, S, env, w, eo, (Post.bind h).imp fun x H1 ⟨ρ1, S1, u, e1, w1, r1, h1⟩ => ?_⟩
  split at h1
  · rename_i all st hi
    unfold zipU at hi
    split at hi
    · cases hi
      obtain ⟨v, v2, rfl, ra, rb⟩ := rel2 r1
      obtain ⟨q, vs, rfl, hq, hr⟩ := ra.tup
      obtain ⟨q2, vs2, rfl, hq2, hr2⟩ := rb.tup
      exact ⟨q, q2, vs, vs2, rfl, .inr ⟨hq, hq2, fun D hD => lc_turnsJ w1 (eo.mono e1) (goes_zipT hq hr hq2 hr2) hD h1⟩⟩
    · split at hi
      · rename_i xs ys hx hy
        cases hi
        obtain ⟨v, v2, rfl, ra, rb⟩ := rel2 r1
        obtain ⟨q, vs, e3, hq, hr⟩ := w1.list hx ra
        obtain ⟨q2, vs2, e4, hq2, hr2⟩ := w1.list hy rb
        obtain ⟨p, rfl, hp⟩ := ra.loc
        obtain ⟨p2, rfl, hp2⟩ := rb.loc
        cases e3
        cases e4
        exact ⟨q, q2, vs, vs2, rfl, .inl ⟨hq, hq2, fun D hD => lc_turnsJ w1 (eo.mono e1) (goes_zipL hp hp2) hD h1⟩⟩
      · cases hi
    · cases hi
  · exact h1.elim
theorem s_lcz (O : Ok X p nm ad d W) (own : List (Str × Nat)) {elt e1 e2 : Expr} {ifs : List Expr} {scope : Scope} {tx : T} {elts : List Expr} {kk : Nat} {tpos pz pc : Pos} (hN : X.N.Nodup) (ha : PA X [e1, e2] (tEs X Φ W tes)) (ok : BlkOk X.N X.env.scope scope own)
    (hg : ∀ (s : Shared) (H : Hp) (C : Addr) (cl : List (Str × Addr)) (fp : List Addr), PG (X.blk s H scope (compEnvC scope cl C X.env) fp) (.Tuple elts kk tpos) (gOf X.K true (own.map (·.2))))
    (ht : ∀ (s : Shared) (H : Hp) (C : Addr) (cl : List (Str × Addr)) (fp : List Addr), PTs (X.blk s H scope (compEnvC scope cl C X.env) fp) ifs (tTs X Φ W0 tx))
    (he : ∀ (s : Shared) (H : Hp) (C : Addr) (cl : List (Str × Addr)) (fp : List Addr), PE (X.blk s H scope (compEnvC scope cl C X.env) fp) elt (tE X Φ W0 te)) (hz : Gl X "zip" := by rfl) (hm : ("zip" : Str) ∈ nm.bins := by decide +kernel)
    (hs1 : starEach [e1, e2] X.env = (false, eval e1 X.env) :: starEach [e2] X.env := by rfl) (hpl : (backTo pc (starEach [e2] X.env)).any (·.1) = false := by rfl) (hs : ∀ x, foldedSetIterable (.Call (.Name "zip" pz) [e1, e2] [] pc) X.env x = pure x := by intro _; rfl) :
    PE X (.ListComp elt [⟨.Tuple elts kk tpos, .Call (.Name "zip" pz) [e1, e2] [] pc, ifs, 0⟩] scope pos) (tE X Φ W (.lcz (own.map (·.2)) te tes tx)) :=
  PEw (pe_lc O.calm hN (RZ.pi_zipA hz (O.sta.bin _ hm) ha hs1 hpl) ok hg ht he hs) fun σ H Q h => lcz_read h
theorem Ok.blk {scope : Scope} {cenv : PySem.Env} {fp : List Addr} {s : Shared} {H : Hp} (O : Ok X p nm ad d W) : Ok (X.blk s H scope cenv fp) p nm ad d W0 := ⟨O.sta, O.gdi, O.xc, takes0, PassesOwn.never, O.calm, O.room, passL, O.call, O.init, O.kcall⟩
/-! ### range in a comprehension, in a for -/
def RngOf (te1 : Option E) (te2 : E) : E × E := (te1.getD (.k (.int 0)), te2)
def tR (X : Cx) (Φ : Cal) (W : XK) (ta tb : E) : TI := fun σ H R => tE X Φ W ta σ H fun x H1 => tE X Φ W tb σ H1 fun y H2 => ∃ ρ S m n, Wok X.K X.mg ρ S H2 ∧ x = .int m ∧ y = .int n ∧ (-(2 ^ 62) ≤ m ∧ m < 2 ^ 62 ∧ -(2 ^ 62) ≤ n ∧ n < 2 ^ 62) ∧ R (Itr m (n - m).toNat) H2
theorem PIw {tg : Expr} {t t' : TI} (h : PI X tg e t) (i : ∀ σ H Q, t' σ H Q → t σ H Q) : PI X tg e t' := ⟨fun pins s σ H Q I q => h.run pins s σ H Q I (i _ _ _ q)⟩
theorem pi_r2 (O : Ok X p nm ad d W) {tg : Expr} {px : Pos} (ha : PE X a (tE X Φ W ta)) (hb : PE X b (tE X Φ W tb)) (hg : Gl X "range" := by rfl) (hm : ("range" : Str) ∈ nm.bins := by decide +kernel)
    (hs : starEach [a, b] X.env = [(false, eval a X.env), (false, eval b X.env)] := by rfl) (hs2 : starEach [b] X.env = [(false, eval b X.env)] := by rfl) : PI X tg (.Call (.Name "range" px) [a, b] [] pos) (tR X Φ W ta tb) := by
  refine PIw (pi_range2 hg (O.sta.bin _ hm) (pa_cons ha (pa_cons hb pa_nil (by rw [hs2]; rfl)) (by rw [hs, hs2])) hs hs2) fun σ H R h => ?_
  obtain ⟨ρ, S, env, w, eo, h⟩ := h
  refine ⟨ρ, S, env, w, eo, h.imp fun x H1 h1 => ?_⟩
  obtain ⟨ρ1, S1, env1, w1, eo1, h1⟩ := h1
  refine ⟨ρ1, S1, env1, w1, eo1, h1.imp fun y H2 h2 => ?_⟩
  obtain ⟨ρ2, S2, m, n, w2, rfl, rfl, hb, hr⟩ := h2
  exact ⟨m, n, rfl, hb, hr⟩
theorem pi_r1 (O : Ok X p nm ad d W) {tg : Expr} {px : Pos} (hb : PE X b (tE X Φ W tb)) (hg : Gl X "range" := by rfl) (hm : ("range" : Str) ∈ nm.bins := by decide +kernel)
    (hs : starEach [b] X.env = [(false, eval b X.env)] := by rfl) : PI X tg (.Call (.Name "range" px) [b] [] pos) (tR X Φ W (.k (.int 0)) tb) := by
  refine PIw (pi_range1 hg (O.sta.bin _ hm) (pa_cons hb pa_nil (by rw [hs]; rfl)) hs) fun σ H R h => ?_
  obtain ⟨ρ, S, env, w, eo, h⟩ := h
  rw [ev] at h
  have h1 := h.here w relInt
  obtain ⟨ρ1, S1, env1, w1, eo1, h1⟩ := h1
  refine ⟨ρ1, S1, env1, w1, eo1, h1.imp fun y H2 h2 => ?_⟩
  obtain ⟨ρ2, S2, m, n, w2, e1, rfl, hb, hr⟩ := h2
  cases e1
  refine ⟨n, rfl, hb.2.2.1, hb.2.2.2, ?_⟩
  simpa using hr
theorem rng_read {σ : L2.St} {H : Hp} {ρ : List Addr} {S : Sto} {env : Env} {α β : Type} {Rr : List Addr → Hp → α → β → Prop} {Q : β → Hp → Prop} {f : U → U → Sto → R α} {R : It → Hp → Prop} (w : Wok X.K X.mg ρ S H) (eo : EnvOk X.K ρ H env σ)
    (h : Post X.mg X.K Rr W ρ H ((ev Φ ta env S).bind fun x S => (ev Φ tb env S).bind fun y S => f x y S) Q)
    (k : ∀ ρ2 S2 H2 x y, Wok X.K X.mg ρ2 S2 H2 → EnvOk X.K ρ2 H2 env σ → Post X.mg X.K Rr W ρ2 H2 (f x y S2) Q → ∃ m n, x = .int m ∧ y = .int n ∧ (-(2 ^ 62) ≤ m ∧ m < 2 ^ 62 ∧ -(2 ^ 62) ≤ n ∧ n < 2 ^ 62) ∧ R (Itr m (n - m).toNat) H2) : tR X Φ W ta tb σ H R := by
  refine ⟨ρ, S, env, w, eo, (Post.bind h).imp fun x H1 ⟨ρ1, S1, u, e1, w1, r1, h1⟩ => ⟨ρ1, S1, env, w1, eo.mono e1, (Post.bind h1).imp fun y H2 ⟨ρ2, S2, u2, e2, w2, r2, h2⟩ => ?_⟩⟩
  obtain ⟨m, n, rfl, rfl, hb, hr⟩ := k ρ2 S2 H2 u u2 w2 ((eo.mono e1).mono e2) h2
  cases r1.int
  cases r2.int
  exact ⟨ρ2, S2, m, n, w2, rfl, rfl, hb, hr⟩
theorem lcr_read {is : List Nat} {tx : T} {σ : L2.St} {H : Hp} {Q : VK} (h : tE X Φ W (.lcr is te ta tb tx) σ H Q) : tLc (tR X Φ W ta tb) (gOf X.K false is) (tTs X Φ W0 tx) (tE X Φ W0 te) is σ H Q := by
  obtain ⟨ρ, S, env, w, eo, h⟩ := h
  rw [ev] at h
  refine rng_read w eo h fun ρ2 S2 H2 x y w2 eo2 h2 => ?_
  split at h2
  · split at h2
    · rename_i m n hb
      exact ⟨m, n, rfl, rfl, hb, fun D hD => lc_turns w2 eo2 goes_rng hD h2⟩
    · exact h2.elim
  · exact h2.elim
theorem s_lcr (O : Ok X p nm ad d W) (own : List (Str × Nat)) {elt tg iter : Expr} {ifs : List Expr} {scope : Scope} {tx : T} (hN : X.N.Nodup) (hi : PI X tg iter (tR X Φ W ta tb)) (ok : BlkOk X.N X.env.scope scope own)
    (hg : ∀ (s : Shared) (H : Hp) (C : Addr) (cl : List (Str × Addr)) (fp : List Addr), PG (X.blk s H scope (compEnvC scope cl C X.env) fp) tg (gOf X.K false (own.map (·.2))))
    (ht : ∀ (s : Shared) (H : Hp) (C : Addr) (cl : List (Str × Addr)) (fp : List Addr), PTs (X.blk s H scope (compEnvC scope cl C X.env) fp) ifs (tTs X Φ W0 tx))
    (he : ∀ (s : Shared) (H : Hp) (C : Addr) (cl : List (Str × Addr)) (fp : List Addr), PE (X.blk s H scope (compEnvC scope cl C X.env) fp) elt (tE X Φ W0 te)) (hs : ∀ x, foldedSetIterable iter X.env x = pure x := by intro _; rfl) :
    PE X (.ListComp elt [⟨tg, iter, ifs, 0⟩] scope pos) (tE X Φ W (.lcr (own.map (·.2)) te ta tb tx)) :=
  PEw (pe_lc O.calm hN hi ok hg ht he hs) fun σ H Q h => lcr_read h

/-- two walks -/
theorem lc2_read {is is1 : List Nat} {tp tp1 : Bool} {it it1 : E} {σ : L2.St} {H : Hp} {Q : VK} (h : tE X Φ W (.lc2 is is1 tp tp1 te it it1) σ H Q) : tLc2 (tI X Φ W it) (gOf X.K tp is) (tTs X Φ W0 .tt) (tI X Φ W0 it1) (gOf X.K tp1 is1) (tTs X Φ W0 .tt) (tE X Φ W0 te) (is ++ is1) is1 σ H Q := by
  obtain ⟨ρ, S, env, w, eo, h⟩ := h
  rw [ev] at h
  refine ⟨ρ, S, env, w, eo, (Post.bind h).imp fun x H1 ⟨ρ1, S1, u, e1, w1, r1, h1⟩ => ?_⟩
  split at h1
  · rename_i all src hi
    exact ⟨ρ1, S1, u, all, src, w1, r1, hi, fun J hg D hD => lc2_turns w1 (eo.mono e1) hg hD h1⟩
  · exact h1.elim
theorem s_lc2 (O : Ok X p nm ad d W) (tp tp1 : Bool) (own : List (Str × Nat)) (is is1 : List Nat) {elt tg iter tg1 iter1 : Expr} {scope : Scope} {it it1 : E} (hN : X.N.Nodup) (hi : PE X iter (tE X Φ W it)) (ok : BlkOk X.N X.env.scope scope own)
    (hg : ∀ (s : Shared) (H : Hp) (C : Addr) (cl : List (Str × Addr)) (fp : List Addr), PG (X.blk s H scope (compEnvC scope cl C X.env) fp) tg (gOf X.K tp is))
    (hi1 : ∀ (s : Shared) (H : Hp) (C : Addr) (cl : List (Str × Addr)) (fp : List Addr), PE (X.blk s H scope (compEnvC scope cl C X.env) fp) iter1 (tE X Φ W0 it1))
    (hg1 : ∀ (s : Shared) (H : Hp) (C : Addr) (cl : List (Str × Addr)) (fp : List Addr), PG (X.blk s H scope (compEnvC scope cl C X.env) fp) tg1 (gOf X.K tp1 is1))
    (he : ∀ (s : Shared) (H : Hp) (C : Addr) (cl : List (Str × Addr)) (fp : List Addr), PE (X.blk s H scope (compEnvC scope cl C X.env) fp) elt (tE X Φ W0 te)) (hvs : own.map (·.2) = is ++ is1 := by rfl) (hs : ∀ x, foldedSetIterable iter X.env x = pure x := by intro _; rfl) (hs1 : ∀ env x, foldedSetIterable iter1 env x = pure x := by intro _ _; rfl) :
    PE X (.ListComp elt [⟨tg, iter, [], 0⟩, ⟨tg1, iter1, [], 0⟩] scope pos) (tE X Φ W (.lc2 is is1 tp tp1 te it it1)) := by
  have ht : ∀ (s : Shared) (H : Hp) (C : Addr) (cl : List (Str × Addr)) (fp : List Addr), PTs (X.blk s H scope (compEnvC scope cl C X.env) fp) [] (tTs X Φ W0 .tt) := fun s H C cl fp => t_tt
  have hi1' : ∀ (s : Shared) (H : Hp) (C : Addr) (cl : List (Str × Addr)) (fp : List Addr), PI (X.blk s H scope (compEnvC scope cl C X.env) fp) tg1 iter1 (tI X Φ W0 it1) := fun s H C cl fp => pi_any (hi1 s H C cl fp)
  have hp := pe_lc2 (pos := pos) (vs1 := is1) O.calm hN (pi_any (tg := tg) hi) ok (by rw [hvs]; exact fun i h => List.mem_append_right _ h) hg ht hi1' hg1 ht he hs hs1
  rw [hvs] at hp
  exact PEw hp fun σ H Q h => lc2_read h

/-! ### statements -/
def PostS (mg : Str → Option Value) (K : PySem.W.Frag) (W : XK) (ρ : List Addr) (H : Hp) (o : O) (D : Ends) : Prop :=
  match o with
  | .nx env S => ∀ ρ' H' σ', Ext ρ H ρ' H' → Wok K mg ρ' S H' → EnvOk K ρ' H' env σ' → D.nx σ' H'
  | .ret u S => ∀ ρ' H' v, Ext ρ H ρ' H' → Wok K mg ρ' S H' → RelU K ρ' H' u v → D.rt v H'
  | .bk env S => ∀ ρ' H' σ', Ext ρ H ρ' H' → Wok K mg ρ' S H' → EnvOk K ρ' H' env σ' → D.bk σ' H'
  | .ct env S => ∀ ρ' H' σ', Ext ρ H ρ' H' → Wok K mg ρ' S H' → EnvOk K ρ' H' env σ' → D.ct σ' H'
  | .exc c fs S => ∀ ρ' H' C d vfs, Ext ρ H ρ' H' → Wok K mg ρ' S H' → mg c = some (.ref C) → H' d = some (.xd vfs) → RelF K ρ' H' fs vfs → W (.ref C) (some d) H'
  | .bad => False
def tS (X : Cx) (Φ : Cal) (W : XK) (s : St) : TS := fun D σ H => ∃ ρ S env, Wok X.K X.mg ρ S H ∧ EnvOk X.K ρ H env σ ∧ PostS X.mg X.K W ρ H (ex Φ s env S) D
def tB (X : Cx) (Φ : Cal) (W : XK) (s : Sts) : TS := fun D σ H => ∃ ρ S env, Wok X.K X.mg ρ S H ∧ EnvOk X.K ρ H env σ ∧ PostS X.mg X.K W ρ H (exs Φ s env S) D
theorem PSw {s : Stmt} {t t' : TS} (h : PS X s t) (i : ∀ D σ H, t' D σ H → t D σ H) : PS X s t' := ⟨fun pins s σ H D I q => h.run pins s σ H D I (i _ _ _ q)⟩
theorem PSsw {s : List Stmt} {t t' : TS} (h : PSs X s t) (i : ∀ D σ H, t' D σ H → t D σ H) : PSs X s t' := ⟨fun pins s σ H D I q => h.run pins s σ H D I (i _ _ _ q)⟩
section
variable {K : PySem.W.Frag} {mg : Str → Option Value}
theorem PostS.ext {ρ ρ1 : List Addr} {H H1 : Hp} {r : O} {D : Ends} (e : Ext ρ H ρ1 H1) (h : PostS mg K W ρ H r D) : PostS mg K W ρ1 H1 r D := by
  cases r with
  | nx a S => exact fun ρ' H' b e' w r => h ρ' H' b (e.trans e') w r
  | ret a S => exact fun ρ' H' b e' w r => h ρ' H' b (e.trans e') w r
  | bk a S => exact fun ρ' H' b e' w r => h ρ' H' b (e.trans e') w r
  | ct a S => exact fun ρ' H' b e' w r => h ρ' H' b (e.trans e') w r
  | exc c fs S => exact fun ρ' H' C d vfs e' w m x r => h ρ' H' C d vfs (e.trans e') w m x r
  | bad => exact h
theorem PostS.here {ρ : List Addr} {S : Sto} {H : Hp} {env : Env} {σ : L2.St} {D : Ends} (h : PostS mg K W ρ H (.nx env S) D) (w : Wok K mg ρ S H) (r : EnvOk K ρ H env σ) : D.nx σ H := h ρ H σ Ext.refl w r
theorem PostS.on {α β : Type} {Rr : List Addr → Hp → α → β → Prop} {ρ : List Addr} {H : Hp} {r : R α} {f : α → Sto → O} {D : Ends} (h : PostS mg K W ρ H (r.on f) D) :
    Post mg K Rr W ρ H r fun b H1 => ∃ ρ1 S1 a, Ext ρ H ρ1 H1 ∧ Wok K mg ρ1 S1 H1 ∧ Rr ρ1 H1 a b ∧ PostS mg K W ρ1 H1 (f a S1) D := by
  cases r with
  | ok a S => exact fun ρ' H' b e w r => ⟨ρ', S, a, e, w, r, PostS.ext e h⟩
  | exc c fs S => exact h
  | bad => exact h
/-- what stands behind a statement -/
def nxOf (mg : Str → Option Value) (K : PySem.W.Frag) (W : XK) (f : Env → Sto → O) (D : Ends) : L2.St → Hp → Prop := fun σ H1 => ∃ ρ1 S1 env1, Wok K mg ρ1 S1 H1 ∧ EnvOk K ρ1 H1 env1 σ ∧ PostS mg K W ρ1 H1 (f env1 S1) D
theorem PostS.then_ {ρ : List Addr} {H : Hp} {r : O} {f : Env → Sto → O} {D : Ends} (h : PostS mg K W ρ H (r.then_ f) D) : PostS mg K W ρ H r { D with nx := nxOf mg K W f D } := by
  cases r with
  | nx a S => exact fun ρ' H' b e' w r => ⟨ρ', S, a, w, r, PostS.ext e' h⟩
  | ret a S => exact h
  | bk a S => exact h
  | ct a S => exact h
  | exc c fs S => exact h
  | bad => exact h
end
theorem b_nil : PSs X [] (tB X Φ W .nil) := PSsw pss_nil fun D σ H ⟨ρ, S, env, w, eo, h⟩ => by rw [exs] at h; exact h.here w eo
theorem b_cons {st : Stmt} {sts : List Stmt} {ts : St} {tb : Sts} (h1 : PS X st (tS X Φ W ts)) (h2 : PSs X sts (tB X Φ W tb)) : PSs X (st :: sts) (tB X Φ W (.cons ts tb)) :=
  PSsw (pss_cons h1 h2) fun D σ H ⟨ρ, S, env, w, eo, h⟩ => by rw [exs] at h; exact ⟨ρ, S, env, w, eo, h.then_⟩
theorem x_ex (ha : PE X a (tE X Φ W ta)) (hs : swapsWith a none pos.line X.env = pure false := by rfl) : PS X (.Expr a pos) (tS X Φ W (.ex ta)) :=
  PSw (ps_expr ha hs) fun D σ H ⟨ρ, S, env, w, eo, h⟩ => by
    rw [ex] at h
    exact ⟨ρ, S, env, w, eo, (PostS.on h).imp fun x H1 ⟨ρ1, S1, u, e1, w1, r1, h1⟩ => h1.here w1 (eo.mono e1)⟩
theorem x_ret (ha : PE X a (tE X Φ W ta)) : PS X (.Return (some a) pos) (tS X Φ W (.ret ta)) :=
  PSw (ps_ret ha) fun D σ H ⟨ρ, S, env, w, eo, h⟩ => by
    rw [ex] at h
    exact ⟨ρ, S, env, w, eo, (PostS.on h).imp fun x H1 ⟨ρ1, S1, u, e1, w1, r1, h1⟩ => h1 ρ1 H1 x Ext.refl w1 r1⟩
theorem x_retN : PS X (.Return none pos) (tS X Φ W .retN) := PSw ps_retN fun D σ H ⟨ρ, S, env, w, eo, h⟩ => by rw [ex] at h; exact h ρ H _ Ext.refl w relNon
theorem x_pass : PS X (.Pass pos) (tS X Φ W .pass) := PSw ps_pass fun D σ H ⟨ρ, S, env, w, eo, h⟩ => by rw [ex] at h; exact h.here w eo
theorem x_brk : PS X (.Break pos) (tS X Φ W .brk) := PSw ps_break fun D σ H ⟨ρ, S, env, w, eo, h⟩ => by rw [ex] at h; exact h ρ H _ Ext.refl w eo
theorem x_cont : PS X (.Continue pos) (tS X Φ W .cont) := PSw ps_continue fun D σ H ⟨ρ, S, env, w, eo, h⟩ => by rw [ex] at h; exact h ρ H _ Ext.refl w eo
theorem x_if {sa sb : List Stmt} {tsa tsb : Sts} (hc : PT X c (tTs X Φ W tc)) (ha : PSs X sa (tB X Φ W tsa)) (hb : PSs X sb (tB X Φ W tsb)) : PS X (.If c sa sb pos) (tS X Φ W (.if_ tc tsa tsb)) :=
  PSw (ps_if hc ha hb) fun D σ H ⟨ρ, S, env, w, eo, h⟩ => by
    rw [ex] at h
    refine ⟨ρ, S, env, w, eo, (PostS.on (Rr := Rid) h).imp fun x H1 ⟨ρ1, S1, u, e1, w1, r1, h1⟩ => ?_⟩
    cases r1
    cases x with
    | true => exact iteT ⟨ρ1, S1, env, w1, eo.mono e1, h1⟩
    | false => exact iteF ⟨ρ1, S1, env, w1, eo.mono e1, h1⟩
theorem set_nx {tp : Bool} {is : List Nat} {D : Ends} {σ : L2.St} {H H1 : Hp} {ρ ρ1 : List Addr} {S1 : Sto} {env : Env} {u : U} {x : V} (e1 : Ext ρ H ρ1 H1) (eo : EnvOk X.K ρ H env σ) (w1 : Wok X.K X.mg ρ1 S1 H1) (r1 : RelU X.K ρ1 H1 u x)
    (h1 : PostS X.mg X.K W ρ1 H1 (match setN tp is u env with | some env => O.nx env S1 | none => .bad) D) : gOf X.K tp is x σ H1 D.nx := by
  split at h1
  · rename_i env' he
    exact g_ok he (eo.mono e1) r1 fun σ' eo' _ => h1.here w1 eo'
  · exact h1.elim
theorem x_set (i : Nat) {x : Str} {px : Pos} (hN : X.N.Nodup) (ha : PE X a (tE X Φ W ta)) (hi : X.N[i]? = some x := by rfl) (hx : Loc X.env.scope x := by first | exact Or.inl rfl | exact Or.inr rfl) (hs : swapsWith a (some (.Name x px)) pos.line X.env = pure false := by rfl)
    (hf : X.fn x = true ∨ X.env.scope.names.lookup x = some .local := by first | exact .inl rfl | exact .inr rfl) : PS X (.Assign [.Name x px] a pos) (tS X Φ W (.set false [i] ta)) :=
  PSw (ps_set hN hi hx ha hs hf) fun D σ H ⟨ρ, S, env, w, eo, h⟩ => by
    rw [ex] at h
    exact ⟨ρ, S, env, w, eo, (PostS.on h).imp fun x H1 ⟨ρ1, S1, u, e1, w1, r1, h1⟩ => set_nx (tp := false) (is := [i]) e1 eo w1 r1 h1⟩
theorem x_tup {is : List Nat} {k : Nat} {pt : Pos} (hc : X.calm = true) (ha : PE X a (tE X Φ W ta)) (hg : PGs X es (gsOf is)) (hn : (assignEach es X.env).length = is.length := by rfl) (hst : (assignEach es X.env).findIdx? (·.1) = none := by rfl)
    (hs : swapsWithSole [.Tuple es k pt] a pos.line X.env = pure false := by rfl) (hw : swappedStores [.Tuple es k pt] a X.env = pure none := by rfl) (h1 : (assignEach [.Tuple es k pt] X.env).map (·.2) = [assign (.Tuple es k pt) X.env] := by rfl) :
    PS X (.Assign [.Tuple es k pt] a pos) (tS X Φ W (.set true is ta)) :=
  PSw (ps_asg ha (g_tup hc hg hn hst) hs hw h1) fun D σ H ⟨ρ, S, env, w, eo, h⟩ => by
    rw [ex] at h
    exact ⟨ρ, S, env, w, eo, (PostS.on h).imp fun x H1 ⟨ρ1, S1, u, e1, w1, r1, h1⟩ => set_nx (tp := true) (is := is) e1 eo w1 r1 h1⟩
theorem x_par (i j : Nat) {y z : Str} {b : Expr} {es : Es} {px py pt : Pos} {kt k2 : Nat} {pt2 : Pos} (hc : X.calm = true) (hN : X.N.Nodup) (ha : PA X [a, b] (tEs X Φ W es)) (hi : X.N[i]? = some y := by rfl) (hj : X.N[j]? = some z := by rfl) (hij : i ≠ j := by decide)
    (hy : X.env.scope.names.lookup y = some .local := by rfl) (hz : X.env.scope.names.lookup z = some .local := by rfl)
    (hw : swappedStores [.Tuple [.Name y px, .Name z py] kt pt] (.Tuple [a, b] k2 pt2) X.env = pure (some [y, z]) := by rfl)
    (hs : swapsWithSole [.Tuple [.Name y px, .Name z py] kt pt] (.Tuple [a, b] k2 pt2) pos.line X.env = pure false := by rfl) :
    PS X (.Assign [.Tuple [.Name y px, .Name z py] kt pt] (.Tuple [a, b] k2 pt2) pos) (tS X Φ W (.par i j es)) :=
  PSw (ps_par hc hN hi hj hij hy hz ha hw hs) fun D σ H ⟨ρ, S, env, w, eo, h⟩ => by
    rw [ex] at h
    refine ⟨ρ, S, env, w, eo, (PostS.on h).imp fun vs H1 ⟨ρ1, S1, us, e1, w1, r1, h1⟩ => ?_⟩
    split at h1
    · rename_i u v
      obtain ⟨x1, vs1, rfl, ru, r1⟩ := r1
      obtain ⟨x2, vs2, rfl, rv, r1⟩ := r1
      cases (show vs2 = [] from r1)
      exact ⟨x1, x2, rfl, h1.here w1 (((eo.mono e1).set i ru).set j rv)⟩
    · exact h1.elim
/-- name = [..] on one line -/
theorem x_setLc (O : Ok X p nm ad d W) (i : Nat) (tp : Bool) (own : List (Str × Nat)) {y : Str} {py spos : Pos} {elt tg iter : Expr} {ifs : List Expr} {scope : Scope} {it : E} {tx : T} (hN : X.N.Nodup) (hi : PE X iter (tE X Φ W it)) (ok : BlkOk X.N X.env.scope scope own)
    (hg : ∀ (s : Shared) (H : Hp) (C : Addr) (cl : List (Str × Addr)) (fp : List Addr), PG (X.blk s H scope (compEnvC scope cl C X.env) fp) tg (gOf X.K tp (own.map (·.2))))
    (ht : ∀ (s : Shared) (H : Hp) (C : Addr) (cl : List (Str × Addr)) (fp : List Addr), PTs (X.blk s H scope (compEnvC scope cl C X.env) fp) ifs (tTs X Φ W0 tx))
    (he : ∀ (s : Shared) (H : Hp) (C : Addr) (cl : List (Str × Addr)) (fp : List Addr), PE (X.blk s H scope (compEnvC scope cl C X.env) fp) elt (tE X Φ W0 te))
    (hsw : swapsWith (.ListComp elt [⟨tg, iter, ifs, 0⟩] scope pos) (some (.Name y py)) spos.line X.env = pure true) (hy : X.N[i]? = some y := by rfl) (hyl : X.env.scope.names.lookup y = some .local := by rfl) (hs : ∀ x, foldedSetIterable iter X.env x = pure x := by intro _; rfl) :
    PS X (.Assign [.Name y py] (.ListComp elt [⟨tg, iter, ifs, 0⟩] scope pos) spos) (tS X Φ W (.set false [i] (.lc (own.map (·.2)) tp te it tx))) :=
  PSw (ps_setLc O.calm hN hy hyl hsw (pi_any hi) ok hg ht he hs) fun D σ H ⟨ρ, S, env, w, eo, h⟩ => by
    rw [ex] at h
    exact lc_read ⟨ρ, S, env, w, eo, (PostS.on h).imp fun x H1 ⟨ρ1, S1, u, e1, w1, r1, h1⟩ => set_nx (tp := false) (is := [i]) e1 eo w1 r1 h1⟩
theorem x_setLcz (O : Ok X p nm ad d W) (i : Nat) (own : List (Str × Nat)) {y : Str} {py spos : Pos} {elt e1 e2 : Expr} {ifs : List Expr} {scope : Scope} {tx : T} {elts : List Expr} {kk : Nat} {tpos pz pc : Pos} (hN : X.N.Nodup) (ha : PA X [e1, e2] (tEs X Φ W tes)) (ok : BlkOk X.N X.env.scope scope own)
    (hg : ∀ (s : Shared) (H : Hp) (C : Addr) (cl : List (Str × Addr)) (fp : List Addr), PG (X.blk s H scope (compEnvC scope cl C X.env) fp) (.Tuple elts kk tpos) (gOf X.K true (own.map (·.2))))
    (ht : ∀ (s : Shared) (H : Hp) (C : Addr) (cl : List (Str × Addr)) (fp : List Addr), PTs (X.blk s H scope (compEnvC scope cl C X.env) fp) ifs (tTs X Φ W0 tx))
    (he : ∀ (s : Shared) (H : Hp) (C : Addr) (cl : List (Str × Addr)) (fp : List Addr), PE (X.blk s H scope (compEnvC scope cl C X.env) fp) elt (tE X Φ W0 te))
    (hsw : swapsWith (.ListComp elt [⟨.Tuple elts kk tpos, .Call (.Name "zip" pz) [e1, e2] [] pc, ifs, 0⟩] scope pos) (some (.Name y py)) spos.line X.env = pure true) (hz : Gl X "zip" := by rfl) (hm : ("zip" : Str) ∈ nm.bins := by decide +kernel)
    (hs1 : starEach [e1, e2] X.env = (false, eval e1 X.env) :: starEach [e2] X.env := by rfl) (hpl : (backTo pc (starEach [e2] X.env)).any (·.1) = false := by rfl) (hy : X.N[i]? = some y := by rfl) (hyl : X.env.scope.names.lookup y = some .local := by rfl) (hs : ∀ x, foldedSetIterable (.Call (.Name "zip" pz) [e1, e2] [] pc) X.env x = pure x := by intro _; rfl) :
    PS X (.Assign [.Name y py] (.ListComp elt [⟨.Tuple elts kk tpos, .Call (.Name "zip" pz) [e1, e2] [] pc, ifs, 0⟩] scope pos) spos) (tS X Φ W (.set false [i] (.lcz (own.map (·.2)) te tes tx))) :=
  PSw (ps_setLc O.calm hN hy hyl hsw (RZ.pi_zipA hz (O.sta.bin _ hm) ha hs1 hpl) ok hg ht he hs) fun D σ H ⟨ρ, S, env, w, eo, h⟩ => by
    rw [ex] at h
    exact lcz_read ⟨ρ, S, env, w, eo, (PostS.on h).imp fun x H1 ⟨ρ1, S1, u, e1, w1, r1, h1⟩ => set_nx (tp := false) (is := [i]) e1 eo w1 r1 h1⟩
theorem x_setLcr (O : Ok X p nm ad d W) (i : Nat) (own : List (Str × Nat)) {y : Str} {py spos : Pos} {elt tg iter : Expr} {ifs : List Expr} {scope : Scope} {tx : T} (hN : X.N.Nodup) (hi : PI X tg iter (tR X Φ W ta tb)) (ok : BlkOk X.N X.env.scope scope own)
    (hg : ∀ (s : Shared) (H : Hp) (C : Addr) (cl : List (Str × Addr)) (fp : List Addr), PG (X.blk s H scope (compEnvC scope cl C X.env) fp) tg (gOf X.K false (own.map (·.2))))
    (ht : ∀ (s : Shared) (H : Hp) (C : Addr) (cl : List (Str × Addr)) (fp : List Addr), PTs (X.blk s H scope (compEnvC scope cl C X.env) fp) ifs (tTs X Φ W0 tx))
    (he : ∀ (s : Shared) (H : Hp) (C : Addr) (cl : List (Str × Addr)) (fp : List Addr), PE (X.blk s H scope (compEnvC scope cl C X.env) fp) elt (tE X Φ W0 te))
    (hsw : swapsWith (.ListComp elt [⟨tg, iter, ifs, 0⟩] scope pos) (some (.Name y py)) spos.line X.env = pure true) (hy : X.N[i]? = some y := by rfl) (hyl : X.env.scope.names.lookup y = some .local := by rfl) (hs : ∀ x, foldedSetIterable iter X.env x = pure x := by intro _; rfl) :
    PS X (.Assign [.Name y py] (.ListComp elt [⟨tg, iter, ifs, 0⟩] scope pos) spos) (tS X Φ W (.set false [i] (.lcr (own.map (·.2)) te ta tb tx))) :=
  PSw (ps_setLc O.calm hN hy hyl hsw hi ok hg ht he hs) fun D σ H ⟨ρ, S, env, w, eo, h⟩ => by
    rw [ex] at h
    exact lcr_read ⟨ρ, S, env, w, eo, (PostS.on h).imp fun x H1 ⟨ρ1, S1, u, e1, w1, r1, h1⟩ => set_nx (tp := false) (is := [i]) e1 eo w1 r1 h1⟩
/-! ### stores -/
theorem set_item : PSet X (fun o i v H Q => ∃ ρ S uo ui u, Wok X.K X.mg ρ S H ∧ RelU X.K ρ H uo o ∧ RelU X.K ρ H ui i ∧ RelU X.K ρ H u v ∧ Post X.mg X.K (Rid (α := Unit)) W ρ H (setItemU uo ui u S) (fun _ => Q)) := by
  rintro pins s σ H o i v ov iv u Q I ro ri rv ⟨ρ, S, uo, ui, uu, w, r1, r2, r3, h⟩
  unfold setItemU at h
  split at h
  · obtain ⟨a, rfl, ha⟩ := r1.loc
    cases r2.int
    split at h
    · rename_i xs hx
      split at h
      · rename_i j hj
        obtain ⟨vs, e, q⟩ := w.at_ hx ha
        exact set_list pins s σ H _ _ v ov iv u Q I ro ri rv ⟨a, vs, _, j, rfl, rfl, e, by rw [q.length]; exact hj, h.set w ha hx e (q.set r3 j) fun _ _ => rfl⟩
      · exact h.elim
    · exact h.elim
  · exact h.elim
theorem x_sub {i : Expr} {ti : E} {pt : Pos} (hc : PE X c (tE X Φ W te)) (ho : PE X o (tE X Φ W to)) (hi : PE X i (tE X Φ W ti)) (hs : swapsWithSole [.Subscript o i pt] c pos.line X.env = pure false := by rfl) (hw : swappedStores [.Subscript o i pt] c X.env = pure none := by rfl)
    (h1 : (assignEach [.Subscript o i pt] X.env).map (·.2) = [assign (.Subscript o i pt) X.env] := by rfl)
    (ha : ∀ v, assign (.Subscript o i pt) X.env v = (do
      let ov ← holding [v] (eval o X.env)
      let iv ← holding [v, ov] (eval i X.env)
      standAt pt
      holding [v, ov, iv] (setItem ov iv v)
      release [v, ov, iv] []) := by intro _; rfl) : PS X (.Assign [.Subscript o i pt] c pos) (tS X Φ W (.sub to ti te)) :=
  PSw (ps_asg hc (pg_sub ho hi (set_item (W := W)) ha) hs hw h1) fun D σ H ⟨ρ, S, env, w, eo, h⟩ => by
    rw [ex] at h
    refine ⟨ρ, S, env, w, eo, (PostS.on h).imp fun x H1 ⟨ρ1, S1, u, e1, w1, r1, h1⟩ => ⟨ρ1, S1, env, w1, eo.mono e1, (PostS.on h1).imp fun y H2 ⟨ρ2, S2, u2, e2, w2, r2, h2⟩ => ⟨ρ2, S2, env, w2, (eo.mono e1).mono e2, (PostS.on h2).imp fun z H3 ⟨ρ3, S3, u3, e3, w3, r3, h3⟩ => ?_⟩⟩⟩
    refine ⟨ρ3, S3, u2, u3, u, w3, r2.mono e3, r3, (r1.mono e2).mono e3, (PostS.on (Rr := Rid) h3).imp fun _ H4 ⟨ρ4, S4, _, e4, w4, _, h4⟩ => ?_⟩
    exact h4.here w4 ((((eo.mono e1).mono e2).mono e3).mono e4)
theorem aug_ip (op : Op) : PIp X (opOf op) (r2 X W (augU op)) := by
  rintro pins s σ H x y v u Q I rx ry ⟨ρ, S, a, b, w, ra, rb, h⟩
  unfold augU at h
  split at h
  · cases ra.int; cases rb.int
    exact iop_add pins s σ H _ _ v u Q I rx ry ⟨_, _, rfl, rfl, h.here w relInt⟩
  · cases ra.str; cases rb.str
    split at h
    · rename_i hz
      exact iop_add_str pins s σ H _ _ v u Q I rx ry ⟨_, _, rfl, rfl, hz, h.here w relStr⟩
    · exact h.elim
  · cases ra.int; cases rb.int
    exact iop_sub pins s σ H _ _ v u Q I rx ry ⟨_, _, rfl, rfl, h.here w relInt⟩
  · cases ra.int; cases rb.int
    split at h
    · rename_i hz
      exact iop_mul pins s σ H _ _ v u Q I rx ry ⟨_, _, rfl, rfl, hz, h.here w relInt⟩
    · exact h.elim
  · exact h.elim
theorem x_aug (op : Op) (i : Nat) {x : Str} {px : Pos} (hN : X.N.Nodup) (ha : PE X a (tE X Φ W ta)) (hi : X.N[i]? = some x := by rfl) (hx : Loc X.env.scope x := by first | exact Or.inl rfl | exact Or.inr rfl) (hf : X.fn x = true ∨ X.env.scope.names.lookup x = some .local := by first | exact .inl rfl | exact .inr rfl) :
    PS X (.AugAssign (.Name x px) (opOf op) a pos) (tS X Φ W (.aug i op ta)) :=
  PSw (ps_aug hN hi hx ha (aug_ip (W := W) op) hf) fun D σ H ⟨ρ, S, env, w, eo, h⟩ => by
    rw [ex] at h
    split at h
    · rename_i u hu
      obtain ⟨v, hv, rv⟩ := eo.ok i u hu
      refine ⟨v, hv, ρ, S, env, w, eo, (PostS.on h).imp fun y H1 ⟨ρ1, S1, u1, e1, w1, r1, h1⟩ => ⟨ρ1, S1, u, u1, w1, rv.mono e1, r1, (PostS.on h1).imp fun z H2 ⟨ρ2, S2, u2, e2, w2, r2, h2⟩ => ?_⟩⟩
      exact h2.here w2 (((eo.mono e1).mono e2).set i r2)
    · exact h.elim
theorem fld_put (O : Ok X p nm ad d W) {C f : Str} (hC : C ∈ nm.clss) {uo u : U} {x y : V} {H : Hp} {ρ : List Addr} {S : Sto} {Q : Hp → Prop} (w : Wok X.K X.mg ρ S H) (r1 : RelU X.K ρ H uo x) (r2 : RelU X.K ρ H u y) (h : Post X.mg X.K (Rid (α := Unit)) W ρ H (setFldU uo C f u S) (fun _ => Q)) :
    ∃ a dx vfs, x = .ref a ∧ H a = some (.ins (ad C) dx vfs) ∧ vfs.length < 1000 ∧ Q (upd H a (.ins (ad C) dx (putF f y vfs))) := by
  unfold setFldU at h
  split at h
  · split at h
    · rename_i hn
      split at h
      · rename_i hD
        obtain ⟨hD, hl⟩ := hD
        rw [hD] at hn
        obtain ⟨a, dx, vfs, rfl, hn', e, q⟩ := ins_at O hC w r1 hn
        have x := Ext.write (ρ := ρ) (o := .ins (ad C) dx (putF f y vfs)) (ins_mut e)
        refine ⟨a, dx, vfs, rfl, e, by rw [← q.length]; omega, h ρ _ () x (w.write hn' hn rfl rfl (ins_mut e) ?_) rfl⟩
        exact ⟨_, dx, _, (O.sta.cls _ hC).1, upd_same, (q.put r2).mono x⟩
      · exact h.elim
    · exact h.elim
  · exact h.elim
theorem x_fset (O : Ok X p nm ad d W) (C : Str) {f : Str} {pf : Pos} (ho : PE X o (tE X Φ W to)) (ha : PE X a (tE X Φ W ta)) (hC : C ∈ nm.clss := by decide +kernel) (hf : (C, f) ∈ nm.flds := by decide +kernel) (hs : swapsWith a (some (.Attribute o f pf)) pos.line X.env = pure false := by rfl) :
    PS X (.Assign [.Attribute o f pf] a pos) (tS X Φ W (.fset to C f ta)) :=
  PSw (ps_fld ho ha hs) fun D σ H ⟨ρ, S, env, w, eo, h⟩ => by
    rw [ex] at h
    refine ⟨ρ, S, env, w, eo, (PostS.on h).imp fun y H1 ⟨ρ1, S1, u, e1, w1, r1, h1⟩ => ⟨ρ1, S1, env, w1, eo.mono e1, (PostS.on h1).imp fun x H2 ⟨ρ2, S2, u2, e2, w2, r2, h2⟩ => ?_⟩⟩
    obtain ⟨q, dx, vfs, rfl, e, hl, hq⟩ := fld_put O hC w2 r2 (r1.mono e2) ((PostS.on (Rr := Rid) h2).imp (Q' := fun _ H3 => ∃ ρ3 S3, Ext ρ2 H2 ρ3 H3 ∧ Wok X.K X.mg ρ3 S3 H3 ∧ PostS X.mg X.K W ρ3 H3 (.nx env S3) D) fun _ H3 ⟨r, s, _, a, b, _, c⟩ => ⟨r, s, a, b, c⟩)
    obtain ⟨ρ3, S3, e3, w3, h3⟩ := hq
    exact ⟨q, ad C, dx, vfs, rfl, e, (O.sta.cls C hC).2.1, O.sta.fld C f hf, hl, h3.here w3 (((eo.mono e1).mono e2).mono e3)⟩
theorem x_faug (O : Ok X p nm ad d W) (op : Op) (C : Str) {f : Str} {pf : Pos} (ho : PE X o (tE X Φ W to)) (ha : PE X a (tE X Φ W ta)) (hC : C ∈ nm.clss := by decide +kernel) (hf : (C, f) ∈ nm.flds := by decide +kernel) :
    PS X (.AugAssign (.Attribute o f pf) (opOf op) a pos) (tS X Φ W (.faug to C f op ta)) :=
  PSw (ps_fldaug ho ha (rd := r2 X W (augU op)) (aug_ip op)) fun D σ H ⟨ρ, S, env, w, eo, h⟩ => by
    rw [ex] at h
    refine ⟨ρ, S, env, w, eo, (PostS.on h).imp fun x H1 ⟨ρ1, S1, u, e1, w1, r1, h1⟩ => ?_⟩
    split at h1
    · split at h1
      · rename_i hn
        split at h1
        · rename_i hD
          subst hD
          split at h1
          · rename_i u0 hu
            obtain ⟨q, dx, vfs, rfl, hn', e, qq⟩ := ins_at O hC w1 r1 hn
            obtain ⟨v0, l, rv⟩ := (qq.look (f := f)).1 u0 hu
            refine ⟨q, _, dx, vfs, v0, rfl, e, (O.sta.cls _ hC).2.1, O.sta.fld _ f hf, l, ρ1, S1, env, w1, eo.mono e1, (PostS.on h1).imp fun y H2 ⟨ρ2, S2, u2, e2, w2, r2, h2⟩ => ⟨ρ2, S2, u0, u2, w2, rv.mono e2, r2, (PostS.on h2).imp fun z H3 ⟨ρ3, S3, u3, e3, w3, r3, h3⟩ => ?_⟩⟩
            obtain ⟨q', dx', vfs', eq', e', hl, hq⟩ := fld_put O hC w3 (relLoc (e3.at_ (e2.at_ hn'))) r3 ((PostS.on (Rr := Rid) h3).imp (Q' := fun _ H4 => ∃ ρ4 S4, Ext ρ3 H3 ρ4 H4 ∧ Wok X.K X.mg ρ4 S4 H4 ∧ PostS X.mg X.K W ρ4 H4 (.nx env S4) D) fun _ H4 ⟨r, s, _, a, b, _, c⟩ => ⟨r, s, a, b, c⟩)
            cases eq'
            obtain ⟨ρ4, S4, e4, w4, h4⟩ := hq
            exact ⟨dx', vfs', e', hl, h4.here w4 ((((eo.mono e1).mono e2).mono e3).mono e4)⟩
          · exact h1.elim
        · exact h1.elim
      · exact h1.elim
    · exact h1.elim
/-! ### targets -/
def tG (X : Cx) (Φ : Cal) (W : XK) (t : Tg) : TG := fun v σ H Q => ∃ ρ S env u, Wok X.K X.mg ρ S H ∧ EnvOk X.K ρ H env σ ∧ RelU X.K ρ H u v ∧ Post X.mg X.K (EnvOk X.K) W ρ H (setT Φ t u env S) Q
def tGs (X : Cx) (Φ : Cal) (W : XK) (t : Tgs) : TGs := fun vs σ H Q => ∃ ρ S env us, Wok X.K X.mg ρ S H ∧ EnvOk X.K ρ H env σ ∧ RelUs X.K ρ H us vs ∧ Post X.mg X.K (EnvOk X.K) W ρ H (setTs Φ t us env S) Q
theorem PGw {e : Expr} {t t' : TG} (h : PG X e t) (i : ∀ v σ H Q, t' v σ H Q → t v σ H Q) : PG X e t' := ⟨fun pins s σ H v u Q I r q => h.run pins s σ H v u Q I r (i _ _ _ _ q)⟩
theorem PGsw {e : List Expr} {t t' : TGs} (h : PGs X e t) (i : ∀ v σ H Q, t' v σ H Q → t v σ H Q) : PGs X e t' := ⟨fun pins s σ H v u Q I r q => h.run pins s σ H v u Q I r (i _ _ _ _ q)⟩
theorem gt_nm (i : Nat) {x : Str} (hN : X.N.Nodup) (hi : X.N[i]? = some x := by rfl) (hx : Loc X.env.scope x := by first | exact Or.inl rfl | exact Or.inr rfl) (hf : X.fn x = true ∨ X.env.scope.names.lookup x = some .local := by first | exact .inl rfl | exact .inr rfl) : PG X (.Name x pos) (tG X Φ W (.nm i)) :=
  PGw (pg_name hN hi hx hf) fun v σ H Q ⟨ρ, S, env, u, w, eo, r, h⟩ => by
    rw [setT] at h
    exact h.here w (eo.set i r)
theorem gt_sb {i : Expr} {ti : E} (ho : PE X o (tE X Φ W to)) (hi : PE X i (tE X Φ W ti))
    (ha : ∀ v, assign (.Subscript o i pos) X.env v = (do
      let ov ← holding [v] (eval o X.env)
      let iv ← holding [v, ov] (eval i X.env)
      standAt pos
      holding [v, ov, iv] (setItem ov iv v)
      release [v, ov, iv] []) := by intro _; rfl) : PG X (.Subscript o i pos) (tG X Φ W (.sb to ti)) :=
  PGw (pg_sub ho hi (set_item (W := W)) ha) fun v σ H Q ⟨ρ, S, env, u, w, eo, r, h⟩ => by
    rw [setT] at h
    refine ⟨ρ, S, env, w, eo, (Post.bind h).imp fun y H2 ⟨ρ2, S2, u2, e2, w2, r2, h2⟩ => ⟨ρ2, S2, env, w2, eo.mono e2, (Post.bind h2).imp fun z H3 ⟨ρ3, S3, u3, e3, w3, r3, h3⟩ => ?_⟩⟩
    refine ⟨ρ3, S3, u2, u3, u, w3, r2.mono e3, r3, (r.mono e2).mono e3, (Post.bind (Rr := Rid) h3).imp fun _ H4 ⟨ρ4, S4, _, e4, w4, _, h4⟩ => ?_⟩
    exact h4.here w4 (((eo.mono e2).mono e3).mono e4)
theorem gts_nil : PGs X [] (tGs X Φ W .nil) := PGsw pgs_nil fun v σ H Q ⟨ρ, S, env, us, w, eo, r, h⟩ => by
  cases us with
  | nil =>
    rw [setTs] at h
    simp only [RelUs] at r
    exact ⟨r, h.here w eo⟩
  | cons _ _ => exact h.elim
theorem gts_cons {t : Tg} {ts : Tgs} (h1 : PG X e (tG X Φ W t)) (h2 : PGs X es (tGs X Φ W ts)) (hs : (assignEach (e :: es) X.env).map (·.2) = assign e X.env :: (assignEach es X.env).map (·.2) := by rfl) : PGs X (e :: es) (tGs X Φ W (.cons t ts)) :=
  PGsw (pgs_cons h1 h2 hs) fun v σ H Q ⟨ρ, S, env, us, w, eo, r, h⟩ => by
    cases us with
    | nil => exact h.elim
    | cons u us =>
      rw [setTs] at h
      simp only [RelUs] at r
      obtain ⟨v1, vs1, rfl, r1, r2⟩ := r
      exact ⟨v1, vs1, rfl, ρ, S, env, u, w, eo, r1, (Post.bind h).imp fun σ' H' ⟨ρ1, S1, env1, e1, w1, eo1, h1⟩ => ⟨ρ1, S1, env1, us, w1, eo1, r2.mono e1, h1⟩⟩
theorem setT_tp {ts : Tgs} {u : U} {env : Env} {S : Sto} : setT Φ (.tp ts) u env S = (match u with
      | .tup us => if us.length = ts.len then setTs Φ ts us env S else .bad
      | _ => .bad) := by cases u <;> simp [setT]
theorem gt_tp {ts : Tgs} {k : Nat} (hc : X.calm = true) (h : PGs X es (tGs X Φ W ts)) (hn : (assignEach es X.env).length = ts.len := by rfl) (hst : (assignEach es X.env).findIdx? (·.1) = none := by rfl) : PG X (.Tuple es k pos) (tG X Φ W (.tp ts)) :=
  PGw (pg_tup hc h hn hst) fun v σ H Q ⟨ρ, S, env, u, w, eo, r, h⟩ => by
    cases u with
    | tup us =>
      replace h : Post X.mg X.K (EnvOk X.K) W ρ H (if us.length = ts.len then setTs Φ ts us env S else .bad) Q := by rw [setT_tp] at h; exact h
      split at h
      · rename_i hl
        obtain ⟨a, vs, rfl, hq, hr⟩ := r.tup
        exact ⟨a, vs, rfl, hq, by rw [hr.length]; exact hl, ρ, S, env, us, w, eo, hr, h⟩
      · exact h.elim
    | _ =>
      rw [setT_tp] at h
      exact h.elim
theorem x_tset {t : Tg} {tgt : Expr} (ha : PE X a (tE X Φ W ta)) (hg : PG X tgt (tG X Φ W t)) (hs : swapsWithSole [tgt] a pos.line X.env = pure false := by rfl) (hw : swappedStores [tgt] a X.env = pure none := by rfl) (h1 : (assignEach [tgt] X.env).map (·.2) = [assign tgt X.env] := by rfl) :
    PS X (.Assign [tgt] a pos) (tS X Φ W (.tset t ta)) :=
  PSw (ps_asg ha hg hs hw h1) fun D σ H ⟨ρ, S, env, w, eo, h⟩ => by
    rw [ex] at h
    refine ⟨ρ, S, env, w, eo, (PostS.on h).imp fun x H1 ⟨ρ1, S1, u, e1, w1, r1, h1⟩ => ⟨ρ1, S1, env, u, w1, eo.mono e1, r1, (PostS.on h1).imp fun σ' H2 ⟨ρ2, S2, env2, e2, w2, r2, h2⟩ => ?_⟩⟩
    exact h2.here w2 r2
/-! ### loops -/
theorem PostS.turn {K : PySem.W.Frag} {mg : Str → Option Value} {ρ : List Addr} {H : Hp} {r : O} {f : Env → Sto → O} {D : Ends} {N : L2.St → Hp → Prop} (h : PostS mg K W ρ H (r.turn f) D)
    (hN : ∀ ρ1 S1 env1 σ H1, Ext ρ H ρ1 H1 → Wok K mg ρ1 S1 H1 → EnvOk K ρ1 H1 env1 σ → PostS mg K W ρ1 H1 (f env1 S1) D → N σ H1) : PostS mg K W ρ H r { D with nx := N, ct := N, bk := D.nx } := by
  cases r with
  | nx a S => exact fun ρ' H' b e' w r => hN ρ' S a b H' e' w r (PostS.ext e' h)
  | ret a S => exact h
  | bk a S => exact h
  | ct a S => exact fun ρ' H' b e' w r => hN ρ' S a b H' e' w r (PostS.ext e' h)
  | exc c fs S => exact h
  | bad => exact h
theorem x_while (O : Ok X p nm ad d W) {body : List Stmt} {tb : Sts} (hc : PT X c (tTs X Φ W tc)) (hb : PSs X body (tB X Φ W tb)) : PS X (.While c body [] pos) (tS X Φ W (.while_ tc tb)) :=
  PSw (ps_while O.own hc hb) fun D σ H ⟨ρ, S, env, w, eo, h⟩ => by
    rw [ex] at h
    refine ⟨fun n σ H => ∃ ρ S env, Wok X.K X.mg ρ S H ∧ EnvOk X.K ρ H env σ ∧ PostS X.mg X.K W ρ H (loopI (fun env S => evt Φ tc env S) (fun env S => exs Φ tb env S) n env S) D, ⟨fuel, ρ, S, env, w, eo, h⟩, ?_⟩
    rintro n σ H ⟨ρ, S, env, w, eo, h⟩
    cases n with
    | zero => exact h.elim
    | succ n =>
      unfold loopI at h
      refine ⟨ρ, S, env, w, eo, (PostS.on (Rr := Rid) h).imp fun x H1 ⟨ρ1, S1, u, e1, w1, r1, h1⟩ => ?_⟩
      cases r1
      cases x with
      | true =>
        refine iteT ⟨fun σ H => ∃ ρ S env, Wok X.K X.mg ρ S H ∧ EnvOk X.K ρ H env σ ∧ PostS X.mg X.K W ρ H (loopI (fun env S => evt Φ tc env S) (fun env S => exs Φ tb env S) n env S) D, fun σ' H' q => ⟨n, Nat.lt_succ_self n, q⟩, ρ1, S1, env, w1, eo.mono e1, ?_⟩
        exact PostS.turn h1 fun ρ2 S2 env2 σ2 H2 _ w2 eo2 h2 => ⟨ρ2, S2, env2, w2, eo2, h2⟩
      | false => exact iteF (h1.here w1 (eo.mono e1))
theorem for_turns {tp : Bool} {is : List Nat} {tb : Sts} {J : It} {all : List U} {src : Option Nat} {ρ1 : List Addr} {S1 : Sto} {H1 : Hp} {σ : L2.St} {env : Env} {D : Ends} (w1 : Wok X.K X.mg ρ1 S1 H1) (eo : EnvOk X.K ρ1 H1 env σ) (hg : Goes X.K X.mg J all src ρ1 H1)
    (h : PostS X.mg X.K W ρ1 H1 (forI tp is (fun env S => exs Φ tb env S) all src all env S1) D) :
    ∃ W' : Nat → Nat → L2.St → Hp → Prop, (∃ m, W' 0 m σ H1) ∧ ∀ i m σ H, W' i m σ H → (J.stop i H ∧ D.nx σ H) ∨ (J.go i H ∧ ∃ N : L2.St → Hp → Prop, (∀ σ' H', N σ' H' → ∃ m', m' < m ∧ W' (i + 1) m' σ' H') ∧ ∀ x H', J.yld i H x H' → gOf X.K tp is x σ H' fun σ2 H2 => tB X Φ W tb { D with nx := N, ct := N, bk := D.nx } σ2 H2) := by
  let Inv' : Nat → L2.St → Hp → Prop := fun i σ H => i ≤ all.length ∧ ∃ ρ S env, Ext ρ1 H1 ρ H ∧ Wok X.K X.mg ρ S H ∧ EnvOk X.K ρ H env σ ∧ PostS X.mg X.K W ρ H (forI tp is (fun env S => exs Φ tb env S) all src (all.drop i) env S) D
  refine ⟨fun i m σ H => m = all.length - i ∧ Inv' i σ H, ⟨_, rfl, Nat.zero_le _, _, _, env, Ext.refl, w1, eo, by simpa using h⟩, ?_⟩
  rintro i m σ H ⟨rfl, hi, ρ, S, env, ex, w, eo, hp⟩
  by_cases hlt : i < all.length
  · refine .inr ?_
    rw [List.drop_eq_getElem_cons hlt] at hp
    unfold forI at hp
    split at hp
    · rename_i hst
      obtain ⟨hgo, hy⟩ := (hg ρ S H i ex w hst).1 hlt
      refine ⟨hgo, Inv' (i + 1), fun σ' H' q => ⟨all.length - (i + 1), by omega, rfl, q⟩, fun x H' yl => ?_⟩
      obtain ⟨rfl, u, hu, ru⟩ := hy x H' yl
      rw [List.getElem?_eq_getElem hlt] at hu
      cases hu
      split at hp
      · rename_i env' he
        refine g_ok he eo ru fun σ2 eo2 _ => ⟨ρ, S, env', w, eo2, ?_⟩
        exact PostS.turn hp fun ρ2 S2 env2 σ2 H2 x2 w2 eo2 h2 => ⟨hlt, ρ2, S2, env2, ex.trans x2, w2, eo2, h2⟩
      · exact hp.elim
    · exact hp.elim
  · refine .inl ?_
    have e : i = all.length := by omega
    subst e
    rw [List.drop_length] at hp
    unfold forI at hp
    split at hp
    · rename_i hst
      exact ⟨(hg ρ S H _ ex w hst).2 (Nat.le_refl _), hp.here w eo⟩
    · exact hp.elim
theorem x_for (O : Ok X p nm ad d W) (tp : Bool) (is : List Nat) {tg iter : Expr} {it : E} {body : List Stmt} {tb : Sts} (hi : PE X iter (tE X Φ W it)) (hg : PG X tg (gOf X.K tp is)) (hb : PSs X body (tB X Φ W tb)) (hs : ∀ x, foldedSetIterable iter X.env x = pure x := by intro _; rfl) :
    PS X (.For tg iter body [] pos) (tS X Φ W (.for_ tp is it tb)) :=
  PSw (ps_for O.own O.calm (pi_any hi) hg hb hs) fun D σ H ⟨ρ, S, env, w, eo, h⟩ => by
    rw [ex] at h
    refine ⟨ρ, S, env, w, eo, (PostS.on h).imp fun x H1 ⟨ρ1, S1, u, e1, w1, r1, h1⟩ => ?_⟩
    split at h1
    · rename_i all src hi'
      exact ⟨ρ1, S1, u, all, src, w1, r1, hi', fun J hg => for_turns w1 (eo.mono e1) hg h1⟩
    · exact h1.elim
theorem x_forr (O : Ok X p nm ad d W) (i : Nat) {tg iter : Expr} {body : List Stmt} {ts : Sts} (hi : PI X tg iter (tR X Φ W ta tb)) (hg : PG X tg (gOf X.K false [i])) (hb : PSs X body (tB X Φ W ts)) (hs : ∀ x, foldedSetIterable iter X.env x = pure x := by intro _; rfl) :
    PS X (.For tg iter body [] pos) (tS X Φ W (.forr i ta tb ts)) :=
  PSw (ps_for O.own O.calm hi hg hb hs) fun D σ H ⟨ρ, S, env, w, eo, h⟩ => by
    rw [ex] at h
    refine ⟨ρ, S, env, w, eo, (PostS.on h).imp fun x H1 ⟨ρ1, S1, u, e1, w1, r1, h1⟩ => ⟨ρ1, S1, env, w1, eo.mono e1, (PostS.on h1).imp fun y H2 ⟨ρ2, S2, u2, e2, w2, r2, h2⟩ => ?_⟩⟩
    split at h2
    · split at h2
      · rename_i hb
        cases r1.int
        cases r2.int
        exact ⟨ρ2, S2, _, _, w2, rfl, rfl, hb, for_turns w2 ((eo.mono e1).mono e2) goes_rng h2⟩
      · exact h2.elim
    · exact h2.elim
theorem s_tdin (O : Ok X p nm ad d W) {x : Str} {px : Pos} (hb : PE X b (tE X (p.cal d) W tb)) (hg : Gl X x := by rfl) (hp : (p.gd x).isSome = true := by decide +kernel) (hd : (x == ("__debug__" : Str)) = false := by decide) (hmk : behindInMarks CmpOp.In (.Name x px) = false := by rfl) :
    PT X (.Compare b [.In] [.Name x px] pos) (tTs X (p.cal d) W (.e (.din x tb))) := by
  obtain ⟨kvs, hk⟩ := Option.isSome_iff_exists.mp hp
  obtain ⟨a, es, n, hm, kd, hv, hn⟩ := O.gdi x kvs hk
  refine PTw' (pt_cmpR (op_in_kd kd) hb (pe_glob hg hm (v := .ref a) rfl hd) hmk) fun σ H Q ⟨ρ, S, env, w, eo, h⟩ => ?_
  rw [evt, ev, cal_gd, hk] at h
  have h0 : Post X.mg X.K Rid W ρ H ((ev (p.cal d) tb env S).bind fun k S => (match k with | .str z => R.ok (kvs.lookup z).isSome S | _ => .bad)) Q := by
    cases hx : ev (p.cal d) tb env S with
    | ok u S1 =>
      rw [hx] at h
      simp only [R.bind] at h ⊢
      cases u <;> exact h
    | exc c fs S1 => rw [hx] at h; exact h
    | bad => rw [hx] at h; exact h
  refine ⟨ρ, S, env, w, eo, (Post.bind h0).imp fun y H1 ⟨ρ1, S1, u, e1, w1, r1, h1⟩ => ?_⟩
  cases u with
  | str z =>
    cases r1.str
    replace h1 : Post X.mg X.K Rid W ρ1 H1 (R.ok (kvs.lookup z).isSome S1) Q := h1
    cases hl : kvs.lookup z with
    | some u' =>
      obtain ⟨u0, v, hn', _, _⟩ := hv z u' hl
      rw [hl] at h1
      exact ⟨z, some u0, rfl, rfl, hn', true, rfl, h1.here w1 rfl⟩
    | none =>
      rw [hl] at h1
      exact ⟨z, none, rfl, rfl, hn z hl, false, rfl, h1.here w1 rfl⟩
  | _ => exact h1.elim
/-! ### match -/
section
/-- the items of a pattern, as they are written -/
inductive PisOk (X : Cx) : List Pattern → List Pi → Prop
  | nil : PisOk X [] []
  | lit {x : Str} {j : Nat} {p1 p2 : Pos} {ps : List Pattern} {qs : List Pi} : PisOk X ps qs → PisOk X (.MatchValue (.Constant (.str x) j p1) p2 :: ps) (.lit x :: qs)
  | cap {i : Nat} {x : Str} {p1 : Pos} {ps : List Pattern} {qs : List Pi} : X.N[i]? = some x → Loc X.env.scope x → (X.fn x = true ∨ X.env.scope.names.lookup x = some .local) → PisOk X ps qs → PisOk X (.MatchAs none (some x) p1 :: ps) (.cap i :: qs)
  | wild {p1 : Pos} {ps : List Pattern} {qs : List Pi} : PisOk X ps qs → PisOk X (.MatchAs none none p1 :: ps) (.wild :: qs)
/-- names that are bound in order lead from env to env' -/
inductive Caps (X : Cx) (ρ : List Addr) (H : Hp) : Env → List (Str × Value) → Env → Prop
  | nil {env : Env} : Caps X ρ H env [] env
  | cons {env env' : Env} {i : Nat} {x : Str} {u : U} {v : V} {w : Value} {bs : List (Str × Value)} : X.N[i]? = some x → Loc X.env.scope x → (X.fn x = true ∨ X.env.scope.names.lookup x = some .local) → RelU X.K ρ H u v → RelV v w → Caps X ρ H (env.set i (some u)) bs env' → Caps X ρ H env ((x, w) :: bs) env'
theorem caps_run (hN : X.N.Nodup) {ρ : List Addr} {H : Hp} {env env' : Env} {bs : List (Str × Value)} (c : Caps X ρ H env bs env') : ∀ {pins : List (Addr × Obj)} {s : Shared} {σ : L2.St} {Q : Unit → Shared → Prop}, L2.Inv X pins σ H s → EnvOk X.K ρ H env σ → (∀ s' σ', L2.Inv X pins σ' H s' → EnvOk X.K ρ H env' σ' → Q () s') →
    wpAny (model X.prog X.w) X.A (assignInOrder (bs.map fun (n, _) => bindName X.env n) (bs.map (·.2))) Q X.xe s := by
  induction c with
  | nil => exact fun I eo q => assignInOrder_nil (q _ _ I eo)
  | @cons env env' i x u v w bs hi hx hf ru rv _ ih =>
    intro pins s σ Q I eo q
    refine assignInOrder_cons (wpAny_bindName (store_ok I hN hi hx rv (fun s2 I2 => ?_) hf))
    exact ih I2 (eo.set i ru) q
theorem each_run {ρ : List Addr} {H : Hp} {ps : List Pattern} {qs : List Pi} (P : PisOk X ps qs) : ∀ {us : List U} {vs : List V} {xs : List Value} {env : Env} {res : Option Env} {pins : List (Addr × Obj)} {s : Shared} {σ : L2.St} {Q : Option (List (Str × Value)) → Shared → Prop}, pisM qs us env = some res → L2.Inv X pins σ H s → RelUs X.K ρ H us vs → Vals vs xs →
    (∀ s', L2.Inv X pins σ H s' → (res = none → Q none s') ∧ ∀ env' bs, res = some env' → Caps X ρ H env bs env' → Q (some bs) s') → wpAny (model X.prog X.w) X.A (matchEach ps X.env xs) Q X.xe s := by
  induction P with
  | nil =>
    intro us vs xs env res pins s σ Q h I r rv q
    cases us with
    | cons _ _ => simp [pisM] at h
    | nil =>
      simp only [pisM, Option.some.injEq] at h
      subst h
      simp only [RelUs] at r
      subst r
      cases rv
      exact wpAny_matchEach_nil ((q s I).2 env [] rfl .nil)
  | @lit x j p1 p2 ps qs _ ih =>
    intro us vs xs env res pins s σ Q h I r rv q
    cases us with
    | nil => simp [pisM] at h
    | cons u us =>
      simp only [RelUs] at r
      obtain ⟨v, vs', rfl, r1, r2⟩ := r
      cases rv with
      | @cons _ v0 _ xs' rv1 rv2 =>
        cases u with
        | str y =>
          simp only [pisM] at h
          cases r1.str
          refine wpAny_matchEach_cons (wpAny_matchPattern_Value ?_)
          have hp := (pe_str (X := X) (x := x) (j := j) (pos := p1)).run pins s σ H (fun v H1 => v = .str x ∧ H1 = H) I ⟨rfl, rfl⟩
          refine thn hp fun c s1 ⟨vc, H1, I1, rc, ec, eh⟩ => ?_
          subst ec eh
          have hc := op_eq (X := X) pins s1 σ H1 (.str y) (.str x) _ _ (fun v H2 => v = .bl (decide (y = x)) ∧ H2 = H1) I1 rv1 rc ⟨rfl, by simp⟩
          refine thn hc fun b s2 ⟨vb, H2, I2, rb, eb, eh⟩ => ?_
          subst eb eh
          obtain rfl : b = Value.bool (decide (y = x)) := rb
          refine wpAny_truthy_bool ?_
          by_cases hyx : y = x
          · rw [if_pos hyx] at h
            rw [decide_eq_true hyx]
            simp only [if_true]
            refine ih h I2 r2 rv2 fun s3 I3 => ⟨fun e => (q s3 I3).1 e, fun env' bs e c => ?_⟩
            exact (q s3 I3).2 env' ([] ++ bs) e c
          · rw [if_neg hyx] at h
            cases h
            rw [decide_eq_false hyx]
            exact (q s2 I2).1 rfl
        | _ => simp [pisM] at h
  | @cap i x p1 ps qs hi hx hf _ ih =>
    intro us vs xs env res pins s σ Q h I r rv q
    cases us with
    | nil => simp [pisM] at h
    | cons u us =>
      simp only [RelUs] at r
      obtain ⟨v, vs', rfl, r1, r2⟩ := r
      cases rv with
      | @cons _ v0 _ xs' rv1 rv2 =>
        simp only [pisM] at h
        refine wpAny_matchEach_cons (wpAny_matchPattern_Capture ?_)
        refine ih h I r2 rv2 fun s3 I3 => ⟨fun e => (q s3 I3).1 e, fun env' bs e c => ?_⟩
        exact (q s3 I3).2 env' _ e (.cons hi hx hf r1 rv1 c)
  | @wild p1 ps qs _ ih =>
    intro us vs xs env res pins s σ Q h I r rv q
    cases us with
    | nil => simp [pisM] at h
    | cons u us =>
      simp only [RelUs] at r
      obtain ⟨v, vs', rfl, r1, r2⟩ := r
      cases rv with
      | @cons _ v0 _ xs' rv1 rv2 =>
        have h' : pisM qs us env = some res := by cases u <;> simpa [pisM] using h
        refine wpAny_matchEach_cons (wpAny_matchPattern_Capture ?_)
        refine ih h' I r2 rv2 fun s3 I3 => ⟨fun e => (q s3 I3).1 e, fun env' bs e c => ?_⟩
        exact (q s3 I3).2 env' _ e c
/-- a pattern, as it is written -/
inductive PtOk (X : Cx) : Pattern → Pt → Prop
  | wild {p1 : Pos} : PtOk X (.MatchAs none none p1) .wild
  | val {x : Str} {j : Nat} {p1 p2 : Pos} : PtOk X (.MatchValue (.Constant (.str x) j p1) p2) (.val x)
  | seq {ps : List Pattern} {qs : List Pi} {p1 : Pos} : PisOk X ps qs → (ps.findIdx? (·.isStar) = none) → ((ps.all fun p => p.isWildcard || (p.isStar && p.names.isEmpty)) = false) → PtOk X (.MatchSequence ps p1) (.seq qs)
theorem PisOk.length {ps : List Pattern} {qs : List Pi} (h : PisOk X ps qs) : ps.length = qs.length := by
  induction h with
  | nil => rfl
  | lit _ ih => simp [ih]
  | cap _ _ _ _ ih => simp [ih]
  | wild _ ih => simp [ih]
theorem pat_run (hc : X.calm = true) {ρ : List Addr} {H : Hp} {p : Pattern} {t : Pt} (P : PtOk X p t) {u : U} {v : V} {x : Value} {env : Env} {res : Option Env} {pins : List (Addr × Obj)} {s : Shared} {σ : L2.St} {Q : Option (List (Str × Value)) → Shared → Prop} (h : ptM t u env = some res) (I : L2.Inv X pins σ H s) (r : RelU X.K ρ H u v) (rv : RelV v x)
    (q : ∀ s', L2.Inv X pins σ H s' → (res = none → Q none s') ∧ ∀ env' bs, res = some env' → Caps X ρ H env bs env' → Q (some bs) s') : wpAny (model X.prog X.w) X.A (matchPattern p X.env x) Q X.xe s := by
  cases P with
  | wild =>
    have h' : some (some env) = some res := by cases u <;> simpa [ptM] using h
    cases h'
    exact wpAny_matchPattern_Capture ((q s I).2 env [] rfl .nil)
  | @val y j p1 p2 =>
    cases u with
    | str z =>
      simp only [ptM, Option.some.injEq] at h
      subst h
      cases r.str
      refine wpAny_matchPattern_Value ?_
      have hp := (pe_str (X := X) (x := y) (j := j) (pos := p1)).run pins s σ H (fun v H1 => v = .str y ∧ H1 = H) I ⟨rfl, rfl⟩
      refine thn hp fun c s1 ⟨vc, H1, I1, rc, ec, eh⟩ => ?_
      subst ec eh
      have hc := op_eq (X := X) pins s1 σ H1 (.str z) (.str y) _ _ (fun v H2 => v = .bl (decide (z = y)) ∧ H2 = H1) I1 rv rc ⟨rfl, by simp⟩
      refine thn hc fun b s2 ⟨vb, H2, I2, rb, eb, eh⟩ => ?_
      subst eb eh
      obtain rfl : b = Value.bool (decide (z = y)) := rb
      refine wpAny_truthy_bool ?_
      by_cases hzy : z = y
      · rw [decide_eq_true hzy]
        exact (q s2 I2).2 env [] (if_pos hzy) .nil
      · rw [decide_eq_false hzy]
        exact (q s2 I2).1 (if_neg hzy)
    | _ => simp [ptM] at h
  | @seq ps qs p1 P hstar hwild =>
    cases u with
    | tup us =>
      simp only [ptM] at h
      obtain ⟨a, vs, rfl, hq, hr⟩ := r.tup
      cases rv
      obtain ⟨its, rits, ht, hz⟩ := I.tuple hq
      have hl : its.toArray.size = us.length := by
        rw [List.size_toArray, ← rits.length, hr.length]
      have hfit : ((its.toArray.size : Nat) : Int) < 2 ^ 63 := by
        rw [List.size_toArray, ← rits.length]
        have : sizeLine < 2 ^ 62 := by decide
        omega
      by_cases hn : us.length = qs.length
      · rw [if_pos hn] at h
        have hn' : its.toArray.size = ps.length := by rw [hl, hn, P.length]
        refine matchSeq_tuple_hit ht hfit hn' ?_ hstar hwild
        rw [← hn']
        refine wpAny_unpackItems_tuple (I.ok.hd hc) (show s.heap.IsTuple a its.toArray from ht) fun h' hx => ?_
        have I1 : L2.Inv X pins σ H { s with heap := h', toks := s.toks + 1 + 1 } := I.kept (t' := s.toks + 1 + 1) fun b o e => hx b o (Nat.ne_of_lt (Heap.lt_size e)) e
        exact each_run P h I1 hr (by simpa using rits) q
      · rw [if_neg hn] at h
        cases h
        have hn' : its.toArray.size ≠ ps.length := by rw [hl, P.length]; exact hn
        exact matchSeq_tuple_miss ht hfit hn' ((q _ (I.tok _)).1 rfl) hstar hwild
    | _ => simp [ptM] at h
def tCs (X : Cx) (Φ : Cal) (W : XK) (cs : Cs) (v : V) : TS := fun D σ H => ∃ ρ S env u, Wok X.K X.mg ρ S H ∧ EnvOk X.K ρ H env σ ∧ RelU X.K ρ H u v ∧ PostS X.mg X.K W ρ H (exc Φ cs u env S) D
structure PCs (X : Cx) (cs : List MatchCase) (t : V → TS) : Prop where
  run : ∀ (first : Bool) (pins : List (Addr × Obj)) (s : Shared) (σ : L2.St) (H : Hp) (D : Ends) (v : V) (x : Value), L2.Inv X pins σ H s → RelV v x → t v D σ H → wpAny (model X.prog X.w) X.A (matchCases cs X.env x first) (SP X pins D) X.xe s
theorem c_nil : PCs X [] (tCs X Φ W .nil) := ⟨fun first pins s σ H D v x I rv ⟨ρ, S, env, u, w, eo, r, h⟩ => by
  rw [exc] at h
  exact wpAny_matchCases_nil ⟨σ, H, I, h.here w eo⟩⟩
theorem c_cons {p : Pattern} {t : Pt} {body : List Stmt} {cs : List MatchCase} {tb : Sts} {ts : Cs} (hc : X.calm = true) (hN : X.N.Nodup) (hp : PtOk X p t) (hb : PSs X body (tB X Φ W tb)) (hr : PCs X cs (tCs X Φ W ts)) : PCs X (⟨p, none, body⟩ :: cs) (tCs X Φ W (.cons t tb ts)) :=
  ⟨fun first pins s σ H D v x I rv ⟨ρ, S, env, u, w, eo, r, h⟩ => by
    rw [exc] at h
    refine wpAny_matchCases_cons ?_
    cases hm : ptM t u env with
    | none => rw [hm] at h; exact h.elim
    | some res =>
      rw [hm] at h
      refine pat_run hc hp hm I r rv fun s' I' => ⟨fun e => ?_, fun env' bs e c => ?_⟩
      · subst e
        exact hr.run false pins s' σ H D v x I' rv ⟨ρ, S, env, u, w, eo, r, h⟩
      · subst e
        refine caps_run hN c I' eo fun s2 σ2 I2 eo2 => ?_
        exact hb.run pins s2 σ2 H D I2 ⟨ρ, S, env', w, eo2, h⟩⟩
theorem x_match {cs : List MatchCase} {ts : Cs} (ha : PE X a (tE X Φ W ta)) (hcs : PCs X cs (tCs X Φ W ts)) : PS X (.Match a cs pos) (tS X Φ W (.mtch ta ts)) :=
  ⟨fun pins s σ H D I ⟨ρ, S, env, w, eo, h⟩ => by
    rw [ex] at h
    refine wpAny_Match (thn (ha.run pins s σ H _ I ⟨ρ, S, env, w, eo, PostS.on h⟩) fun x s1 ⟨v, H1, I1, rv, ρ1, S1, u, e1, w1, r1, h1⟩ => ?_)
    exact hcs.run true pins s1 σ H1 D v x I1 rv ⟨ρ1, S1, env, u, w1, eo.mono e1, r1, h1⟩⟩
end
end
end Oz

end

section
set_option maxHeartbeats 4000000
/-! OzL: the list of the distinct items, by a dict whose keys are tuples. -/
namespace Oz
open PySem PySem.Spec PyProof.Rows L2

/-- the dict at D: its keys' tuples, in order -/
def DicX (P : Program) (w : World) (D : Addr) (es : List (List Key × Addr × Value)) (h : Heap) : Prop :=
  (D == sysModules) = false ∧ ∃ o tb ep, h.get? D = some o ∧ o.ExactDict ∧ o.data = .dict tb ep ∧ tb.toList = es.map (entryOfKey (tupleKind (mixKind P w))) ∧ (es.map (·.1)).Nodup
abbrev hoX (X : Cx) (D : Addr) (es : List (List Key × Addr × Value)) : HO := .ext (DicX X.prog X.w D es)
theorem dicX_ok {P : Program} {w : World} {D : Addr} {es : List (List Key × Addr × Value)} {H : Hp} {h : Heap} (q : DicX P w D es h) : ObjOk P w H h D (.ext (DicX P w D es)) := by
  refine ⟨q, ?_, fun h1 h2 q1 k => ?_⟩
  · obtain ⟨_, o, _, _, e, _⟩ := q
    exact ⟨o, e⟩
  · obtain ⟨a, o, tb, ep, e, r⟩ := q1
    exact ⟨a, o, tb, ep, k o e, r⟩
theorem dicX_of {X : Cx} {pins : List (Addr × Obj)} {σ : L2.St} {H : Hp} {s : Shared} {D : Addr} {es : List (List Key × Addr × Value)} (I : Inv X pins σ H s) (h : H D = some (hoX X D es)) : DicX X.prog X.w D es s.heap :=
  (show ObjOk X.prog X.w H s.heap D (hoX X D es) from I.hok D _ h).1
theorem isKey_of {X : Cx} {pins : List (Addr × Obj)} {σ : L2.St} {H : Hp} {s : Shared} {b : Addr} {ks : List Key} (I : Inv X pins σ H s) (h : SqT X.K H b (ks.map kV)) : (tupleKind (mixKind X.prog X.w)).is s.heap ks b := by
  obtain ⟨its, rv, ⟨o, e1, e2, n, e3⟩, _⟩ := I.tuple h
  exact ⟨o, its.toArray, n, e1, e2, e3, by simpa using items_are rv⟩
/-- D[k] = v -/
theorem dicX_set {X : Cx} {pins : List (Addr × Obj)} {σ : L2.St} {H : Hp} {s : Shared} {Er : Value → Shared → Prop} {D b : Addr} {es : List (List Key × Addr × Value)} {k : List Key} {v : Value} {Q : Unit → Shared → Prop} (hu : X.A.units < cLine)
    (I : Inv X pins σ H s) (hD : H D = some (hoX X D es)) (hz : es.length < sizeLine) (hb : SqT X.K H b (k.map kV)) (he : ∀ e ∈ es, SqT X.K H e.2.1 (e.1.map kV))
    (q : ∀ s', Inv X pins σ (upd H D (hoX X D (storedH es k b v))) s' → Q () s') : wpAny (model X.prog X.w) X.A (dictSet D (.ref b) v) Q Er s := by
  obtain ⟨hs, o, tb, ep, e1, e2, e3, e4, e5⟩ := dicX_of I hD
  have dd' : s.heap.DictOfH (tupleKind (mixKind X.prog X.w)) D es := ⟨o, tb, ep, e1, e2, e3, e4, fun x hx => isKey_of I (he x hx), e5⟩
  have hz' : es.length ≤ sizeLine := Nat.le_of_lt hz
  refine wpAny_dictSet_heap (hsz := hz') hu (isKey_of I hb) dd' fun h' nd sb => q _ ?_
  obtain ⟨o2, tb2, ep2, f1, f2, f3, f4, _, f5⟩ := nd
  exact d_write I (by rw [hD]; trivial) sb ⟨_, f1⟩ (dicX_ok ⟨hs, o2, tb2, ep2, f1, f2, f3, f4, f5⟩)

/-- {k: v for t in it}: the turns -/
def tDx (X : Cx) (wi : TI) (g : TG) (tk tv : TE) (vs : List Nat) : TE := fun σ H Q => wi σ H fun J H1 => ∀ D, H1 D = none →
  ∃ W : Nat → Nat → Hp → Prop, (∃ m, W 0 m (upd H1 D (hoX X D []))) ∧ ∀ i m Hi, W i m Hi →
    (J.stop i Hi ∧ Q (.ref D) Hi) ∨
    (J.go i Hi ∧ ∃ Nx : Hp → Prop, (∀ Hn, Nx Hn → ∃ m', m' < m ∧ W (i + 1) m' Hn) ∧ ∀ x Hy, J.yld i Hi x Hy →
      g x (wipe σ vs) Hy fun σg Hg => wipe σg vs = wipe σ vs ∧ tk σg Hg fun y Hk => tv σg Hk fun _ Hv =>
        ∃ es k b, y = .ref b ∧ SqT X.K Hv b (k.map kV) ∧ Hv D = some (hoX X D es) ∧ es.length < sizeLine ∧ (∀ e ∈ es, SqT X.K Hv e.2.1 (e.1.map kV)) ∧ ∀ v, Nx (upd Hv D (hoX X D (storedH es k b v))))
section
variable {X : Cx}
abbrev OnBlk (X : Cx) (sc : Scope) (P : Cx → Prop) : Prop := ∀ (s : Shared) (H : Hp) (C : Addr) (cl : List (Str × Addr)) (fp : List Addr), P (X.blk s H sc (compEnvC sc cl C X.env) fp)
theorem pe_dx {kx vx tg iter : Expr} {sc : Scope} {own : List (Str × Nat)} {pos : Pos} {wi : TI} {g : TG} {tk tv : TE} (hc : X.calm = true) (hu : X.A.units < cLine) (hN : X.N.Nodup) (hi : PI X tg iter wi) (ok : BlkOk X.N X.env.scope sc own)
    (hg : OnBlk X sc fun Y => PG Y tg g) (hk : OnBlk X sc fun Y => PE Y kx tk) (hv : OnBlk X sc fun Y => PE Y vx tv) (hs : ∀ x, foldedSetIterable iter X.env x = pure x) :
    PE X (.DictComp kx vx [⟨tg, iter, [], 0⟩] sc pos) (tDx X wi g tk tv (own.map (·.2))) := by
  constructor
  intro pins s σ H Q I h
  rw [arm_eval_DictComp]
  have open_ : ∀ y ∈ sc.names, y.2 = .free → ∃ c, X.env.cells.lookup y.1 = some c := by
    intro y hy e
    rcases ok.free y hy e with z | z
    · exact I.ok.has _ (Or.inl z)
    · exact I.ok.has _ (Or.inr z)
  refine wpAny_comprehension_free rfl hs (closure_ok open_) ok.kind (fun y hy e => by rw [← e]; exact ok.uniq y hy) (thn (hi.run pins s σ H _ I h) fun xv sa hx => thn hx fun itv sb hb => ?_)
  obtain ⟨it, fp, tn, J, Ha, e, Ia, T, sta, fpa, q⟩ := hb
  cases e
  refine wpAny_newObj_type (newEnv_comp ?_)
  generalize hD : sb.heap.objs.size = D
  have free : Ha D = none := Ia.hok.fresh (hD ▸ Nat.le_refl _)
  obtain ⟨W, ⟨m0, w0⟩, turn⟩ := q D free
  generalize hsc : ({ sb with heap := sb.heap.push { cls := .type "dict", data := .dict #[] } } : Shared) = sc3
  have eh : sc3.heap = sb.heap.push { cls := .type "dict", data := .dict #[] } := by subst hsc; rfl
  have dne : (D == sysModules) = false := by
    rw [← hD]
    exact beq_eq_false_iff_ne.mpr (Nat.ne_of_gt Ia.big)
  have Ib : Inv X pins σ (upd Ha D (hoX X D [])) sc3 := by
    have z := Ia.laid (a := D) (o := hoX X D []) (h' := sc3.heap) (t' := sb.toks) (fun b u e => by rw [eh]; exact Heap.get?_push_of_some _ e) (hD ▸ Nat.le_refl _)
      (dicX_ok ⟨dne, _, #[], 0, by rw [eh, ← hD]; exact Heap.get?_push_size _ rfl, ⟨rfl, rfl, rfl⟩, rfl, rfl, List.nodup_nil⟩)
    have e3 : ({ sb with heap := sc3.heap, toks := sb.toks } : Shared) = sc3 := by subst hsc; rfl
    rw [e3] at z
    exact z
  have lt : ∀ b ∈ fp, b < sb.heap.objs.size := by
    intro b hb
    obtain ⟨o, e, _⟩ := T.obj _ _ sta b hb
    exact Heap.lt_size e
  have fpb : ∀ b ∈ fp, FpOk X pins (upd Ha D (hoX X D [])) b ∧ b < sc3.heap.objs.size := by
    intro b hb
    have l := lt b hb
    have ll : b < D := by rw [← hD]; exact l
    refine ⟨⟨?_, (fpa b hb).2⟩, by rw [eh, Heap.size_push]; exact Nat.lt_succ_of_lt l⟩
    rw [upd_ne (Nat.ne_of_lt ll)]
    exact (fpa b hb).1
  have stb : tn 0 sc3.heap := T.keep _ _ _ sta fun b _ o e => by rw [eh]; exact Heap.get?_push_of_some _ e
  have Ic := block_start Ib ok hN fpb
  have kg := hg sc3 (upd Ha D (hoX X D [])) sc3.heap.objs.size (cellsFrom (sc3.heap.objs.size + 1) sc.names (cloFrom X.env.cells sc.names [])) fp
  have kk := hk sc3 (upd Ha D (hoX X D [])) sc3.heap.objs.size (cellsFrom (sc3.heap.objs.size + 1) sc.names (cloFrom X.env.cells sc.names [])) fp
  have kv := hv sc3 (upd Ha D (hoX X D [])) sc3.heap.objs.size (cellsFrom (sc3.heap.objs.size + 1) sc.names (cloFrom X.env.cells sc.names [])) fp
  have hidden : ∀ b ∈ fp, (upd Ha D (hoX X D [])) b = none := fun b hb => (fpb b hb).1.1
  show codeAny (model X.prog X.w) X.A (.compStart (.DictComp kx vx [⟨tg, iter, [], 0⟩] sc pos) 0 (.ref it) (.ref D) (compEnvC sc (cellsFrom (sc3.heap.objs.size + 1) sc.names (cloFrom X.env.cells sc.names [])) sc3.heap.objs.size X.env))
    (compPost (model X.prog X.w) X.A X.xe none (fun v s' => ∃ x H', Inv X pins σ H' s' ∧ RelV x v ∧ Q x H') (.ref D) sc3.heap.objs.size) { sc3 with heap := pushCells (sc3.heap.push { cls := .type "dict", data := .dict #[] }) sc.names }
  generalize hce : compEnvC sc (cellsFrom (sc3.heap.objs.size + 1) sc.names (cloFrom X.env.cells sc.names [])) sc3.heap.objs.size X.env = ce at Ic kg kk kv ⊢
  have loc : ce.locals = sc3.heap.objs.size := by rw [← hce]; rfl
  generalize hH3 : upd Ha D (hoX X D []) = Hb at Ib Ic kg kk kv w0 hidden fpb
  generalize hs4 : ({ sc3 with heap := pushCells (sc3.heap.push { cls := .type "dict", data := .dict #[] }) sc.names } : Shared) = sd at Ic ⊢
  have std : tn 0 sd.heap := T.keep _ _ _ stb fun b _ o e => by rw [← hs4]; exact pushCells_keeps _ _ _ _ (Heap.get?_push_of_some _ e)
  have rest : ∀ {σ' : L2.St} {H' : Hp} {s' : Shared}, Inv (X.blk sc3 Hb sc ce fp) [] σ' H' s' → (∀ b ∈ fp, H' b = none) → ∀ b ∈ fp, FpOk (X.blk sc3 Hb sc ce fp) [] H' b := by
    intro σ' H' s' I' hn b hb
    exact ⟨hn b hb, (I'.ok.exf b hb).1, I'.ok.exfs b hb, Or.inl hb, fun x c e => (I'.ok.exf b hb).2 x c e, fun p hp => absurd (show p ∈ ([] : List (Addr × Obj)) ++ [] from hp) (by simp)⟩
  have body : codeAny (model X.prog X.w) X.A (.compLoop (.DictComp kx vx [⟨tg, iter, [], 0⟩] sc pos) 0 (.ref it) (.ref D) ce) (compPost (model X.prog X.w) X.A X.xe none (fun v s' => ∃ x H', Inv X pins σ H' s' ∧ RelV x v ∧ Q x H') (.ref D) sc3.heap.objs.size) sd := by
    refine compLoop_anyD (fun m s' => ∃ j Hj, Inv (X.blk sc3 Hb sc ce fp) [] (wipe σ (own.map (·.2))) Hj s' ∧ tn j s'.heap ∧ (∀ b ∈ fp, Hj b = none) ∧ W j m Hj) ?_ m0 ⟨0, Hb, Ic, std, hidden, w0⟩
    rintro m se ⟨j, He, Ie, ste, ne, we⟩
    rcases turn j m He we with ⟨halt, qq⟩ | ⟨go, Nx, hNx, step⟩
    · refine thnF (T.done (X.blk sc3 Hb sc ce fp) rfl rfl rfl hc j [] se _ He (fun _ _ => False) Ie (rest Ie ne) ste halt) fun r sf hrf => ?_
      obtain ⟨er, If⟩ := hrf
      subst er
      have Ig : Inv X pins σ He sf := Ib.call' (ch := fp) If.os If.base If.hok If.bare fun b hb => by
        obtain ⟨_, z1, z2, z3, z4, z5⟩ := (fpb b hb).1
        exact ⟨z3, z1, z4, z5⟩
      have free3 : He sc3.heap.objs.size = none := by
        rw [← loc]
        exact If.free
      obtain ⟨mm, hns, _⟩ := If.loc
      rw [show (X.blk sc3 Hb sc ce fp).env.locals = sc3.heap.objs.size from loc] at hns
      obtain ⟨y0, y1, y2, y3, y4, y5⟩ := Ib.fpOk (Nat.le_refl _) free3
      exact ⟨mm, hns, fun h'' sb' => ⟨.ref D, He, Ig.turned (t' := sf.toks) (fun b o hb e => (sb'.2 b hb).trans e) y0 y1 y3 y4 y5, rfl, qq⟩⟩
    · refine thnF (T.item (X.blk sc3 Hb sc ce fp) rfl rfl rfl hc j [] se _ He (fun _ _ => False) Ie (rest Ie ne) ste go) fun r sf hrf => ?_
      obtain ⟨u, er, hf⟩ := hrf
      subst er
      refine thnF hf fun _ sg hg' => ?_
      obtain ⟨x, Hg, Ig, rg, yl, stg, ng⟩ := hg'
      have Ip := Ig.pinned (rest Ig ng) (T.obj _ _ stg)
      refine thnF (kg.run _ sg _ Hg x u _ Ip rg (step x Hg yl)) fun _ sh hh => ?_
      obtain ⟨σh, Hh, Ih, wh, qh⟩ := hh
      refine wpAny_tests_nil ?_
      rw [if_pos rfl]
      refine thnF (kk.run _ sh σh Hh _ Ih qh) fun z si hi' => ?_
      obtain ⟨yk, Hk, Ik, rk, qk⟩ := hi'
      refine thnF (kv.run _ si σh Hk _ Ik qk) fun z2 sj hj => ?_
      obtain ⟨yv, Hv, Iv, rv, es, k, b, ek, hb, hDv, hz, hes, nx⟩ := hj
      subst ek
      obtain rfl : z = Value.ref b := rk
      refine dicX_set (X := X.blk sc3 Hb sc ce fp) hu Iv hDv hz hb hes fun sk Ik2 => ?_
      obtain ⟨m', lm, w'⟩ := hNx _ (nx z2)
      have same : ∀ b' ∈ fp, ∀ o, sg.heap.get? b' = some o → sk.heap.get? b' = some o ∧ (upd Hv D (hoX X D (storedH es k b z2))) b' = none := by
        intro b' hb' o e
        have y := Ik2.pin (b', o) (List.mem_append_right _ (List.mem_append_right _ (mem_pinsAt hb' e)))
        exact ⟨y.1, y.2.1⟩
      have hl : (wipe σ (own.map (·.2))).length = σh.length := by rw [← wh, wipe_length]
      refine ⟨m', lm, j + 1, _, (Ik2.unpinned (pins := [])).weak hl (fun i' v' e => ?_), T.keep _ _ _ stg fun b' hb' o e => (same b' hb' o e).1, fun b' hb' => ?_, w'⟩
      · rw [← wh] at e
        exact (wipe_some e).1
      · obtain ⟨o, e, _⟩ := T.obj _ _ stg b' hb'
        exact (same b' hb' o e).2
  exact codeAny_compStart_dict body (T.self X.A 0 _ _ _ std body)
/-- list(D) -/
def rLsX (X : Cx) : List V → Hp → VK → Prop := fun xs H Q => ∃ D es, xs = [V.ref D] ∧ H D = some (hoX X D es) ∧ es.length ≤ sizeLine ∧ ∀ p, H p = none → Q (.ref p) (upd H p (.lst (es.map fun e => V.ref e.2.1)))
theorem call_list_dx (hc : X.calm = true) : CallR X (.type "list") (rLsX X) := by
  rintro pins s σ H xs us Q I r ⟨D, es, rfl, hD, hz, q⟩
  obtain ⟨u, rfl, rx⟩ := r.one
  cases rx
  obtain ⟨hs, o, tb, ep, ho, hx, hdt, he, hn⟩ := dicX_of I hD
  have len : tb.size = es.length := size_of_entries he
  refine PySem.W.kdl_call (kdl_raw hs hx hdt) (I.ok.hd hc) ho (by omega) fun h' tk got c' kp e it => ?_
  have eq : got.toList = (es.map fun e => e.2.1).map Value.ref := by
    have gl : got.toList.length = es.length := by rw [Array.length_toList, it.1, len]
    apply List.ext_getElem (by rw [gl, List.length_map, List.length_map])
    intro j h1 h2
    have hj : j < es.length := by rw [← gl]; exact h1
    obtain ⟨en, hen, hv⟩ := it.2 j got.toList[j] (by rw [← Array.getElem?_toList]; exact List.getElem?_eq_getElem h1)
    have at_ := entry_at he j
    rw [hen, List.getElem?_eq_getElem hj] at at_
    have e2 : en = entryOfKey (tupleKind (mixKind X.prog X.w)) es[j] := Option.some.inj at_
    rw [hv, e2, List.getElem_map, List.getElem_map]
    rfl
  have zl : ((es.map fun e => e.2.1).map V.ref).length ≤ sizeLine := by rw [List.length_map, List.length_map]; exact hz
  have rel : Vals ((es.map fun e => e.2.1).map V.ref) got.toList := by rw [eq]; exact vals_refs _
  have qq := q _ (I.hok.fresh (Nat.le_refl _))
  have em : (es.map fun e => V.ref e.2.1) = (es.map fun e => e.2.1).map V.ref := by rw [List.map_map]; rfl
  rw [em] at qq
  refine ⟨.ref s.heap.objs.size, _, I.laid (t' := tk) (o := .lst ((es.map fun e => e.2.1).map V.ref)) kp (Nat.le_refl _) ⟨zl, got.toList, c', rel, ?_⟩, rfl, qq⟩
  rw [Array.toArray_toList]
  exact e
end

/-! ### keys -/
theorem kV_of {K : PySem.W.Frag} {ρ : List Addr} {H : Hp} : ∀ {us : List U} {ks : List Key} {vs : List V}, keysU us = some ks → RelUs K ρ H us vs → vs = ks.map kV
  | [], ks, vs, e, r => by
    simp only [RelUs] at r
    simp only [keysU, Option.some.injEq] at e
    subst e r
    rfl
  | u :: us, ks, vs, e, r => by
    simp only [RelUs] at r
    obtain ⟨v, vs', rfl, r1, r2⟩ := r
    simp only [keysU, Option.bind_eq_some_iff, Option.map_eq_some_iff] at e
    obtain ⟨k, hk, ks', hks, rfl⟩ := e
    have ih := kV_of hks r2
    subst ih
    cases u <;> simp only [keyU, Option.some.injEq, reduceCtorEq] at hk <;> subst hk <;> simp only [RelU] at r1 <;> subst r1 <;> rfl
theorem uK_rel {K : PySem.W.Frag} {ρ : List Addr} {H : Hp} : ∀ ks : List Key, RelUs K ρ H (ks.map uK) (ks.map kV)
  | [] => RelUs.nil
  | k :: ks => RelUs.cons (by cases k <;> simp [uK, kV, RelU]) (uK_rel ks)
theorem keyTs_get : ∀ {us : List U} {ks : List (List Key)} {i : Nat} (hi : i < us.length), keyTs us = some ks → ∃ k, ks[i]? = some k ∧ keyT us[i] = some k
  | u :: us, ks, i, hi, e => by
    simp only [keyTs, Option.bind_eq_some_iff, Option.map_eq_some_iff] at e
    obtain ⟨k, hk, ks', hks, rfl⟩ := e
    cases i with
    | zero => exact ⟨k, rfl, hk⟩
    | succ i =>
      obtain ⟨k', e1, e2⟩ := keyTs_get (i := i) (by simpa using hi) hks
      exact ⟨k', by simpa using e1, e2⟩
theorem keyTs_len : ∀ {us : List U} {ks : List (List Key)}, keyTs us = some ks → ks.length = us.length
  | [], ks, e => by simp only [keyTs, Option.some.injEq] at e; subst e; rfl
  | u :: us, ks, e => by
    simp only [keyTs, Option.bind_eq_some_iff, Option.map_eq_some_iff] at e
    obtain ⟨k, hk, ks', hks, rfl⟩ := e
    simp [keyTs_len hks]
theorem stored_keys (es : List (List Key × Addr × Value)) (k : List Key) (b : Addr) (v : Value) : (storedH es k b v).map (·.1) = dd1 (es.map (·.1)) k := by
  have e : ((es.map (·.1)).any fun j => decide (j = k)) = (atKey es k).isSome := by
    unfold atKey
    rw [Option.isSome_map, List.any_map]
    induction es with
    | nil => rfl
    | cons x es ih =>
      rw [List.any_cons, List.find?_cons, ih]
      by_cases h : x.1 = k <;> simp [h]
  unfold storedH dd1
  rw [e]
  by_cases h : (atKey es k).isSome = true
  · rw [if_pos h, if_pos h, List.map_map]
    apply List.map_congr_left
    intro x _
    show (putAt k v x).1 = x.1
    unfold putAt
    split <;> rfl
  · rw [if_neg h, if_neg h, List.map_append]
    rfl
theorem stored_sq {K : PySem.W.Frag} {H : Hp} {es : List (List Key × Addr × Value)} {k : List Key} {b : Addr} {v : Value} (h : ∀ e ∈ es, SqT K H e.2.1 (e.1.map kV)) (hb : SqT K H b (k.map kV)) : ∀ e ∈ storedH es k b v, SqT K H e.2.1 (e.1.map kV) := by
  unfold storedH
  split
  · intro e he
    obtain ⟨x, hx, rfl⟩ := List.mem_map.mp he
    unfold putAt
    split
    · exact h x hx
    · exact h x hx
  · intro e he
    rcases List.mem_append.mp he with he | he
    · exact h e he
    · simp only [List.mem_singleton] at he
      subst he
      exact hb
theorem dd1_len (acc : List (List Key)) (k : List Key) : (dd1 acc k).length ≤ acc.length + 1 := by
  unfold dd1
  split <;> simp
theorem dd_step {ks : List (List Key)} {i : Nat} {k : List Key} (h : ks[i]? = some k) : dd (ks.take (i + 1)) = dd1 (dd (ks.take i)) k := by
  have e : ks.take (i + 1) = ks.take i ++ [k] := by
    rw [List.take_add_one, h]
    rfl
  rw [e]
  unfold dd
  rw [List.foldl_append]
  rfl
theorem dd_len : ∀ (ks acc : List (List Key)), (ks.foldl dd1 acc).length ≤ acc.length + ks.length
  | [], acc => by simp
  | k :: ks, acc => by
    have h1 := dd_len ks (dd1 acc k)
    have h2 := dd1_len acc k
    simp only [List.foldl_cons, List.length_cons]
    omega
theorem iterU_stays {S : Sto} {u : U} {us : List U} {src : Option Nat} (h : iterU S u = some (us, src)) : stays S us src = true := by
  unfold iterU at h
  split at h
  · cases h; rfl
  · cases h; rfl
  · split at h
    · rename_i n xs hx
      cases h
      exact isLst_lst hx
    · rename_i n xs hx
      cases h
      unfold stays isLst
      simp only [hx]
      exact (useq_iff _ _).mpr rfl
    · cases h
  · cases h
theorem rel_keys {K : PySem.W.Frag} {ρ : List Addr} {H : Hp} : ∀ {es : List (List Key × Addr × Value)}, (∀ e ∈ es, SqT K H e.2.1 (e.1.map kV)) → RelUs K ρ H (es.map ((fun k => U.tup (k.map uK)) ∘ fun e => e.1)) (es.map fun e => V.ref e.2.1)
  | [], _ => RelUs.nil
  | e :: es, h => RelUs.cons (by
      simp only [Function.comp, RelU]
      exact ⟨_, _, rfl, h e List.mem_cons_self, uK_rel _⟩) (rel_keys fun e he => h e (List.mem_cons_of_mem _ he))
theorem ext_x {ρ : List Addr} {H : Hp} {D : Addr} {φ : Heap → Prop} (h : H D = none) : Ext ρ H ρ (upd H D (.ext φ)) := Ext.grow (upd_grow h)

section
variable {X : Cx} {p : Pg} {nm : Names} {ad : Str → Addr} {d : Nat} {W : XK} {Φ : Cal} {pos : Pos}
theorem lsd_read {i : Nat} {it : E} {σ : L2.St} {H : Hp} {Q : VK} (h : tE X Φ W (.lsd i it) σ H Q) :
    tCB (rLsX X) (tCons (tDx X (tI X Φ W it) (gOf X.K false [i]) (tVar i) (tC (.bl true)) [i]) tNil) σ H Q := by
  obtain ⟨ρ, S, env, w, eo, h⟩ := h
  rw [ev] at h
  refine ⟨ρ, S, env, w, eo, (Post.bind h).imp fun x H1 ⟨ρ1, S1, u, e1, w1, r1, h1⟩ => ?_⟩
  split at h1
  · rename_i all src hi
    split at h1
    · rename_i ks hk
      split at h1
      · rename_i hz
        refine ⟨ρ1, S1, u, all, src, w1, r1, hi, fun J hg D hD => ?_⟩
        have hst := iterU_stays hi
        have hl := keyTs_len hk
        refine ⟨fun j m Hj => m = all.length - j ∧ j ≤ all.length ∧ ∃ es, Hj = upd H1 D (hoX X D es) ∧ es.map (·.1) = dd (ks.take j) ∧ ∀ e ∈ es, SqT X.K Hj e.2.1 (e.1.map kV),
          ⟨_, rfl, Nat.zero_le _, [], rfl, by simp [dd], fun e he => nomatch he⟩, ?_⟩
        rintro j m Hj ⟨rfl, hj, es, rfl, hes, hsq⟩
        have wj : Wok X.K X.mg ρ1 S1 (upd H1 D (hoX X D es)) := w1.grow (upd_grow hD)
        have ej : Ext ρ1 H1 ρ1 (upd H1 D (hoX X D es)) := ext_x hD
        have elen : es.length ≤ j := by
          have h2 := dd_len (ks.take j) []
          have h3 := congrArg List.length hes
          rw [List.length_map] at h3
          unfold dd at h3
          rw [h3]
          simp only [List.length_nil, List.length_take] at h2
          omega
        by_cases hlt : j < all.length
        · refine .inr ?_
          obtain ⟨hgo, hy⟩ := (hg ρ1 S1 _ j ej wj hst).1 hlt
          refine ⟨hgo, fun Hn => j + 1 ≤ all.length ∧ ∃ es, Hn = upd H1 D (hoX X D es) ∧ es.map (·.1) = dd (ks.take (j + 1)) ∧ ∀ e ∈ es, SqT X.K Hn e.2.1 (e.1.map kV),
            fun Hn q => ⟨all.length - (j + 1), by omega, rfl, q⟩, fun x Hy yl => ?_⟩
          obtain ⟨rfl, u', hu, ru⟩ := hy x Hy yl
          rw [List.getElem?_eq_getElem hlt] at hu
          cases hu
          obtain ⟨k, hkj, hku⟩ := keyTs_get hlt hk
          have hkk : ∃ b, x = V.ref b ∧ SqT X.K (upd H1 D (hoX X D es)) b (k.map kV) := by
            cases hc : all[j] with
            | tup zs =>
              rw [hc] at ru hku
              obtain ⟨b, vs, rfl, hq, hr⟩ := ru.tup
              rw [kV_of hku hr] at hq
              exact ⟨b, rfl, hq⟩
            | _ => rw [hc] at hku; cases hku
          obtain ⟨b, rfl, hb⟩ := hkk
          have hil : i < (wipe σ [i]).length := by
            rw [wipe_length, ← eo.len]
            exact hz.2
          rw [show gOf X.K false [i] = gName i from rfl]
          unfold gName
          refine ⟨wipe_set List.mem_cons_self |>.trans lc_turns.wipe_wipe, V.ref b, List.getElem?_set_self hil, es, k, b, rfl, hb, upd_same, by have := hz.1; omega, hsq, fun v => ⟨hlt, storedH es k b v, by rw [upd_upd], by rw [stored_keys, hes, dd_step hkj], ?_⟩⟩
          rw [upd_upd]
          have sq' : ∀ {c : Addr} {vs : List V}, SqT X.K (upd H1 D (hoX X D es)) c vs → SqT X.K (upd H1 D (hoX X D (storedH es k b v))) c vs := by
            intro c vs h
            rcases h with (h | ⟨o, h⟩) | h
            · refine .inl (.inl ?_)
              by_cases z : c = D
              · subst z; rw [upd_same] at h; cases h
              · rw [upd_ne z] at h ⊢; exact h
            · refine .inl (.inr ⟨o, ?_⟩)
              by_cases z : c = D
              · subst z; rw [upd_same] at h; cases h
              · rw [upd_ne z] at h ⊢; exact h
            · exact .inr h
          exact stored_sq (fun e he => sq' (hsq e he)) (sq' hb)
        · refine .inl ?_
          have e : j = all.length := by omega
          subst e
          refine ⟨(hg ρ1 S1 _ _ ej wj hst).2 (Nat.le_refl _), D, es, rfl, upd_same, by have := hz.1; omega, fun q hq => ?_⟩
          have hd2 : es.map (·.1) = dd ks := by rw [hes, ← hl, List.take_length]
          have hq1 : H1 q = none := by
            by_cases z : q = D
            · subst z; rw [upd_same] at hq; cases hq
            · rw [upd_ne z] at hq; exact hq
          refine (Post.ext (ej.trans (Ext.push (p := q) (upd_grow hq))) h1).here (wj.push hq (upd_grow hq) ⟨_, upd_same, ?_⟩) (relLoc (push_at w1.len))
          rw [← hd2, List.map_map]
          exact rel_keys fun e he => (Ext.push (p := q) (ρ := ρ1) (upd_grow hq)).sqt X.K (hsq e he)
      · exact h1.elim
    · exact h1.elim
  · exact h1.elim
theorem s_lsd (O : Ok X p nm ad d W) (i : Nat) {x : Str} {kx vx tg iter : Expr} {sc : Scope} {pl pd : Pos} {it : E} (hN : X.N.Nodup) (hi : PE X iter (tE X Φ W it)) (ok : BlkOk X.N X.env.scope sc [(x, i)])
    (hg : OnBlk X sc fun Y => PG Y tg (gOf Y.K false [i])) (hk : OnBlk X sc fun Y => PE Y kx (tVar i)) (hv : OnBlk X sc fun Y => PE Y vx (tC (.bl true)))
    (hl : Gl X "list" := by rfl) (hm : ("list" : Str) ∈ nm.bins := by decide +kernel) (hs : ∀ x, foldedSetIterable iter X.env x = pure x := by intro _; rfl)
    (he : starEach [Expr.DictComp kx vx [⟨tg, iter, [], 0⟩] sc pd] X.env = (false, eval (.DictComp kx vx [⟨tg, iter, [], 0⟩] sc pd) X.env) :: starEach [] X.env := by rfl) (hpl : (backTo pos (starEach [] X.env)).any (·.1) = false := by rfl) :
    PE X (.Call (.Name "list" pl) [.DictComp kx vx [⟨tg, iter, [], 0⟩] sc pd] [] pos) (tE X Φ W (.lsd i it)) :=
  PEw (pe_callTy (call_list_dx O.calm) hl (O.sta.bin _ hm) PyProof.Rows.boot_list (pa_cons (pe_dx O.calm (by have := O.room.un; omega) hN (pi_any hi) ok hg hk hv hs) pa_nil he) (by decide) (by decide) he hpl) fun σ H Q h => lsd_read h
/-- a, b, .. = a list -/
theorem x_lset {es : List Expr} {a : Expr} {ta : E} {is : List Nat} {k : Nat} {pt : Pos} (hc : X.calm = true) (ha : PE X a (tE X Φ W ta)) (hg : PGs X es (gsOf is)) (hn : (assignEach es X.env).length = is.length := by rfl) (hst : (assignEach es X.env).findIdx? (·.1) = none := by rfl)
    (hs : swapsWithSole [.Tuple es k pt] a pos.line X.env = pure false := by rfl) (hw : swappedStores [.Tuple es k pt] a X.env = pure none := by rfl) (h1 : (assignEach [.Tuple es k pt] X.env).map (·.2) = [assign (.Tuple es k pt) X.env] := by rfl) :
    PS X (.Assign [.Tuple es k pt] a pos) (tS X Φ W (.lset is ta)) :=
  PSw (ps_asg ha (pg_unl hc hg hn hst) hs hw h1) fun D σ H ⟨ρ, S, env, w, eo, h⟩ => by
    rw [ex] at h
    refine ⟨ρ, S, env, w, eo, (PostS.on h).imp fun x H1 ⟨ρ1, S1, u, e1, w1, r1, h1⟩ => ?_⟩
    split at h1
    · rename_i us hu
      split at h1
      · rename_i hl
        obtain ⟨q, vs, rfl, hq, hr⟩ := w1.list hu r1
        exact ⟨q, vs, rfl, hq, by rw [hr.length]; exact hl, gs_ok is (fun _ z => z) hl (eo.mono e1) hr fun σ' eo' _ => h1.here w1 eo'⟩
      · exact h1.elim
    · exact h1.elim
end
end Oz

end

section
set_option maxHeartbeats 4000000
/-! OzZ: zip of any number of tuples, its items kept under a name; a tuple turned round; all of a tuple. -/
namespace Oz
open PySem PySem.Spec PyProof.Rows L2
section
variable {prog : Program} {w : World} {A : Around} {E : Value → Shared → Prop} {s : Shared}
theorem wpAny_lia {M : Model} {a : Addr} {Q : Option Obj → Shared → Prop} (h : Q (s.heap.get? a) s) : wpAny M A (loadIfAlive a) Q E s := fun Γ p hΓ => by
  unfold loadIfAlive
  rw [Sem.wp_loadIfAlive]
  exact h
abbrev ZpAt (h : Heap) (z TI TO : Addr) (f0 f1 : Value) : Prop := h.get? z = some { cls := .type "zip", dict := none, data := .fields #[f0, f1, .bool false, .ref TI, .ref TO], slots := #[] }
abbrev TsAt (h : Heap) (T : Addr) (vs : List Value) : Prop := h.get? T = some { cls := .type "tuple", data := .seq vs.toArray }
structure ZpApart (z TI TO : Addr) (its ls : List Addr) : Prop where
  tiz : TI ≠ z
  toz : TO ≠ z
  tito : TI ≠ TO
  it : ∀ i ∈ its, i ≠ z ∧ i ≠ TI ∧ i ≠ TO
  nd : its.Nodup
  l : ∀ l ∈ ls, l ≠ z ∧ l ≠ TO ∧ ∀ i ∈ its, l ≠ i
  len : ls.length = its.length
/-- the first m have gone on -/
def ItsAt (h : Heap) (its ls : List Addr) (m k : Nat) : Prop := ∀ (j : Nat) (i l : Addr), its[j]? = some i → ls[j]? = some l → h.IsTupleIter i l (if j < m then k + 1 else k)
def Frame (z TO : Addr) (its : List Addr) (h h' : Heap) : Prop := h.objs.size ≤ h'.objs.size ∧ ∀ c o, c ≠ z → c ≠ TO → c ∉ its → h.get? c = some o → h'.get? c = some o
theorem Frame.refl {z TO : Addr} {its : List Addr} {h : Heap} : Frame z TO its h h := ⟨Nat.le_refl _, fun _ _ _ _ _ e => e⟩
theorem Frame.but {z TO b : Addr} {its : List Addr} {h h1 h2 : Heap} (f : Frame z TO its h h1) (hb : b = z ∨ b = TO ∨ b ∈ its) (sb : Heap.SameBut b h1 h2) : Frame z TO its h h2 :=
  ⟨by rw [sb.1]; exact f.1, fun c o c1 c2 c3 e => sb.extBut _ _ (fun q => by subst q; rcases hb with rfl | rfl | hb <;> first | exact c1 rfl | exact c2 rfl | exact c3 hb) (f.2 c o c1 c2 c3 e)⟩
/-- the k-th items -/
def RowAt (h : Heap) (ls : List Addr) (k : Nat) (xs : List Value) : Prop := xs.length = ls.length ∧ ∀ (j : Nat) (l : Addr) (x : Value), ls[j]? = some l → xs[j]? = some x → ∃ items, h.IsTuple l items ∧ items[k]? = some x
theorem ItsAt.next {h h' : Heap} {its ls : List Addr} {m k : Nat} {i l : Addr} (nd : its.Nodup) (a : ItsAt h its ls m k) (hi : its[m]? = some i) (hl : ls[m]? = some l) (hit : h'.IsTupleIter i l (k + 1)) (sb : Heap.SameBut i h h') : ItsAt h' its ls (m + 1) k := by
  intro j i' l' e1 e2
  by_cases hj : j = m
  · subst hj
    rw [hi] at e1
    rw [hl] at e2
    cases e1
    cases e2
    rw [if_pos (Nat.lt_succ_self _)]
    exact hit
  · have hne : i' ≠ i := fun q => hj ((List.getElem?_inj (List.getElem?_eq_some_iff.mp e1).1 nd).mp (by rw [e1, hi, q]))
    have := a j i' l' e1 e2
    have e3 : (if j < m + 1 then k + 1 else k) = (if j < m then k + 1 else k) := by
      by_cases h1 : j < m
      · rw [if_pos h1, if_pos (by omega)]
      · rw [if_neg h1, if_neg (by omega)]
    rw [e3]
    exact this.extBut sb.extBut hne
theorem ItsAt.but {h h' : Heap} {its ls : List Addr} {m k : Nat} {b : Addr} (a : ItsAt h its ls m k) (hb : ∀ i ∈ its, i ≠ b) (sb : Heap.SameBut b h h') : ItsAt h' its ls m k :=
  fun j i l e1 e2 => (a j i l e1 e2).extBut sb.extBut (hb i (List.mem_of_getElem? e1))
theorem ItsAt.done {h : Heap} {its ls : List Addr} {k : Nat} (a : ItsAt h its ls its.length k) : ItsAt h its ls 0 (k + 1) := fun j i l e1 e2 => by
  have := a j i l e1 e2
  rw [if_pos (List.getElem?_eq_some_iff.mp e1).1] at this
  rw [if_neg (Nat.not_lt_zero _)]
  exact this

theorem zfree {z TI TO : Addr} {f0 f1 : Value} (hz : ZpAt s.heap z TI TO f0 f1) (h0 : f0 = .none ∨ ∃ a t, f0 = .int a t) :
    wpAny (model prog w) A (Builtin.SmallTypes.ownedTupleIsFree (.ref z)) (fun b s' => (b = true ∧ s' = s) ∨ (b = false ∧ ∃ h' g1, s' = { s with heap := h' } ∧ ZpAt h' z TI TO f0 g1 ∧ (h' = s.heap ∨ Heap.SameBut z s.heap h'))) E s := by
  unfold Builtin.SmallTypes.ownedTupleIsFree
  rcases h0 with rfl | ⟨a, t, rfl⟩
  · exact wpAny_bind (wpAny_field hz rfl (x := .none) rfl (wpAny_pure (.inl ⟨rfl, rfl⟩)))
  · refine wpAny_bind (wpAny_field hz rfl (x := .int a t) rfl ?_)
    refine wpAny_bind (wpAny_lia ?_)
    cases hg : s.heap.get? a.toNat with
    | none =>
      show wpAny _ _ (if (Option.isNone (none : Option Obj)) = true then _ else _) _ _ _
      rw [if_pos (show (Option.isNone (none : Option Obj)) = true from rfl)]
      exact wpAny_pure (.inl ⟨rfl, rfl⟩)
    | some o =>
      show wpAny _ _ (if (Option.isNone (some o)) = true then _ else _) _ _ _
      rw [if_neg (show ¬ (Option.isNone (some o)) = true from Bool.false_ne_true)]
      refine wpAny_bind (wpAny_field hz rfl (x := f1) rfl ?_)
      show wpAny _ _ (if (f1 != .bool true) = true then _ else _) _ _ _
      by_cases hf : (f1 != .bool true) = true
      · rw [if_pos hf]
        refine wpAny_bind (wpAny_setField_rec hz (by simp) fun h1 hz1 sb => ?_)
        exact wpAny_pure (.inr ⟨rfl, h1, _, rfl, hz1, .inr sb⟩)
      · rw [if_neg hf]
        exact wpAny_pure (.inr ⟨rfl, s.heap, f1, rfl, hz, .inl rfl⟩)
theorem RowAt.frame {z TI TO : Addr} {its ls : List Addr} {k : Nat} {xs : List Value} {h h' : Heap} (D : ZpApart z TI TO its ls) (r : RowAt h ls k xs) (f : Frame z TO its h h') : RowAt h' ls k xs := by
  refine ⟨r.1, fun j l x e1 e2 => ?_⟩
  obtain ⟨items, ⟨o, ho, q⟩, hx⟩ := r.2 j l x e1 e2
  obtain ⟨a1, a2, a3⟩ := D.l l (List.mem_of_getElem? e1)
  exact ⟨items, ⟨o, f.2 l o a1 a2 (fun hm => a3 l hm rfl) ho, q⟩, hx⟩
theorem drop_idx {its : List Addr} {m : Nat} {x : Value × Nat} {rest : List (Value × Nat)} (h : x :: rest = ((its.map Value.ref).zipIdx).drop m) : ∃ i, its[m]? = some i ∧ x = (.ref i, m) ∧ rest = ((its.map Value.ref).zipIdx).drop (m + 1) ∧ m < its.length := by
  have hm : m < its.length := by
    apply Decidable.byContradiction
    intro q
    rw [List.drop_eq_nil_of_le (by simp; omega)] at h
    cases h
  have hl : m < ((its.map Value.ref).zipIdx).length := by simpa using hm
  rw [List.drop_eq_getElem_cons hl] at h
  cases h
  exact ⟨its[m], List.getElem?_eq_getElem hm, by simp, rfl, hm⟩
theorem zipN_item {z TI TO : Addr} {its ls : List Addr} {k : Nat} {xs vs : List Value} {f0 f1 : Value} {Q : Value → Shared → Prop} (D : ZpApart z TI TO its ls) (hn : its ≠ []) (hsz : its.length ≤ 100)
    (hz : ZpAt s.heap z TI TO f0 f1) (h0 : f0 = .none ∨ ∃ a t, f0 = .int a t) (hTI : TsAt s.heap TI (its.map Value.ref)) (hTO : TsAt s.heap TO vs) (hvs : vs.length = its.length) (hit : ItsAt s.heap its ls 0 k) (hr : RowAt s.heap ls k xs)
    (hQ : ∀ h' T, (∃ g0 g1 ws, ZpAt h' z TI TO g0 g1 ∧ (g0 = .none ∨ ∃ a t, g0 = .int a t) ∧ TsAt h' TO ws ∧ ws.length = its.length) → ItsAt h' its ls 0 (k + 1) → TsAt h' T xs → s.heap.objs.size ≤ T → Frame z TO its s.heap h' → Q (.ref T) { s with heap := h' }) :
    wpAny (model prog w) A (Builtin.«zip.__next__» ⟨[.ref z], []⟩) (fun fin s' => ∃ v, fin = .done (.ret v) ∧ Q v s') E s := by
  show wpAny _ _ (field (.ref z) 2 >>= _) _ _ _
  refine wpAny_bind (wpAny_field hz rfl (x := .bool false) rfl ?_)
  show wpAny _ _ (field (.ref z) 3 >>= _) _ _ _
  refine wpAny_bind (wpAny_field hz rfl (x := .ref TI) rfl ?_)
  refine wpAny_bind (wpAny_seqItems hTI rfl ?_)
  have hne : ((its.map Value.ref).toArray).isEmpty = false := by
    cases its with
    | nil => exact absurd rfl hn
    | cons a r => rfl
  show wpAny _ _ (if ((its.map Value.ref).toArray).isEmpty = true then _ else _) _ _ _
  rw [hne, if_neg Bool.false_ne_true]
  show wpAny _ _ (Builtin.SmallTypes.ownedTupleIsFree (.ref z) >>= _) _ _ _
  refine wpAny_bind (wpAny_mono (zfree hz h0) (fun b s1 hb => ?_) fun _ _ e => e)
  rcases hb with ⟨rfl, rfl⟩ | ⟨rfl, h1, g1, rfl, hz1, hsb⟩
  · simp only [if_true]
    refine wpAny_bind (wpAny_rule ?_)
    refine wpAny_bind (wpAny_field hz rfl (x := .ref TO) rfl ?_)
    refine wpAny_bind (wpAny_setField_rec hz (by simp) fun h1 hz1 sb1 => ?_)
    replace hz1 : ZpAt h1 z TI TO .ellipsis f1 := hz1
    refine wpAny_bind ?_
    refine wpAny_forIn_list _ (fun rest r s' => ∃ m h', rest = ((its.map Value.ref).zipIdx).drop m ∧ m ≤ its.length ∧ r = (none, ()) ∧ s' = { s1 with heap := h' } ∧ ZpAt h' z TI TO .ellipsis f1 ∧
      (∃ ws, TsAt h' TO ws ∧ ws.length = its.length ∧ ∀ j, j < m → ws[j]? = xs[j]?) ∧ ItsAt h' its ls m k ∧ Frame z TO its s1.heap h') _ ?_ ?_ _ _ ⟨0, h1, rfl, Nat.zero_le _, rfl, rfl, hz1, ⟨vs, sb1.extBut _ _ D.toz hTO, hvs, fun j hj => absurd hj (Nat.not_lt_zero _)⟩, hit.but (fun i hi => (D.it i hi).1) sb1, Frame.refl.but (.inl rfl) sb1⟩
    · rintro x rest r s' ⟨m, h2, hd, hm, rfl, rfl, hz2, ⟨ws, hTO2, hws, hwx⟩, hit2, fr2⟩
      obtain ⟨i, hi, rfl, hrest, hmlt⟩ := drop_idx hd
      have hlm : m < ls.length := by rw [D.len]; exact hmlt
      obtain ⟨l, hl⟩ : ∃ l, ls[m]? = some l := ⟨_, List.getElem?_eq_getElem hlm⟩
      obtain ⟨x, hx⟩ : ∃ x, xs[m]? = some x := ⟨_, List.getElem?_eq_getElem (by rw [hr.1]; exact hlm)⟩
      obtain ⟨items, ht, hxi⟩ := (hr.frame D fr2).2 m l x hl hx
      have him := List.mem_of_getElem? hi
      have hit3 := hit2 m i l hi hl
      rw [if_neg (Nat.lt_irrefl _)] at hit3
      refine wpAny_bind (wpAny_onRaise ?_)
      show wpAny _ _ (Builtin.SmallTypes.nextOf (.ref i) >>= _) _ _ _
      refine wpAny_bind (RZ.nextOf_tuple_item hit3 ht hxi fun h3 hit4 sb3 => wpAny_pure ?_)
      have hTO3 : TsAt h3 TO ws := sb3.extBut _ _ (Ne.symm (D.it i him).2.2) hTO2
      refine wpAny_bind (wpAny_seqItems hTO3 rfl ?_)
      have z100 : its.length ≤ sizeLine := Nat.le_trans hsz (by decide)
      refine wpAny_bind (wpAny_updateSeq hTO3 rfl ?_ (by rw [List.size_toArray, hws]; exact z100) (by rw [Array.size_setIfInBounds, List.size_toArray, hws]; omega))
      refine wpAny_bind (wpAny_letGo (wpAny_pure ?_))
      have sb4 : Heap.SameBut TO h3 (h3.update TO (Obj.mapSeq fun q => q.setIfInBounds m x)) := Heap.SameBut.update ..
      refine ⟨m + 1, _, hrest, hmlt, rfl, rfl, sb4.extBut _ _ (Ne.symm D.toz) (sb3.extBut _ _ (Ne.symm (D.it i him).1) hz2), ⟨ws.set m x, ?_, by simp [hws], fun j hj => ?_⟩, (hit2.next D.nd hi hl hit4 sb3).but (fun i' hi' => (D.it i' hi').2.2) sb4, (fr2.but (.inr (.inr him)) sb3).but (.inr (.inl rfl)) sb4⟩
      · show (h3.update TO _).get? TO = _
        rw [Heap.get?_update_self _ hTO3 rfl]
        simp [Obj.mapSeq]
      · by_cases hjm : j = m
        · subst hjm
          rw [List.getElem?_set_self (by rw [hws]; exact hmlt), hx]
        · rw [List.getElem?_set_ne (Ne.symm hjm)]
          exact hwx j (by omega)
    · rintro r s' ⟨m, h2, hd, hm, rfl, rfl, hz2, ⟨ws, hTO2, hws, hwx⟩, hit2, fr2⟩
      have hmn : m = its.length := by
        apply Nat.le_antisymm hm
        have := congrArg List.length hd
        simp at this
        omega
      subst hmn
      have hwe : ws = xs := by
        apply List.ext_getElem?
        intro j
        by_cases hj : j < its.length
        · exact hwx j hj
        · rw [List.getElem?_eq_none (by omega), List.getElem?_eq_none (by rw [hr.1, D.len]; omega)]
      subst hwe
      refine wpAny_bind (wpAny_seqItems hTO2 rfl ?_)
      refine wpAny_bind (wpAny_newTuple ?_ (by rw [List.toList_toArray, hws]; exact Nat.le_trans hsz (by decide)))
      show wpAny _ _ (Builtin.SmallTypes.ownedTupleHandOut (.ref z) (.ref h2.objs.size) >>= _) _ _ _
      refine wpAny_bind ?_
      unfold Builtin.SmallTypes.ownedTupleHandOut
      have hzl : z < h2.objs.size := Heap.lt_size hz2
      have hTl : TO < h2.objs.size := Heap.lt_size hTO2
      have hz3 : ZpAt (h2.push { cls := .type "tuple", data := .seq ws.toArray.toList.toArray }) z TI TO .ellipsis f1 := Heap.get?_push_of_some _ hz2
      refine wpAny_bind (wpAny_setField_rec hz3 (by simp) fun h4 hz4 sb4 => ?_)
      replace hz4 : ZpAt h4 z TI TO (rawInt h2.objs.size) f1 := hz4
      refine wpAny_setField_rec hz4 (by simp) fun h5 hz5 sb5 => ?_
      replace hz5 : ZpAt h5 z TI TO (rawInt h2.objs.size) (.bool false) := hz5
      have up : ∀ c o, c ≠ z → h2.get? c = some o → h5.get? c = some o := fun c o c1 e => sb5.extBut _ _ c1 (sb4.extBut _ _ c1 (Heap.get?_push_of_some _ e))
      have hT5 : TsAt h5 h2.objs.size ws := sb5.extBut _ _ (Nat.ne_of_gt hzl) (sb4.extBut _ _ (Nat.ne_of_gt hzl) (Heap.get?_push_size _ rfl))
      refine wpAny_pure ⟨_, rfl, hQ h5 _ ⟨_, _, ws, hz5, .inr ⟨_, _, rfl⟩, up _ _ D.toz hTO2, hws⟩ ?_ hT5 fr2.1 ⟨?_, fun c o c1 c2 c3 e => up c o c1 (fr2.2 c o c1 c2 c3 e)⟩⟩
      · intro j i l e1 e2
        exact (hit2.done j i l e1 e2).at fun o e => up _ o (D.it i (List.mem_of_getElem? e1)).1 e
      · rw [sb5.1, sb4.1, Heap.size_push]
        exact Nat.le_succ_of_le fr2.1
  · simp only [Bool.false_eq_true, if_false]
    have fr1 : Frame z TO its s.heap h1 := by
      rcases hsb with rfl | sb
      · exact Frame.refl
      · exact Frame.refl.but (.inl rfl) sb
    have hTO1 : TsAt h1 TO vs := by
      rcases hsb with rfl | sb
      · exact hTO
      · exact sb.extBut _ _ D.toz hTO
    have hit1 : ItsAt h1 its ls 0 k := by
      rcases hsb with rfl | sb
      · exact hit
      · exact hit.but (fun i hi => (D.it i hi).1) sb
    refine wpAny_bind ?_
    rw [← Array.forIn_toList]
    refine wpAny_forIn_list _ (fun rest r s' => ∃ m h', rest = (its.map Value.ref).drop m ∧ m ≤ its.length ∧ r = (none, (xs.take m).toArray) ∧ s' = { s with heap := h' } ∧ ZpAt h' z TI TO f0 g1 ∧ TsAt h' TO vs ∧ ItsAt h' its ls m k ∧ Frame z TO its s.heap h') _ ?_ ?_ _ _ ⟨0, h1, by simp, Nat.zero_le _, by simp, rfl, hz1, hTO1, hit1, fr1⟩
    · rintro y rest r s' ⟨m, h2, hd, hm, rfl, rfl, hz2, hTO2, hit2, fr2⟩
      have hmlt : m < its.length := by
        apply Decidable.byContradiction
        intro q
        rw [List.drop_eq_nil_of_le (by simp; omega)] at hd
        cases hd
      have hml : m < (its.map Value.ref).length := by simpa using hmlt
      rw [List.drop_eq_getElem_cons hml] at hd
      cases hd
      have hi : its[m]? = some its[m] := List.getElem?_eq_getElem hmlt
      have hlm : m < ls.length := by rw [D.len]; exact hmlt
      obtain ⟨l, hl⟩ : ∃ l, ls[m]? = some l := ⟨_, List.getElem?_eq_getElem hlm⟩
      obtain ⟨x, hx⟩ : ∃ x, xs[m]? = some x := ⟨_, List.getElem?_eq_getElem (by rw [hr.1]; exact hlm)⟩
      obtain ⟨items, ht, hxi⟩ := (hr.frame D fr2).2 m l x hl hx
      have him := List.mem_of_getElem? hi
      have hit3 := hit2 m _ l hi hl
      rw [if_neg (Nat.lt_irrefl _)] at hit3
      rw [List.getElem_map]
      refine wpAny_bind (wpAny_holding ?_)
      show wpAny _ _ (Builtin.SmallTypes.nextOf (.ref its[m]) >>= _) _ _ _
      refine wpAny_bind (RZ.nextOf_tuple_item hit3 ht hxi fun h3 hit4 sb3 => wpAny_pure ?_)
      refine wpAny_pure ⟨m + 1, h3, rfl, hmlt, ?_, rfl, sb3.extBut _ _ (Ne.symm (D.it _ him).1) hz2, sb3.extBut _ _ (Ne.symm (D.it _ him).2.2) hTO2, hit2.next D.nd hi hl hit4 sb3, fr2.but (.inr (.inr him)) sb3⟩
      rw [List.take_add_one, hx]
      simp
    · rintro r s' ⟨m, h2, hd, hm, rfl, rfl, hz2, hTO2, hit2, fr2⟩
      have hmn : m = its.length := by
        apply Nat.le_antisymm hm
        have := congrArg List.length hd
        simp at this
        omega
      subst hmn
      have hxl : xs.take its.length = xs := List.take_of_length_le (by rw [hr.1, D.len]; exact Nat.le_refl _)
      rw [hxl]
      show wpAny _ _ (newTuple xs.toArray.toList >>= _) _ _ _
      refine wpAny_bind (wpAny_newTuple ?_ (by rw [List.toList_toArray, hr.1, D.len]; exact Nat.le_trans hsz (by decide)))
      have up : ∀ c o, h2.get? c = some o → (h2.push { cls := .type "tuple", data := .seq xs.toArray.toList.toArray }).get? c = some o := fun c o e => Heap.get?_push_of_some _ e
      refine wpAny_pure ⟨_, rfl, hQ _ _ ⟨_, _, vs, up _ _ hz2, h0, up _ _ hTO2, hvs⟩ (fun j i l e1 e2 => (hit2.done j i l e1 e2).at fun o e => up _ o e) (Heap.get?_push_size _ rfl) fr2.1 ⟨?_, fun c o c1 c2 c3 e => up c o (fr2.2 c o c1 c2 c3 e)⟩⟩
      rw [Heap.size_push]
      exact Nat.le_succ_of_le fr2.1
def Kept (z TO : Addr) (its : List Addr) (h h' : Heap) : Prop := ∀ c o, c ≠ z → c ≠ TO → c ∉ its → h.get? c = some o → h'.get? c = some o
theorem zipN_end {z TI TO : Addr} {its ls : List Addr} {k : Nat} {f0 f1 : Value} {Q : Fin → Shared → Prop} (hh : A.handled = none) (D : ZpApart z TI TO its ls) (hn : its ≠ [])
    (hz : ZpAt s.heap z TI TO f0 f1) (h0 : f0 = .none ∨ ∃ a t, f0 = .int a t) (hTI : TsAt s.heap TI (its.map Value.ref)) (hit : ItsAt s.heap its ls 0 k) (hend : ∀ l, ls[0]? = some l → ∃ items, s.heap.IsTuple l items ∧ items[k]? = none)
    (hE : ∀ h' e, Kept z TO its s.heap h' → (∃ o, h'.get? e = some o ∧ o.cls = .type "StopIteration") → E (.ref e) { s with heap := h' }) :
    wpAny (model prog w) A (Builtin.«zip.__next__» ⟨[.ref z], []⟩) Q E s := by
  obtain ⟨i, ir, rfl⟩ : ∃ i ir, its = i :: ir := by
    cases its with
    | nil => exact absurd rfl hn
    | cons i ir => exact ⟨i, ir, rfl⟩
  obtain ⟨l, lr, rfl⟩ : ∃ l lr, ls = l :: lr := by
    cases ls with
    | nil => have := D.len; simp at this
    | cons l lr => exact ⟨l, lr, rfl⟩
  obtain ⟨items, ht, hx⟩ := hend l rfl
  have hi0 := hit 0 i l rfl rfl
  rw [if_neg (Nat.lt_irrefl _)] at hi0
  obtain ⟨d1, d2, d3⟩ := D.it i List.mem_cons_self
  obtain ⟨b1, b2, b3⟩ := D.l l List.mem_cons_self
  show wpAny _ _ (field (.ref z) 2 >>= _) _ _ _
  refine wpAny_bind (wpAny_field hz rfl (x := .bool false) rfl ?_)
  show wpAny _ _ (field (.ref z) 3 >>= _) _ _ _
  refine wpAny_bind (wpAny_field hz rfl (x := .ref TI) rfl ?_)
  refine wpAny_bind (wpAny_seqItems hTI rfl ?_)
  show wpAny _ _ (if (((i :: ir).map Value.ref).toArray).isEmpty = true then _ else _) _ _ _
  rw [if_neg (show ¬ (((i :: ir).map Value.ref).toArray).isEmpty = true from Bool.false_ne_true)]
  show wpAny _ _ (Builtin.SmallTypes.ownedTupleIsFree (.ref z) >>= _) _ _ _
  refine wpAny_bind (wpAny_mono (zfree hz h0) (fun b s1 hb => ?_) fun _ _ e => e)
  rcases hb with ⟨rfl, rfl⟩ | ⟨rfl, h1, g1, rfl, hz1, hsb⟩
  · simp only [if_true]
    refine wpAny_bind (wpAny_rule ?_)
    refine wpAny_bind (wpAny_field hz rfl (x := .ref TO) rfl ?_)
    refine wpAny_bind (wpAny_setField_rec hz (by simp) fun h1 hz1 sb1 => ?_)
    replace hz1 : ZpAt h1 z TI TO .ellipsis f1 := hz1
    refine wpAny_bind ?_
    refine wpAny_forIn_list _ (fun rest r s' => rest = ((i :: ir).map Value.ref).zipIdx ∧ s' = { s1 with heap := h1 }) _ ?_ ?_ _ _ ⟨rfl, rfl⟩
    · rintro x rest r s' ⟨hd, rfl⟩
      cases hd
      refine wpAny_bind (wpAny_onRaise ?_)
      show wpAny _ _ (Builtin.SmallTypes.nextOf (.ref i) >>= _) _ _ _
      refine wpAny_bind (RZ.nextOf_tuple_end hh (hi0.extBut sb1.extBut d1) (ht.extBut sb1.extBut b1) hx fun h2 e hs2 he => ?_)
      obtain ⟨oe, hoe, hce⟩ := he
      have hz2 : ZpAt h2 z TI TO .ellipsis f1 := hs2 _ _ (Ne.symm d1) hz1
      have hez : e ≠ z := fun q => by subst q; rw [hz2] at hoe; cases hoe; simp at hce
      exact wpAny_setField_rec hz2 (by simp) fun h3 _ hs3 => hE h3 e (fun c o c1 c2 c3 q => hs3.extBut _ _ c1 (hs2 _ _ (fun w => c3 (by rw [w]; exact List.mem_cons_self)) (sb1.extBut _ _ c1 q))) ⟨oe, hs3.extBut _ _ hez hoe, hce⟩
    · rintro r s' ⟨hd, rfl⟩
      cases hd
  · simp only [Bool.false_eq_true, if_false]
    have kp : ∀ c o, c ≠ z → s.heap.get? c = some o → h1.get? c = some o := by
      rcases hsb with rfl | sb
      · exact fun _ _ _ q => q
      · exact fun c o c1 q => sb.extBut _ _ c1 q
    refine wpAny_bind ?_
    rw [← Array.forIn_toList]
    refine wpAny_forIn_list _ (fun rest r s' => rest = (i :: ir).map Value.ref ∧ s' = { s with heap := h1 }) _ ?_ ?_ _ _ ⟨by simp, rfl⟩
    · rintro x rest r s' ⟨hd, rfl⟩
      cases hd
      refine wpAny_bind (wpAny_holding ?_)
      show wpAny _ _ (Builtin.SmallTypes.nextOf (.ref i) >>= _) _ _ _
      refine wpAny_bind (RZ.nextOf_tuple_end hh (hi0.at fun o q => kp _ o d1 q) (by obtain ⟨o, ho, r⟩ := ht; exact ⟨o, kp _ o b1 ho, r⟩) hx fun h2 e hs2 he => ?_)
      exact hE h2 e (fun c o c1 c2 c3 q => hs2 _ _ (fun w => c3 (by rw [w]; exact List.mem_cons_self)) (kp _ _ c1 q)) he
    · rintro r s' ⟨hd, rfl⟩
      cases hd
theorem zpType {z TI TO : Addr} {f0 f1 : Value} (hz : ZpAt s.heap z TI TO f0 f1) : s.TypeIs (.ref z) "zip" := ⟨_, hz, rfl⟩
theorem zipN_next {z TI TO : Addr} {its ls : List Addr} {k : Nat} {xs vs : List Value} {f0 f1 : Value} {Q : Option Value → Shared → Prop} (D : ZpApart z TI TO its ls) (hn : its ≠ []) (hsz : its.length ≤ 100)
    (hz : ZpAt s.heap z TI TO f0 f1) (h0 : f0 = .none ∨ ∃ a t, f0 = .int a t) (hTI : TsAt s.heap TI (its.map Value.ref)) (hTO : TsAt s.heap TO vs) (hvs : vs.length = its.length) (hit : ItsAt s.heap its ls 0 k) (hr : RowAt s.heap ls k xs)
    (hQ : ∀ h' T, (∃ g0 g1 ws, ZpAt h' z TI TO g0 g1 ∧ (g0 = .none ∨ ∃ a t, g0 = .int a t) ∧ TsAt h' TO ws ∧ ws.length = its.length) → ItsAt h' its ls 0 (k + 1) → TsAt h' T xs → s.heap.objs.size ≤ T → Frame z TO its s.heap h' → Q (some (.ref T)) { s with heap := h' }) :
    wpAny (model prog w) A (pyNext (.ref z)) Q E s := by
  unfold pyNext
  exact wpAny_bind (wpAny_attempt (wpAny_callSpecial?_slot (name := Str.ofString "__next__") (zpType hz) F.slot_zip_next
    (wpAny_call_entry F.slot_zip_next (zpType hz) F.entry_zip_next (zipN_item D hn hsz hz h0 hTI hTO hvs hit hr fun h' T a b c d e => wpAny_pure (hQ h' T a b c d e)) (F.args_zip_next_1 _))))
theorem zipN_stop {z TI TO : Addr} {its ls : List Addr} {k : Nat} {f0 f1 : Value} {Q : Option Value → Shared → Prop} (hh : A.handled = none) (D : ZpApart z TI TO its ls) (hn : its ≠ [])
    (hz : ZpAt s.heap z TI TO f0 f1) (h0 : f0 = .none ∨ ∃ a t, f0 = .int a t) (hTI : TsAt s.heap TI (its.map Value.ref)) (hit : ItsAt s.heap its ls 0 k) (hend : ∀ l, ls[0]? = some l → ∃ items, s.heap.IsTuple l items ∧ items[k]? = none)
    (hQ : ∀ h', Kept z TO its s.heap h' → Q none { s with heap := h' }) : wpAny (model prog w) A (pyNext (.ref z)) Q E s := by
  unfold pyNext
  refine wpAny_bind (wpAny_attempt (wpAny_callSpecial?_slot (name := Str.ofString "__next__") (zpType hz) F.slot_zip_next
    (wpAny_call_entry F.slot_zip_next (zpType hz) F.entry_zip_next (zipN_end hh D hn hz h0 hTI hit hend fun h' e hk he => ?_) (F.args_zip_next_1 _))))
  obtain ⟨o, ho, hc⟩ := he
  exact wpAny_bind (wpAny_isInstance (T := "StopIteration") (b := true) ⟨o, ho, hc⟩ isSubtype_stop (wpAny_pure (hQ _ hk)))
end
end Oz

end

section
set_option maxHeartbeats 4000000
namespace Oz
open PySem PySem.Spec PyProof.Rows L2
abbrev itO (l : Addr) : Obj := { cls := .type "tuple_iterator", data := .fields #[.ref l, .int 0 0] }
abbrev tpO (vs : List Value) : Obj := { cls := .type "tuple", data := .seq vs.toArray }
abbrev zpO (TI TO : Addr) : Obj := { cls := .type "zip", data := .fields #[.none, .bool false, .bool false, .ref TI, .ref TO] }
abbrev zp1 (h : Heap) (l1 : Addr) : Heap := (((h.push (itO l1)).push (tpO [.ref h.objs.size])).push (tpO [.none])).push (zpO (h.push (itO l1)).objs.size ((h.push (itO l1)).push (tpO [.ref h.objs.size])).objs.size)
theorem typeCall_zip_1 (a : Value) : checkTypeCall "zip" ⟨[a], []⟩ = pure () := by kernel_rfl
theorem newCall_zip_1 (a : Value) : checkBuiltinCall "zip.__new__" ⟨[.type "zip", a], []⟩ = pure () := by kernel_rfl
theorem typeCall_zip_3 (a b c : Value) : checkTypeCall "zip" ⟨[a, b, c], []⟩ = pure () := by kernel_rfl
theorem newCall_zip_3 (a b c : Value) : checkBuiltinCall "zip.__new__" ⟨[.type "zip", a, b, c], []⟩ = pure () := by kernel_rfl
theorem args_object_init_2 (a b : Value) : argsOk "object.__init__" ⟨[a, b], []⟩ := by
  unfold argsOk; rw [signature?_of (id := "object.__init__") (n := ['_', '_', 't', 'i', 'n', 'i', '_', '_']) (o := ['t', 'c', 'e', 'j', 'b', 'o']) (by kernel_rfl) F.owner_object]; kernel_rfl
theorem args_object_init_4 (a b c d : Value) : argsOk "object.__init__" ⟨[a, b, c, d], []⟩ := by
  unfold argsOk; rw [signature?_of (id := "object.__init__") (n := ['_', '_', 't', 'i', 'n', 'i', '_', '_']) (o := ['t', 'c', 'e', 'j', 'b', 'o']) (by kernel_rfl) F.owner_object]; kernel_rfl
theorem meets_zip1 (l1 : Addr) (xs : Array Value) :
    Meets (Builtin.«zip.__new__» ⟨[.type "zip", .ref l1], []⟩) (fun _ R s => s.heap.IsTuple l1 xs ∧ R (.ok (.ret (.ref ((((s.heap.push (itO l1)).push (tpO [.ref s.heap.objs.size])).push (tpO [.none])).objs.size)))) { s with heap := zp1 s.heap l1 }) :=
  .of_wp fun prog w A R s h => by
    obtain ⟨hp, g, d, tk, os⟩ := s
    obtain ⟨hl1, h⟩ := h
    have hsub := sub_zip
    have hL1 : Heap.IsTuple (Shared.heap ⟨hp, g, d, tk, os⟩) l1 xs := hl1
    wp_walk using wpAny_pyIter_tuple hL1
    exact ⟨_, rfl, h⟩
abbrev zq1 (h : Heap) (a : Addr) : Heap := h.push (itO a)
abbrev zq2 (h : Heap) (a b : Addr) : Heap := (zq1 h a).push (itO b)
abbrev zq3 (h : Heap) (a b c : Addr) : Heap := (zq2 h a b).push (itO c)
abbrev zq4 (h : Heap) (a b c : Addr) : Heap := (zq3 h a b c).push (tpO [.ref h.objs.size, .ref (zq1 h a).objs.size, .ref (zq2 h a b).objs.size])
abbrev zq5 (h : Heap) (a b c : Addr) : Heap := (zq4 h a b c).push (tpO [.none, .none, .none])
abbrev zq6 (h : Heap) (a b c : Addr) : Heap := (zq5 h a b c).push (zpO (zq3 h a b c).objs.size (zq4 h a b c).objs.size)
theorem meets_zip3 (a b c : Addr) (xs ys zs : Array Value) :
    Meets (Builtin.«zip.__new__» ⟨[.type "zip", .ref a, .ref b, .ref c], []⟩) (fun _ R s => s.heap.IsTuple a xs ∧ s.heap.IsTuple b ys ∧ s.heap.IsTuple c zs ∧ R (.ok (.ret (.ref (zq5 s.heap a b c).objs.size))) { s with heap := zq6 s.heap a b c }) :=
  .of_wp fun prog w A R s h => by
    obtain ⟨hp, g, d, tk, os⟩ := s
    obtain ⟨hl1, hl2, hl3, h⟩ := h
    have hsub := sub_zip
    have hL1 : Heap.IsTuple (Shared.heap ⟨hp, g, d, tk, os⟩) a xs := hl1
    have hL2 : Heap.IsTuple (Shared.heap ⟨hp.push (itO a), g, d, tk, os⟩) b ys := Heap.IsTuple.push hl2 _
    have hL3 : Heap.IsTuple (Shared.heap ⟨(hp.push (itO a)).push (itO b), g, d, tk, os⟩) c zs := (Heap.IsTuple.push hl3 _).push _
    wp_walk using wpAny_pyIter_tuple hL1, wpAny_pyIter_tuple hL2, wpAny_pyIter_tuple hL3
    exact ⟨_, rfl, h⟩
end Oz

end

section
set_option maxHeartbeats 4000000
namespace Oz
open PySem PySem.Spec PyProof.Rows L2
theorem ad_ne {N i j : Nat} (h : i ≠ j) : ¬ (@Eq Addr (N + i) (N + j)) := fun e => h (Nat.add_left_cancel (show N + i = N + j from e))
theorem ad_lt {N i : Nat} {l : Addr} (h : l < N) : ¬ (@Eq Addr l (N + i)) := fun e => Nat.lt_irrefl l (Nat.lt_of_lt_of_le h (by rw [show l = N + i from e]; exact Nat.le_add_right _ _))
section
variable {prog : Program} {w : World} {A : Around} {E : Value → Shared → Prop} {s : Shared}
theorem call_zipN {ls : List Addr} {Q : Value → Shared → Prop} (hn : ls.length = 1 ∨ ls.length = 3) (ht : ∀ l ∈ ls, ∃ xs, s.heap.IsTuple l xs)
    (h : ∀ h' z TI TO its, ZpAt h' z TI TO .none (.bool false) → TsAt h' TI (its.map Value.ref) → (∃ vs, TsAt h' TO vs ∧ vs.length = its.length) → ItsAt h' its ls 0 0 → (∀ c ∈ z :: TI :: TO :: its, s.heap.objs.size ≤ c) → ZpApart z TI TO its ls →
      (∀ c o, s.heap.get? c = some o → h'.get? c = some o) → Q (.ref z) { s with heap := h' }) : wpAny (model prog w) A (call (.type "zip") (ls.map Value.ref)) Q E s := by
  have lt : ∀ l ∈ ls, l < s.heap.objs.size := fun l hl => by
    obtain ⟨xs, o, ho, _⟩ := ht l hl
    exact Heap.lt_size ho
  rcases hn with hn | hn
  · obtain ⟨a, rfl⟩ : ∃ a, ls = [a] := by
      match ls, hn with
      | [a], _ => exact ⟨a, rfl⟩
    obtain ⟨xs, hx⟩ := ht a List.mem_cons_self
    have la := lt a List.mem_cons_self
    refine callType_new F.called_zip (by decide) (typeCall_zip_1 _) (newCall_zip_1 _) (fun obj => args_object_init_2 obj _) F.entry_zip_new (meets_zip1 a xs) ⟨hx, ?_⟩
    generalize hN : s.heap.objs.size = N at *
    have z1 : (s.heap.push (itO a)).objs.size = N + 1 := by rw [Heap.size_push, hN]
    have z2 : ((s.heap.push (itO a)).push (tpO [.ref N])).objs.size = N + 2 := by rw [Heap.size_push, z1]
    have z3 : (((s.heap.push (itO a)).push (tpO [.ref N])).push (tpO [.none])).objs.size = N + 3 := by rw [Heap.size_push, z2]
    have g4 : (zp1 s.heap a).get? (((s.heap.push (itO a)).push (tpO [.ref s.heap.objs.size])).push (tpO [.none])).objs.size = some _ := Heap.get?_push_size _ rfl
    have g3 : (zp1 s.heap a).get? ((s.heap.push (itO a)).push (tpO [.ref s.heap.objs.size])).objs.size = some _ := Heap.get?_push_of_some _ (Heap.get?_push_size _ rfl)
    have g2 : (zp1 s.heap a).get? (s.heap.push (itO a)).objs.size = some _ := Heap.get?_push_of_some _ (Heap.get?_push_of_some _ (Heap.get?_push_size _ rfl))
    have g1 : (zp1 s.heap a).get? s.heap.objs.size = some _ := Heap.get?_push_of_some _ (Heap.get?_push_of_some _ (Heap.get?_push_of_some _ (Heap.get?_push_size _ rfl)))
    have kp : ∀ c o, s.heap.get? c = some o → (zp1 s.heap a).get? c = some o := fun c o e => Heap.get?_push_of_some _ (Heap.get?_push_of_some _ (Heap.get?_push_of_some _ (Heap.get?_push_of_some _ e)))
    rw [hN] at g1 g2 g3 g4
    rw [z3, z1, z2] at g4
    rw [z2] at g3
    rw [z1] at g2
    rw [z3]
    refine ⟨⟨_, g4, rfl⟩, h _ (N + 3) (N + 1) (N + 2) [N] g4 g2 ⟨[.none], g3, rfl⟩ ?_ ?_ ⟨?_, ?_, ?_, ?_, ?_, ?_, rfl⟩ kp⟩
    · intro j i l e1 e2
      have hj : j = 0 := by
        have := (List.getElem?_eq_some_iff.mp e1).1
        simp at this
        exact this
      subst hj
      cases e1
      cases e2
      exact ⟨_, g1, rfl, rfl⟩
    · intro c hc
      simp only [List.mem_cons, List.not_mem_nil, or_false] at hc
      rcases hc with rfl | hc
      · exact Nat.le_add_right _ _
      · rcases hc with rfl | rfl | rfl <;> first | exact Nat.le_add_right _ _ | exact Nat.le_refl _
    · exact ad_ne (by decide)
    · exact ad_ne (by decide)
    · exact ad_ne (by decide)
    · intro i hi
      rcases List.mem_cons.mp hi with rfl | hi
      · exact ⟨ad_ne (i := 0) (by decide), ad_ne (i := 0) (by decide), ad_ne (i := 0) (by decide)⟩
      · cases hi
    · exact List.nodup_cons.mpr ⟨List.not_mem_nil, List.nodup_nil⟩
    · intro l hl
      rcases List.mem_cons.mp hl with rfl | hl
      · exact ⟨ad_lt la, ad_lt la, fun i hi => by
          rcases List.mem_cons.mp hi with rfl | hi
          · exact ad_lt (i := 0) la
          · cases hi⟩
      · cases hl
  · obtain ⟨a, b, c, rfl⟩ : ∃ a b c, ls = [a, b, c] := by
      match ls, hn with
      | [a, b, c], _ => exact ⟨a, b, c, rfl⟩
    obtain ⟨xs, hx⟩ := ht a (by simp)
    obtain ⟨ys, hy⟩ := ht b (by simp)
    obtain ⟨zs, hz⟩ := ht c (by simp)
    have la := lt a (by simp)
    have lb := lt b (by simp)
    have lc := lt c (by simp)
    refine callType_new F.called_zip (by decide) (typeCall_zip_3 _ _ _) (newCall_zip_3 _ _ _) (fun obj => args_object_init_4 obj _ _ _) F.entry_zip_new (meets_zip3 a b c xs ys zs) ⟨hx, hy, hz, ?_⟩
    generalize hN : s.heap.objs.size = N at *
    have z1 : (zq1 s.heap a).objs.size = N + 1 := by rw [Heap.size_push, hN]
    have z2 : (zq2 s.heap a b).objs.size = N + 2 := by rw [Heap.size_push, z1]
    have z3 : (zq3 s.heap a b c).objs.size = N + 3 := by rw [Heap.size_push, z2]
    have z4 : (zq4 s.heap a b c).objs.size = N + 4 := by rw [Heap.size_push, z3]
    have z5 : (zq5 s.heap a b c).objs.size = N + 5 := by rw [Heap.size_push, z4]
    have g6 : (zq6 s.heap a b c).get? (zq5 s.heap a b c).objs.size = some _ := Heap.get?_push_size _ rfl
    have g5 : (zq6 s.heap a b c).get? (zq4 s.heap a b c).objs.size = some _ := Heap.get?_push_of_some _ (Heap.get?_push_size _ rfl)
    have g4 : (zq6 s.heap a b c).get? (zq3 s.heap a b c).objs.size = some _ := Heap.get?_push_of_some _ (Heap.get?_push_of_some _ (Heap.get?_push_size _ rfl))
    have g3 : (zq6 s.heap a b c).get? (zq2 s.heap a b).objs.size = some _ := Heap.get?_push_of_some _ (Heap.get?_push_of_some _ (Heap.get?_push_of_some _ (Heap.get?_push_size _ rfl)))
    have g2 : (zq6 s.heap a b c).get? (zq1 s.heap a).objs.size = some _ := Heap.get?_push_of_some _ (Heap.get?_push_of_some _ (Heap.get?_push_of_some _ (Heap.get?_push_of_some _ (Heap.get?_push_size _ rfl))))
    have g1 : (zq6 s.heap a b c).get? s.heap.objs.size = some _ := Heap.get?_push_of_some _ (Heap.get?_push_of_some _ (Heap.get?_push_of_some _ (Heap.get?_push_of_some _ (Heap.get?_push_of_some _ (Heap.get?_push_size _ rfl)))))
    have kp : ∀ q o, s.heap.get? q = some o → (zq6 s.heap a b c).get? q = some o := fun q o e => Heap.get?_push_of_some _ (Heap.get?_push_of_some _ (Heap.get?_push_of_some _ (Heap.get?_push_of_some _ (Heap.get?_push_of_some _ (Heap.get?_push_of_some _ e)))))
    rw [hN] at g1
    rw [z1] at g2
    rw [z2] at g3
    rw [hN, z1, z2, z3] at g4
    rw [z4] at g5
    rw [z3, z4, z5] at g6
    rw [z5]
    refine ⟨⟨_, g6, rfl⟩, h _ (N + 5) (N + 3) (N + 4) [N, N + 1, N + 2] g6 g4 ⟨[.none, .none, .none], g5, rfl⟩ ?_ ?_ ⟨?_, ?_, ?_, ?_, ?_, ?_, rfl⟩ kp⟩
    · intro j i l e1 e2
      have hj : j = 0 ∨ j = 1 ∨ j = 2 := by
        have := (List.getElem?_eq_some_iff.mp e1).1
        simp at this
        omega
      rcases hj with rfl | rfl | rfl
      · cases e1; cases e2; exact ⟨_, g1, rfl, rfl⟩
      · cases e1; cases e2; exact ⟨_, g2, rfl, rfl⟩
      · cases e1; cases e2; exact ⟨_, g3, rfl, rfl⟩
    · intro c hc
      simp only [List.mem_cons, List.not_mem_nil, or_false] at hc
      rcases hc with rfl | hc
      · exact Nat.le_add_right _ _
      · rcases hc with rfl | rfl | rfl | rfl | rfl <;> first | exact Nat.le_add_right _ _ | exact Nat.le_refl _
    · exact ad_ne (by decide)
    · exact ad_ne (by decide)
    · exact ad_ne (by decide)
    · intro i hi
      simp only [List.mem_cons, List.not_mem_nil, or_false] at hi
      rcases hi with rfl | rfl | rfl
      · exact ⟨ad_ne (i := 0) (by decide), ad_ne (i := 0) (by decide), ad_ne (i := 0) (by decide)⟩
      · exact ⟨ad_ne (by decide), ad_ne (by decide), ad_ne (by decide)⟩
      · exact ⟨ad_ne (by decide), ad_ne (by decide), ad_ne (by decide)⟩
    · refine List.nodup_cons.mpr ⟨fun h => ?_, List.nodup_cons.mpr ⟨fun h => ?_, List.nodup_cons.mpr ⟨List.not_mem_nil, List.nodup_nil⟩⟩⟩
      · simp only [List.mem_cons, List.not_mem_nil, or_false] at h
        rcases h with h | h
        · exact ad_ne (i := 0) (j := 1) (by decide) h
        · exact ad_ne (i := 0) (j := 2) (by decide) h
      · simp only [List.mem_cons, List.not_mem_nil, or_false] at h
        exact ad_ne (i := 1) (j := 2) (by decide) h
    · intro l hl
      have hlt : l < N := by
        simp only [List.mem_cons, List.not_mem_nil, or_false] at hl
        rcases hl with rfl | rfl | rfl <;> assumption
      refine ⟨ad_lt hlt, ad_lt hlt, fun i hi => ?_⟩
      simp only [List.mem_cons, List.not_mem_nil, or_false] at hi
      rcases hi with rfl | rfl | rfl
      · exact ad_lt (i := 0) hlt
      · exact ad_lt hlt
      · exact ad_lt hlt
end
end Oz

end

section
set_option maxHeartbeats 4000000
namespace Oz
open PySem PySem.Spec PyProof.Rows L2
/-- the tuples at ls, row by row -/
def ItzN (K : PySem.W.Frag) (ls : List Addr) : It :=
  ⟨fun i H => ∃ row : List V, row.length = ls.length ∧ ∀ (j : Nat) (l : Addr) (x : V), ls[j]? = some l → row[j]? = some x → ∃ xs, SqT K H l xs ∧ xs[i]? = some x,
    fun i H v H' => ∃ (T : Addr) (row : List V), v = .ref T ∧ H T = none ∧ H' = upd H T (.tup row) ∧ row.length = ls.length ∧ ∀ (j : Nat) (l : Addr) (x : V), ls[j]? = some l → row[j]? = some x → ∀ xs, SqT K H l xs → xs[i]? = some x,
    fun i H => ∀ l, ls[0]? = some l → ∃ xs, SqT K H l xs ∧ xs.length ≤ i⟩
theorem row_vals {h : Heap} {i : Nat} : ∀ {ls : List Addr} {row : List V}, row.length = ls.length → (∀ (j : Nat) (l : Addr) (x : V), ls[j]? = some l → row[j]? = some x → ∃ items u, h.IsTuple l items ∧ items[i]? = some u ∧ RelV x u) → ∃ us, Vals row us ∧ RowAt h ls i us
  | [], row, hl, _ => by
    cases row with
    | nil => exact ⟨[], .nil, rfl, fun j l x e => by simp at e⟩
    | cons _ _ => simp at hl
  | l :: ls, row, hl, hr => by
    cases row with
    | nil => simp at hl
    | cons x row =>
      obtain ⟨items, u, h1, h2, h3⟩ := hr 0 l x rfl rfl
      obtain ⟨us, v, hlen, hus⟩ := row_vals (ls := ls) (row := row) (by simpa using hl) (fun j l x e1 e2 => hr (j + 1) l x (by simpa using e1) (by simpa using e2))
      refine ⟨u :: us, .cons h3 v, by simp [hlen], fun j l' x' e1 e2 => ?_⟩
      cases j with
      | zero =>
        cases e1
        cases e2
        exact ⟨items, h1, h2⟩
      | succ j => exact hus j l' x' (by simpa using e1) (by simpa using e2)
theorem zp_self {A : Around} {E : Value → Shared → Prop} {s : Shared} {prog : Program} {w : World} {z TI TO : Addr} {f0 f1 : Value} {Q : Value → Shared → Prop} (hz : ZpAt s.heap z TI TO f0 f1) (h : Q (.ref z) s) : wpAny (model prog w) A (pyIter (.ref z)) Q E s := by
  refine wpAny_pyIter_slot (zpType hz) F.slot_zip_iter (wpAny_call_entry F.slot_zip_iter (zpType hz) F.entry_zip_iter ?_ (F.args_zip_iter_1 _))
  show wpAny _ _ (ret (.ref z)) _ _ s
  exact wpAny_pure ⟨_, rfl, "zip", _, zpType hz, F.slot_zip_next.lookup, h⟩
def ZpSt (z TI TO : Addr) (its ls : List Addr) (i : Nat) (h : Heap) : Prop := (∃ f0 f1 vs, ZpAt h z TI TO f0 f1 ∧ (f0 = .none ∨ ∃ a t, f0 = .int a t) ∧ TsAt h TO vs ∧ vs.length = its.length) ∧ TsAt h TI (its.map Value.ref) ∧ ItsAt h its ls 0 i
theorem ZpSt.there {z TI TO : Addr} {its ls : List Addr} {i : Nat} {h : Heap} (D : ZpApart z TI TO its ls) (st : ZpSt z TI TO its ls i h) : ∀ b ∈ z :: TI :: TO :: its, ∃ o, h.get? b = some o ∧ ∀ v, o.data ≠ .cell v := by
  obtain ⟨⟨f0, f1, vs, hz, _, hTO, _⟩, hTI, hit⟩ := st
  intro b hb
  rcases List.mem_cons.mp hb with rfl | hb
  · exact ⟨_, hz, fun v q => nomatch q⟩
  rcases List.mem_cons.mp hb with rfl | hb
  · exact ⟨_, hTI, fun v q => nomatch q⟩
  rcases List.mem_cons.mp hb with rfl | hb
  · exact ⟨_, hTO, fun v q => nomatch q⟩
  · obtain ⟨j, hj, e⟩ := List.getElem_of_mem hb
    have hl : j < ls.length := by rw [D.len]; exact hj
    obtain ⟨o, e1, _, d1⟩ := hit j b ls[j] (by rw [List.getElem?_eq_getElem hj, e]) (List.getElem?_eq_getElem hl)
    exact ⟨o, e1, fun v q => by rw [d1] at q; cases q⟩
theorem turn_zipN {P : Program} {w : World} {K : PySem.W.Frag} {x : Str} {pos : Pos} {z TI TO : Addr} {its ls : List Addr} (D : ZpApart z TI TO its ls) (hn : its ≠ []) (hsz : its.length ≤ 100) :
    Turn P w K (.Name x pos) (ItzN K ls) (z :: TI :: TO :: its) z (ZpSt z TI TO its ls) where
  mem := List.mem_cons_self
  obj := fun i h st => st.there D
  keep := fun i h h' st k => by
    obtain ⟨⟨f0, f1, vs, hz, h0, hTO, hv⟩, hTI, hit⟩ := st
    exact ⟨⟨f0, f1, vs, k z (by simp) _ hz, h0, k TO (by simp) _ hTO, hv⟩, k TI (by simp) _ hTI, fun j i' l e1 e2 => (hit j i' l e1 e2).at fun o q => k i' (by simp [List.mem_of_getElem? e1]) o q⟩
  item := by
    intro X hP hw hK hc i pins s σ H E I hf st hg
    subst hP hw hK
    have there := st.there D
    obtain ⟨⟨f0, f1, vs, hz, h0, hTO, hv⟩, hTI, hit⟩ := st
    obtain ⟨row, hlen, hrow⟩ := hg
    obtain ⟨us, rv, hr⟩ := row_vals (h := s.heap) (i := i) hlen fun j l x e1 e2 => by
      obtain ⟨xs, hq, hx⟩ := hrow j l x e1 e2
      obtain ⟨its', rv, p, _⟩ := I.tuple hq
      obtain ⟨u, hu, ru⟩ := rv.get hx
      exact ⟨its'.toArray, u, p, by simpa using hu, ru⟩
    refine zipN_next D hn hsz hz h0 hTI hTO hv hit hr fun h' T hst hit' hT hle fr => ?_
    refine ⟨_, rfl, wpAny_pure ?_⟩
    have hz100 : row.length ≤ sizeLine := by rw [hlen, D.len]; exact Nat.le_trans hsz (by decide)
    have new : ObjOk X.prog X.w (upd H T (.tup row)) h' T (.tup row) := ⟨hz100, us, rv, ⟨_, hT, rfl, _, rfl⟩⟩
    have I1 : Inv X pins σ (upd H T (.tup row)) { s with heap := h' } :=
      I.turnedNew (t' := s.toks) (ch := z :: TI :: TO :: its) (fun c o hb q => fr.2 c o (fun e => hb (by simp [e])) (fun e => hb (by simp [e])) (fun e => hb (by simp [e])) q) hf hle new
    have hTI' : TsAt h' TI (its.map Value.ref) := fr.2 _ _ D.tiz D.tito (fun e => (D.it TI e).2.1 rfl) hTI
    obtain ⟨g0, g1, ws, a1, a2, a3, a4⟩ := hst
    refine ⟨.ref T, _, I1, rfl, ⟨T, row, rfl, I.hok.fresh hle, rfl, hlen, fun j l x e1 e2 xs hq => ?_⟩, ⟨⟨g0, g1, ws, a1, a2, a3, a4⟩, hTI', hit'⟩, fun b hb => ?_⟩
    · obtain ⟨xs', hq', hx'⟩ := hrow j l x e1 e2
      rw [I.tuple_inj hq hq']
      exact hx'
    · obtain ⟨o, e, _⟩ := there b hb
      rw [upd_ne (Nat.ne_of_lt (Nat.lt_of_lt_of_le (Heap.lt_size e) hle))]
      exact (hf b hb).1
  done := by
    intro X hP hw hK hc i pins s σ H E I hf st hg
    subst hP hw hK
    obtain ⟨⟨f0, f1, vs, hz, h0, hTO, hv⟩, hTI, hit⟩ := st
    refine zipN_stop (I.ok.hd hc) D hn hz h0 hTI hit (fun l hl => ?_) fun h' kp => ⟨rfl, I.turnedL (t' := s.toks) (ch := z :: TI :: TO :: its) (fun c o hb q => kp c o (fun e => hb (by simp [e])) (fun e => hb (by simp [e])) (fun e => hb (by simp [e])) q) hf⟩
    obtain ⟨xs, hq, hx⟩ := hg l hl
    obtain ⟨its', rv, p, _⟩ := I.tuple hq
    refine ⟨its'.toArray, p, ?_⟩
    have := rv.length
    rw [List.getElem?_toArray]
    exact List.getElem?_eq_none (by omega)
  self := fun A i s Q E st h => by
    obtain ⟨⟨f0, f1, vs, hz, _⟩, _⟩ := st
    exact zp_self hz h
def iZipN (K : PySem.W.Frag) (ta : TA) : TI := fun σ H R => ta σ H fun vs H1 => ∃ ls : List Addr, vs = ls.map V.ref ∧ (ls.length = 1 ∨ ls.length = 3) ∧ (∀ l ∈ ls, ∃ xs, SqT K H1 l xs) ∧ R (ItzN K ls) H1
theorem refs_vals : ∀ {ls : List Addr} {us : List Value}, Vals (ls.map V.ref) us → us = ls.map Value.ref
  | [], us, r => by cases r; rfl
  | l :: ls, us, r => by
    cases r with
    | cons a b =>
      cases a
      rw [refs_vals b]
      rfl
theorem callWith_tyS {M : Model} {A : Around} {E : Value → Shared → Prop} {s : Shared} {env : PySem.Env} {pos : Pos} {T : String} {e : Expr} {rest : List Expr} {Q : Value → Shared → Prop} (h : wpAny M A (spliced (backTo pos (starEach (e :: rest) env))) (fun vs s1 => wpAny M A (call (.type T) vs) Q E s1) E s)
    (he : starEach (e :: rest) env = (false, eval e env) :: starEach rest env) (hst : (backTo pos (starEach rest env)).any (·.1) = true) : wpAny M A (callWith pos (.type T) [] (backTo pos (starEach (e :: rest) env)) []) Q E s := by
  rw [he] at h ⊢
  refine PySem.W.ks_call (P := fun _ => True) (by show (false || (backTo pos (starEach rest env)).any (·.1)) = true; rw [hst]; rfl) (fun h _ => ⟨.machine, .inr (.inl rfl), PySem.W.Looks.of_pure rfl⟩) (PySem.Calls.evalArgs_plain (wpAny_mono h (fun a s1 h1 => ⟨trivial, h1⟩) fun _ _ q => q))
theorem pi_zipN {X : Cx} {e e2 : Expr} {ta : TA} {x : Str} {p p2 pos tpos : Pos} (hg : Gl X "zip") (hm : X.mg "zip" = none) (ha : PA X [e, .Starred e2 p2] ta)
    (hs : starEach [e, .Starred e2 p2] X.env = (false, eval e X.env) :: starEach [.Starred e2 p2] X.env := by rfl) (hst : (backTo pos (starEach [.Starred e2 p2] X.env)).any (·.1) = true := by rfl) :
    PI X (.Name x tpos) (.Call (.Name "zip" p) [e, .Starred e2 p2] [] pos) (iZipN X.K ta) := by
  refine ⟨fun pins s σ H R I h => ?_⟩
  refine Call_ (ld_blt I hg hm PyProof.Rows.boot_zip (callWith_tyS (thn (ha.run pos pins s σ H _ I h) fun us s1 ⟨vs, H1, I1, r1, q1⟩ => ?_) hs hst))
  obtain ⟨ls, rfl, hn, hq, q⟩ := q1
  rw [refs_vals r1]
  have hl3 : ls.length ≤ 3 := by omega
  refine call_zipN hn (fun l hl => ?_) fun h' z TI TO its hz hTI hTO hit hge D kp => ?_
  · obtain ⟨xs, h1⟩ := hq l hl
    obtain ⟨its', rv, p, _⟩ := I1.tuple h1
    exact ⟨its'.toArray, p⟩
  · have I2 : Inv X pins σ H1 { s1 with heap := h' } := I1.kept (t' := s1.toks) kp
    have hne : its ≠ [] := fun e => by
      have := D.len
      rw [e] at this
      simp at this
      rw [this] at hn
      simp at hn
    obtain ⟨vs, hTO, hv⟩ := hTO
    refine zp_self hz ⟨z, z :: TI :: TO :: its, _, _, H1, rfl, I2, turn_zipN D hne (by rw [← D.len]; omega), ⟨⟨_, _, vs, hz, .inl rfl, hTO, hv⟩, hTI, hit⟩, fun b hb => ?_, q⟩
    have := I1.fpOk (hge b hb) (I1.hok.fresh (hge b hb))
    exact this
end Oz

end

section
set_option maxHeartbeats 4000000
namespace Oz
open PySem PySem.Spec PyProof.Rows L2
/-! ### a tuple turned round -/
section
variable {prog : Program} {w : World} {A : Around} {E : Value → Shared → Prop} {s : Shared}
theorem adj_rev (n : Nat) : Builtin.Slice.sliceAdjust none none (-1) (n : Int) = ((n : Int) - 1, -1) := rfl
theorem places_rev (n : Nat) : Builtin.Slice.slicePlaces ((n : Int) - 1) (-1) (-1) = n := by
  unfold Builtin.Slice.slicePlaces
  rw [if_neg (by decide)]
  by_cases h : (n : Int) - 1 > -1
  · rw [if_pos h]
    have e : ((n : Int) - 1 - -1 - 1) / (- -1) + 1 = (n : Int) := by
      rw [show (- -1 : Int) = 1 by decide, Int.ediv_one]
      omega
    rw [e]
    simp
  · rw [if_neg h]
    have : n = 0 := by omega
    subst this
    rfl
theorem fm_congr {α β : Type} {f g : α → Option β} : ∀ {l : List α}, (∀ x ∈ l, f x = g x) → l.filterMap f = l.filterMap g
  | [], _ => rfl
  | x :: l, h => by
    rw [List.filterMap_cons, List.filterMap_cons, h x List.mem_cons_self, fm_congr fun y hy => h y (List.mem_cons_of_mem _ hy)]
theorem pick_rev (xs : Array Value) : ((List.range xs.size).filterMap fun (m : Nat) => xs[((xs.size : Int) - 1 + (m : Int) * (-1)).toNat]?).toArray = xs.toList.reverse.toArray := by
  have e : ((List.range xs.size).filterMap fun (m : Nat) => xs[((xs.size : Int) - 1 + (m : Int) * (-1)).toNat]?) = ((List.range xs.size).map fun k => xs.size - 1 - k).filterMap (xs[·]?) := by
    rw [List.filterMap_map]
    refine fm_congr fun m hm => ?_
    have := List.mem_range.mp hm
    have e : ((xs.size : Int) - 1 + (m : Int) * (-1)).toNat = xs.size - 1 - m := by omega
    simp only [Function.comp, e]
  rw [e, PySem.W.krv_range, List.filterMap_reverse, PySem.W.krv_all]
theorem getItem_tup_rev {t sl : Addr} {items : Array Value} {vl vu vk : Value} {Q : Value → Shared → Prop} (ht : IsTup s.heap t items) (hs : s.heap.IsSliceOf sl vl vu vk) (pl : IsPart vl none) (pu : IsPart vu none) (pk : IsPart vk (some (-1)))
    (h : Q (.ref s.heap.objs.size) { s with heap := s.heap.push { cls := .type "tuple", data := .seq items.toList.reverse.toArray } }) (hsz : items.size ≤ sizeLine) : wpAny (model prog w) A (getItem (.ref t) (.ref sl)) Q E s := by
  have ok : sizeOk (.seq items.toList.reverse.toArray) := by
    show items.toList.reverse.toArray.size ≤ sizeLine
    rw [List.size_toArray, List.length_reverse, Array.length_toList]
    exact hsz
  obtain ⟨os, hos, hcs, hds⟩ := id hs
  have hTs : s.TypeIs (.ref sl) "slice" := ⟨os, hos, hcs⟩
  unfold getItem
  try with_reducible refine wpAny_holding ?_
  first | refine wpAny_bind (wpAny_pure ?_) | skip
  refine wpAny_bind (wpAny_sequenceKey ht.typeIs (by decide) ?_)
  refine wpAny_bind (wpAny_callSpecial?_slot (name := Str.ofString "__getitem__") ht.typeIs PyProof.Rows.slot_tuple_getitem
    (wpAny_call_entry PyProof.Rows.slot_tuple_getitem ht.typeIs entry_tuple_getitem ?_ (args_tuple_getitem _ _)))
  show wpAny _ _ (Builtin.Tuple.tupleItemsOf (.ref t) >>= _) _ _ s
  refine wpAny_bind (PyProof.Rows.tupleItemsOf_ ht ?_)
  refine wpAny_bind (wpAny_typeOf hTs ?_)
  rw [if_pos (by decide)]
  refine wpAny_bind ?_
  unfold Builtin.Slice.sliceApplied Builtin.Slice.sliceFields
  refine wpAny_bind (wpAny_bind (wpAny_field hos hds (x := vl) rfl (wpAny_bind (wpAny_field hos hds (x := vu) rfl (wpAny_bind (wpAny_field hos hds (x := vk) rfl (wpAny_pure ?_)))))))
  refine wpAny_bind (HT.slicePart_ pk ?_)
  show wpAny _ _ (if ((-1 : Int) == 0) = true then _ else _) _ _ s
  rw [if_neg (by decide)]
  refine wpAny_bind (HT.slicePart_ pl (wpAny_bind (HT.slicePart_ pu (wpAny_bind (wpAny_pure ?_)))))
  show wpAny _ _ (match Builtin.Slice.sliceAdjust none none (-1) (items.size : Int) with | (lo, hi) => pure (lo, (-1 : Int), Builtin.Slice.slicePlaces lo hi (-1))) _ _ s
  rw [adj_rev]
  show wpAny _ _ (pure (((items.size : Int) - 1), (-1 : Int), Builtin.Slice.slicePlaces ((items.size : Int) - 1) (-1) (-1))) _ _ s
  rw [places_rev]
  refine wpAny_pure ?_
  show wpAny _ _ (if ((((items.size : Int) - 1) == 0 && (-1 : Int) == 1 && items.size == items.size) = true) then _ else _) _ _ s
  rw [if_neg (by rw [show ((-1 : Int) == 1) = false from rfl, Bool.and_false, Bool.false_and]; exact Bool.false_ne_true), pick_rev]
  first
    | exact wpAny_bind (m := Builtin.Tuple.tupleExact _) (wpAny_newObj_type (wpAny_pure ⟨_, rfl, wpAny_pure h⟩) ok)
    | exact wpAny_bind (m := Builtin.Tuple.tupleExact _) (wpAny_newObj_type (wpAny_bind (wpAny_pure (wpAny_pure ⟨_, rfl, wpAny_pure h⟩))) ok)
    | exact wpAny_bind (wpAny_bind (m := Builtin.Tuple.tupleExact _) (wpAny_newObj_type (wpAny_pure (wpAny_pure ⟨_, rfl, wpAny_pure h⟩)) ok))
    | exact wpAny_bind (wpAny_bind (m := Builtin.Tuple.tupleExact _) (wpAny_newObj_type (wpAny_pure ⟨_, rfl, wpAny_pure h⟩) ok))
end
section
variable {X : Cx} {p : Pg} {nm : Names} {ad : Str → Addr} {d : Nat} {W : XK} {Φ : Cal} {pos : Pos}
def tRevT (K : PySem.W.Frag) (te : TE) : TE := fun σ H Q => te σ H fun x H1 => ∃ a xs, x = .ref a ∧ SqT K H1 a xs ∧ ∀ p, H1 p = none → Q (.ref p) (upd H1 p (.tup xs.reverse))
theorem pe_revT {e : Expr} {te : TE} {k : Nat} {p1 p2 p3 : Pos} (he : PE X e te) : PE X (.Subscript e (.Slice none none (some (.UnaryOp .USub (.Constant (.int 1) k p1) p2)) p3) pos) (tRevT X.K te) := by
  constructor
  intro pins s σ H Q I h
  refine Subscript_ (thn (he.run pins s σ H _ I h) fun v sa hv => ?_)
  obtain ⟨x, Ha, Ia, ra, a, xs, rfl, hx, q⟩ := hv
  cases ra
  have step : PO X (some (.UnaryOp .USub (.Constant (.int 1) k p1) p2)) (tPart (tUn (rU fun i => .int (-i)) (tC (.int 1)))) := po_some (pe_un un_neg pe_int)
  refine wpAny_Slice (thn (po_none.run pins sa σ Ha (fun o H2 => o = none ∧ H2 = Ha) Ia ⟨rfl, rfl⟩) fun vl sb hb => ?_)
  obtain ⟨l, Hb, Ib, pl, rfl, rfl⟩ := hb
  refine thn (po_none.run pins sb σ Hb (fun o H3 => o = none ∧ H3 = Hb) Ib ⟨rfl, rfl⟩) fun vu sc hc => ?_
  obtain ⟨u, Hc, Ic, pu, rfl, rfl⟩ := hc
  refine thn (step.run pins sc σ Hc (fun o H4 => o = some (-1) ∧ H4 = Hc) Ic ⟨1, rfl, -1, rfl, rfl, rfl⟩) fun vk sd hd => ?_
  obtain ⟨o, Hd, Id, pk, rfl, rfl⟩ := hd
  have Ie : Inv X pins σ Hd { sd with heap := sd.heap.push { cls := .type "slice", data := .fields #[vl, vu, vk] } } := Id.kept (t' := sd.toks) fun b ob q => Heap.get?_push_of_some _ q
  obtain ⟨its, r, ht, hz⟩ := Ie.tuple hx
  have hlen := r.length
  show wpAny (model X.prog X.w) X.A (subscriptTail e (.Slice none none (some (.UnaryOp .USub (.Constant (.int 1) k p1) p2)) p3) (.ref a) (.ref sd.heap.objs.size)) (EP X pins σ Q) X.xe { sd with heap := sd.heap.push { cls := .type "slice", data := .fields #[vl, vu, vk] } }
  refine tail_any (ops := [.ref a, .ref sd.heap.objs.size]) ht.typeIs PyProof.Rows.slot_tuple_getitem.lookup ?_ (by with_unfolding_all rfl)
  refine getItem_tup_rev ht (Heap.IsSliceOf.new _ vl vu vk) pl pu pk ?_ (by rw [List.size_toArray]; omega)
  refine ⟨.ref _, _, Ie.laid (t' := sd.toks) (o := .tup xs.reverse) (fun b ob q => Heap.get?_push_of_some _ q) (Nat.le_refl _) ?_, rfl, q _ (Ie.hok.fresh (Nat.le_refl _))⟩
  exact ⟨by rw [List.length_reverse]; exact hz, _, by simpa using r.reverse, IsTup.new _ _⟩
theorem RelUs.reverse {K : PySem.W.Frag} {ρ : List Addr} {H : Hp} : ∀ {us : List U} {vs : List V}, RelUs K ρ H us vs → RelUs K ρ H us.reverse vs.reverse
  | [], vs, h => by simp only [RelUs] at h; subst h; simp [RelUs]
  | u :: us, vs, h => by
    simp only [RelUs] at h
    obtain ⟨v, vs', rfl, h1, h2⟩ := h
    rw [List.reverse_cons, List.reverse_cons]
    exact RelUs.append (RelUs.reverse h2) (RelUs.cons h1 RelUs.nil)
/-- x[::-1] of a tuple -/
theorem s_revT {a : Expr} {ta : E} {k : Nat} {p1 p2 p3 : Pos} (ha : PE X a (tE X Φ W ta)) : PE X (.Subscript a (.Slice none none (some (.UnaryOp .USub (.Constant (.int 1) k p1) p2)) p3) pos) (tE X Φ W (.rev ta)) :=
  PEw (pe_revT ha) fun σ H Q ⟨ρ, S, env, w, eo, h⟩ => by
    rw [ev] at h
    refine ⟨ρ, S, env, w, eo, (Post.bind h).imp fun x H1 ⟨ρ1, S1, u, e1, w1, r1, h1⟩ => ?_⟩
    unfold revU at h1
    split at h1
    · obtain ⟨q, vs, rfl, hq, hr⟩ := r1.tup
      refine ⟨q, vs, rfl, hq, fun p hp => h1.tup w1 hr.reverse hp⟩
    · exact h1.elim
end
end Oz

end

section
set_option maxHeartbeats 4000000
namespace Oz
open PySem PySem.Spec PyProof.Rows L2
theorem tups_rel {K : PySem.W.Frag} {ρ : List Addr} {H : Hp} : ∀ {us : List U} {cols : List (List U)} {vs : List V}, tupsU us = some cols → RelUs K ρ H us vs → ∃ ls : List Addr, vs = ls.map V.ref ∧ ls.length = cols.length ∧ ∀ (j : Nat) (l : Addr) (c : List U), ls[j]? = some l → cols[j]? = some c → ∃ ws, SqT K H l ws ∧ RelUs K ρ H c ws
  | [], cols, vs, e, r => by
    simp only [RelUs] at r
    simp only [tupsU, Option.some.injEq] at e
    subst e r
    exact ⟨[], rfl, rfl, fun j l c h => by simp at h⟩
  | u :: us, cols, vs, e, r => by
    simp only [RelUs] at r
    obtain ⟨v, vs', rfl, r1, r2⟩ := r
    cases u <;> simp only [tupsU, reduceCtorEq] at e
    rename_i xs
    rw [Option.map_eq_some_iff] at e
    obtain ⟨cs, e1, rfl⟩ := e
    obtain ⟨ls, rfl, hl, hr⟩ := tups_rel e1 r2
    obtain ⟨a, ws, rfl, hq, hw⟩ := r1.tup
    refine ⟨a :: ls, rfl, by simp [hl], fun j l c h1 h2 => ?_⟩
    cases j with
    | zero =>
      cases h1
      cases h2
      exact ⟨ws, hq, hw⟩
    | succ j => exact hr j l c (by simpa using h1) (by simpa using h2)
theorem relUs_at {K : PySem.W.Frag} {ρ : List Addr} {H : Hp} : ∀ {us : List U} {vs : List V}, vs.length = us.length → (∀ (j : Nat) (u : U) (v : V), us[j]? = some u → vs[j]? = some v → RelU K ρ H u v) → RelUs K ρ H us vs
  | [], vs, hl, _ => by
    cases vs with
    | nil => exact RelUs.nil
    | cons _ _ => simp at hl
  | u :: us, vs, hl, h => by
    cases vs with
    | nil => simp at hl
    | cons v vs => exact RelUs.cons (h 0 u v rfl rfl) (relUs_at (by simpa using hl) fun j u' v' e1 e2 => h (j + 1) u' v' (by simpa using e1) (by simpa using e2))
theorem goes_zipN {K : PySem.W.Frag} {mg : Str → Option Value} {us all : List U} {vs : List V} {ρ0 : List Addr} {H0 : Hp} (hz : zipNU us = some all) (r : RelUs K ρ0 H0 us vs) :
    ∃ ls : List Addr, vs = ls.map V.ref ∧ (ls.length = 1 ∨ ls.length = 3) ∧ (∀ l ∈ ls, ∃ xs, SqT K H0 l xs) ∧ Goes' K mg (ItzN K ls) all (fun _ => true) ρ0 H0 := by
  unfold zipNU at hz
  split at hz
  · rename_i xs cols ht
    split at hz
    · rename_i hc
      obtain ⟨hcl, hca⟩ := hc
      cases hz
      obtain ⟨ls, rfl, hl, hr⟩ := tups_rel ht r
      have hcols : ∀ c ∈ xs :: cols, c.length = xs.length := fun c hcm => by
        rcases List.mem_cons.mp hcm with rfl | hcm
        · rfl
        · have := List.all_eq_true.mp hca c hcm
          simpa using this
      have look : ∀ (j : Nat) (l : Addr), ls[j]? = some l → ∃ c ws, (xs :: cols)[j]? = some c ∧ SqT K H0 l ws ∧ RelUs K ρ0 H0 c ws ∧ c.length = xs.length := fun j l e => by
        have hj : j < (xs :: cols).length := by rw [← hl]; exact (List.getElem?_eq_some_iff.mp e).1
        obtain ⟨ws, h1, h2⟩ := hr j l (xs :: cols)[j] e (List.getElem?_eq_getElem hj)
        exact ⟨_, ws, List.getElem?_eq_getElem hj, h1, h2, hcols _ (List.getElem_mem hj)⟩
      refine ⟨ls, rfl, by rw [hl, List.length_cons]; omega, fun l hlm => ?_, ?_⟩
      · obtain ⟨j, hj, e⟩ := List.getElem_of_mem hlm
        obtain ⟨c, ws, _, h1, _⟩ := look j l (by rw [List.getElem?_eq_getElem hj, e])
        exact ⟨ws, h1⟩
      · intro ρ S H i e w _
        rw [List.length_map, List.length_range]
        constructor
        · intro hi
          -- the row
          have rowE : ∃ row : List V, row.length = ls.length ∧ ∀ (j : Nat) (l : Addr) (x : V), ls[j]? = some l → row[j]? = some x → ∃ ws, SqT K H0 l ws ∧ ws[i]? = some x := by
            have gen : ∀ ms : List Addr, (∀ l ∈ ms, ∃ ws x, SqT K H0 l ws ∧ ws[i]? = some x) → ∃ row : List V, row.length = ms.length ∧ ∀ (j : Nat) (l : Addr) (x : V), ms[j]? = some l → row[j]? = some x → ∃ ws, SqT K H0 l ws ∧ ws[i]? = some x := by
              intro ms
              induction ms with
              | nil => exact fun _ => ⟨[], rfl, fun j l x h => by simp at h⟩
              | cons m ms ih =>
                intro h
                obtain ⟨row, h1, h2⟩ := ih fun l hl => h l (List.mem_cons_of_mem _ hl)
                obtain ⟨ws, x, h3, h4⟩ := h m List.mem_cons_self
                refine ⟨x :: row, by simp [h1], fun j l y e1 e2 => ?_⟩
                cases j with
                | zero =>
                  cases e1
                  cases e2
                  exact ⟨ws, h3, h4⟩
                | succ j => exact h2 j l y (by simpa using e1) (by simpa using e2)
            refine gen ls fun l hlm => ?_
            obtain ⟨j, hj, e⟩ := List.getElem_of_mem hlm
            obtain ⟨c, ws, _, h1, h2, h3⟩ := look j l (by rw [List.getElem?_eq_getElem hj, e])
            have hw : i < ws.length := by rw [h2.length, h3]; exact hi
            exact ⟨ws, ws[i], h1, List.getElem?_eq_getElem hw⟩
          obtain ⟨row, hrl, hrow⟩ := rowE
          refine ⟨⟨row, hrl, fun j l x e1 e2 => ?_⟩, fun x H' y => ?_⟩
          · obtain ⟨ws, h1, h2⟩ := hrow j l x e1 e2
            exact ⟨ws, e.sqt K h1, h2⟩
          · obtain ⟨T, row', rfl, hT, rfl, hrl', hy⟩ := y
            refine ⟨upd_grow hT, .tup ((xs :: cols).map fun c => c.getD i .non), ?_, ?_⟩
            · rw [List.getElem?_map, List.getElem?_range hi]
              rfl
            · have e2 : Ext ρ0 H0 ρ (upd H T (.tup row')) := e.trans (Ext.grow (upd_grow hT))
              simp only [RelU]
              refine ⟨T, row', rfl, .of upd_same, relUs_at (by rw [hrl', hl, List.length_map]) fun j u v h1 h2 => ?_⟩
              have hj : j < ls.length := by rw [← hrl']; exact (List.getElem?_eq_some_iff.mp h2).1
              obtain ⟨c, ws, hc1, hc2, hc3, hc4⟩ := look j ls[j] (List.getElem?_eq_getElem hj)
              have hv := hy j _ v (List.getElem?_eq_getElem hj) h2 ws (e.sqt K hc2)
              rw [List.getElem?_map, hc1] at h1
              simp only [Option.map_some, Option.some.injEq] at h1
              have hic : i < c.length := by rw [hc4]; exact hi
              have hu : c[i]? = some u := by
                rw [← h1, List.getD_eq_getElem?_getD, List.getElem?_eq_getElem hic]
                rfl
              obtain ⟨v', hv', rr⟩ := (hc3.mono e2).get hu
              rw [hv] at hv'
              cases hv'
              exact rr
        · intro hi l hl0
          obtain ⟨c, ws, _, h1, h2, h3⟩ := look 0 l hl0
          exact ⟨ws, e.sqt K h1, by rw [h2.length, h3]; exact hi⟩
    · cases hz
  · cases hz
section
variable {X : Cx} {p : Pg} {nm : Names} {ad : Str → Addr} {d : Nat} {W : XK} {Φ : Cal} {te : E}
theorem lczn_read {i : Nat} {tes : Es} {σ : L2.St} {H : Hp} {Q : VK} (h : tE X Φ W (.lczn i te tes) σ H Q) : tLc (iZipN X.K (tEs X Φ W tes)) (gOf X.K false [i]) (tTs X Φ W0 .tt) (tE X Φ W0 te) [i] σ H Q := by
  obtain ⟨ρ, S, env, w, eo, h⟩ := h
  rw [ev] at h
  refine ⟨ρ, S, env, w, eo, (Post.bind h).imp fun x H1 ⟨ρ1, S1, u, e1, w1, r1, h1⟩ => ?_⟩
  split at h1
  · rename_i all hz
    obtain ⟨ls, rfl, hn, hq, hg⟩ := goes_zipN (mg := X.mg) hz r1
    refine ⟨ls, rfl, hn, hq, fun D hD => lc_turnsJ (W := W) w1 (eo.mono e1) hg hD ?_⟩
    have e : (fun env S => (evt Φ .tt env S).noex) = fun (_ : Env) (S : Sto) => R.ok true S := by
      funext env S
      rw [evt]
      rfl
    rw [e]
    exact h1
  · exact h1.elim
theorem s_lczn (O : Ok X p nm ad d W) (i : Nat) {y : Str} {elt e1 e2 : Expr} {scope : Scope} {pos tpos pz pc ps : Pos} {tes : Es} {x : Str} (hN : X.N.Nodup) (ha : PA X [e1, .Starred e2 ps] (tEs X Φ W tes)) (ok : BlkOk X.N X.env.scope scope [(y, i)])
    (hg : ∀ (s : Shared) (H : Hp) (C : Addr) (cl : List (Str × Addr)) (fp : List Addr), PG (X.blk s H scope (compEnvC scope cl C X.env) fp) (.Name x tpos) (gOf X.K false [i]))
    (he : ∀ (s : Shared) (H : Hp) (C : Addr) (cl : List (Str × Addr)) (fp : List Addr), PE (X.blk s H scope (compEnvC scope cl C X.env) fp) elt (tE X Φ W0 te)) (hz : Gl X "zip" := by rfl) (hm : ("zip" : Str) ∈ nm.bins := by decide +kernel)
    (hs1 : starEach [e1, .Starred e2 ps] X.env = (false, eval e1 X.env) :: starEach [.Starred e2 ps] X.env := by rfl) (hst : (backTo pc (starEach [.Starred e2 ps] X.env)).any (·.1) = true := by rfl)
    (hs : ∀ x, foldedSetIterable (.Call (.Name "zip" pz) [e1, .Starred e2 ps] [] pc) X.env x = pure x := by intro _; rfl) :
    PE X (.ListComp elt [⟨.Name x tpos, .Call (.Name "zip" pz) [e1, .Starred e2 ps] [] pc, [], 0⟩] scope pos) (tE X Φ W (.lczn i te tes)) :=
  PEw (pe_lc O.calm hN (pi_zipN hz (O.sta.bin _ hm) ha hs1 hst) ok hg (fun s H C cl fp => t_tt) he hs) fun σ H Q h => lczn_read h
end
end Oz

end

section
set_option maxHeartbeats 4000000
/-! OzB: a dict display that begins with another dict. -/
namespace Oz
open PySem PySem.Spec PyProof.Rows L2
section
variable {prog : Program} {w : World} {K : Type} [DecidableEq K] {knd : KeyKind prog w K} {A : Around} {E : Value → Shared → Prop} {s : Shared}
/-- the place that was found is the key's place -/
theorem place_of {es : Array DictEntry} {kvs : List (K × Value)} (hp : Pairs knd es.toList kvs) (k : K) : (es.findIdx? fun e => knd.is k e.key) = kvs.findIdx? fun kv => decide (kv.1 = k) := by
  have h := hp.findIdx k
  obtain ⟨l⟩ := es
  simpa using h
theorem dput_pairs {d : Addr} {kvs : List (K × Value)} {k : K} {key v : Value} {Q : Unit → Shared → Prop} (hkey : knd.is k key = true) (hm : s.heap.DictOf knd d kvs)
    (hQ : ∀ h', h'.DictOf knd d (stored kvs k v) → Heap.SameBut d s.heap h' → Q () { s with heap := h' }) (hz : kvs.length ≤ sizeLine) : wpAny (model prog w) A (dictPut d (knd.hash k) key v) Q E s := by
  obtain ⟨o, es, ep, ho, hc, hd, hk, hp, hn⟩ := hm
  have sz : es.size ≤ sizeLine := by
    have := hp.length
    rw [Array.length_toList] at this
    omega
  unfold dictPut
  refine wpAny_bind (wpAny_dictFind_of hkey ho hd hk ?_)
  have pl := place_of hp k
  rcases hf : es.findIdx? (fun e => knd.is k e.key) with _ | i
  · have out : k ∉ kvs.map (·.1) := not_mem_of_findIdx_none (pl ▸ hf)
    have no : ¬ (kvs.any fun kv => decide (kv.1 = k)) = true := fun h => by
      obtain ⟨kv, h1, h2⟩ := List.any_eq_true.mp h
      exact out (List.mem_map.mpr ⟨kv, h1, of_decide_eq_true h2⟩)
    have st : stored kvs k v = kvs ++ [(k, v)] := by unfold stored; rw [if_neg no]
    rw [hf]
    refine wpAny_updateDictKeys (f := fun q => q.push ⟨knd.hash k, key, v⟩) (hz := sz) (hf := by simp) ho hd (hQ _ ?_ (Heap.SameBut.update ..))
    rw [st]
    refine ⟨_, _, ep + 1, Heap.get?_update_self _ ho (Obj.isFreed_of_dict (Obj.data_mapDictKeys hd _)), hc.mapDictKeys _, Obj.data_mapDictKeys hd _, hk.push hkey _, ?_, ?_⟩
    · have q := hp.append hkey (knd.hash k) v
      obtain ⟨l⟩ := es
      simpa using q
    · rw [List.map_append]
      refine List.nodup_append.mpr ⟨hn, by simp, fun a ha b hb e => ?_⟩
      have : b = k := by simpa using hb
      exact out (by rw [← this, ← e]; exact ha)
  · have st : stored kvs k v = kvs.map (fun kv => if kv.1 = k then (kv.1, v) else kv) := by unfold stored; exact if_pos (any_of_findIdx_some (pl ▸ hf))
    rw [hf]
    refine wpAny_updateDict (f := fun q => q.modify i fun e => { e with val := v }) (hz := by simp) ho hd (hQ _ ?_ (Heap.SameBut.update ..))
    rw [st]
    refine ⟨_, _, ep, Heap.get?_update_self _ ho (Obj.isFreed_of_dict (Obj.data_mapDict hd _)), hc.mapDict _, Obj.data_mapDict hd _, hk.modify _ _, ?_, ?_⟩
    · have hl : (es.toList.findIdx? fun e => knd.is k e.key) = some i := by
        rw [← hf]
        obtain ⟨l⟩ := es
        simp
      have q := hp.modify hn hl v
      obtain ⟨l⟩ := es
      simpa using q
    · rw [keys_map_store]
      exact hn
end
section
variable {prog : Program} {w : World} {A : Around} {E : Value → Shared → Prop} {s : Shared}
theorem isSub_dict : isSubtype (.type "dict") (.type "dict") = pure true := isSubtype_dict_dict
theorem merge_in {d a : Addr} {kvs more : List (Key × Value)} {Q : Unit → Shared → Prop} (hda : d ≠ a) (has : (a == sysModules) = false) (hd : s.heap.DictOf (mixKind prog w) d kvs) (ha : s.heap.DictOf (mixKind prog w) a more)
    (hz : kvs.length + more.length ≤ sizeLine) (hQ : ∀ h', h'.DictOf (mixKind prog w) d (merged kvs more) → h'.DictOf (mixKind prog w) a more → Heap.SameBut d s.heap h' → Q () { s with heap := h' }) :
    wpAny (model prog w) A (mergeMapping d (.ref a) false) Q E s := by
  obtain ⟨oo, eso, epo, hoo, hco, hdo, hko, hpo, hno⟩ := id ha
  obtain ⟨od, esd, epd, hod, hcd, hdd, hkd, hpd, hnd⟩ := id hd
  have lens : more.length = eso.size := by
    have := hpo.length
    rw [Array.length_toList] at this
    exact this.symm
  have noref : ∀ e ∈ eso, ∀ r, e.key ≠ .ref r := fun e he r q => by
    obtain ⟨k, h1, _⟩ := hko e he
    rcases keyIs_shape (show keyIs k e.key = true from h1) with ⟨_, _, _, z⟩ | ⟨_, _, _, z⟩ <;> rw [z] at q <;> cases q
  unfold mergeMapping
  refine wpAny_bind (m := isInstance _ _) (wpAny_isInstance (T := "dict") (b := true) ha.typeIs isSub_dict ?_)
  simp only [if_true]
  refine wpAny_bind (wpAny_specialOf ha.typeIs PySem.F.slot_dict_iter.lookup ?_)
  refine wpAny_bind (wpAny_pure ?_)
  show wpAny _ _ (if (a == sysModules) = true then _ else _) _ _ _
  rw [if_neg (by rw [has]; exact Bool.false_ne_true)]
  refine wpAny_bind (wpAny_dictEntries hod hdd ?_)
  by_cases he : esd.isEmpty = true
  · rw [if_pos he]
    refine wpAny_bind (wpAny_dictEntries hoo hdo ?_)
    refine wpAny_bind ?_
    rw [← Array.forIn_toList]
    refine wpAny_forIn_list _ (fun rest _ s' => s = s' ∧ ∀ e ∈ rest, e ∈ eso) _ ?_ ?_ _ _ ⟨rfl, fun e h => by simpa using h⟩
    · rintro x rest b s' ⟨rfl, hin⟩
      have nr := noref x (hin x List.mem_cons_self)
      have ok : ∀ e ∈ rest, e ∈ eso := fun e h => hin e (List.mem_cons_of_mem _ h)
      cases hx : x.key with
      | ref r => exact absurd hx (nr r)
      | _ => exact wpAny_pure ⟨rfl, ok⟩
    · rintro b s' ⟨rfl, _⟩
      refine wpAny_bind (wpAny_dictEntries hoo hdo ?_)
      refine wpAny_bind (wpAny_dictEpoch hoo hdo ?_)
      refine wpAny_bind ?_
      refine wpAny_forIn_list _ (fun rest _ s' => ∃ h' j, s' = { s with heap := h' } ∧ rest = (List.range eso.size).drop j ∧ j ≤ eso.size ∧ h'.DictOf (mixKind prog w) d (merged kvs (more.take j)) ∧ h'.get? a = some oo ∧ Heap.SameBut d s.heap h') _ ?_ ?_ _ _ ⟨s.heap, 0, rfl, rfl, Nat.zero_le _, by simpa [merged] using hd, hoo, Heap.SameBut.refl _ _⟩
      · rintro x rest b s' ⟨h', j, rfl, hr, hj, hd', hoo', sb⟩
        have hlt : j < eso.size := by
          apply Decidable.byContradiction
          intro q
          rw [List.drop_eq_nil_of_le (by simp; omega)] at hr
          cases hr
        have hl2 : j < (List.range eso.size).length := by simpa using hlt
        rw [List.drop_eq_getElem_cons hl2, List.getElem_range] at hr
        cases hr
        refine wpAny_bind (wpAny_dictEntries hoo' hdo ?_)
        rw [Array.getElem?_eq_getElem hlt]
        have hm : x < more.length := by rw [lens]; exact hlt
        have hkv : more[x]? = some more[x] := List.getElem?_eq_getElem hm
        obtain ⟨hkey, hval⟩ := hpo.get? (e := eso[x]) (by simp [hlt]) hkv
        obtain ⟨k', hkey', hhash⟩ := hko eso[x] (Array.getElem_mem hlt)
        have ek : k' = more[x].1 := (mixKind prog w).inj _ _ _ hkey' hkey
        subst ek
        have room : (merged kvs (more.take x)).length ≤ sizeLine := by
          have e1 := merged_length_le kvs (more.take x)
          rw [List.length_take] at e1
          omega
        refine wpAny_bind (wpAny_holding ?_)
        rw [if_neg Bool.false_ne_true, hhash, hval]
        refine dput_pairs hkey hd' (fun h2 hd2 sb2 => ?_) room
        have hoo2 : h2.get? a = some oo := (sb2.2 a (Ne.symm hda)).trans hoo'
        refine wpAny_bind (wpAny_dictEpoch hoo2 hdo ?_)
        rw [if_neg (by simp)]
        exact wpAny_pure ⟨h2, x + 1, rfl, rfl, hlt, by rw [merged_take_succ kvs more x _ hkv]; exact hd2, hoo2, sb.trans sb2⟩
      · rintro b s' ⟨h', j, rfl, hr, hj, hd', hoo', sb⟩
        have hje : j = eso.size := by
          apply Nat.le_antisymm hj
          have := congrArg List.length hr
          simp at this
          omega
        refine wpAny_pure (hQ h' ?_ ⟨oo, eso, epo, hoo', hco, hdo, hko, hpo, hno⟩ sb)
        rw [hje, ← lens, List.take_length] at hd'
        exact hd'
  · rw [if_neg he]
    refine wpAny_bind (wpAny_dictEntries hoo hdo ?_)
    refine wpAny_bind (wpAny_dictEpoch hoo hdo ?_)
    refine wpAny_bind ?_
    refine wpAny_forIn_list _ (fun rest _ s' => ∃ h' j, s' = { s with heap := h' } ∧ rest = (List.range eso.size).drop j ∧ j ≤ eso.size ∧ h'.DictOf (mixKind prog w) d (merged kvs (more.take j)) ∧ h'.get? a = some oo ∧ Heap.SameBut d s.heap h') _ ?_ ?_ _ _ ⟨s.heap, 0, rfl, rfl, Nat.zero_le _, by simpa [merged] using hd, hoo, Heap.SameBut.refl _ _⟩
    · rintro x rest b s' ⟨h', j, rfl, hr, hj, hd', hoo', sb⟩
      have hlt : j < eso.size := by
        apply Decidable.byContradiction
        intro q
        rw [List.drop_eq_nil_of_le (by simp; omega)] at hr
        cases hr
      have hl2 : j < (List.range eso.size).length := by simpa using hlt
      rw [List.drop_eq_getElem_cons hl2, List.getElem_range] at hr
      cases hr
      refine wpAny_bind (wpAny_dictEntries hoo' hdo ?_)
      rw [Array.getElem?_eq_getElem hlt]
      have hm : x < more.length := by rw [lens]; exact hlt
      have hkv : more[x]? = some more[x] := List.getElem?_eq_getElem hm
      obtain ⟨hkey, hval⟩ := hpo.get? (e := eso[x]) (by simp [hlt]) hkv
      obtain ⟨k', hkey', hhash⟩ := hko eso[x] (Array.getElem_mem hlt)
      have ek : k' = more[x].1 := (mixKind prog w).inj _ _ _ hkey' hkey
      subst ek
      have room : (merged kvs (more.take x)).length ≤ sizeLine := by
        have e1 := merged_length_le kvs (more.take x)
        rw [List.length_take] at e1
        omega
      refine wpAny_bind (wpAny_holding ?_)
      rw [if_neg Bool.false_ne_true, hhash, hval]
      refine dput_pairs hkey hd' (fun h2 hd2 sb2 => ?_) room
      have hoo2 : h2.get? a = some oo := (sb2.2 a (Ne.symm hda)).trans hoo'
      refine wpAny_bind (wpAny_dictEpoch hoo2 hdo ?_)
      rw [if_neg (by simp)]
      exact wpAny_pure ⟨h2, x + 1, rfl, rfl, hlt, by rw [merged_take_succ kvs more x _ hkv]; exact hd2, hoo2, sb.trans sb2⟩
    · rintro b s' ⟨h', j, rfl, hr, hj, hd', hoo', sb⟩
      have hje : j = eso.size := by
        apply Nat.le_antisymm hj
        have := congrArg List.length hr
        simp at this
        omega
      refine wpAny_pure (hQ h' ?_ ⟨oo, eso, epo, hoo', hco, hdo, hko, hpo, hno⟩ sb)
      rw [hje, ← lens, List.take_length] at hd'
      exact hd'
end
end Oz

end

section
set_option maxHeartbeats 4000000
namespace Oz
open PySem PySem.Spec PyProof.Rows L2
section
variable {prog : Program} {w : World} {A : Around} {E : Value → Shared → Prop} {s : Shared}
/-- {**t0, ..}: 1 more -/
theorem disp1 {t0 k1 v1 : Sem Value} {Q : Value → Shared → Prop}
    (h : wpAny (model prog w) A t0 (fun m s1 => ∃ a more, m = .ref a ∧ (a == sysModules) = false ∧ s.heap.objs.size ≠ a ∧ s1.heap.DictOf (mixKind prog w) a more ∧ s1.heap.DictOf (mixKind prog w) s.heap.objs.size [] ∧ more.length + 15 ≤ sizeLine ∧
      ∀ h2, h2.DictOf (mixKind prog w) s.heap.objs.size (merged [] more) → Heap.SameBut s.heap.objs.size s1.heap h2 →
        wpAny (model prog w) A (evalPairs [(k1, v1)]) (fun vs s3 => ∃ kvs M, Carries (mixKind prog w) vs kvs ∧ M.length + kvs.length ≤ sizeLine ∧ s3.heap.DictOf (mixKind prog w) h2.objs.size [] ∧ s3.heap.DictOf (mixKind prog w) s.heap.objs.size M ∧ (h2.objs.size == sysModules) = false ∧ s.heap.objs.size ≠ h2.objs.size ∧
          ∀ h4 h5 t, h4.DictOf (mixKind prog w) h2.objs.size (merged [] kvs) → Heap.SameBut h2.objs.size s3.heap h4 → h5.DictOf (mixKind prog w) s.heap.objs.size (merged M (merged [] kvs)) → Heap.SameBut s.heap.objs.size h4 h5 → Q (.ref s.heap.objs.size) { s3 with heap := h5, toks := t }) E
          { s1 with heap := h2.push { cls := .type "dict", data := .dict #[] } }) E { s with heap := s.heap.push { cls := .type "dict", data := .dict #[] } }) : wpAny (model prog w) A (dictDisplay [(none, t0), (some k1, v1)]) Q E s := by
  unfold dictDisplay
  simp only [List.forIn_cons, List.forIn_nil, List.isEmpty_nil, if_true]
  refine wpAny_bind (wpAny_bind (wpAny_bind (wpAny_pure ?_)))
  refine wpAny_bind (wpAny_alloc ?_)
  refine wpAny_bind (wpAny_holding (wpAny_mono h (fun m s1 h1 => ?_) fun _ _ e => e))
  obtain ⟨a, more, rfl, has, hda, ha, hd, hz, q⟩ := h1
  refine wpAny_bind (wpAny_onRaise (wpAny_tryCatch (wpAny_onRaise (wpAny_holding (merge_in hda has hd ha (by simp only [List.length_nil]; omega) fun h2 hd2 ha2 sb2 => ?_)))))
  refine wpAny_pure ?_
  simp only [List.nil_append, List.length_singleton, List.isEmpty_cons, List.cons_append, List.length_cons, List.length_nil]
  rw [if_neg (by decide)]
  refine wpAny_bind (wpAny_pure (wpAny_pure ?_))
  simp only [List.isEmpty_cons, Bool.false_eq_true, if_false]
  refine wpAny_bind (wpAny_bind (wpAny_holding (wpAny_subDict (knd := mixKind prog w) (by simp) (wpAny_mono (q h2 hd2 sb2) (fun vs s3 h3 => ?_) fun _ _ e => e))))
  obtain ⟨kvs, M, hc, hkM, hs0, hm3, hsub, hdb, fin⟩ := h3
  refine ⟨kvs, hc, hs0, fun h4 hd4 sb4 => ?_⟩
  have hm4 : h4.DictOf (mixKind prog w) s.heap.objs.size M := by
    obtain ⟨o, es, ep, ho, r⟩ := hm3
    exact ⟨o, es, ep, (sb4.2 _ hdb).trans ho, r⟩
  have room : M.length + (merged ([] : List (Key × Value)) kvs).length ≤ sizeLine := by
    have e2 := merged_length_le ([] : List (Key × Value)) kvs
    simp only [List.length_nil] at e2
    omega
  refine wpAny_bind (wpAny_onRaise (wpAny_holding (merge_in hdb hsub hm4 hd4 room fun h5 hd5 hb5 sb5 => ?_)))
  refine wpAny_pure (wpAny_pure ?_)
  exact fin h4 h5 _ hd4 sb4 hd5 sb5
/-- {**t0, ..}: 2 more -/
theorem disp2 {t0 k1 v1 k2 v2 : Sem Value} {Q : Value → Shared → Prop}
    (h : wpAny (model prog w) A t0 (fun m s1 => ∃ a more, m = .ref a ∧ (a == sysModules) = false ∧ s.heap.objs.size ≠ a ∧ s1.heap.DictOf (mixKind prog w) a more ∧ s1.heap.DictOf (mixKind prog w) s.heap.objs.size [] ∧ more.length + 15 ≤ sizeLine ∧
      ∀ h2, h2.DictOf (mixKind prog w) s.heap.objs.size (merged [] more) → Heap.SameBut s.heap.objs.size s1.heap h2 →
        wpAny (model prog w) A (evalPairs [(k1, v1), (k2, v2)]) (fun vs s3 => ∃ kvs M, Carries (mixKind prog w) vs kvs ∧ M.length + kvs.length ≤ sizeLine ∧ s3.heap.DictOf (mixKind prog w) h2.objs.size [] ∧ s3.heap.DictOf (mixKind prog w) s.heap.objs.size M ∧ (h2.objs.size == sysModules) = false ∧ s.heap.objs.size ≠ h2.objs.size ∧
          ∀ h4 h5 t, h4.DictOf (mixKind prog w) h2.objs.size (merged [] kvs) → Heap.SameBut h2.objs.size s3.heap h4 → h5.DictOf (mixKind prog w) s.heap.objs.size (merged M (merged [] kvs)) → Heap.SameBut s.heap.objs.size h4 h5 → Q (.ref s.heap.objs.size) { s3 with heap := h5, toks := t }) E
          { s1 with heap := h2.push { cls := .type "dict", data := .dict #[] } }) E { s with heap := s.heap.push { cls := .type "dict", data := .dict #[] } }) : wpAny (model prog w) A (dictDisplay [(none, t0), (some k1, v1), (some k2, v2)]) Q E s := by
  unfold dictDisplay
  simp only [List.forIn_cons, List.forIn_nil, List.isEmpty_nil, if_true]
  refine wpAny_bind (wpAny_bind (wpAny_bind (wpAny_pure ?_)))
  refine wpAny_bind (wpAny_alloc ?_)
  refine wpAny_bind (wpAny_holding (wpAny_mono h (fun m s1 h1 => ?_) fun _ _ e => e))
  obtain ⟨a, more, rfl, has, hda, ha, hd, hz, q⟩ := h1
  refine wpAny_bind (wpAny_onRaise (wpAny_tryCatch (wpAny_onRaise (wpAny_holding (merge_in hda has hd ha (by simp only [List.length_nil]; omega) fun h2 hd2 ha2 sb2 => ?_)))))
  refine wpAny_pure ?_
  simp only [List.nil_append, List.length_singleton, List.isEmpty_cons, List.cons_append, List.length_cons, List.length_nil]
  rw [if_neg (by decide)]
  refine wpAny_bind (wpAny_pure ?_)
  dsimp only
  simp only [List.nil_append, List.length_singleton, List.isEmpty_cons, List.cons_append, List.length_cons, List.length_nil]
  rw [if_neg (by decide)]
  refine wpAny_bind (wpAny_pure (wpAny_pure ?_))
  simp only [List.isEmpty_cons, Bool.false_eq_true, if_false]
  refine wpAny_bind (wpAny_bind (wpAny_holding (wpAny_subDict (knd := mixKind prog w) (by simp) (wpAny_mono (q h2 hd2 sb2) (fun vs s3 h3 => ?_) fun _ _ e => e))))
  obtain ⟨kvs, M, hc, hkM, hs0, hm3, hsub, hdb, fin⟩ := h3
  refine ⟨kvs, hc, hs0, fun h4 hd4 sb4 => ?_⟩
  have hm4 : h4.DictOf (mixKind prog w) s.heap.objs.size M := by
    obtain ⟨o, es, ep, ho, r⟩ := hm3
    exact ⟨o, es, ep, (sb4.2 _ hdb).trans ho, r⟩
  have room : M.length + (merged ([] : List (Key × Value)) kvs).length ≤ sizeLine := by
    have e2 := merged_length_le ([] : List (Key × Value)) kvs
    simp only [List.length_nil] at e2
    omega
  refine wpAny_bind (wpAny_onRaise (wpAny_holding (merge_in hdb hsub hm4 hd4 room fun h5 hd5 hb5 sb5 => ?_)))
  refine wpAny_pure (wpAny_pure ?_)
  exact fin h4 h5 _ hd4 sb4 hd5 sb5
end
end Oz

end

section
set_option maxHeartbeats 4000000
namespace Oz
open PySem PySem.Spec PyProof.Rows L2
/-- {**e, k: v, ..}: the new dict at p, the one of the pairs at q -/
def tDm (te : TE) (trs : List (TE × TE)) : TE := fun σ H Q => ∀ p, H p = none → te σ (upd H p (.dK [])) fun x H1 => ∃ a ms, x = .ref a ∧ H1 a = some (.dK ms) ∧ p ≠ a ∧ H1 p = some (.dK []) ∧ ms.length + 15 ≤ sizeLine ∧
  ∀ q, q ≠ p → upd H1 p (.dK (mergeK [] ms)) q = none → tPairs trs σ (upd (upd H1 p (.dK (mergeK [] ms))) q (.dK [])) fun ps H2 => ∃ kvs M : List (Key × V), ps = kvs.map (fun kv => (kV kv.1, kv.2)) ∧ M.length + kvs.length ≤ sizeLine ∧
    H2 p = some (.dK M) ∧ H2 q = some (.dK []) ∧ Q (.ref p) (upd (upd H2 q (.dK (mergeK [] kvs))) p (.dK (mergeK M (mergeK [] kvs))))
section
variable {X : Cx}
theorem length_mergeK0 (kvs : List (Key × V)) : (mergeK [] kvs).length ≤ kvs.length := by
  have := length_mergeK kvs []
  simpa using this
theorem pe_dm1 {pos : Pos} {e k v : Expr} {te : TE} {trs : List (TE × TE)} (he : PE X e te) (h : PPs X pos [some k] [v] trs) : PE X (.Dict [none, some k] [e, v] pos) (tDm te trs) := by
  constructor
  intro pins s σ H Q I hq
  rw [arm_eval_Dict]
  refine wpAny_bind (wpAny_standAt ?_)
  have fresh := I.hok.fresh (Nat.le_refl s.heap.objs.size)
  have I1 := I.laid (a := s.heap.objs.size) (o := .dK []) (h' := s.heap.push { cls := .type "dict", data := .dict #[] }) (t' := s.toks) (fun _ _ q => Heap.get?_push_of_some _ q) (Nat.le_refl _) (dk_empty s.heap I.big)
  show wpAny _ _ (dictDisplay [(none, do let x ← eval e X.env; standAt pos; pure x), (some (eval k X.env), do let x ← eval v X.env; standAt pos; pure x)]) _ _ s
  refine disp1 (wpAny_bind (thn (he.run pins _ σ _ _ I1 (hq _ fresh)) fun m s1 hm => wpAny_bind (wpAny_standAt (wpAny_pure ?_))))
  obtain ⟨x, H1, I2, rx, a, ms, rfl, ha, hpa, hp0, hz, q⟩ := hm
  cases rx
  obtain ⟨za, hda, vsa, rela, dda⟩ := dk_of I2.hok ha
  obtain ⟨zp, hdp, vsp, relp, ddp⟩ := dk_of I2.hok hp0
  cases relp
  refine ⟨a, vsa, rfl, hda, hpa, dda, ddp, by rw [← rela.length]; exact hz, fun h2 hd2 sb2 => ?_⟩
  have ex2 : ∃ o, h2.get? s.heap.objs.size = some o := let ⟨o, _, _, ho, _⟩ := hd2; ⟨o, ho⟩
  have rel2 : KV (mergeK [] ms) (merged [] vsa) := rela.merge .nil
  have z2 : (mergeK [] ms).length ≤ sizeLine := Nat.le_trans (length_mergeK0 ms) za
  have I3 := d_write (t' := s1.toks) I2 (by rw [hp0]; trivial) sb2 ex2 (dk_new z2 hdp rel2 hd2)
  have fq := I3.hok.fresh (Nat.le_refl h2.objs.size)
  have hqp : h2.objs.size ≠ s.heap.objs.size := by
    obtain ⟨o, ho⟩ := ex2
    exact Nat.ne_of_gt (Heap.lt_size ho)
  have I4 := I3.laid (a := h2.objs.size) (o := .dK []) (h' := h2.push { cls := .type "dict", data := .dict #[] }) (t' := s1.toks) (fun _ _ q => Heap.get?_push_of_some _ q) (Nat.le_refl _) (dk_empty h2 I3.big)
  refine thn (h.run pins _ σ _ _ I4 (q _ hqp fq)) fun ws s3 hw => ?_
  obtain ⟨ps, H2, I5, rel, kvs, M, rfl, lk, hp2, hq2, qq⟩ := hw
  obtain ⟨rs, c, rk⟩ := carries_of (P := X.prog) (w := X.w) rel
  obtain ⟨z5, hd5, vs5, rel5, dd5⟩ := dk_of I5.hok hq2
  cases rel5
  obtain ⟨z6, hd6, vs6, rel6, dd6⟩ := dk_of I5.hok hp2
  have lens : vs6.length + rs.length ≤ sizeLine := by
    have e1 := rel6.length
    have e2 := rk.length
    omega
  refine ⟨rs, vs6, c, lens, dd5, dd6, hd5, Ne.symm hqp, fun h4 h5 t hd4 sb4 hd5' sb5 => ?_⟩
  have ex4 : ∃ o, h4.get? h2.objs.size = some o := let ⟨o, _, _, ho, _⟩ := hd4; ⟨o, ho⟩
  have ex5 : ∃ o, h5.get? s.heap.objs.size = some o := let ⟨o, _, _, ho, _⟩ := hd5'; ⟨o, ho⟩
  have rk0 : KV (mergeK [] kvs) (merged [] rs) := rk.merge .nil
  have zk : (mergeK [] kvs).length ≤ sizeLine := by
    have := length_mergeK0 kvs
    have e2 := rk.length
    omega
  have I6 := d_write (t' := s3.toks) I5 (by rw [hq2]; trivial) sb4 ex4 (dk_new zk hd5 rk0 hd4)
  have hp6 : upd H2 h2.objs.size (.dK (mergeK [] kvs)) s.heap.objs.size = some (.dK M) := by rw [upd_ne (Ne.symm hqp)]; exact hp2
  have zz : (mergeK M (mergeK [] kvs)).length ≤ sizeLine := by
    have e1 := length_mergeK (mergeK [] kvs) M
    have e2 := length_mergeK0 kvs
    omega
  have I7 := d_write (t' := t) I6 (by rw [hp6]; trivial) sb5 ex5 (dk_new zz hd6 (rk0.merge rel6) hd5')
  exact ⟨.ref s.heap.objs.size, _, I7, rfl, qq⟩
theorem pe_dm2 {pos : Pos} {e k v k2 v2 : Expr} {te : TE} {trs : List (TE × TE)} (he : PE X e te) (h : PPs X pos [some k, some k2] [v, v2] trs) : PE X (.Dict [none, some k, some k2] [e, v, v2] pos) (tDm te trs) := by
  constructor
  intro pins s σ H Q I hq
  rw [arm_eval_Dict]
  refine wpAny_bind (wpAny_standAt ?_)
  have fresh := I.hok.fresh (Nat.le_refl s.heap.objs.size)
  have I1 := I.laid (a := s.heap.objs.size) (o := .dK []) (h' := s.heap.push { cls := .type "dict", data := .dict #[] }) (t' := s.toks) (fun _ _ q => Heap.get?_push_of_some _ q) (Nat.le_refl _) (dk_empty s.heap I.big)
  show wpAny _ _ (dictDisplay [(none, do let x ← eval e X.env; standAt pos; pure x), (some (eval k X.env), do let x ← eval v X.env; standAt pos; pure x), (some (eval k2 X.env), do let x ← eval v2 X.env; standAt pos; pure x)]) _ _ s
  refine disp2 (wpAny_bind (thn (he.run pins _ σ _ _ I1 (hq _ fresh)) fun m s1 hm => wpAny_bind (wpAny_standAt (wpAny_pure ?_))))
  obtain ⟨x, H1, I2, rx, a, ms, rfl, ha, hpa, hp0, hz, q⟩ := hm
  cases rx
  obtain ⟨za, hda, vsa, rela, dda⟩ := dk_of I2.hok ha
  obtain ⟨zp, hdp, vsp, relp, ddp⟩ := dk_of I2.hok hp0
  cases relp
  refine ⟨a, vsa, rfl, hda, hpa, dda, ddp, by rw [← rela.length]; exact hz, fun h2 hd2 sb2 => ?_⟩
  have ex2 : ∃ o, h2.get? s.heap.objs.size = some o := let ⟨o, _, _, ho, _⟩ := hd2; ⟨o, ho⟩
  have rel2 : KV (mergeK [] ms) (merged [] vsa) := rela.merge .nil
  have z2 : (mergeK [] ms).length ≤ sizeLine := Nat.le_trans (length_mergeK0 ms) za
  have I3 := d_write (t' := s1.toks) I2 (by rw [hp0]; trivial) sb2 ex2 (dk_new z2 hdp rel2 hd2)
  have fq := I3.hok.fresh (Nat.le_refl h2.objs.size)
  have hqp : h2.objs.size ≠ s.heap.objs.size := by
    obtain ⟨o, ho⟩ := ex2
    exact Nat.ne_of_gt (Heap.lt_size ho)
  have I4 := I3.laid (a := h2.objs.size) (o := .dK []) (h' := h2.push { cls := .type "dict", data := .dict #[] }) (t' := s1.toks) (fun _ _ q => Heap.get?_push_of_some _ q) (Nat.le_refl _) (dk_empty h2 I3.big)
  refine thn (h.run pins _ σ _ _ I4 (q _ hqp fq)) fun ws s3 hw => ?_
  obtain ⟨ps, H2, I5, rel, kvs, M, rfl, lk, hp2, hq2, qq⟩ := hw
  obtain ⟨rs, c, rk⟩ := carries_of (P := X.prog) (w := X.w) rel
  obtain ⟨z5, hd5, vs5, rel5, dd5⟩ := dk_of I5.hok hq2
  cases rel5
  obtain ⟨z6, hd6, vs6, rel6, dd6⟩ := dk_of I5.hok hp2
  have lens : vs6.length + rs.length ≤ sizeLine := by
    have e1 := rel6.length
    have e2 := rk.length
    omega
  refine ⟨rs, vs6, c, lens, dd5, dd6, hd5, Ne.symm hqp, fun h4 h5 t hd4 sb4 hd5' sb5 => ?_⟩
  have ex4 : ∃ o, h4.get? h2.objs.size = some o := let ⟨o, _, _, ho, _⟩ := hd4; ⟨o, ho⟩
  have ex5 : ∃ o, h5.get? s.heap.objs.size = some o := let ⟨o, _, _, ho, _⟩ := hd5'; ⟨o, ho⟩
  have rk0 : KV (mergeK [] kvs) (merged [] rs) := rk.merge .nil
  have zk : (mergeK [] kvs).length ≤ sizeLine := by
    have := length_mergeK0 kvs
    have e2 := rk.length
    omega
  have I6 := d_write (t' := s3.toks) I5 (by rw [hq2]; trivial) sb4 ex4 (dk_new zk hd5 rk0 hd4)
  have hp6 : upd H2 h2.objs.size (.dK (mergeK [] kvs)) s.heap.objs.size = some (.dK M) := by rw [upd_ne (Ne.symm hqp)]; exact hp2
  have zz : (mergeK M (mergeK [] kvs)).length ≤ sizeLine := by
    have e1 := length_mergeK (mergeK [] kvs) M
    have e2 := length_mergeK0 kvs
    omega
  have I7 := d_write (t' := t) I6 (by rw [hp6]; trivial) sb5 ex5 (dk_new zz hd6 (rk0.merge rel6) hd5')
  exact ⟨.ref s.heap.objs.size, _, I7, rfl, qq⟩
end
end Oz

end

section
set_option maxHeartbeats 4000000
/-! OzC: dicts of texts and ints in the language. -/
namespace Oz
open PySem PySem.Spec PyProof.Rows L2
abbrev KVR (K : PySem.W.Frag) (ρ : List Addr) (H : Hp) : List (Key × U) → List (Key × V) → Prop := Paired fun (p : Key × U) (q : Key × V) => p.1 = q.1 ∧ RelU K ρ H p.2 q.2
section
variable {K : PySem.W.Frag} {ρ ρ' : List Addr} {H H' : Hp}
theorem KVR.mono (e : Ext ρ H ρ' H') {a : List (Key × U)} {b : List (Key × V)} (h : KVR K ρ H a b) : KVR K ρ' H' a b := Paired.mapP h fun _ _ z => ⟨z.1, z.2.mono e⟩
theorem KVR.any {a : List (Key × U)} {b : List (Key × V)} (h : KVR K ρ H a b) (k : Key) : (a.any fun kv => decide (kv.1 = k)) = (b.any fun kv => decide (kv.1 = k)) := by
  unfold KVR at h
  induction h with
  | nil => rfl
  | cons q _ ih => rw [List.any_cons, List.any_cons, ih, q.1]
theorem KVR.put {a : List (Key × U)} {b : List (Key × V)} (h : KVR K ρ H a b) (k : Key) {u : U} {v : V} (r : RelU K ρ H u v) : KVR K ρ H (putKU a k u) (putK b k v) := by
  unfold putKU putK
  rw [h.any k]
  by_cases c : (b.any fun kv => decide (kv.1 = k)) = true
  · rw [if_pos c, if_pos c]
    clear c
    unfold KVR at h
    induction h with
    | nil => exact .nil
    | @cons p q ps qs e _ ih =>
      rw [List.map_cons, List.map_cons]
      refine .cons ?_ ih
      rw [← e.1]
      by_cases hk : p.1 = k
      · rw [if_pos hk, if_pos hk]; exact ⟨rfl, r⟩
      · rw [if_neg hk, if_neg hk]; exact e
  · rw [if_neg c, if_neg c]
    exact Paired.snoc h ⟨rfl, r⟩
theorem KVR.merge {more : List (Key × U)} {vm : List (Key × V)} (hm : KVR K ρ H more vm) : ∀ {a : List (Key × U)} {b : List (Key × V)}, KVR K ρ H a b → KVR K ρ H (mrgU a more) (mergeK b vm) := by
  unfold KVR at hm
  induction hm with
  | nil => exact fun h => h
  | @cons p q ps qs e _ ih =>
    intro a b h
    have := h.put p.1 e.2
    rw [e.1] at this
    have e2 : mrgU a (p :: ps) = mrgU (putKU a q.1 p.2) ps := by rw [← e.1]; rfl
    rw [e2]
    exact ih this
theorem KVR.val {a : List (Key × U)} {b : List (Key × V)} (h : KVR K ρ H a b) (k : Key) : (∀ u, valU a k = some u → ∃ v, valV b k = some v ∧ RelU K ρ H u v) ∧ (valU a k = none → valV b k = none) := by
  unfold KVR at h
  induction h with
  | nil => exact ⟨fun u e => by simp [valU] at e, fun _ => rfl⟩
  | @cons p q ps qs e _ ih =>
    unfold valU valV at ih ⊢
    rw [List.find?_cons, List.find?_cons, ← e.1]
    by_cases hk : p.1 = k
    · simp only [hk, decide_true, Option.map_some]
      exact ⟨fun u h => by cases h; exact ⟨_, rfl, e.2⟩, fun h => by cases h⟩
    · simp only [hk, decide_false]
      exact ih
theorem keyU_rel {u : U} {v : V} {k : Key} (h : keyU u = some k) (r : RelU K ρ H u v) : v = kV k := by
  cases u <;> simp only [keyU, reduceCtorEq, Option.some.injEq] at h <;> subst h <;> simp only [RelU] at r <;> exact r
end
section
variable {X : Cx} {p : Pg} {nm : Names} {ad : Str → Addr} {d : Nat} {W : XK} {Φ : Cal} {pos : Pos}
theorem s_dnew {Φ : Cal} : PE X (.Dict [] [] pos) (tE X Φ W .dnew) := PEw pe_dnewK fun σ H Q ⟨ρ, S, env, w, eo, h⟩ => by
  rw [ev] at h
  intro q hq
  exact h (ρ ++ [q]) (upd H q (.dK [])) (.ref q) (Ext.push (upd_grow hq)) (w.push hq (upd_grow hq) ⟨[], upd_same, .nil⟩) (relLoc (push_at w.len))
theorem s_dat (O : Ok X p nm ad d W) {a i : Expr} {ta ti : E} (ha : PE X a (tE X Φ W ta)) (hi : PE X i (tE X Φ W ti)) (hs : NoSl i := by exact fun _ _ => rfl) : PE X (.Subscript a i pos) (tE X Φ W (.dat ta ti)) :=
  PEw (pe_dget (by have := O.room.un; omega) ha hi hs) fun σ H Q ⟨ρ, S, env, w, eo, h⟩ => by
    rw [ev] at h
    refine ⟨ρ, S, env, w, eo, (Post.bind h).imp fun x H1 ⟨ρ1, S1, u, e1, w1, r1, h1⟩ => ⟨ρ1, S1, env, w1, eo.mono e1, (Post.bind h1).imp fun y H2 ⟨ρ2, S2, u2, e2, w2, r2, h2⟩ => ?_⟩⟩
    have key : ∃ n k, u = .loc n ∧ keyU u2 = some k := by
      cases u with
      | loc n =>
        cases hk : keyU u2 with
        | some k => exact ⟨n, k, rfl, rfl⟩
        | none => unfold datU at h2; rw [hk] at h2; exact h2.elim
      | _ => exact (show False from h2).elim
    obtain ⟨n, k, rfl, hk⟩ := key
    unfold datU at h2
    simp only [hk] at h2
    split at h2
    · rename_i kvs hn
      obtain ⟨q, rfl, hq⟩ := (r1.mono e2).loc
      obtain ⟨vk, hH, hr⟩ := w2.at_ hn hq
      cases hv : valU kvs k with
      | none => rw [hv] at h2; exact h2.elim
      | some z =>
        rw [hv] at h2
        obtain ⟨v, e, r⟩ := (KVR.val hr k).1 z hv
        have ey := keyU_rel hk r2
        subst ey
        exact ⟨q, v, rfl, by rw [← e]; exact DGet.k hH, h2.here w2 r⟩
    · exact h2.elim
theorem dhas_read {b : Bool} {ta ti : E} {σ : L2.St} {H : Hp} {Q : VK} (h : tE X Φ W (.dhas b ti ta) σ H Q) : (tE X Φ W ti) σ H fun y H1 => (tE X Φ W ta) σ H1 fun x H2 => ∃ c o, x = .ref c ∧ DGet H2 c y o ∧ Q (.bl (o.isSome == b)) H2 := by
  obtain ⟨ρ, S, env, w, eo, h⟩ := h
  rw [ev] at h
  refine ⟨ρ, S, env, w, eo, (Post.bind h).imp fun y H1 ⟨ρ1, S1, u2, e1, w1, r2, h1⟩ => ⟨ρ1, S1, env, w1, eo.mono e1, (Post.bind h1).imp fun x H2 ⟨ρ2, S2, u, e2, w2, r1, h2⟩ => ?_⟩⟩
  have key : ∃ n k, u = .loc n ∧ keyU u2 = some k := by
    cases u with
    | loc n =>
      cases hk : keyU u2 with
      | some k => exact ⟨n, k, rfl, rfl⟩
      | none => unfold dhasU at h2; rw [hk] at h2; exact h2.elim
    | _ => exact (show False from h2).elim
  obtain ⟨n, k, rfl, hk⟩ := key
  unfold dhasU at h2
  simp only [hk] at h2
  split at h2
  · rename_i kvs hn
    obtain ⟨q, rfl, hq⟩ := r1.loc
    obtain ⟨vk, hH, hr⟩ := w2.at_ hn hq
    have ey := keyU_rel hk (r2.mono e2)
    subst ey
    have es : (valU kvs k).isSome = (valV vk k).isSome := by
      cases hv : valU kvs k with
      | none => rw [(KVR.val hr k).2 hv]; rfl
      | some z => obtain ⟨v, e, _⟩ := (KVR.val hr k).1 z hv; rw [e]; rfl
    rw [es] at h2
    exact ⟨q, valV vk k, rfl, DGet.k hH, h2.here w2 relBl⟩
  · exact h2.elim
theorem s_dhasIn (O : Ok X p nm ad d W) {a i : Expr} {ta ti : E} (hi : PE X i (tE X Φ W ti)) (ha : PE X a (tE X Φ W ta)) (hm : behindInMarks CmpOp.In a = false := by rfl) : PE X (.Compare i [.In] [a] pos) (tE X Φ W (.dhas true ti ta)) :=
  PEw (pe_cmp (pc_din (by have := O.room.un; omega) hi ha) hm) fun σ H Q h => by
    obtain ⟨ρ, S, env, w, eo, h⟩ := dhas_read h
    exact ⟨ρ, S, env, w, eo, h.imp fun y H1 ⟨ρ1, S1, env1, w1, eo1, h1⟩ => ⟨ρ1, S1, env1, w1, eo1, h1.imp fun x H2 ⟨c, o, hx, g, q⟩ => ⟨c, o, hx, g, by simpa using q⟩⟩⟩
theorem s_dhasNo (O : Ok X p nm ad d W) {a i : Expr} {ta ti : E} (hi : PE X i (tE X Φ W ti)) (ha : PE X a (tE X Φ W ta)) (hm : behindInMarks CmpOp.NotIn a = false := by rfl) : PE X (.Compare i [.NotIn] [a] pos) (tE X Φ W (.dhas false ti ta)) :=
  PEw (pe_cmp (pc_dnotin (by have := O.room.un; omega) hi ha) hm) fun σ H Q h => by
    obtain ⟨ρ, S, env, w, eo, h⟩ := dhas_read h
    exact ⟨ρ, S, env, w, eo, h.imp fun y H1 ⟨ρ1, S1, env1, w1, eo1, h1⟩ => ⟨ρ1, S1, env1, w1, eo1, h1.imp fun x H2 ⟨c, o, hx, g, q⟩ => ⟨c, o, hx, g, by cases ho : o.isSome <;> rw [ho] at q <;> exact q⟩⟩⟩
end
end Oz

end

section
set_option maxHeartbeats 4000000
namespace Oz
open PySem PySem.Spec PyProof.Rows L2
section
variable {X : Cx} {p : Pg} {nm : Names} {ad : Str → Addr} {d : Nat} {W : XK} {Φ : Cal} {pos : Pos}
theorem KVR.nil_of {K : PySem.W.Frag} {ρ : List Addr} {H : Hp} {vk : List (Key × V)} (h : KVR K ρ H [] vk) : vk = [] := by cases h; rfl
theorem dic_mut {H : Hp} {a : Addr} {vk : List (Key × V)} (h : H a = some (.dK vk)) : ∀ u, H a = some u → ¬ Imm u := fun u e => by
  rw [h] at e
  cases e
  exact fun z => z
/-- the end of a display: the pairs go into the new dict -/
theorem dm_close {n q : Nat} {P A : Addr} {ρ : List Addr} {S : Sto} {H : Hp} {ps : List (U × U)} {vps : List (V × V)} {Q : VK} (w : Wok X.K X.mg ρ S H) (hP : ρ[n]? = some P) (hA : ρ[q]? = some A) (hr : Paired (fun (a : U × U) (b : V × V) => RelU X.K ρ H a.1 b.1 ∧ RelU X.K ρ H a.2 b.2) ps vps)
    (h : Post X.mg X.K (RelU X.K) W ρ H (dmClose n q ps S) Q) : ∃ kvs M : List (Key × V), vps = kvs.map (fun kv => (kV kv.1, kv.2)) ∧ M.length + kvs.length ≤ sizeLine ∧ H P = some (.dK M) ∧ H A = some (.dK []) ∧ Q (.ref P) (upd (upd H A (.dK (mergeK [] kvs))) P (.dK (mergeK M (mergeK [] kvs)))) := by
  unfold dmClose at h
  split at h
  · rename_i M0 kvs0 h1 h2 h3
    split at h
    · rename_i hz
      obtain ⟨hz, hnq⟩ := hz
      obtain ⟨M, hM, rM⟩ := w.at_ h1 hP
      obtain ⟨e0, hE, rE⟩ := w.at_ h2 hA
      have e0n := KVR.nil_of rE
      subst e0n
      have keys : ∀ {ps : List (U × U)} {vps : List (V × V)} {kvs0 : List (Key × U)}, keyPs ps = some kvs0 → Paired (fun (a : U × U) (b : V × V) => RelU X.K ρ H a.1 b.1 ∧ RelU X.K ρ H a.2 b.2) ps vps → ∃ kvs : List (Key × V), vps = kvs.map (fun kv => (kV kv.1, kv.2)) ∧ KVR X.K ρ H kvs0 kvs := by
        intro ps
        induction ps with
        | nil =>
          intro vps kvs0 e r
          cases r
          simp only [keyPs, Option.some.injEq] at e
          subst e
          exact ⟨[], rfl, .nil⟩
        | cons a ps ih =>
          intro vps kvs0 e r
          cases r with
          | @cons _ b _ bs q t =>
            obtain ⟨y, z⟩ := a
            simp only [keyPs, Option.bind_eq_some_iff, Option.map_eq_some_iff] at e
            obtain ⟨k, hk, ks, hks, rfl⟩ := e
            obtain ⟨kvs, e2, r2⟩ := ih hks t
            refine ⟨(k, b.2) :: kvs, ?_, .cons ⟨rfl, q.2⟩ r2⟩
            rw [e2, List.map_cons, ← keyU_rel hk q.1]
      obtain ⟨kvs, rfl, rk⟩ := keys h3 hr
      have l1 := Paired.length rM
      have l2 := Paired.length rk
      have hPA : P ≠ A := fun e => by
        subst e
        exact hnq (w.nd n q P _ _ hP hA h1 h2 rfl rfl)
      refine ⟨kvs, M, rfl, by omega, hM, hE, ?_⟩
      have rk0 : KVR X.K ρ H (mrgU [] kvs0) (mergeK [] kvs) := KVR.merge rk .nil
      have ex1 : Ext ρ H ρ (upd H A (.dK (mergeK [] kvs))) := Ext.write (dic_mut hE)
      have w1 := w.write (o := .dK (mergeK [] kvs)) (c := .dic (mrgU [] kvs0)) hA h2 rfl rfl (dic_mut hE) ⟨_, upd_same, rk0.mono ex1⟩
      have hM1 : (upd H A (.dK (mergeK [] kvs))) P = some (.dK M) := by rw [upd_ne hPA]; exact hM
      have h11 : (S.set q (.dic (mrgU [] kvs0)))[n]? = some (.dic M0) := by rw [List.getElem?_set_ne (Ne.symm hnq)]; exact h1
      have ex2 : Ext ρ (upd H A (.dK (mergeK [] kvs))) ρ (upd (upd H A (.dK (mergeK [] kvs))) P (.dK (mergeK M (mergeK [] kvs)))) := Ext.write (dic_mut hM1)
      have rfin : KVR X.K ρ H (mrgU M0 (mrgU [] kvs0)) (mergeK M (mergeK [] kvs)) := KVR.merge rk0 rM
      have w2 := w1.write (o := .dK (mergeK M (mergeK [] kvs))) (c := .dic (mrgU M0 (mrgU [] kvs0))) hP h11 rfl rfl (dic_mut hM1) ⟨_, upd_same, (rfin.mono ex1).mono ex2⟩
      exact h ρ _ (.ref P) (ex1.trans ex2) w2 (relLoc hP)
    · exact h.elim
  · exact h.elim
/-- its beginning -/
theorem dm_open {n : Nat} {P : Addr} {ρ : List Addr} {S : Sto} {H : Hp} {x : V} {u : U} {α β : Type} {Rr : List Addr → Hp → α → β → Prop} {f : Nat → Sto → R α} {Q : β → Hp → Prop} (w : Wok X.K X.mg ρ S H) (hP : ρ[n]? = some P) (hr : RelU X.K ρ H u x)
    (h : Post X.mg X.K Rr W ρ H ((dmOpen n u S).bind f) Q) : ∃ a vk S2, x = .ref a ∧ H a = some (.dK vk) ∧ P ≠ a ∧ H P = some (.dK []) ∧ vk.length + 15 ≤ sizeLine ∧ ∀ q, q ≠ P → upd H P (.dK (mergeK [] vk)) q = none →
      Ext ρ H (ρ ++ [q]) (upd (upd H P (.dK (mergeK [] vk))) q (.dK [])) ∧ Wok X.K X.mg (ρ ++ [q]) S2 (upd (upd H P (.dK (mergeK [] vk))) q (.dK [])) ∧ (ρ ++ [q])[S.length]? = some q ∧ Post X.mg X.K Rr W (ρ ++ [q]) (upd (upd H P (.dK (mergeK [] vk))) q (.dK [])) (f S.length S2) Q := by
  have key : ∃ m ms, u = .loc m ∧ S[m]? = some (.dic ms) ∧ S[n]? = some (.dic []) ∧ (m ≠ n ∧ ms.length + 15 ≤ sizeLine) ∧ Post X.mg X.K Rr W ρ H (f S.length (S.set n (.dic (mrgU [] ms)) ++ [.dic []])) Q := by
    unfold dmOpen at h
    cases u with
    | loc m =>
      dsimp only at h
      split at h
      · rename_i ms h1 h2
        by_cases hc : m ≠ n ∧ ms.length + 15 ≤ sizeLine
        · rw [if_pos hc] at h
          exact ⟨m, ms, rfl, h1, h2, hc, h⟩
        · rw [if_neg hc] at h
          exact h.elim
      · exact h.elim
    | _ => exact (show False from h).elim
  obtain ⟨m, ms, rfl, h1, h2, ⟨hmn, hz⟩, h⟩ := key
  obtain ⟨a, rfl, ha⟩ := hr.loc
  obtain ⟨vk, hH, rk⟩ := w.at_ h1 ha
  obtain ⟨e0, hE, rE⟩ := w.at_ h2 hP
  have e0n := KVR.nil_of rE
  subst e0n
  have l1 := Paired.length rk
  refine ⟨a, vk, S.set n (.dic (mrgU [] ms)) ++ [.dic []], rfl, hH, fun e => ?_, hE, by omega, fun q hq hn => ?_⟩
  · subst e
    exact hmn (w.nd m n _ _ _ ha hP h1 h2 rfl rfl)
  · have rk0 : KVR X.K ρ H (mrgU [] ms) (mergeK [] vk) := KVR.merge rk .nil
    have ex1 : Ext ρ H ρ (upd H P (.dK (mergeK [] vk))) := Ext.write (dic_mut hE)
    have w1 := w.write (o := .dK (mergeK [] vk)) (c := .dic (mrgU [] ms)) hP h2 rfl rfl (dic_mut hE) ⟨_, upd_same, rk0.mono ex1⟩
    have w2 := w1.push (c := .dic []) hn (upd_grow hn) ⟨[], upd_same, .nil⟩
    have ex2 := ex1.trans (Ext.push (ρ := ρ) (p := q) (upd_grow hn) (H' := upd (upd H P (.dK (mergeK [] vk))) q (.dK [])))
    exact ⟨ex2, w2, push_at w.len, Post.ext ex2 h⟩
theorem dm1_read {ta tk tv : E} {σ : L2.St} {H : Hp} {Q : VK} (h : tE X Φ W (.dm1 ta tk tv) σ H Q) : tDm (tE X Φ W ta) [(tE X Φ W tk, tE X Φ W tv)] σ H Q := by
  obtain ⟨ρ, S, env, w, eo, h⟩ := h
  rw [ev] at h
  intro P hp
  have e0 : Ext ρ H (ρ ++ [P]) (upd H P (.dK [])) := Ext.push (upd_grow hp)
  have w0 := w.push (c := .dic []) hp (upd_grow hp) ⟨[], upd_same, .nil⟩
  refine ⟨ρ ++ [P], _, env, w0, eo.mono e0, (Post.bind (Post.ext e0 h)).imp fun x H1 ⟨ρ1, S1, u, e1, w1, r1, h1⟩ => ?_⟩
  have hP1 := e1.at_ (push_at (p := P) w.len)
  obtain ⟨a, vk, S2, rfl, ha, hpa, hpe, hz, k⟩ := dm_open w1 hP1 r1 h1
  refine ⟨a, vk, rfl, ha, hpa, hpe, hz, fun q hq hn => ?_⟩
  obtain ⟨e2, w2, hA, h2⟩ := k q hq hn
  refine ⟨ρ1 ++ [q], S2, env, w2, ((eo.mono e0).mono e1).mono e2, (Post.bind h2).imp fun y H3 ⟨ρ3, S3, u3, e3, w3, r3, h3⟩ => ⟨ρ3, S3, env, w3, (((eo.mono e0).mono e1).mono e2).mono e3, (Post.bind h3).imp fun z H4 ⟨ρ4, S4, u4, e4, w4, r4, h4⟩ => ?_⟩⟩
  exact dm_close w4 (e4.at_ (e3.at_ (e2.at_ hP1))) (e4.at_ (e3.at_ hA)) (.cons ⟨r3.mono e4, r4⟩ .nil) h4
theorem s_dm1 {a k v : Expr} {ta tk tv : E} (ha : PE X a (tE X Φ W ta)) (hk : PE X k (tE X Φ W tk)) (hv : PE X v (tE X Φ W tv)) : PE X (.Dict [none, some k] [a, v] pos) (tE X Φ W (.dm1 ta tk tv)) :=
  PEw (pe_dm1 ha (pps_cons hk hv pps_nil)) fun σ H Q h => dm1_read h
theorem dm2_read {ta tk tv tk2 tv2 : E} {σ : L2.St} {H : Hp} {Q : VK} (h : tE X Φ W (.dm2 ta tk tv tk2 tv2) σ H Q) : tDm (tE X Φ W ta) [(tE X Φ W tk, tE X Φ W tv), (tE X Φ W tk2, tE X Φ W tv2)] σ H Q := by
  obtain ⟨ρ, S, env, w, eo, h⟩ := h
  rw [ev] at h
  intro P hp
  have e0 : Ext ρ H (ρ ++ [P]) (upd H P (.dK [])) := Ext.push (upd_grow hp)
  have w0 := w.push (c := .dic []) hp (upd_grow hp) ⟨[], upd_same, .nil⟩
  refine ⟨ρ ++ [P], _, env, w0, eo.mono e0, (Post.bind (Post.ext e0 h)).imp fun x H1 ⟨ρ1, S1, u, e1, w1, r1, h1⟩ => ?_⟩
  have hP1 := e1.at_ (push_at (p := P) w.len)
  obtain ⟨a, vk, S2, rfl, ha, hpa, hpe, hz, k⟩ := dm_open w1 hP1 r1 h1
  refine ⟨a, vk, rfl, ha, hpa, hpe, hz, fun q hq hn => ?_⟩
  obtain ⟨e2, w2, hA, h2⟩ := k q hq hn
  have eo2 := ((eo.mono e0).mono e1).mono e2
  refine ⟨ρ1 ++ [q], S2, env, w2, eo2, (Post.bind h2).imp fun y H3 ⟨ρ3, S3, u3, e3, w3, r3, h3⟩ => ⟨ρ3, S3, env, w3, eo2.mono e3, (Post.bind h3).imp fun z H4 ⟨ρ4, S4, u4, e4, w4, r4, h4⟩ => ⟨ρ4, S4, env, w4, (eo2.mono e3).mono e4, (Post.bind h4).imp fun y2 H5 ⟨ρ5, S5, u5, e5, w5, r5, h5⟩ => ⟨ρ5, S5, env, w5, ((eo2.mono e3).mono e4).mono e5, (Post.bind h5).imp fun z2 H6 ⟨ρ6, S6, u6, e6, w6, r6, h6⟩ => ?_⟩⟩⟩⟩
  exact dm_close w6 (e6.at_ (e5.at_ (e4.at_ (e3.at_ (e2.at_ hP1))))) (e6.at_ (e5.at_ (e4.at_ (e3.at_ hA)))) (.cons ⟨((r3.mono e4).mono e5).mono e6, (r4.mono e5).mono e6⟩ (.cons ⟨r5.mono e6, r6⟩ .nil)) h6
theorem s_dm2 {a k v k2 v2 : Expr} {ta tk tv tk2 tv2 : E} (ha : PE X a (tE X Φ W ta)) (hk : PE X k (tE X Φ W tk)) (hv : PE X v (tE X Φ W tv)) (hk2 : PE X k2 (tE X Φ W tk2)) (hv2 : PE X v2 (tE X Φ W tv2)) : PE X (.Dict [none, some k, some k2] [a, v, v2] pos) (tE X Φ W (.dm2 ta tk tv tk2 tv2)) :=
  PEw (pe_dm2 ha (pps_cons hk hv (pps_cons hk2 hv2 pps_nil))) fun σ H Q h => dm2_read h
end
end Oz

end

section
set_option maxHeartbeats 4000000
/-! Oz9: raise, a def's body, all defs together. -/
namespace Oz
open PySem PySem.Spec PyProof.Rows L2
section
variable {X : Cx} {p : Pg} {nm : Names} {ad : Str → Addr} {d : Nat} {W : XK} {Φ : Cal} {a : Expr} {ta : E} {pos : Pos}
theorem x_raise (O : Ok X p nm ad d W) (f : Str) {C : Str} {px pc : Pos} (ha : PE X a (tE X (p.cal d) W ta)) (hC : (C, f) ∈ nm.xcs := by decide +kernel) (hx : p.xf C = some f := by decide +kernel) (hg : Gl X C := by rfl) (hdb : (C == ("__debug__" : Str)) = false := by decide)
    (he : starEach [a] X.env = (false, eval a X.env) :: starEach [] X.env := by rfl) (hpl : (backTo pc (starEach [] X.env)).any (·.1) = false := by rfl) : PS X (.Raise (some (.Call (.Name C px) [a] [] pc)) none pos) (tS X (p.cal d) W (.raise C ta)) := by
  have F := O.xc C f hC
  obtain ⟨fd, ps, F1, hb⟩ := F.fn
  have M := pmk_oex (X := X) (p := px) (dvs := []) (ds := []) F.T F.iC F.tI F1 O.room.room hb .nil passL hg F.gC (pa_cons ha pa_nil he) hdb he hpl
  refine PSw (ps_raise (W := fun cls d _ H => W cls d H) O.calm O.take M) fun D σ H ⟨ρ, S, env, w, eo, h⟩ => ?_
  rw [ex] at h
  refine ⟨ρ, S, env, w, eo, (PostS.on h).imp fun y H1 ⟨ρ1, S1, u, e1, w1, r1, h1⟩ => ⟨by show 1 ≤ 1000; decide, fun b hb => ⟨b, y, rfl, upd_same, fun dx hdx hne => ⟨rfl, dx, [(f, y)], upd_same, ?_, ?_, ?_⟩⟩⟩⟩
  · rw [upd_ne hne, upd_same]
  · rw [upd_ne hne] at hdx
    exact hdx
  · rw [upd_ne hne] at hdx
    rw [cal_xf, hx] at h1
    have e : upd (del (upd (upd (upd H1 b (exo b (ad C) none)) dx (exd dx [(f, y)])) b (exo b (ad C) (some dx))) b) dx (.xd [(f, y)]) = upd H1 dx (.xd [(f, y)]) := by
      funext c
      by_cases hc : c = dx
      · subst hc
        rw [upd_same, upd_same]
      · rw [upd_ne hc, upd_ne hc]
        by_cases hcb : c = b
        · subst hcb
          rw [del_same, hb]
        · rw [del_ne hcb, upd_ne hcb, upd_ne hc, upd_ne hcb]
    rw [e]
    have x : Ext ρ1 H1 ρ1 (upd H1 dx (.xd [(f, y)])) := Ext.grow (upd_grow hdx)
    exact h1 ρ1 _ (ad C) dx [(f, y)] x (w1.grow (upd_grow hdx)) F.gC upd_same (.cons ⟨rfl, r1.mono x⟩ .nil)
end
/-! ### a def -/
section
variable {P : Program} {w : World} {K : PySem.W.Frag} {mg : Str → Option Value} {base : Heap} {p : Pg} {nm : Names} {ad : Str → Addr} {d : Nat}
theorem env_start {K : PySem.W.Frag} {ρ : List Addr} {H : Hp} {us : List U} {vs : List V} {N : List Str} (r : RelUs K ρ H us vs) : EnvOk K ρ H (startU N.length us) (L2.start N vs) := by
  unfold startU L2.start
  rw [r.length]
  refine ⟨by simp [r.length], fun i u h => ?_⟩
  by_cases hi : i < us.length
  · rw [List.getElem?_append_left (by simpa using hi), List.getElem?_map] at h
    rw [List.getElem?_append_left (by rw [List.length_map, r.length]; exact hi), List.getElem?_map]
    cases q : us[i]? with
    | none => rw [q] at h; cases h
    | some z =>
      rw [q] at h
      cases h
      obtain ⟨v, e, rv⟩ := r.get q
      exact ⟨v, by rw [e]; rfl, rv⟩
  · rw [List.getElem?_append_right (by simpa using hi), List.getElem?_replicate] at h
    split at h <;> cases h
theorem fin_read {K : PySem.W.Frag} {mg : Str → Option Value} {W : XK} {ρ : List Addr} {H : Hp} {o : O} {Q : VK} (h : Post mg K (RelU K) W ρ H o.fin Q) : PostS mg K W ρ H o { nx := fun _ H' => Q .non H', rt := Q } := by
  cases o with
  | nx a S => exact fun ρ' H' b e' w r => h ρ' H' .non e' w relNon
  | ret a S => exact h
  | bk a S => exact h.elim
  | ct a S => exact h.elim
  | exc c fs S => exact h
  | bad => exact h.elim
/-- all that is asked of the program's defs at a depth -/
structure AllFn (P : Program) (w : World) (K : PySem.W.Frag) (mg : Str → Option Value) (base : Heap) (p : Pg) (nm : Names) (ad : Str → Addr) (d : Nat) : Prop where
  sta : Sta p nm K mg ad
  gdi : GdOk p K mg w
  xc : ∀ C f, (C, f) ∈ nm.xcs → XcOk P w K mg base ad C f
  call : ∀ f, FnQ P w K mg base (L2.CX P w) (d + 2) (ad f) (spC K mg ((p.cal d).call f))
  init : ∀ f, FnQ P w K mg base (L2.CX P w) (d + 1) (ad f) (spC K mg ((p.cal d).init f))
  kcall : ∀ f n ks, (f, n, ks) ∈ nm.kws → FnK P w K mg base (L2.CX P w) (d + 2) (ad f) n ks (spC K mg ((p.cal d).kcal f))
theorem AllFn.ok {N : List Str} {qual : Str} {sc : Scope} {f : Addr} {cdv : Value} {A : Around} {outer : List PySem.Env} {s : Shared} {H : Hp} {E : XK} (F : AllFn P w K mg base p nm ad d) (hr : Rm (d + 2) (A.deeper (envOfC qual sc s.heap.objs.size f cdv))) :
    Ok (cxOf (L2.CX P w) P w K mg base N qual sc f cdv A outer s H E) p nm ad d E := by
  have tk : Takes (cxOf (L2.CX P w) P w K mg base N qual sc f cdv A outer s H E) (fun cls d _ H => E cls d H) := takes_of rfl rfl rfl rfl
  exact ⟨F.sta, F.gdi, F.xc, tk, passes_of rfl, rfl, hr, passes_call tk fun _ _ _ _ z => z, F.call, F.init, F.kcall⟩
/-- a plain def -/
theorem fn_plain {x qual nmf : Str} {st : Stmt} {f : Addr} {fd : FuncData} {N ps : List Str} {body : Sts} (F : L2.Fun K x qual st f fd) (hb : Binds K fd ps []) (S : FnScope N ps (defScope st)) (A : AllFn P w K mg base p nm ad d)
    (hp : p.defs nmf = some (.inl ⟨ps.length, N.length, false, body⟩))
    (D : ∀ (X : Cx) (cdv : Value) (A : Around) (outer : List PySem.Env) (s : Shared) (H : Hp) (E : XK), X = cxOf (L2.CX P w) P w K mg base N qual (defScope st) f cdv A outer s H E → Ok X p nm ad d E → PSs X (defBody st) (tB X (p.cal d) E body)) :
    FnQ P w K mg base (L2.CX P w) (d + 3) f (spC K mg ((p.cal (d + 1)).call nmf)) := by
  have hcall : ∀ us S, (p.cal (d + 1)).call nmf us S = (⟨ps.length, N.length, false, body⟩ : Df).run (p.cal d) us S := fun us S => by
    show (match p.defs nmf with | some (.inl df) => df.run (p.cal d) us S | some (.inr g) => g (p.cal d) us S | none => R.bad) = _
    rw [hp]
  obtain ⟨oc, od, kV, doc, pm, an, cdv, ct, osl, rfl, lk, hcd⟩ := F.ex
  intro A0 outer s H us vs Q E hr e0 r h
  obtain ⟨ρ, S0, ws, w0, rw_, h⟩ := h
  rw [hcall] at h
  unfold Df.run bindU at h
  rw [if_neg (show ¬ (false = true) from Bool.false_ne_true)] at h
  by_cases hl : ws.length = ps.length
  · rw [if_pos hl] at h
    have hlv : vs.length = ps.length := by rw [rw_.length]; exact hl
    have hlu : (us ++ []).length = ps.length := by rw [List.append_nil, ← r.length]; exact hlv
    have hb' := hb s us (e0.mod.kin.keeps fun b o e => (e0.bs b o e).1) hlu
    rw [List.append_nil] at hb'
    refine run_body (k := d + 2) lk hcd S hr e0 (G := fun xs H2 => xs = vs ∧ H2 = H) (fun A' Ex Q' z => hb' _ _ _ _ (z s H vs us e0 Un.refl rfl (fun _ _ q => q) r hlv ⟨rfl, rfl⟩)) fun s2 H2 xs ⟨hx, hH⟩ hr2 => ?_
    subst hx hH
    exact ⟨_, D _ cdv A0 outer s2 H2 E rfl (A.ok hr2), ρ, S0, startU N.length ws, w0, env_start rw_, fin_read h⟩
  · rw [if_neg hl] at h
    exact h.elim
/-- a def with keyword-only parameters -/
theorem fn_kw {x qual nmf : Str} {st : Stmt} {f : Addr} {fd : FuncData} {N ps : List Str} {body : Sts} {n : Nat} {ks : List Str} (F : L2.Fun K x qual st f fd) (S : FnScope N ps (defScope st)) (A : AllFn P w K mg base p nm ad d) (hn : n + ks.length = ps.length)
    (hb : ∀ (kV doc pm : Value) (an : Option Addr) (cdv ct : Value) (us ws : List Value), us.length = n → ws.length = ks.length → bindArgs (PySem.W.fnOf x qual (defArgs st) (defBody st) (defScope st) .none kV doc pm an cdv ct) ⟨us, ks.zip ws⟩ = pure (ps.zip (us ++ ws)))
    (hp : p.kdefs nmf = some ⟨ps.length, N.length, false, body⟩)
    (D : ∀ (X : Cx) (cdv : Value) (A : Around) (outer : List PySem.Env) (s : Shared) (H : Hp) (E : XK), X = cxOf (L2.CX P w) P w K mg base N qual (defScope st) f cdv A outer s H E → Ok X p nm ad d E → PSs X (defBody st) (tB X (p.cal d) E body)) :
    FnK P w K mg base (L2.CX P w) (d + 3) f n ks (spC K mg ((p.cal (d + 1)).kcal nmf)) := by
  have hcall : ∀ us S, (p.cal (d + 1)).kcal nmf us S = (⟨ps.length, N.length, false, body⟩ : Df).run (p.cal d) us S := fun us S => by
    show (match p.kdefs nmf with | some df => df.run (p.cal d) us S | none => R.bad) = _
    rw [hp]
  obtain ⟨oc, od, kV, doc, pm, an, cdv, ct, osl, rfl, lk, hcd⟩ := F.ex
  intro A0 outer s H us ws vs zs Q E hr e0 r rz l1 l2 h
  obtain ⟨ρ, S0, as, w0, rw_, h⟩ := h
  rw [hcall] at h
  unfold Df.run bindU at h
  rw [if_neg (show ¬ (false = true) from Bool.false_ne_true)] at h
  by_cases hl : as.length = ps.length
  · rw [if_pos hl] at h
    have hlv : (vs ++ zs).length = ps.length := by rw [rw_.length]; exact hl
    have hb' : BindsTo s (PySem.W.fnOf x qual (defArgs st) (defBody st) (defScope st) .none kV doc pm an cdv ct) ⟨us, ks.zip ws⟩ (ps.zip (us ++ ws)) := .of_eq (hb kV doc pm an cdv ct us ws l1 l2)
    refine run_body (k := d + 2) lk hcd S hr e0 (G := fun xs H2 => xs = vs ++ zs ∧ H2 = H) (fun A' Ex Q' z => hb' _ _ _ _ (z s H (vs ++ zs) (us ++ ws) e0 Un.refl rfl (fun _ _ q => q) (r.append rz) hlv ⟨rfl, rfl⟩)) fun s2 H2 xs ⟨hx, hH⟩ hr2 => ?_
    subst hx hH
    exact ⟨_, D _ cdv A0 outer s2 H2 E rfl (A.ok hr2), ρ, S0, startU N.length as, w0, env_start rw_, fin_read h⟩
  · rw [if_neg hl] at h
    exact h.elim
/-- a def with a star parameter -/
theorem fn_starred {x qual nmf pv : Str} {st : Stmt} {f : Addr} {fd : FuncData} {N ps : List Str} {body : Sts} (F : L2.Fun K x qual st f fd) (S : FnScope N (ps ++ [pv]) (defScope st)) (A : AllFn P w K mg base p nm ad d)
    (hb : ∀ (kV doc pm : Value) (an : Option Addr) (cdv ct : Value) (us rest : List Value), us.length = ps.length → bindArgs (PySem.W.fnOf x qual (defArgs st) (defBody st) (defScope st) .none kV doc pm an cdv ct) ⟨us ++ rest, []⟩ = (newTuple rest >>= fun t => pure (ps.zip us ++ [(pv, t)])))
    (hp : p.defs nmf = some (.inl ⟨ps.length, N.length, true, body⟩))
    (D : ∀ (X : Cx) (cdv : Value) (A : Around) (outer : List PySem.Env) (s : Shared) (H : Hp) (E : XK), X = cxOf (L2.CX P w) P w K mg base N qual (defScope st) f cdv A outer s H E → Ok X p nm ad d E → PSs X (defBody st) (tB X (p.cal d) E body)) :
    FnQ P w K mg base (L2.CX P w) (d + 3) f (spC K mg ((p.cal (d + 1)).call nmf)) := by
  have hcall : ∀ us S, (p.cal (d + 1)).call nmf us S = (⟨ps.length, N.length, true, body⟩ : Df).run (p.cal d) us S := fun us S => by
    show (match p.defs nmf with | some (.inl df) => df.run (p.cal d) us S | some (.inr g) => g (p.cal d) us S | none => R.bad) = _
    rw [hp]
  obtain ⟨oc, od, kV, doc, pm, an, cdv, ct, osl, rfl, lk, hcd⟩ := F.ex
  intro A0 outer s H us vs Q E hr e0 r h
  obtain ⟨ρ, S0, ws, w0, rw_, h⟩ := h
  rw [hcall] at h
  unfold Df.run bindU at h
  rw [if_pos rfl] at h
  by_cases hl : ps.length ≤ ws.length ∧ ws.length ≤ 1000
  · rw [if_pos hl] at h
    replace h : Post mg K (RelU K) E ρ H (exs (p.cal d) body (startU N.length (ws.take ps.length ++ [.tup (ws.drop ps.length)])) S0).fin Q := h
    have hvl := rw_.length
    have hul : us.length = ws.length := by rw [← r.length, hvl]
    have eu : us = us.take ps.length ++ us.drop ps.length := (List.take_append_drop _ _).symm
    have h1 : (us.take ps.length).length = ps.length := by rw [List.length_take, hul]; omega
    have hz : (vs.drop ps.length).length ≤ sizeLine := by
      rw [List.length_drop, hvl]
      exact Nat.le_trans (Nat.sub_le _ _) (Nat.le_of_lt (small1000 hl.2))
    have hz2 : (us.drop ps.length).length ≤ sizeLine := by
      rw [List.length_drop, hul]
      exact Nat.le_trans (Nat.sub_le _ _) (Nat.le_of_lt (small1000 hl.2))
    have hn : H s.heap.objs.size = none := e0.hok.fresh (Nat.le_refl _)
    refine run_body (k := d + 2) (ps := ps ++ [pv]) lk hcd S hr e0 (G := fun xs H2 => ∃ q, H q = none ∧ xs = vs.take ps.length ++ [V.ref q] ∧ H2 = upd H q (.tup (vs.drop ps.length))) (fun A' Ex Q' z => ?_) fun s2 H2 xs ⟨q, hq, hx, hH⟩ hr2 => ?_
    · rw [eu, hb kV doc pm an cdv ct _ _ h1]
      refine wpAny_bind (wpAny_newTuple (wpAny_pure ?_) hz2)
      have new : ObjOk P w (upd H s.heap.objs.size (.tup (vs.drop ps.length))) (s.heap.push ({ cls := .type "tuple", data := .seq (us.drop ps.length).toArray } : Obj)) s.heap.objs.size (.tup (vs.drop ps.length)) :=
        ⟨hz, us.drop ps.length, r.drop _, ⟨_, Heap.get?_push_size _ rfl, rfl, _, rfl⟩⟩
      have un := StX.un_laid (fs := frs outer) (s := s) (o := ({ cls := .type "tuple", data := .seq (us.drop ps.length).toArray } : Obj)) (u := .tup (vs.drop ps.length)) hn
      have y := z _ _ (vs.take ps.length ++ [V.ref s.heap.objs.size]) (us.take ps.length ++ [Value.ref s.heap.objs.size]) (StX.env0_laid e0 new) un rfl
        (fun e s' => StX.cxUp outer s H _ _ E e s' un (fun b o q => Heap.get?_push_of_some _ q) rfl) ((r.take _).append (.cons rfl .nil)) (by rw [List.length_append, List.length_append, List.length_take, hvl]; simp; omega) ⟨_, hn, rfl, rfl⟩
      rw [List.zip_append h1.symm] at y
      exact y
    · subst hx hH
      have x : Ext ρ H ρ (upd H q (.tup (vs.drop ps.length))) := Ext.grow (upd_grow hq)
      refine ⟨_, D _ cdv A0 outer s2 _ E rfl (A.ok hr2), ρ, S0, startU N.length (ws.take ps.length ++ [U.tup (ws.drop ps.length)]), w0.grow (upd_grow hq), env_start (RelUs.append ((rw_.take _).mono x) (RelUs.cons (u := U.tup (ws.drop ps.length)) ?_ RelUs.nil)), fin_read (Post.ext x h)⟩
      simp only [RelU]
      exact ⟨q, _, rfl, .of upd_same, (rw_.drop _).mono x⟩
  · rw [if_neg hl] at h
    exact h.elim
/-! ### all defs -/
def AllT {α : Type} (Q : Str → α → Prop) : List (Str × α) → Prop
  | [] => True
  | x :: xs => Q x.1 x.2 ∧ AllT Q xs
theorem AllT.look {α : Type} {Q : Str → α → Prop} {f : Str} {a : α} : ∀ {l : List (Str × α)}, AllT Q l → l.lookup f = some a → Q f a
  | [], _, h => by simp at h
  | (g, b) :: l, ⟨h1, h2⟩, h => by
    simp only [List.lookup_cons] at h
    split at h
    · rename_i hg
      cases h
      have e : f = g := by simpa using hg
      subst e
      exact h1
    · exact AllT.look h2 h
theorem bad_fn {k : Nat} {f : Addr} {CX : CXT} {g : List U → Sto → R U} (h : ∀ us S, g us S = .bad) : FnQ P w K mg base CX k f (spC K mg g) := fun A outer s H us vs Q E hr e0 r hs => by
  obtain ⟨ρ, S0, us, w0, r, h'⟩ := hs
  rw [h] at h'
  exact h'.elim
theorem bad_fnk {k n : Nat} {ks : List Str} {f : Addr} {CX : CXT} {g : List U → Sto → R U} (h : ∀ us S, g us S = .bad) : FnK P w K mg base CX k f n ks (spC K mg g) := fun A outer s H us ws vs zs Q E hr e0 r rz l1 l2 hs => by
  obtain ⟨ρ, S0, us, w0, r, h'⟩ := hs
  rw [h] at h'
  exact h'.elim
theorem all_fn {tbl : List (Str × (Df ⊕ (Cal → List U → Sto → R U)))} (hp : p.defs = fun f => tbl.lookup f) (sta : Sta p nm K mg ad) (gdi : GdOk p K mg w) (xc : ∀ C f, (C, f) ∈ nm.xcs → XcOk P w K mg base ad C f)
    (step : ∀ d, AllFn P w K mg base p nm ad d → AllT (fun f _ => FnQ P w K mg base (L2.CX P w) (d + 3) (ad f) (spC K mg ((p.cal (d + 1)).call f))) tbl)
    (kstep : ∀ d, AllFn P w K mg base p nm ad d → ∀ f n ks, (f, n, ks) ∈ nm.kws → FnK P w K mg base (L2.CX P w) (d + 3) (ad f) n ks (spC K mg ((p.cal (d + 1)).kcal f))) : ∀ d, AllFn P w K mg base p nm ad d
  | 0 => ⟨sta, gdi, xc, fun f => bad_fn fun _ _ => rfl, fun f => bad_fn fun _ _ => rfl, fun f n ks _ => bad_fnk fun _ _ => rfl⟩
  | d + 1 => by
    have ih := all_fn hp sta gdi xc step kstep d
    refine ⟨sta, gdi, xc, fun f => ?_, fun f => ih.call f, fun f n ks h => kstep d ih f n ks h⟩
    cases q : tbl.lookup f with
    | some a => exact (step d ih).look q
    | none =>
      refine bad_fn fun us S => ?_
      show (match p.defs f with | some (.inl df) => df.run (p.cal d) us S | some (.inr g) => g (p.cal d) us S | none => R.bad) = _
      rw [hp]
      simp only [q]
/-- the law is called -/
def spTop (K : PySem.W.Frag) (mg : Str → Option Value) (g : List U → Sto → R U) : Sp := fun vs H Q E => vs.length = 1 ∧ spC K mg g vs H Q E
end
end Oz

end

section
set_option maxHeartbeats 4000000
/-! Oz10: what the top leaves, as data. -/
namespace Oz
open PySem PySem.Spec PyProof.Rows L2 He
structure Top where
  fns : List Str
  clss : List Str
  mets : List (Str × Str)
  inis : List Str
  flds : List (Str × Str)
  xcs : List (Str × Str)
  bins : List Str
  glos : List (Str × U)
  gdis : List (Str × List (Str × U))
  defs : List (Str × DefD)
  kws : List (Str × Nat × List Str)
def dotN (C m : Str) : Str := C ++ "." ++ m
/-- where a def stands -/
def adOf (t : Top) (K : PySem.W.Frag) (f : Str) : Addr := match t.defs.lookup f with
  | some d => fAd K d.at_
  | none => ga K f
mutual
def relK (K : PySem.W.Frag) : U → Value → Bool
  | .non, .none => true
  | .bl b, .bool c => b == c
  | .int i, .int j _ => decide (i = j)
  | .str x, .str y _ => decide (x = y)
  | .tup us, .ref a => (match K.lookup a with
    | some ⟨.type c, _, .seq its _, _⟩ => decide (c = "tuple") && (decide (its.size ≤ sizeLine) && relKs K us its.toList)
    | _ => false)
  | _, _ => false
def relKs (K : PySem.W.Frag) : List U → List Value → Bool
  | [], [] => true
  | u :: us, v :: vs => relK K u v && relKs K us vs
  | _, _ => false
end
mutual
theorem relK_ok {K : PySem.W.Frag} : ∀ {u : U} {w : Value}, relK K u w = true → ∃ v, RelV v w ∧ ∀ ρ H, RelU K ρ H u v
  | .non, w, h => by
    cases w with
    | none => exact ⟨.non, rfl, fun _ _ => relNon⟩
    | _ => simp [relK] at h
  | .bl b, w, h => by
    cases w with
    | bool c =>
      simp [relK] at h
      subst h
      exact ⟨.bl b, rfl, fun _ _ => relBl⟩
    | _ => simp [relK] at h
  | .int i, w, h => by
    cases w with
    | int j t =>
      simp [relK] at h
      subst h
      exact ⟨.int i, ⟨t, rfl⟩, fun _ _ => relInt⟩
    | _ => simp [relK] at h
  | .str i, w, h => by
    cases w with
    | str j t =>
      simp [relK] at h
      subst h
      exact ⟨.str i, ⟨t, rfl⟩, fun _ _ => relStr⟩
    | _ => simp [relK] at h
  | .tup us, w, h => by
    cases w with
    | ref a =>
      unfold relK at h
      split at h
      · rename_i c od its n osl hk
        obtain ⟨h1, h2⟩ := ba h
        obtain ⟨h3, h4⟩ := ba h2
        obtain ⟨vs, rv, ru⟩ := relKs_ok h4
        refine ⟨.ref a, rfl, fun ρ H => ?_⟩
        simp only [RelU]
        exact ⟨a, vs, rfl, .inr ⟨_, its, n, hk, congrArg Value.type (of_decide_eq_true h1), rfl, of_decide_eq_true h3, rv⟩, ru ρ H⟩
      · cases h
    | _ => simp [relK] at h
  | .loc n, w, h => by cases w <;> simp [relK] at h
theorem relKs_ok {K : PySem.W.Frag} : ∀ {us : List U} {ws : List Value}, relKs K us ws = true → ∃ vs, Vals vs ws ∧ ∀ ρ H, RelUs K ρ H us vs
  | [], ws, h => by
    cases ws with
    | nil => exact ⟨[], .nil, fun _ _ => RelUs.nil⟩
    | cons _ _ => simp [relKs] at h
  | u :: us, ws, h => by
    cases ws with
    | nil => simp [relKs] at h
    | cons w ws =>
      obtain ⟨h1, h2⟩ := ba (show (relK K u w && relKs K us ws) = true by simpa [relKs] using h)
      obtain ⟨v, r1, r2⟩ := relK_ok h1
      obtain ⟨vs, r3, r4⟩ := relKs_ok h2
      exact ⟨v :: vs, .cons r1 r3, fun ρ H => RelUs.cons (r2 ρ H) (r4 ρ H)⟩
end
def oexB (K : PySem.W.Frag) (C : Addr) : Bool := match K.lookup C with
  | some ⟨.type "type", _, .cls cd, sl⟩ => (match cd.mro, sl.toList with
    | .ref C' :: bm, [_, _, _, _, some (.builtin n), _] => C' == C && (n == "ValueError.__new__" && (!cd.hasDel && (cd.hasDict && HandSPX.refsVE bm)))
    | _, _ => false)
  | _ => false
theorem oexB_ok {K : PySem.W.Frag} {C : Addr} (q : oexB K C = true) : ∃ nm q N bs bm sn sub ab col dd k0 k1 k2 k3 k5, K.lookup C = some (excClassObj nm q C N bs bm true sn sub ab col dd k0 k1 k2 k3 k5 "ValueError.__new__") ∧ HandSPX.refsVE bm = true := by
  unfold oexB at q
  split at q
  · rename_i dd cd sl ho
    split at q
    · rename_i C' bm k0 k1 k2 k3 n k5 hm hs
      simp only [Bool.and_eq_true, beq_iff_eq, Bool.not_eq_true'] at q
      obtain ⟨hC, hn, hdel, hd, ht⟩ := q
      obtain ⟨nm, bs, mro, ns, qn, hd', sn, sub, ab, col, del⟩ := cd
      dsimp only at hm hdel hd
      subst hm hdel hd hC hn
      have hsl : sl = #[k0, k1, k2, k3, some (.builtin "ValueError.__new__"), k5] := by
        obtain ⟨l⟩ := sl
        simp only at hs
        rw [hs]
      subst hsl
      exact ⟨nm, qn, ns, bs, bm, sn, sub, ab, col, dd, k0, k1, k2, k3, k5, ho, ht⟩
    · cases q
  · cases q
def Top.nm (t : Top) : Names := ⟨t.fns, t.mets, t.clss, t.flds, t.xcs, t.bins, t.kws⟩
def fnB (t : Top) (K : PySem.W.Frag) (f : Str) : Bool := eqO (PySem.W.nsIn K mainGlobals f) (some (some (.ref (adOf t K f)))) && PySem.W.keepIn K (.ref (adOf t K f))
def metB (t : Top) (K : PySem.W.Frag) (q : Str × Str) : Bool :=
  eqO (PySem.W.findIn K (.ref (adOf t K q.1)) q.2) (some (some (.ref (adOf t K (dotN q.1 q.2))))) && (PySem.W.isFn K (.ref (adOf t K (dotN q.1 q.2))) && (PySem.W.keepIn K (.ref (adOf t K (dotN q.1 q.2))) &&
    (eqO (PySem.W.specialIn K (.ref (adOf t K (dotN q.1 q.2))) "__get__") (some (some (.builtin "function.__get__"))) && (decide (PySem.W.takesIn K (.ref (adOf t K (dotN q.1 q.2))) = some false) && (!PySem.W.copiedNames.contains q.2 && PySem.W.fnIn K (adOf t K (dotN q.1 q.2)))))))
def clsB (t : Top) (K : PySem.W.Frag) (C : Str) : Bool := eqO (PySem.W.nsIn K mainGlobals C) (some (some (.ref (adOf t K C)))) && (decide (adOf t K C = ga K C) && ((Fa.cls C).ok K && ((Fa.mkr C).ok K && decide (adOf t K (C ++ ".__init__") = ma K (ga K C) "__init__"))))
def xcB (t : Top) (K : PySem.W.Frag) (q : Str × Str) : Bool :=
  eqO (PySem.W.nsIn K mainGlobals q.1) (some (some (.ref (adOf t K q.1)))) && (oexB K (adOf t K q.1) && (eqO (PySem.W.findIn K (.ref (adOf t K q.1)) "__setattr__") (some (some (.builtin "object.__setattr__"))) && (decide (PySem.W.subIn K (.ref (adOf t K q.1)) (.type "BaseException") = some true) && (decide (PySem.W.typeIn K (.ref (adOf t K q.1)) = some (.type "type")) &&
    (eqO (PySem.W.findIn K (.ref (adOf t K q.1)) "__init__") (some (some (.ref (adOf t K (q.1 ++ ".__init__"))))) && (decide (PySem.W.typeIn K (.ref (adOf t K (q.1 ++ ".__init__"))) = some (.type "function")) && (PySem.W.keepIn K (.ref (adOf t K q.1)) && eqO (PySem.W.findIn K (.ref (adOf t K q.1)) q.2) (some none))))))))
def gloB (K : PySem.W.Frag) (q : Str × U) : Bool := match PySem.W.nsIn K mainGlobals q.1 with
  | some (some w) => relK K q.2 w
  | _ => false
/-- a dict of the top: its values -/
def gdiB (K : PySem.W.Frag) (q : Str × List (Str × U)) : Bool := eqO (PySem.W.nsIn K mainGlobals q.1) (some (some (.ref (ga K q.1)))) && q.2.all fun r => match PySem.W.nsIn K (ga K q.1) r.1 with
  | some (some w) => relK K r.2 w
  | _ => false
def Top.ok (t : Top) (ex : PySem.W.Frag → Bool) (K : PySem.W.Frag) : Bool :=
  t.fns.all (fnB t K) && (t.mets.all (metB t K) && (t.clss.all (clsB t K) && (t.flds.all (fun q => eqO (PySem.W.findIn K (.ref (adOf t K q.1)) q.2) (some none)) && (t.xcs.all (xcB t K) && (t.bins.all (fun x => eqO (PySem.W.nsIn K mainGlobals x) (some none)) && (t.glos.all (gloB K) && (t.gdis.all (gdiB K) && (ex K && t.defs.all fun d => d.2.ok K))))))))
/-! ### the Hook -/
abbrev AlO : Type := Bool × List FnW × List (Option (List (Option (Str × Int))))
def obsO (t : Top) (ex : PySem.W.Frag → Bool) (K : PySem.W.Frag) : AlO := (t.ok ex K, t.defs.map fun d => fnW K d.2.at_, t.gdis.map fun q => dicW K (ga K q.1))
def valO (t : Top) (w : World) : AlO := (true, t.defs.map fun d => d.2.val, t.gdis.map fun q => some (keysIn w.params (q.2.map (·.1))))
def obsOG (n : Nat) (t : Top) (ex : PySem.W.Frag → Bool) (g : Addr → Option Obj) : AlO := obsO t ex (frG g (asD g n))
def hookO (n : Nat) (t : Top) (ex : PySem.W.Frag → Bool) : PySem.W.Hook where
  α := AlO
  obs := fun s => obsOG n t ex s.heap.get?
  val := fun w => valO t w
  says := fun w h => ∃ K : PySem.W.Frag, K.In h ∧ obsO t ex K = valO t w
  of := fun _ _ e => ⟨_, frG_in, e⟩
  keeps := fun _ _ _ ⟨K, hK, c⟩ k => ⟨K, PySem.W.Frag.In.keeps hK k, c⟩
theorem obsOG_eq {n : Nat} {t : Top} {ex : PySem.W.Frag → Bool} {g : Addr → Option Obj} {s : Shared} (h : ∀ a, g a = s.heap.get? a) : obsOG n t ex g = (hookO n t ex).obs s := by
  have e : g = s.heap.get? := funext h
  rw [e]
  rfl
/-- what it says -/
structure Says (t : Top) (ex : PySem.W.Frag → Bool) (w : World) (K : PySem.W.Frag) : Prop where
  fns : ∀ f ∈ t.fns, fnB t K f = true
  mets : ∀ f ∈ t.mets, metB t K f = true
  clss : ∀ f ∈ t.clss, clsB t K f = true
  flds : ∀ q ∈ t.flds, PySem.W.findIn K (.ref (adOf t K q.1)) q.2 = some none
  xcs : ∀ f ∈ t.xcs, xcB t K f = true
  bins : ∀ x ∈ t.bins, PySem.W.nsIn K mainGlobals x = some none
  glos : ∀ q ∈ t.glos, gloB K q = true
  gdis : ∀ q ∈ t.gdis, gdiB K q = true
  gdik : ∀ q ∈ t.gdis, dicW K (ga K q.1) = some (keysIn w.params (q.2.map (·.1)))
  more : ex K = true
  defs : ∀ f d, t.defs.lookup f = some d → ∃ fd, FunD K d.name d.qual d.params d.body d.scope (d.dvs K) (d.kws K) (adOf t K f) fd
theorem lookup_mem' {α : Type} {f : Str} {a : α} : ∀ {l : List (Str × α)}, l.lookup f = some a → (f, a) ∈ l
  | [], h => by simp at h
  | (g, b) :: l, h => by
    simp only [List.lookup_cons] at h
    split at h
    · rename_i hg
      cases h
      have e : f = g := by simpa using hg
      subst e
      exact List.mem_cons_self
    · exact List.mem_cons_of_mem _ (lookup_mem' h)
theorem map_all {α β : Type} {f g : α → β} : ∀ {l : List α}, l.map f = l.map g → ∀ q ∈ l, f q = g q
  | a :: l, h, q, m => by
    simp only [List.map_cons, List.cons.injEq] at h
    rcases List.mem_cons.mp m with rfl | m
    · exact h.1
    · exact map_all h.2 q m
theorem says_of {t : Top} {ex : PySem.W.Frag → Bool} {w : World} {K : PySem.W.Frag} (e : obsO t ex K = valO t w) : Says t ex w K := by
  have e1 : t.ok ex K = true := congrArg (fun z : AlO => z.1) e
  have e2 : (t.defs.map fun d => fnW K d.2.at_) = t.defs.map fun d => d.2.val := congrArg (fun z : AlO => z.2.1) e
  have e9 : (t.gdis.map fun q => dicW K (ga K q.1)) = t.gdis.map fun q => some (keysIn w.params (q.2.map (·.1))) := congrArg (fun z : AlO => z.2.2) e
  obtain ⟨h1, e1⟩ := ba e1
  obtain ⟨h2, e1⟩ := ba e1
  obtain ⟨h3, e1⟩ := ba e1
  obtain ⟨h4, e1⟩ := ba e1
  obtain ⟨h5, e1⟩ := ba e1
  obtain ⟨h6, e1⟩ := ba e1
  obtain ⟨h7, e1⟩ := ba e1
  obtain ⟨h7b, e1⟩ := ba e1
  obtain ⟨h8, h9⟩ := ba e1
  refine ⟨List.all_eq_true.mp h1, List.all_eq_true.mp h2, List.all_eq_true.mp h3, fun q hq => eqO_ok (List.all_eq_true.mp h4 q hq), List.all_eq_true.mp h5, fun x hx => eqO_ok (List.all_eq_true.mp h6 x hx), List.all_eq_true.mp h7, List.all_eq_true.mp h7b, map_all e9, h8, fun f d hd => ?_⟩
  have hm := lookup_mem' hd
  obtain ⟨i, hi, ei⟩ := List.mem_iff_getElem.mp hm
  have e3 : (t.defs.map fun d => fnW K d.2.at_)[i]? = (t.defs.map fun d => d.2.val)[i]? := by rw [e2]
  rw [List.getElem?_map, List.getElem?_map, List.getElem?_eq_getElem hi, ei] at e3
  have e4 : fnW K d.at_ = d.val := Option.some.inj e3
  have e5 : adOf t K f = fAd K d.at_ := by
    unfold adOf
    rw [hd]
  rw [e5]
  exact DefD.funD e4 (List.all_eq_true.mp h9 _ hm)
section
variable {t : Top} {ex : PySem.W.Frag → Bool} {w : World} {K : PySem.W.Frag} {h : Heap} {mg : Str → Option Value} {p : Pg}
theorem sta_of (X : K.In h) (G : h.Ns mainGlobals mg) (c : Says t ex w K) (hg : p.glo = fun x => t.glos.lookup x) : Sta p t.nm K mg (adOf t K) where
  glo := fun x u hx => by
    rw [hg] at hx
    have q := c.glos _ (lookup_mem' hx)
    unfold gloB at q
    split at q
    · rename_i w hw
      obtain ⟨v, r, ru⟩ := relK_ok q
      exact ⟨w, v, PySem.W.mg_of X G hw, r, ru⟩
    · cases q
  fn := fun f hf => by
    obtain ⟨h1, h2⟩ := ba (c.fns f hf)
    exact ⟨PySem.W.mg_of X G (eqO_ok h1), h2⟩
  met := fun C m hm => by
    obtain ⟨h1, q⟩ := ba (c.mets _ hm)
    obtain ⟨h2, q⟩ := ba q
    obtain ⟨h3, q⟩ := ba q
    obtain ⟨h4, q⟩ := ba q
    obtain ⟨h5, q⟩ := ba q
    obtain ⟨h6, h7⟩ := ba q
    exact ⟨⟨eqO_ok h1, h2, h3⟩, eqO_ok h4, of_decide_eq_true h5, by simpa using h6, h7⟩
  cls := fun C hC => by
    obtain ⟨h1, q⟩ := ba (c.clss _ hC)
    obtain ⟨h2, q⟩ := ba q
    obtain ⟨h3, q⟩ := ba q
    obtain ⟨h4, h5⟩ := ba q
    have e1 : adOf t K C = ga K C := of_decide_eq_true h2
    have e2 : adOf t K (C ++ ".__init__") = ma K (ga K C) "__init__" := of_decide_eq_true h5
    refine ⟨PySem.W.mg_of X G (eqO_ok h1), ?_, ?_⟩
    · rw [e1]; exact cls_ok h3
    · rw [e1, e2]; exact mkr_ok h4
  fld := fun C f hf => c.flds _ hf
  bin := fun x hx => PySem.W.mg_none_of X G (c.bins x hx)
theorem dicW_keys {K : PySem.W.Frag} {a : Addr} {l : List (Option (Str × Int))} {es : Array DictEntry} {n : Nat} (h : dicW K a = some l) (hl : K.lookup a = some ⟨.type "dict", none, .dict es n, #[]⟩) : es.toList.map keyOf = l := by
  unfold dicW at h
  rw [hl] at h
  simp only at h
  split at h
  · exact Option.some.inj h
  · cases h
theorem ns_miss {K : PySem.W.Frag} {w : World} {a : Addr} {ks : List Str} {es : Array DictEntry} {n : Nat} {z : Str} (hl : K.lookup a = some ⟨.type "dict", none, .dict es n, #[]⟩) (hk : es.toList.map keyOf = keysIn w.params ks) (hz : z ∉ ks) : PySem.W.nsIn K a z = some none := by
  have each : ∀ e ∈ es.toList, ∃ x t, e.key = .str x t ∧ x ∈ ks := fun e he => by
    have h1 : keyOf e ∈ keysIn w.params ks := by rw [← hk]; exact List.mem_map_of_mem he
    unfold keysIn at h1
    obtain ⟨k, hk1, hk2⟩ := List.mem_map.mp h1
    unfold keyOf at hk2
    split at hk2
    · rename_i x t q
      have h4 := Option.some.inj hk2
      obtain ⟨h5, h6⟩ := Prod.mk.inj h4
      exact ⟨x, t, q, by rw [← h5]; exact hk1⟩
    · cases hk2
  have f1 : es.toList.find? (·.key.isStr z) = none := by
    rw [List.find?_eq_none]
    intro e he hs
    obtain ⟨x, t, q, hx⟩ := each e he
    rw [q] at hs
    have e3 : x = z := by
      have := hs
      simp [Value.isStr] at this
      exact this
    rw [e3] at hx
    exact hz hx
  have f2 : es.toList.any (·.refKey) = false := by
    rw [List.any_eq_false]
    intro e he
    obtain ⟨x, t, q, hx⟩ := each e he
    unfold DictEntry.refKey
    rw [q]
    exact Bool.false_ne_true
  unfold PySem.W.nsIn
  rw [hl]
  simp only [f1, f2]
  rfl
theorem lookup_none_keys {α : Type} {z : Str} : ∀ {l : List (Str × α)}, l.lookup z = none → z ∉ l.map (·.1)
  | [], _ => by simp
  | (g, b) :: l, h => by
    simp only [List.lookup_cons] at h
    split at h
    · cases h
    · rename_i hg
      simp only [List.map_cons, List.mem_cons, not_or]
      exact ⟨fun e => by rw [e] at hg; simp at hg, lookup_none_keys h⟩
theorem gd_of (X : K.In h) (G : h.Ns mainGlobals mg) (c : Says t ex w K) (hg : p.gd = fun x => t.gdis.lookup x) : GdOk p K mg w := fun x kvs hx => by
  rw [hg] at hx
  have hm := lookup_mem' hx
  obtain ⟨q1, q2⟩ := ba (c.gdis _ hm)
  have hd := c.gdik _ hm
  obtain ⟨es, n, kd⟩ := dicW_ok hd
  refine ⟨ga K x, es, n, PySem.W.mg_of X G (eqO_ok q1), kd, fun z u hz => ?_, fun z hz => ns_miss kd.at_ (dicW_keys hd kd.at_) (lookup_none_keys hz)⟩
  have q3 := List.all_eq_true.mp q2 _ (lookup_mem' hz)
  dsimp only at q3
  split at q3
  · rename_i u0 hu
    obtain ⟨v, rv, ru⟩ := relK_ok q3
    exact ⟨u0, v, hu, rv, ru⟩
  · cases q3
/-- a def without defaults -/
theorem fun_of {st : Stmt} {x qual : Str} {f : Addr} {fd : FuncData} (F : FunD K x qual (defArgs st) (defBody st) (defScope st) [] [] f fd) : L2.Fun K x qual st f fd := by
  obtain ⟨oc, od, dV, kV, doc, pm, an, cdv, ct, osl, rfl, lk, hcd, hd, _⟩ := F.ex
  have e : dV = .none := by
    rcases hd with h | h
    · exact h.2
    · exact absurd rfl h.1
  subst e
  exact ⟨⟨oc, od, kV, doc, pm, an, cdv, ct, osl, rfl, lk, hcd⟩, F.kp⟩
/-- an exception's __init__: self.f = f -/
theorem xc_of {P : Program} {base : Heap} {C f par : Str} {st : Stmt} {fd : FuncData} {p1 p2 p3 p4 : Pos} (X : K.In h) (G : h.Ns mainGlobals mg) (c : Says t ex w K) (hm : (C, f) ∈ t.xcs) (F : L2.Fun K "__init__" (C ++ ".__init__") st (adOf t K (C ++ ".__init__")) fd) (hb : Binds K fd ["self", par] [])
    (S : FnScope ["self", par] ["self", par] (defScope st)) (eb : defBody st = [.Assign [.Attribute (.Name "self" p1) f p2] (.Name par p3) p4])
    (v0 : (defScope st).names.lookup ("self" : Str) = some .local) (v1 : (defScope st).names.lookup par = some .local) (hd : (par == ("__debug__" : Str)) = false) (hcd : (par == ("__classdict__" : Str)) = false)
    (hs : ∀ env : PySem.Env, swapsWith (.Name par p3) (some (.Attribute (.Name "self" p1) f p2)) p4.line env = pure false) : XcOk P w K mg base (adOf t K) C f := by
  obtain ⟨h1, q⟩ := ba (c.xcs _ hm)
  obtain ⟨h2, q⟩ := ba q
  obtain ⟨h3, q⟩ := ba q
  obtain ⟨h4, q⟩ := ba q
  obtain ⟨h5, q⟩ := ba q
  obtain ⟨h6, q⟩ := ba q
  obtain ⟨h7, q⟩ := ba q
  obtain ⟨h8, h9⟩ := ba q
  have T : OexC K (adOf t K C) := ⟨oexB_ok h2, eqO_ok h3, of_decide_eq_true h4, of_decide_eq_true h5, h8⟩
  refine ⟨PySem.W.mg_of X G (eqO_ok h1), T, eqO_ok h6, of_decide_eq_true h7, ⟨fd, ["self", par], ?_, hb⟩, h8⟩
  refine F.okX (k := 0) S (fun vs H Q E z => ?_) fun cdv A outer s H vs Q E hr z => ?_
  · obtain ⟨a, y, rfl, _⟩ := z
    rfl
  · obtain ⟨a, y, rfl, e, z⟩ := z
    refine ⟨_, by rw [eb]; exact pss_one (ps_ost (f := f) (pe_var (i := 0) rfl (.inl v0)) (pe_var (i := 1) rfl (.inl v1) hd hcd) (hs _)), ?_⟩
    exact ⟨y, rfl, .ref a, rfl, a, _, rfl, T, eqO_ok h9, .inl ⟨e, fun dx hdx hne => z dx hdx hne⟩⟩
end
end Oz
namespace Oz
open PySem PySem.Spec PyProof.Rows L2 He
/-! ### the law -/
def spLaw (K : PySem.W.Frag) : Sp := fun vs H Q _ => ∃ (a : Addr) (ns : List Int), vs = [.ref a] ∧ Only H ∧ SqL K H a (ns.map V.int) ∧ ns.length ≤ 63 ∧ ∀ H', Q (.bl true) H'
theorem froL_of {K : PySem.W.Frag} {H : Hp} {a : Addr} {vs : List V} (h : SqL K H a vs) (o : Only H) : FroL K H a vs := by
  rcases h with (h | h) | h
  · rcases o a with z | ⟨ob, xs, z⟩
    · rw [h] at z; cases z
    · rw [h] at z; cases z
  · exact .inl h
  · exact .inr h
theorem rel_ints {K : PySem.W.Frag} {ρ : List Addr} {H : Hp} : ∀ ns : List Int, RelUs K ρ H (ns.map U.int) (ns.map V.int)
  | [] => RelUs.nil
  | _ :: ns => RelUs.cons relInt (rel_ints ns)
section
variable {P : Program} {w : World} {K : PySem.W.Frag} {mg : Str → Option Value} {base : Heap} {p : Pg} {nm : Names} {ad : Str → Addr}
/-- a promise at one place -/
def FnAt (A0 : Around) (P : Program) (w : World) (K : PySem.W.Frag) (mg : Str → Option Value) (base : Heap) (CX : CXT) (f : Addr) (fd : FuncData) (ps : List Str) (sp : Sp) : Prop :=
  ∀ outer s H args us vs Q E, Env0 P w K mg base A0 outer s H → BindsTo s fd args (ps.zip us) → Vals vs us → sp vs H Q E → codeAny (model P w) A0 (.call (.ref f) args) (CR CX outer P w H s Q E) s
theorem fn_law {sn x qual : Str} {st : Stmt} {f : Addr} {fd : FuncData} {N : List Str} {body : Sts} (F : L2.Fun K x qual st f fd) (S : FnScope N [sn] (defScope st)) (A : AllFn P w K mg base p nm ad 677)
    (D : ∀ (X : Cx) (cdv : Value) (A : Around) (outer : List PySem.Env) (s : Shared) (H : Hp) (E : XK), X = cxOf (L2.CX P w) P w K mg base N qual (defScope st) f cdv A outer s H E → Ok X p nm ad 677 E → PSs X (defBody st) (tB X (p.cal 677) E body))
    (law : ∀ ns : List Int, ns.length ≤ 63 → ∃ S', (⟨1, N.length, false, body⟩ : Df).run (p.cal 677) [.loc 0] [.fro (ns.map U.int)] = .ok (.bl true) S') : FnAt callerA P w K mg base (L2.CX P w) f fd [sn] (spLaw K) := by
  obtain ⟨oc, od, kV, doc, pm, an, cdv, ct, osl, rfl, lk, hcd⟩ := F.ex
  intro outer s H args us vs Q E e0 hb r h
  · obtain ⟨a, ns, rfl, ho, hS, hl, q⟩ := h
    have w0 : Wok K mg [a] [.fro (ns.map U.int)] H := by
      refine ⟨rfl, fun m n b c c' h1 h2 h3 h4 g1 g2 => ?_, fun n b c h1 h2 => ?_⟩
      · cases m with
        | zero =>
          simp at h3
          subst h3
          cases g1
        | succ m => simp at h3
      · cases n with
        | zero =>
          simp at h1 h2
          subst h1 h2
          exact ⟨_, froL_of hS ho, rel_ints ns⟩
        | succ n => simp at h1
    obtain ⟨S', e⟩ := law ns hl
    refine run_body (k := 679) lk hcd S rm_caller e0 (G := fun xs H2 => xs = [.ref a] ∧ H2 = H) (fun A' Ex Q' z => hb _ _ _ _ (z s H [.ref a] us e0 Un.refl rfl (fun _ _ q => q) r rfl ⟨rfl, rfl⟩)) fun s2 H2 xs ⟨hx, hH⟩ hr2 => ?_
    subst hx hH
    refine ⟨_, D _ cdv callerA outer s2 H2 E rfl (A.ok hr2), [a], [.fro (ns.map U.int)], startU N.length [.loc 0], w0, env_start (RelUs.cons (relLoc rfl) RelUs.nil), fin_read ?_⟩
    have e' : (exs (p.cal 677) body (startU N.length [.loc 0]) [.fro (ns.map U.int)]).fin = .ok (.bl true) S' := e
    rw [e']
    intro ρ' H' b x w' rb
    cases rb.bl
    exact q H'
end
end Oz

end

section
set_option maxHeartbeats 4000000
/-! OzM: max(xs, default=k). -/
namespace Oz
open PySem PySem.Spec PyProof.Rows L2
section
variable {prog : Program} {w : World} {A : Around} {R : Result → Shared → Prop} {I : Addr} {fp wr : List Addr} {G : Array GenState → Array GenState → Prop} {n : Nat} {P : Nat → Value → Prop} {St : Nat → Shared → Prop}
/-- what the list of the best holds after i items -/
def BestAt (bt : Nat → Nat → Bool) (P : Nat → Value → Prop) (i : Nat) (arr : Array Value) : Prop := (i = 0 ∧ arr = #[]) ∨ ∃ j vb, i = j + 1 ∧ P (argBest bt j) vb ∧ arr = #[vb, vb]
theorem maxd_go (Wk : WalksS prog w A.in1 I fp wr G n P St) (bt : Nat → Nat → Bool) (hcmp : CmpOf prog w A.in1 .Gt P bt) (S : Addr) (hSf : S ∉ fp) (d : Value) : ∀ (k i : Nat) (s : Shared) (arr : Array Value) (c : Nat), n - i = k → i ≤ n → St i s → BestAt bt P i arr →
    s.heap.get? S = some { cls := .type "list", dict := none, data := .seq arr c, slots := #[] } → (n = 0 → ∀ s', Moved (S :: wr) G s s' → R (.ok (.ret d)) s') →
    (0 < n → ∀ v s', P (argBest bt (n - 1)) v → Moved (S :: wr) G s s' → R (.ok (.ret v)) s') → codeAny (model prog w) A (.builtin "max.loop" ⟨[.ref I, .none, .ref S], [(Str.ofString "default", d)]⟩) R s := by
  have out : S ∉ wr := fun q => hSf (Wk.sub _ q)
  have sub' : ∀ b ∈ wr, b ∈ S :: wr := fun b hb => List.mem_cons_of_mem _ hb
  have nm : (toString "max" ++ toString ".loop" : String) = "max.loop" := by decide
  have ne' : ∀ {b : Addr}, b ∉ S :: wr → S ≠ b := fun hb z => hb (by rw [z]; exact List.mem_cons_self)
  intro k
  induction k with
  | zero =>
    intro i s arr c hk hi hst hB hS h0 h1
    have e : i = n := by omega
    subst e
    refine codeAny_builtin F.entry_max_loop ?_
    rw [Around.under_plainId F.plain_max_loop _]
    refine wpAny_bind (wpAny_seqItems hS rfl ?_)
    refine wpAny_bind (wpAny_tryCatch (Wk.done s _ _ hst fun s1 m1 => ?_))
    have hS1 := m1.heap S _ out hS
    rcases hB with ⟨z, rfl⟩ | ⟨j, vb, z, hP, rfl⟩
    · exact wpAny_bind (wpAny_rule (wpAny_pure (h0 z s1 (m1.mono sub'))))
    · show wpAny (model prog w) A.in1 (updateSeq S (fun _ => #[]) >>= _) _ _ _
      refine wpAny_bind (wpAny_updateSeq hS1 rfl (wpAny_bind (wpAny_letGo (wpAny_pure ?_))))
      refine h1 (by omega) vb _ (by rw [z]; exact hP) ((m1.mono sub').then_heap (tk := s1.toks) (Nat.le_refl _) fun b o hb q => ?_)
      exact (Heap.get?_update_other _ _ (ne' hb)).trans q
  | succ k ih =>
    intro i s arr c hk hi hst hB hS h0 h1
    have lt : i < n := by omega
    refine codeAny_builtin F.entry_max_loop ?_
    rw [Around.under_plainId F.plain_max_loop _]
    refine wpAny_bind (wpAny_seqItems hS rfl ?_)
    refine wpAny_bind (wpAny_tryCatch (Wk.item i s _ _ lt hst fun v s1 hv st1 m1 => ?_))
    have hS1 := m1.heap S _ out hS
    rcases hB with ⟨z, rfl⟩ | ⟨j, vb, z, hP, rfl⟩
    · subst z
      show wpAny (model prog w) A.in1 (updateSeq S (fun _ => #[v, v]) >>= _) _ _ _
      refine wpAny_bind (wpAny_updateSeq hS1 rfl ?_)
      rw [nm]
      refine wpAny_pure ⟨plainId_quiet F.plain_max_loop _, ih (0 + 1) _ #[v, v] _ (by omega) lt (Wk.frame _ s1 _ s1.toks st1 (Nat.le_refl _) fun b hb o q => ?_) (.inr ⟨0, v, rfl, hv, rfl⟩) (Heap.get?_update_self _ hS1 rfl) (fun z => by omega) fun _ v2 s2 hv2 m2 => ?_⟩
      · exact (Heap.get?_update_other _ _ (fun z : S = b => hSf (by rw [z]; exact hb))).trans q
      · exact h1 (by omega) v2 s2 hv2 (Moved.trans Wk.gtrans ((m1.mono sub').then_heap (tk := s1.toks) (Nat.le_refl _) fun b o hb q => (Heap.get?_update_other _ _ (ne' hb)).trans q) m2)
    · subst z
      show wpAny (model prog w) A.in1 (tryCatch (holding [v, v] (richCompare .Gt v vb >>= _)) _ >>= _) _ _ _
      refine wpAny_bind (wpAny_tryCatch (wpAny_holding (wpAny_bind (hcmp (j + 1) (argBest bt j) v vb _ _ _ hv hP ?_))))
      refine wpAny_bind (wpAny_holding (wpAny_truthy_bool ?_))
      refine wpAny_bind (wpAny_letGo (wpAny_pure ?_))
      cases hb : bt (j + 1) (argBest bt j) with
      | true =>
        simp only [if_true]
        refine wpAny_bind ?_
        refine wpAny_updateSeq hS1 rfl (wpAny_bind (wpAny_letGo ?_))
        rw [nm]
        refine wpAny_pure ⟨plainId_quiet F.plain_max_loop _, ih (j + 1 + 1) _ #[v, v] _ (by omega) lt (Wk.frame _ s1 _ s1.toks st1 (Nat.le_refl _) fun b hb o q => ?_) (.inr ⟨j + 1, v, rfl, by simp only [argBest, hb, if_true]; exact hv, rfl⟩) (Heap.get?_update_self _ hS1 rfl) (fun z => by omega) fun _ v2 s2 hv2 m2 => ?_⟩
        · exact (Heap.get?_update_other _ _ (fun z : S = b => hSf (by rw [z]; exact hb))).trans q
        · exact h1 (by omega) v2 s2 hv2 (Moved.trans Wk.gtrans ((m1.mono sub').then_heap (tk := s1.toks) (Nat.le_refl _) fun b o hb q => (Heap.get?_update_other _ _ (ne' hb)).trans q) m2)
      | false =>
        simp only [Bool.false_eq_true, if_false]
        refine wpAny_bind (wpAny_letGo ?_)
        rw [nm]
        refine wpAny_pure ⟨plainId_quiet F.plain_max_loop _, ih (j + 1 + 1) _ #[vb, vb] c (by omega) lt st1 (.inr ⟨j + 1, vb, rfl, by simp only [argBest, hb, Bool.false_eq_true, if_false]; exact hP, rfl⟩) hS1 (fun z => by omega) fun _ v2 s2 hv2 m2 => ?_⟩
        exact h1 (by omega) v2 s2 hv2 (Moved.trans Wk.gtrans (m1.mono sub') m2)
end
section
variable {prog : Program} {w : World} {A : Around} {E : Value → Shared → Prop} {s : Shared} {l : Addr} {its : List Value} {ns : List Int} {Q : Value → Shared → Prop}
theorem args_maxd (a d : Value) : argsOk "max" ⟨[a], [(Str.ofString "default", d)]⟩ := by unfold argsOk; kernel_rfl
theorem call_tree_kw {id : String} {b : Builtin} {args : List Value} {kw : List (Str × Value)} (hk : builtinKind id = none) (hp : plainId id = true) (hb : entryFor table id = some b) (ha : argsOk id ⟨args, kw⟩)
    (hc : wpAny (model prog w) A.in1 (b ⟨args, kw⟩) (fun fin s' => match fin with
      | .done f => (match f with | .ret v => Q v s' | _ => False)
      | .again c' => c'.quiet = true ∧ codeAny (model prog w) A c' (fun r s' => match r with | .ok (.ret v) => Q v s' | .ok _ => False | .error e => E e s') s') E s) : wpAny (model prog w) A (call (.builtin id) args kw) Q E s := by
  have hc' : wpAny (model prog w) A.in1 (b ⟨args, kw⟩) (fun fin s' => match fin with
      | .done f => (match (Except.ok f : Result) with | .ok (.ret v) => Q v s' | .ok _ => False | .error e => E e s')
      | .again c' => c'.quiet = true ∧ codeAny (model prog w) A c' (fun r s' => match r with | .ok (.ret v) => Q v s' | .ok _ => False | .error e => E e s') s') E s := wpAny_mono hc (fun fin s' z => by
    cases fin with
    | done f => cases f <;> exact z
    | again c => exact z) fun _ _ z => z
  refine wpAny_call (codeAny_call_builtin hp hb ?_)
  simp only [checkBuiltinCall, hk]
  cases sg : Manifest.signature? id with
  | none => exact wpAny_pure hc'
  | some sig =>
    have h2 : Bind.checkArgs id sig ⟨args, kw⟩ = pure () := by simpa only [argsOk, sg] using ha
    simp only [h2]
    exact wpAny_pure hc'
theorem maxd_raw {k : Int} {t0 : Tok} (hh : A.handled = none) (hl : s.heap.IsList l its.toArray) (hi : IntsAre its ns)
    (h : ∀ h' tk m t', (∀ b o, s.heap.get? b = some o → h'.get? b = some o) → (ns = [] → m = k) → (ns ≠ [] → m ∈ ns ∧ ∀ a, a ∈ ns → a ≤ m) → Q (.int m t') { s with heap := h', toks := tk }) :
    wpAny (model prog w) A (call (.builtin "max") [.ref l] [(Str.ofString "default", .int k t0)]) Q E s := by
  obtain ⟨xs, e⟩ := hi.allInts.items
  have hn : ns = xs.toList.map (·.1) := by
    rw [← nums_intItems, ← e]
    exact hi.numsOf.symm
  rw [e] at hl
  refine call_tree_kw F.kind_max F.plain_max F.entry_max (args_maxd _ _) ?_
  refine wpAny_bind (wpAny_of_eq (show Builtin.Builtins.bindParams "max" ["key", "default"] 0 ⟨[], [(Str.ofString "default", .int k t0)]⟩ = pure [none, some (.int k t0)] from rfl) ?_)
  refine wpAny_bind (wpAny_pure ?_)
  refine wpAny_bind (iter_intList hl fun s2 e2 st hfp hlI => ?_)
  subst e2
  refine wpAny_bind (wpAny_newObj_type ?_)
  have Wk := Walks.toS (Walks.list (prog := prog) (w := w) (A := A.in1) hh _ l hlI (intItems xs))
  have nm : (toString "max" ++ toString ".loop" : String) = "max.loop" := by decide
  rw [nm]
  refine wpAny_pure ⟨plainId_quiet F.plain_max_loop _, ?_⟩
  have same : ∀ {wr' : List Addr} {s1 s' : Shared}, Moved wr' (fun a b => b = a) s1 s' → s' = { s1 with heap := s'.heap, toks := s'.toks } := fun {wr' s1 s'} m => by
    obtain ⟨_, g, dr, os, _⟩ := m
    cases s'
    cases s1
    simp only at g dr os
    subst g dr os
    rfl
  have keep : ∀ {s' : Shared} (hm : ∀ b o, (s.heap.push { cls := .type "list_iterator", data := .fields #[.ref l, .int 0 0] }).get? b = some o → b ∉ ((s.heap.push { cls := .type "list_iterator", data := .fields #[.ref l, .int 0 0] }).objs.size :: [s.heap.objs.size]) → s'.heap.get? b = some o), ∀ b o, s.heap.get? b = some o → s'.heap.get? b = some o := fun {s'} hm b o q => by
    have lt : b < s.heap.objs.size := Heap.lt_size q
    refine hm b o (Heap.get?_push_of_some _ q) fun hb => ?_
    rcases List.mem_cons.mp hb with z | hb
    · rw [z, Heap.size_push] at lt
      exact Nat.lt_irrefl _ (Nat.lt_trans (Nat.lt_succ_self _) lt)
    · have z : b = s.heap.objs.size := by simpa using hb
      rw [z] at lt
      exact Nat.lt_irrefl _ lt
  refine maxd_go Wk _ (CmpOf.ints_gt (numAt xs) (fun _ _ => intItems_at)) _ (fun hm => Nat.lt_irrefl _ (hfp _ hm)) (.int k t0) _ 0 _ #[] _ rfl (Nat.zero_le _) (Wk.frame 0 _ _ _ st (Nat.le_refl _) fun b hb o q => Heap.get?_push_of_some _ q) (.inl ⟨rfl, rfl⟩) (Heap.get?_push_size _ rfl) (fun z s' m => ?_) fun z v s' hv m => ?_
  · have e0 : ns = [] := by
      rw [hn]
      have : xs.size = 0 := by simpa [intItems] using z
      simp [Array.size_eq_zero_iff.mp this]
    show Q (.int k t0) s'
    rw [same m]
    exact h s'.heap s'.toks k t0 (keep fun b o q hb => m.heap b o hb (Heap.get?_push_of_some _ q)) (fun _ => rfl) fun q => absurd e0 q
  · have hz : 0 < xs.size := by simpa [intItems] using z
    have es : (intItems xs).size - 1 = xs.size - 1 := by simp [intItems]
    have hv' : (intItems xs)[argBest (fun i j => decide (numAt xs i > numAt xs j)) (xs.size - 1)]? = some v := by
      rw [← es]
      exact hv
    obtain ⟨t, rfl⟩ := intItems_at hv'
    show Q (.int _ t) s'
    rw [same m]
    refine h s'.heap s'.toks _ t (keep fun b o q hb => m.heap b o hb (Heap.get?_push_of_some _ q)) (fun q => ?_) fun _ => ?_
    · rw [hn] at q
      have : xs.toList = [] := by simpa using q
      have : xs.size = 0 := by rw [← Array.length_toList, this]; rfl
      omega
    · obtain ⟨h1, h2⟩ := argBest_gt (numAt xs) (xs.size - 1)
      rw [hn]
      refine ⟨?_, fun a ha => ?_⟩
      · rw [numAt_eq]; exact PySem.getD_mem (by rw [List.length_map, Array.length_toList]; omega)
      · obtain ⟨j, hj, rfl⟩ := mem_getD ha
        rw [List.length_map, Array.length_toList] at hj
        rw [← numAt_eq]; exact h2 j (by omega)
end
section
variable {X : Cx} {p : Pg} {nm : Names} {ad : Str → Addr} {d : Nat} {W : XK} {Φ : Cal} {e : Expr} {te : E} {pos : Pos}
/-- max(xs, default=k) -/
def rMaxd (X : Cx) (W : XK) : List V → List V → Hp → VK → Prop := fun vs zs H Q => ∃ v k ρ S a, vs = [v] ∧ zs = [.int k] ∧ Wok X.K X.mg ρ S H ∧ RelU X.K ρ H a v ∧ Post X.mg X.K (RelU X.K) W ρ H (maxdF [a, .int k] S) Q
theorem cf_maxd (hc : X.calm = true) : CallRK X (.builtin "max") [Str.ofString "default"] (rMaxd X W) := by
  rintro pins s σ H xs zs us ws Q I r1 r2 ⟨v, k, ρ, S, a, rfl, rfl, wk, ra, h⟩
  unfold maxdF at h
  split at h
  · rename_i a' k' e
    cases e
    split at h
    · rename_i ns hns
      rw [Option.bind_eq_some_iff] at hns
      obtain ⟨ys, hx, hi⟩ := hns
      obtain ⟨p, vs, rfl, hq, hr⟩ := wk.list hx ra
      have e2 := hr.ints hi
      subst e2
      obtain ⟨its, rv, hl, _⟩ := I.list hq
      rw [Vals.ref1 r1]
      obtain ⟨z, zs', rfl, rz⟩ : ∃ z zs', ws = z :: zs' ∧ (∃ t, z = Value.int k t) ∧ zs' = [] := by
        cases r2 with
        | cons r rr =>
          cases rr
          exact ⟨_, [], rfl, r, rfl⟩
      obtain ⟨⟨t0, rfl⟩, rfl⟩ := rz
      refine maxd_raw (I.ok.hd hc) hl.isList rv.ints fun h' tk m t' hk h0 h1 => ⟨.int _, H, I.kept hk, ⟨_, rfl⟩, ?_⟩
      have em : m = if 0 < ns.length then maxI ns else k := by
        cases ns with
        | nil => exact h0 rfl
        | cons n ns =>
          rw [if_pos (by simp)]
          obtain ⟨m1, m2⟩ := h1 (by simp)
          have e3 := maxI_ge m1
          have e4 := m2 _ (maxI_mem (ns := n :: ns) (by simp))
          omega
      rw [em]
      exact h.here wk relInt
    · cases h
  · rename_i hx
    exact (hx _ _ rfl).elim
theorem s_maxd (O : Ok X p nm ad d W) {k : Int} {tk : Nat} {px kp kc : Pos} (ha : PE X e (tE X Φ W te)) (hg : Gl X "max" := by rfl) (hm : ("max" : Str) ∈ nm.bins := by decide +kernel)
    (hs : starEach [e] X.env = (false, eval e X.env) :: starEach [] X.env := by rfl) (he : backTo pos (starEach [e] X.env) = (false, eval e X.env) :: backTo pos (starEach [] X.env) := by rfl) (hp : (backTo pos (starEach [e] X.env)).any (·.1) = false := by rfl)
    (hks : (backToKw pos (keywordEach [⟨some "default", .Constant (.int k) tk kc, kp⟩] X.env)).filterMap (·.1) = [Str.ofString "default"] := by rfl) (hall : (backToKw pos (keywordEach [⟨some "default", .Constant (.int k) tk kc, kp⟩] X.env)).all (·.1.isSome) = true := by rfl)
    (hno : (backToKw pos (keywordEach [⟨some "default", .Constant (.int k) tk kc, kp⟩] X.env)).any (·.1.isNone) = false := by rfl) :
    PE X (.Call (.Name "max" px) [e] [⟨some "default", .Constant (.int k) tk kc, kp⟩] pos) (tE X Φ W (.bf .maxd (.cons te (.cons (.k (.int k)) .nil)))) :=
  PEw (pe_callBK (cf_maxd (W := W) O.calm) hg (O.sta.bin _ hm) boot_max (pa_cons ha pa_nil hs) (pk_cons pe_int pk_nil) (by decide) (by decide) he hp hall hno hks) fun σ H Q ⟨ρ, S, env, w, eo, h⟩ => by
    rw [ev, evs] at h
    rw [bind_assoc] at h
    refine ⟨ρ, S, env, w, eo, (Post.bind h).imp fun x H1 ⟨ρ1, S1, u, e1, w1, r1, h1⟩ => ?_⟩
    exact ⟨x, k, ρ1, S1, u, rfl, rfl, w1, r1, h1⟩
end
end Oz

end

section
set_option maxHeartbeats 4000000
/-! OzX: a try whose suite asks the caught exception. -/
namespace Oz
open PySem PySem.Spec PyProof.Rows L2 He
/-- what a caught class must say -/
structure XiC (K : PySem.W.Frag) (C : Addr) : Prop where
  xf : XfC K C
  cl : (PySem.W.clsIn K C).isSome = true
  ha : PySem.W.findIn K (.ref C) "__class__" = some (some (.builtin "object.__class__"))
  hn : PySem.W.specialIn K (.builtin "object.__class__") "__get__" = some (some (.builtin "getset_descriptor.__get__"))
  ht : PySem.W.takesIn K (.builtin "object.__class__") = some true
  hm : PySem.W.mroIn K C (.type "object") = some true
def xiB (K : PySem.W.Frag) (C : Addr) : Bool := xfB K C && ((PySem.W.clsIn K C).isSome && (eqO (PySem.W.findIn K (.ref C) "__class__") (some (some (.builtin "object.__class__"))) &&
  (eqO (PySem.W.specialIn K (.builtin "object.__class__") "__get__") (some (some (.builtin "getset_descriptor.__get__"))) && (decide (PySem.W.takesIn K (.builtin "object.__class__") = some true) && decide (PySem.W.mroIn K C (.type "object") = some true)))))
theorem xiB_ok {K : PySem.W.Frag} {C : Addr} (h : xiB K C = true) : XiC K C := by
  obtain ⟨h1, h⟩ := ba h
  obtain ⟨h2, h⟩ := ba h
  obtain ⟨h3, h⟩ := ba h
  obtain ⟨h4, h⟩ := ba h
  obtain ⟨h5, h6⟩ := ba h
  exact ⟨xfB_ok h1, h2, eqO_ok h3, eqO_ok h4, of_decide_eq_true h5, of_decide_eq_true h6⟩
/-- isinstance(e, c), e the caught exception, with its own dict -/
def rIsX (K : PySem.W.Frag) (a : Addr) (cls : Value) (d : Option Addr) : List V → Hp → VK → Prop := fun xs H Q => ∃ (C dd : Addr) (fs : List (Str × V)) (c : V) (cv : Value) (b : Bool), cls = .ref C ∧ d = some dd ∧ XiC K C ∧ H dd = some (.xd fs) ∧ xs = [.ref a, c] ∧ ClsV c cv ∧ PySem.W.kitOne K (.ref C) cv = some b ∧ Q (.bl b) H
theorem call_isX {X : Cx} {a : Addr} {oe : Obj} {cls : Value} {d : Option Addr} {pn : List (Addr × Obj)} (hz : Zc cls d oe) (hf : ∃ vs, oe.data = .fields vs) : CallR (X.suite a ((a, oe) :: pn)) (.builtin "isinstance") (rIsX X.K a cls d) := by
  rintro pins s σ H xs us Q I r ⟨C, dd, fs, c, cv, b, rfl, rfl, T, hd, rfl, k, e, q⟩
  obtain ⟨u1, u2, rfl, r1, r2⟩ := vals2 r
  obtain rfl : u1 = Value.ref a := r1
  have e2 := k.eq r2
  subst e2
  obtain ⟨ha, _⟩ := I.pin (a, oe) (List.mem_append_left _ List.mem_cons_self)
  obtain ⟨vs, hv⟩ := hf
  obtain ⟨mA, hns, hr⟩ := (show ObjOk X.prog X.w H s.heap dd (.xd fs) from I.hok dd _ hd)
  obtain ⟨od, ho, _⟩ := lookIn_ns hns
  have J : PySem.W.InstAt s.heap a oe C (some od) := ⟨ha, hz.1, by unfold PySem.W.notCls; rw [hv], by rw [hz.2]; exact ho⟩
  exact PySem.W.kia_one (PySem.W.kitx_exc T.cl T.xf.ga T.xf.gg T.xf.exC T.ha T.hn T.ht T.hm) I.kIn J e (fun z => nomatch z) fun tk => ⟨.bl b, H, I.kept (t' := tk) fun _ _ z => z, rfl, q⟩
/-- a call within a try -/
theorem pe_callT {X : Cx} {k : Nat} {a : Addr} {sp : Sp} {Wx : WX} {f : Str} {px pos : Pos} {e : Expr} {es : List Expr} {t : TA} (F : FnQ X.prog X.w X.K X.mg X.base (L2.CX X.prog X.w) k a sp) (hr : Rm k X.A) (hm : X.mg f = some (.ref a)) (hk : PySem.W.keepIn X.K (.ref a) = true) (tk : Takes X Wx) (ha : PA X (e :: es) t)
    (hg : Gl X f := by rfl) (hdb : (f == ("__debug__" : Str)) = false := by decide) (he : starEach (e :: es) X.env = (false, eval e X.env) :: starEach es X.env := by rfl) (hpl : (backTo pos (starEach es X.env)).any (·.1) = false := by rfl) :
    PE X (.Call (.Name f px) (e :: es) [] pos) (fun σ H Q => t σ H fun vs H1 => sp vs H1 Q (WE Wx σ)) := by
  refine ⟨fun pins s σ H Q I h => ?_⟩
  refine wpAny_Call_Name_kw (ld_glob I hg hm ?_ hdb)
  refine PySem.W.callWith_K (h₀ := X.base) I.ok.mod.kin hk (thn (ha.run pos pins s σ H _ I h) fun us s1 ⟨vs, H1, I1, r, q⟩ => ⟨I1.kIn, ?_⟩) he hpl
  refine wpAny_call (codeAny_mono (F X.A X.stack s1 H1 us vs Q (WE Wx σ) hr I1.env0 r q) fun z s' hz => ?_)
  match z, hz with
  | .error er, hz => exact passAt tk σ pins H1 s1 er s' I1 hz
  | .ok (.ret u), hz => exact I1.after hz
  | .ok .next, hz => exact hz.elim
  | .ok .brk, hz => exact hz.elim
  | .ok .cont, hz => exact hz.elim
section
variable {X : Cx} {a : Addr} {oe : Obj} {cls : Value} {d : Option Addr} {pn : List (Addr × Obj)} {i : Nat} {n : Str} {p1 p2 p3 pos : Pos}
/-- the reading of a question for the caught exception's class -/
def tIsX (K : PySem.W.Frag) (a : Addr) (cls : Value) (d : Option Addr) (i : Nat) (cv : Value) : TE := fun σ H Q => σ[i]? = some (some (.ref a)) ∧ ∃ (C dd : Addr) (fs : List (Str × V)) (b : Bool), cls = .ref C ∧ d = some dd ∧ XiC K C ∧ H dd = some (.xd fs) ∧ PySem.W.kitOne K (.ref C) cv = some b ∧ Q (.bl b) H
theorem pe_isX {x : Str} {c : V} {cv : Value} (hz : Zc cls d oe) (hf : ∃ vs, oe.data = .fields vs) (hN : X.N[i]? = some n) (hv : Vis X.env.scope n) (hc : PE (X.suite a ((a, oe) :: pn)) (.Name x p3) (tC c)) (k : ClsV c cv) (hm : X.mg "isinstance" = none) (hg : Gl X "isinstance" := by rfl)
    (hd : (n == ("__debug__" : Str)) = false := by decide) (hcd : (n == ("__classdict__" : Str)) = false := by decide)
    (he : starEach [.Name n p2, .Name x p3] X.env = (false, eval (.Name n p2) X.env) :: starEach [.Name x p3] X.env := by rfl) (he2 : starEach [Expr.Name x p3] X.env = (false, eval (.Name x p3) X.env) :: starEach [] X.env := by rfl) (hpl : (backTo pos (starEach [.Name x p3] X.env)).any (·.1) = false := by rfl) :
    PE (X.suite a ((a, oe) :: pn)) (.Call (.Name "isinstance" p1) [.Name n p2, .Name x p3] [] pos) (tIsX X.K a cls d i cv) := by
  refine PEw (pe_callB (X := X.suite a ((a, oe) :: pn)) (call_isX hz hf) hg hm boot_isinstance (pa_cons (pe_var (X := X.suite a ((a, oe) :: pn)) hN hv hd hcd) (pa_cons hc pa_nil he2) he) (by decide) (by decide) he hpl) fun σ H Q ⟨hσ, C, dd, fs, b, h1, h2, T, h3, h4, q⟩ => ?_
  exact ⟨.ref a, hσ, C, dd, fs, c, cv, b, h1, h2, T, h3, rfl, k, h4, q⟩
def tFx (K : PySem.W.Frag) (a : Addr) (cls : Value) (d : Option Addr) (i : Nat) (f : Str) : TE := fun σ H Q => σ[i]? = some (some (.ref a)) ∧ ∃ (C dd : Addr) (fs : List (Str × V)) (v : V), cls = .ref C ∧ d = some dd ∧ XfC K C ∧ PySem.W.findIn K (.ref C) f = some none ∧ H dd = some (.xd fs) ∧ fs.lookup f = some v ∧ Q v H
theorem pe_fx {f : Str} (hz : Zc cls d oe) (hf : ∃ vs, oe.data = .fields vs) (hN : X.N[i]? = some n) (hv : Vis X.env.scope n) (hd : (n == ("__debug__" : Str)) = false := by decide) (hcd : (n == ("__classdict__" : Str)) = false := by decide)
    (hb : attributeBase (.Name n p2) f X.env (eval (.Name n p2) X.env) = eval (.Name n p2) X.env := by rfl) : PE (X.suite a ((a, oe) :: pn)) (.Attribute (.Name n p2) f pos) (tFx X.K a cls d i f) := by
  refine ⟨fun pins s σ H Q I ⟨hσ, C, dd, fs, v, h1, h2, T, hno, h3, h4, q⟩ => ?_⟩
  exact (pe_xf T hno hz hf (pe_var (X := X.suite a ((a, oe) :: pn)) hN hv hd hcd) hb).run pins s σ H Q I ⟨.ref a, hσ, rfl, h1, dd, fs, v, h2, h3, h4, q⟩
end
/-- nothing leaves the law -/
theorem law0 {P : Program} {w : World} {K : PySem.W.Frag} {mg : Str → Option Value} {base : Heap} {f : Addr} {fd : FuncData} {ps : List Str} (F : FnAt callerA P w K mg base (L2.CX P w) f fd ps (spLaw K)) : FnAt callerA P w K mg base (fun _ _ _ _ _ _ => False) f fd ps (spLaw K) := by
  intro outer s H args us vs Q E he hb hv hs
  refine codeAny_mono (F outer s H args us vs Q (fun _ _ _ => False) he hb hv hs) fun r s' z => ?_
  match r, z with
  | .error e, ⟨_, _, _, _, _, _, _, _, _, _, _, _, hE⟩ => exact hE.elim
  | .ok (.ret u), z => exact z
  | .ok .next, z => exact z
  | .ok .brk, z => exact z
  | .ok .cont, z => exact z
/-! ### the law's call, at its caller -/
section
variable {P : Program} {w : World} {K : PySem.W.Frag} {mg mb : Str → Option Value} {fa a : Addr} {fd : FuncData} {s₁ : Shared} {vs : List Value} {ns : List Int}
/-- from an abstract heap that tracks the script alone, or nothing -/
theorem call_from {sn : Str} (H : Hp) (KX : K.In s₁.heap) (hns : s₁.heap.Ns mainGlobals mg) (hb : s₁.heap.Ns builtinsNs mb) (hbb : ∀ x : Str, x ≠ "__name__" → mb x = bootBuiltins x) (hlim : s₁.heap.NoLimit) (hg : s₁.gens = #[]) (ha : s₁.heap.get? a = some { cls := .type "list", data := .seq vs.toArray })
    (hl : ns.length ≤ 63) (F : ∀ base : Heap, K.In base → base.Ns mainGlobals mg → FnAt callerA P w K mg base (fun _ _ _ _ _ _ => False) fa fd [sn] (spLaw K)) (hbind : ∀ (s : Shared) (u : Value), BindsTo s fd ⟨[u], []⟩ [(sn, u)])
    (hO : Only H) (hS : SqL K H a (ns.map V.int)) (hok : HOk P w H s₁.heap) (hA : ∀ b, H b ≠ none → b = a) (hK : H a ≠ none → K.lookup a = none) :
    codeAny (model P w) callerA (.call (.ref fa) ⟨[.ref a], []⟩) (fun r s' => r = .ok (.ret (.bool true)) ∧ OldK s₁.heap s'.heap ∧ s'.os = s₁.os ∧ AllBare s'.gens) s₁ := by
  have off : ∀ {b : Addr} {o : Obj}, s₁.heap.get? b = some o → (∀ xs n, o.data ≠ .seq xs n) → H b = none := fun {b o} e d => by
    rcases Option.eq_none_or_eq_some (H b) with q | ⟨u, q⟩
    · exact q
    · have z := hA b (by rw [q]; exact Option.some_ne_none u)
      rw [z, ha] at e
      cases e
      exact absurd rfl (d _ _)
  have names : ∀ {b : Addr} {m : Str → Option Value}, s₁.heap.Ns b m → (hidT s₁.heap H).Ns b m := fun {b m} q => by
    obtain ⟨o, es, ep, e, d, r⟩ := q
    exact ⟨o, es, ep, hidT_get e (off e fun xs n z => by rw [d] at z; cases z), d, r⟩
  have written : K.In (hidT s₁.heap H) := fun b o e => by
    refine hidT_get (KX b o e) ?_
    rcases Option.eq_none_or_eq_some (H b) with q | ⟨u, q⟩
    · exact q
    · have z := hA b (by rw [q]; exact Option.some_ne_none u)
      rw [z] at e q
      rw [hK (by rw [q]; exact Option.some_ne_none u)] at e
      cases e
  obtain ⟨mc, lim1, lim2⟩ := hlim
  have md : Mod K mg (hidT s₁.heap H) := ⟨written, names hns, ⟨mb, names hb, hbb⟩, ⟨mc, names lim1, lim2⟩⟩
  have e0 : Env0 P w K mg (hidT s₁.heap H) callerA [] s₁ H := ⟨rfl, md, fun b o e => of_hidT e, Nat.le_of_eq (hidT_size _ _), trivial, fun b hb => (List.not_mem_nil (show b ∈ ([] : List Addr) from hb)).elim, hok, .of_eq hg⟩
  have run := F _ written (names hns) [] s₁ H ⟨[.ref a], []⟩ [.ref a] [.ref a] (fun v _ => v = .bl true) (fun _ _ _ => False) e0 (hbind s₁ (.ref a)) (.cons rfl .nil) ⟨a, ns, rfl, hO, hS, hl, fun _ => rfl⟩
  refine codeAny_mono run fun r s' h => ?_
  match r, h with
  | .ok (.ret u), h =>
    obtain ⟨v, H', os, bare, un, hok', rv, q⟩ := h
    subst q
    obtain rfl : u = Value.bool true := rv
    refine ⟨rfl, OldK.of_keep fun b o e => ?_, os, bare⟩
    rcases hO b with q | ⟨ob, xs, q⟩
    · exact un.keep b o e q (fun z => List.not_mem_nil (show b ∈ ([] : List Addr) from z)) (fun z => by simp at z)
    · have c1 := (hok b _ q).1
      have c2 := (hok' b _ (un.frzs b ob _ q)).1
      rw [e] at c1
      cases c1
      exact c2
theorem call_script {sn : Str} (KX : K.In s₁.heap) (hns : s₁.heap.Ns mainGlobals mg) (hb : s₁.heap.Ns builtinsNs mb) (hbb : ∀ x : Str, x ≠ "__name__" → mb x = bootBuiltins x) (hlim : s₁.heap.NoLimit) (hg : s₁.gens = #[]) (ha : s₁.heap.get? a = some { cls := .type "list", data := .seq vs.toArray }) (hi : IntsAre vs ns)
    (hl : ns.length ≤ 63) (F : ∀ base : Heap, K.In base → base.Ns mainGlobals mg → FnAt callerA P w K mg base (fun _ _ _ _ _ _ => False) fa fd [sn] (spLaw K)) (hbind : ∀ (s : Shared) (u : Value), BindsTo s fd ⟨[u], []⟩ [(sn, u)]) :
    codeAny (model P w) callerA (.call (.ref fa) ⟨[.ref a], []⟩) (fun r s' => r = .ok (.ret (.bool true)) ∧ OldK s₁.heap s'.heap ∧ s'.os = s₁.os ∧ AllBare s'.gens) s₁ := by
  have rv := vals_ints hi
  have sz : ns.length ≤ sizeLine := Nat.le_trans hl (by decide)
  rcases Option.eq_none_or_eq_some (K.lookup a) with hk | ⟨o, hk⟩
  · let H : Hp := fun b => if b = a then some (.frz { cls := .type "list", data := .seq vs.toArray } (.lst (ns.map V.int))) else none
    have at_ : H a = some (.frz { cls := .type "list", data := .seq vs.toArray } (.lst (ns.map V.int))) := if_pos rfl
    have out : ∀ {b}, b ≠ a → H b = none := fun hb => if_neg hb
    refine call_from H KX hns hb hbb hlim hg ha hl F hbind (fun b => ?_) (.inl (.inr ⟨_, at_⟩)) (fun b u z => ?_) (fun b z => ?_) fun _ => hk
    · by_cases q : b = a
      · subst q; exact .inr ⟨_, _, at_⟩
      · exact .inl (out q)
    · by_cases q : b = a
      · subst q
        rw [at_] at z
        cases z
        exact ⟨ha, by rw [List.length_map]; exact sz, vs, _, rv, ha⟩
      · rw [out q] at z
        cases z
    · by_cases q : b = a
      · exact q
      · exact absurd (out q) z
  · have e := KX a o hk
    rw [ha] at e
    cases e
    refine call_from (fun _ => none) KX hns hb hbb hlim hg ha hl F hbind (fun _ => .inl rfl) (.inr ⟨_, vs.toArray, _, hk, rfl, rfl, rfl, by rw [List.size_toArray, hi.length]; exact sz, by simpa using rv⟩) (fun b u z => nomatch (show (none : Option HO) = some u from z)) (fun b z => absurd rfl z) fun z => absurd rfl z
end
/-- the goal behind k_head -/
theorem walk_at_caller {sn : Str} {l : PySem.W.OpenLaw} {q : Program} {loose : List Str} {XP : (Str → Option Value) → Heap → Prop} {YP : World → Heap → Prop} {d : DefRec} (hn : l.most = some 63) (hdf : d.params.defaults = [])
    (F : ∀ (w : World) (mg : Str → Option Value) (fa : Addr) (h : Heap), YP w h → h.Ns mainGlobals mg → mg d.name = some (.ref fa) →
      ∃ (K : PySem.W.Frag) (fd : FuncData), K.In h ∧ (∀ (s : Shared) (u : Value), BindsTo s fd ⟨[u], []⟩ [(sn, u)]) ∧ ∀ base : Heap, K.In base → base.Ns mainGlobals mg → FnAt callerA l.prog w K mg base (fun _ _ _ _ _ _ => False) fa fd [sn] (spLaw K)) :
    PySem.W.WalkO q loose XP YP l.row.toRowW d [] (fun f vs => PySem.call f vs) := by
  refine Att.attach_call hn hdf fun w s₀ s₁ mg mb fa o pm cd doc a vs ns G Y ho hd hcd hmg hobj hints hlen hg => ?_
  obtain ⟨K, fd, KX, hb, hF⟩ := F w mg fa _ Y G.T.g hmg
  exact call_script KX G.T.g G.T.b G.T.builtins G.T.nolimit hg hobj hints hlen hF hb
end Oz

end

section
set_option maxHeartbeats 4000000
/-! OzS: running the small language step by step. -/
namespace Oz
open PySem PySem.Spec PyProof.Rows L2
section
variable {α β : Type} {Φ : Cal} {env : Env} {S : Sto} {a b : U} {i j : Int} {x y : Str} {k : Bool} {c f : Str} {fs : List (Str × U)} {us : List U}
theorem bind_ok {u : α} {g : α → Sto → R β} : (R.ok u S).bind g = g u S := rfl
theorem bind_exc {g : α → Sto → R β} : (R.exc c fs S : R α).bind g = .exc c fs S := rfl
theorem bind_bad {g : α → Sto → R β} : (R.bad : R α).bind g = .bad := rfl
theorem on_ok {u : α} {g : α → Sto → O} : (R.ok u S).on g = g u S := rfl
theorem on_exc {g : α → Sto → O} : (R.exc c fs S : R α).on g = .exc c fs S := rfl
theorem then_nx {g : Env → Sto → O} : (O.nx env S).then_ g = g env S := rfl
theorem then_ret {g : Env → Sto → O} : (O.ret a S).then_ g = .ret a S := rfl
theorem then_exc {g : Env → Sto → O} : (O.exc c fs S).then_ g = .exc c fs S := rfl
theorem then_bk {g : Env → Sto → O} : (O.bk env S).then_ g = .bk env S := rfl
theorem then_ct {g : Env → Sto → O} : (O.ct env S).then_ g = .ct env S := rfl
theorem turn_nx {g : Env → Sto → O} : (O.nx env S).turn g = g env S := rfl
theorem turn_ret {g : Env → Sto → O} : (O.ret a S).turn g = .ret a S := rfl
theorem turn_exc {g : Env → Sto → O} : (O.exc c fs S).turn g = .exc c fs S := rfl
theorem fin_nx : (O.nx env S).fin = .ok .non S := rfl
theorem fin_ret : (O.ret a S).fin = .ok a S := rfl
theorem fin_exc : (O.exc c fs S).fin = .exc c fs S := rfl
theorem rO_some {u : α} : rO (some u) S = .ok u S := rfl
theorem noex_ok {u : α} : (R.ok u S).noex = .ok u S := rfl
theorem ev_v (n : Nat) : ev Φ (.v n) env S = (match env[n]? with | some (some u) => .ok u S | _ => .bad) := rfl
theorem ev_v' {n : Nat} {u : U} (h : env[n]? = some (some u)) : ev Φ (.v n) env S = .ok u S := by rw [ev_v, h]
theorem ev_k {u : U} : ev Φ (.k u) env S = .ok u S := rfl
theorem ev_g {u : U} (h : Φ.glo x = some u) : ev Φ (.g x) env S = .ok u S := by rw [ev, h]; rfl
theorem ev_tup {es : Es} : ev Φ (.tup es) env S = (evs Φ es env S).bind fun us S => if us.length ≤ sizeLine then .ok (.tup us) S else .bad := rfl
theorem ev_lst {es : Es} : ev Φ (.lst es) env S = (evs Φ es env S).bind fun us S => if us.length ≤ sizeLine then .ok (.loc S.length) (S ++ [.lst us]) else .bad := rfl
theorem ev_bin {o : Op} {e e' : E} : ev Φ (.bin o e e') env S = (ev Φ e env S).bind fun x S => (ev Φ e' env S).bind fun y S => binU o x y S := rfl
theorem ev_neg {e : E} : ev Φ (.neg e) env S = (ev Φ e env S).bind fun x S => (match x with | .int i => .ok (.int (-i)) S | _ => .bad) := rfl
theorem ev_cmp {o : Cm} {e e' : E} : ev Φ (.cmp o e e') env S = (ev Φ e env S).bind fun x S => (ev Φ e' env S).bind fun y S => cmpU o x y S := rfl
theorem ev_and {e e' : E} : ev Φ (.and e e') env S = (ev Φ e env S).bind fun x S => (match x with | .bl true => ev Φ e' env S | .bl false => .ok (.bl false) S | _ => .bad) := rfl
theorem ev_or {e e' : E} : ev Φ (.or e e') env S = (ev Φ e env S).bind fun x S => (match x with | .bl true => .ok (.bl true) S | .bl false => ev Φ e' env S | _ => .bad) := rfl
theorem ev_not {e : E} : ev Φ (.not e) env S = (ev Φ e env S).bind fun x S => (match x with | .bl k => .ok (.bl (!k)) S | _ => .bad) := rfl
theorem ev_ife {t : T} {e e' : E} : ev Φ (.ife t e e') env S = (evt Φ t env S).bind fun k S => if k then ev Φ e env S else ev Φ e' env S := rfl
theorem ev_ix {e e' : E} : ev Φ (.ix e e') env S = (ev Φ e env S).bind fun x S => (ev Φ e' env S).bind fun y S => ixU x y S := rfl
theorem ev_sl {e : E} {l h : Eo} : ev Φ (.sl e l h) env S = (ev Φ e env S).bind fun x S => (evo Φ l env S).bind fun l S => (evo Φ h env S).bind fun h S => slU x l h S := rfl
theorem ev_fld {e : E} {C : Str} : ev Φ (.fld e C f) env S = (ev Φ e env S).bind fun x S => (match x with
      | .loc n => (match S[n]? with | some (.ins D fs) => if D = C then rO (fs.lookup f) S else .bad | _ => .bad)
      | _ => .bad) := rfl
theorem ev_call {es : Es} : ev Φ (.call f es) env S = (evs Φ es env S).bind fun us S => Φ.call f us S := rfl
theorem ev_meth {e : E} {C : Str} {es : Es} : ev Φ (.meth e C f es) env S = (ev Φ e env S).bind fun x S => (match x with
      | .loc n => (match S[n]? with
        | some (.ins D fs) => if D = C ∧ fs.lookup f = none then (evs Φ es env S).bind fun us S => Φ.call (C ++ "." ++ f) (.loc n :: us) S else .bad
        | _ => .bad)
      | _ => .bad) := rfl
theorem ev_mk {C : Str} {es : Es} : ev Φ (.mk C es) env S = (evs Φ es env S).bind fun us S => (Φ.init (C ++ ".__init__") (.loc S.length :: us) (S ++ [.ins C []])).bind fun u S' => (match u with | .non => .ok (.loc S.length) S' | _ => .bad) := rfl
theorem ev_bf {g : Bf} {es : Es} : ev Φ (.bf g es) env S = (evs Φ es env S).bind fun us S => bfU g us S := rfl
theorem ev_bm {g : Bm} {e : E} {es : Es} : ev Φ (.bm g e es) env S = (ev Φ e env S).bind fun x S => if tyB g x S then (evs Φ es env S).bind fun us S => bmU g x us S else .bad := rfl
theorem ev_lc {is : List Nat} {tp : Bool} {e e' : E} {t : T} : ev Φ (.lc is tp e e' t) env S = (ev Φ e' env S).bind fun x S => (match iterU S x with
      | some (us, src) => (lcI tp is (wipeE env is) (fun env S => (evt Φ t env S).noex) (fun env S => (ev Φ e env S).noex) S.length us src us (S ++ [.lst []])).bind fun _ S' => .ok (.loc S.length) S'
      | none => .bad) := rfl
theorem evo_no : evo Φ .no env S = .ok none S := rfl
theorem evo_so {e : E} : evo Φ (.so e) env S = (ev Φ e env S).bind fun x S => (match x with | .int i => .ok (some i) S | _ => .bad) := rfl
theorem evs_nil : evs Φ .nil env S = .ok [] S := rfl
theorem evs_cons {e : E} {es : Es} : evs Φ (.cons e es) env S = (ev Φ e env S).bind fun u S => (evs Φ es env S).bind fun us S => .ok (u :: us) S := rfl
theorem evs_star {e : E} {es : Es} : evs Φ (.star e es) env S = (ev Φ e env S).bind fun u S => (match items? S u with | some xs => (evs Φ es env S).bind fun us S => .ok (xs ++ us) S | none => .bad) := rfl
theorem evt_tt : evt Φ .tt env S = .ok true S := rfl
theorem evt_e {e : E} : evt Φ (.e e) env S = (ev Φ e env S).bind fun x S => rO (truU x S) S := rfl
theorem evt_and {e e' : T} : evt Φ (.and e e') env S = (evt Φ e env S).bind fun k S => if k then evt Φ e' env S else .ok false S := rfl
theorem evt_or {e e' : T} : evt Φ (.or e e') env S = (evt Φ e env S).bind fun k S => if k then .ok true S else evt Φ e' env S := rfl
theorem evt_not {e : T} : evt Φ (.not e) env S = (evt Φ e env S).bind fun k S => .ok (!k) S := rfl
theorem ev_rev {e : E} : ev Φ (.rev e) env S = (ev Φ e env S).bind fun x S => revU x S := rfl
theorem ex_lset {is : List Nat} {e : E} : ex Φ (.lset is e) env S = (ev Φ e env S).on fun u S => (match list? S u with | some us => if us.length = is.length then .nx (setAll is us env) S else .bad | none => .bad) := rfl
theorem ex_set {tp : Bool} {is : List Nat} {e : E} : ex Φ (.set tp is e) env S = (ev Φ e env S).on fun u S => (match setN tp is u env with | some env => .nx env S | none => .bad) := rfl
theorem ex_sub {o i e : E} : ex Φ (.sub o i e) env S = (ev Φ e env S).on fun u S => (ev Φ o env S).on fun a S => (ev Φ i env S).on fun k S => (setItemU a k u S).on fun _ S => .nx env S := rfl
theorem ex_aug {n : Nat} {o : Op} {e : E} : ex Φ (.aug n o e) env S = (match env[n]? with | some (some a) => (ev Φ e env S).on fun b S => (augU o a b S).on fun u S => .nx (env.set n (some u)) S | _ => .bad) := rfl
theorem ex_aug' {n : Nat} {u : U} {o : Op} {e : E} (h : env[n]? = some (some u)) : ex Φ (.aug n o e) env S = (ev Φ e env S).on fun b S => (augU o u b S).on fun u S => .nx (env.set n (some u)) S := by rw [ex_aug, h]
theorem ex_fset {o : E} {C : Str} {e : E} : ex Φ (.fset o C f e) env S = (ev Φ e env S).on fun u S => (ev Φ o env S).on fun a S => (setFldU a C f u S).on fun _ S => .nx env S := rfl
theorem ex_faug {o : E} {C : Str} {op : Op} {e : E} : ex Φ (.faug o C f op e) env S = (ev Φ o env S).on fun a S => (match a with
      | .loc n => (match S[n]? with
        | some (.ins D fs) => if D = C then (match fs.lookup f with | some x => (ev Φ e env S).on fun y S => (augU op x y S).on fun z S => (setFldU (.loc n) C f z S).on fun _ S => .nx env S | none => .bad) else .bad
        | _ => .bad)
      | _ => .bad) := rfl
theorem ex_ex {e : E} : ex Φ (.ex e) env S = (ev Φ e env S).on fun _ S => .nx env S := rfl
theorem ex_ret {e : E} : ex Φ (.ret e) env S = (ev Φ e env S).on fun u S => .ret u S := rfl
theorem ex_if {t : T} {s s' : Sts} : ex Φ (.if_ t s s') env S = (evt Φ t env S).on fun k S => if k then exs Φ s env S else exs Φ s' env S := rfl
theorem ex_while {t : T} {s : Sts} : ex Φ (.while_ t s) env S = loopI (fun env S => evt Φ t env S) (fun env S => exs Φ s env S) fuel env S := rfl
theorem ex_for {tp : Bool} {is : List Nat} {e : E} {s : Sts} : ex Φ (.for_ tp is e s) env S = (ev Φ e env S).on fun x S => (match iterU S x with
      | some (us, src) => forI tp is (fun env S => exs Φ s env S) us src us env S
      | none => .bad) := rfl
theorem ex_raise {C : Str} {e : E} {g : Str} (h : Φ.xf C = some g) : ex Φ (.raise C e) env S = (ev Φ e env S).on fun u S => .exc C [(g, u)] S := by rw [ex, h]
theorem exs_nil : exs Φ .nil env S = .nx env S := rfl
theorem exs_cons {s : St} {ss : Sts} : exs Φ (.cons s ss) env S = (ex Φ s env S).then_ fun env S => exs Φ ss env S := rfl
theorem tru_bl : truU (.bl k) S = some k := rfl
theorem tru_int : truU (.int i) S = some (i != 0) := rfl
theorem add_int : binU .add (.int i) (.int j) S = .ok (.int (i + j)) S := rfl
theorem sub_int : binU .sub (.int i) (.int j) S = .ok (.int (i - j)) S := rfl
theorem add_str (h : x.length + y.length ≤ sizeLine) : binU .add (.str x) (.str y) S = .ok (.str (x ++ y)) S := if_pos h
theorem add_tup {xs ys : List U} (h : xs.length + ys.length ≤ sizeLine) : binU .add (.tup xs) (.tup ys) S = .ok (.tup (xs ++ ys)) S := if_pos h
theorem aug_add_int : augU .add (.int i) (.int j) S = .ok (.int (i + j)) S := rfl
theorem aug_sub_int : augU .sub (.int i) (.int j) S = .ok (.int (i - j)) S := rfl
theorem c_eq_int : cmpU .eq (.int i) (.int j) S = .ok (.bl (decide (i = j))) S := rfl
theorem c_ne_int : cmpU .ne (.int i) (.int j) S = .ok (.bl (!decide (i = j))) S := rfl
theorem c_lt_int : cmpU .lt (.int i) (.int j) S = .ok (.bl (decide (i < j))) S := rfl
theorem c_le_int : cmpU .le (.int i) (.int j) S = .ok (.bl (decide (i ≤ j))) S := rfl
theorem c_gt_int : cmpU .gt (.int i) (.int j) S = .ok (.bl (decide (j < i))) S := rfl
theorem c_ge_int : cmpU .ge (.int i) (.int j) S = .ok (.bl (decide (j ≤ i))) S := rfl
theorem c_eq_str : cmpU .eq (.str x) (.str y) S = .ok (.bl (decide (x = y))) S := rfl
theorem c_ne_str : cmpU .ne (.str x) (.str y) S = .ok (.bl (!decide (x = y))) S := rfl
theorem ix_tup {xs : List U} : ixU (.tup xs) (.int i) S = (match atI xs i with | some u => .ok u S | none => .bad) := rfl
theorem ix_loc {n : Nat} {xs : List U} (h : S[n]? = some (.lst xs)) : ixU (.loc n) (.int i) S = (match atI xs i with | some u => .ok u S | none => .bad) := by
  simp only [ixU, items?, h] <;> rfl
theorem atI_nat_own {xs : List α} {n : Nat} {u : α} (h : xs[n]? = some u) : atI xs (n : Int) = some u := by
  have hl : n < xs.length := (List.getElem?_eq_some_iff.mp h).1
  unfold atI ixN
  rw [if_pos (by omega), if_pos (by omega)]
  simpa using h
theorem set_int {n : Nat} : setN false [n] a env = some (env.set n (some a)) := rfl
theorem set_tup {is : List Nat} (h : us.length = is.length) : setN true is (.tup us) env = some (setAll is us env) := if_pos h
theorem set_same {S : Sto} {n : Nat} {c : Cel} (h : S[n]? = some c) : S.set n c = S := by
  obtain ⟨hn, e⟩ := List.getElem?_eq_some_iff.mp h
  subst e
  simp
/-- a comprehension, all items taken -/
theorem lcI_all {tp : Bool} {is : List Nat} {env : Env} {c : Env → Sto → R Bool} {f : Env → Sto → R U} {n : Nat} {all : List U} {src : Option Nat} {g : U → U} : ∀ {us : List U} {S : Sto} {acc : List U}
    (hc : ∀ u ∈ us, ∃ env', setN tp is u env = some env' ∧ ∀ S, c env' S = .ok true S ∧ f env' S = .ok (g u) S) (hs : ∀ x, stays (S.set n (.lst x)) all src = true) (hS : S[n]? = some (.lst acc)) (hz : acc.length + us.length ≤ sizeLine),
    lcI tp is env c f n all src us S = .ok () (S.set n (.lst (acc ++ us.map g)))
  | [], S, acc, hc, hs, hS, hz => by
    have h0 : stays S all src = true := by have := hs acc; rwa [set_same hS] at this
    unfold lcI
    rw [if_pos h0, List.map_nil, List.append_nil, set_same hS]
  | u :: us, S, acc, hc, hs, hS, hz => by
    have h0 : stays S all src = true := by have := hs acc; rwa [set_same hS] at this
    obtain ⟨env', e1, e2⟩ := hc u List.mem_cons_self
    have hn : n < S.length := (List.getElem?_eq_some_iff.mp hS).1
    unfold lcI
    rw [if_pos h0]
    simp only [e1, (e2 S).1, (e2 S).2, bind_ok, if_true]
    have hp : pushAt n (g u) S = .ok () (S.set n (.lst (acc ++ [g u]))) := by
      unfold pushAt
      simp only [hS]
      rw [if_pos (by simp at hz; omega)]
    simp only [hp, bind_ok]
    rw [lcI_all (g := g) (acc := acc ++ [g u]) (fun v hv => hc v (List.mem_cons_of_mem _ hv)) (fun x => by rw [List.set_set]; exact hs x) (by rw [List.getElem?_set_self hn]) (by simp at hz ⊢; omega)]
    simp [List.set_set]
theorem last_get {S : Sto} {c : Cel} : (S ++ [c])[S.length]? = some c := by simp
theorem last_set {S : Sto} {c c' : Cel} : (S ++ [c]).set S.length c' = S ++ [c'] := by simp
theorem max_loc {S : Sto} {n : Nat} {us : List U} {ns : List Int} (h : S[n]? = some (.lst us)) (hi : intsU us = some ns) (hp : 0 < ns.length) : bfU .max [.loc n] S = .ok (.int (maxI ns)) S := by
  unfold bfU maxF
  simp only [list?, h, Option.bind_some, hi]
  rw [if_pos hp]
theorem tup_loc {S : Sto} {n : Nat} {us : List U} (h : S[n]? = some (.lst us)) : bfU .tup [.loc n] S = .ok (.tup us) S := by
  unfold bfU tupF
  simp only [items?, h]
theorem len_loc {S : Sto} {n : Nat} {us : List U} (h : S[n]? = some (.lst us)) : bfU .len [.loc n] S = .ok (.int us.length) S := by
  unfold bfU lenF lenU
  simp only [items?, h, Option.map_some]
theorem len_tup {S : Sto} {us : List U} : bfU .len [.tup us] S = .ok (.int us.length) S := rfl
theorem len_str {S : Sto} {x : Str} (h : x.length ≤ sizeLine) : bfU .len [.str x] S = .ok (.int x.length) S := by
  simp only [bfU, lenF, lenU, h, if_true]
end
end Oz

end
local macro_rules
  | `(tactic| simp_arith [$ls,*] $[$l:location]?) => `(tactic| simp only [Oz.bind_ok, Oz.bind_exc, Oz.bind_bad, Oz.on_ok, Oz.on_exc, Oz.then_nx, Oz.then_ret, Oz.then_exc, Oz.then_bk, Oz.then_ct, Oz.turn_nx, Oz.turn_ret, Oz.turn_exc, Oz.fin_nx, Oz.fin_ret, Oz.fin_exc, Oz.rO_some, Oz.noex_ok,
      Oz.ev_v, Oz.ev_k, Oz.ev_tup, Oz.ev_lst, Oz.ev_bin, Oz.ev_neg, Oz.ev_cmp, Oz.ev_and, Oz.ev_or, Oz.ev_not, Oz.ev_ife, Oz.ev_ix, Oz.ev_sl, Oz.ev_fld, Oz.ev_call, Oz.ev_meth, Oz.ev_mk, Oz.ev_bf, Oz.ev_bm, Oz.ev_lc, Oz.evo_no, Oz.evo_so, Oz.evs_nil, Oz.evs_cons, Oz.evs_star, Oz.evt_tt, Oz.evt_e, Oz.evt_and, Oz.evt_or, Oz.evt_not,
      Oz.ex_set, Oz.ex_sub, Oz.ex_aug, Oz.ex_fset, Oz.ex_faug, Oz.ex_ex, Oz.ex_ret, Oz.ex_if, Oz.ex_while, Oz.ex_for, Oz.exs_nil, Oz.exs_cons, Oz.tru_bl, Oz.tru_int, Oz.add_int, Oz.sub_int, Oz.aug_add_int, Oz.aug_sub_int, Oz.c_eq_int, Oz.c_ne_int, Oz.c_lt_int, Oz.c_le_int, Oz.c_gt_int, Oz.c_ge_int, Oz.c_eq_str, Oz.c_ne_str, Oz.ix_tup,
      Oz.set_int, List.replicate_succ, List.replicate_zero, List.getElem?_cons_zero, List.getElem?_cons_succ, List.set_cons_zero, List.set_cons_succ, List.map_cons, List.map_nil, List.cons_append, List.nil_append, List.append_nil, if_true, if_false, Bool.false_eq_true, Bool.true_eq_false, decide_eq_true_eq, true_and, and_true, $ls,*] $[$l:location]?)
section
set_option maxHeartbeats 4000000

end

section
set_option maxHeartbeats 4000000
/-! OzP: the store grows; comprehensions as wholes; plain data. -/
namespace Oz
open PySem PySem.Spec PyProof.Rows L2
section
variable {S S' S'' : Sto}
/-- nothing that stood is changed -/
def Gr (S S' : Sto) : Prop := S.length ≤ S'.length ∧ ∀ k, k < S.length → S'[k]? = S[k]?
theorem Gr.refl : Gr S S := ⟨Nat.le_refl _, fun _ _ => rfl⟩
theorem Gr.trans (a : Gr S S') (b : Gr S' S'') : Gr S S'' := ⟨Nat.le_trans a.1 b.1, fun k h => (b.2 k (Nat.lt_of_lt_of_le h a.1)).trans (a.2 k h)⟩
theorem Gr.push {c : Cel} : Gr S (S ++ [c]) := ⟨by simp, fun k h => List.getElem?_append_left h⟩
theorem Gr.set_new {c : Cel} {k : Nat} (h : S.length ≤ k) (g : Gr S S') : Gr S (S'.set k c) := ⟨by simp; exact g.1, fun j hj => by rw [List.getElem?_set_ne (by omega)]; exact g.2 j hj⟩
theorem Gr.at_ (g : Gr S S') {k : Nat} {c : Cel} (h : S[k]? = some c) : S'[k]? = some c := (g.2 k (List.getElem?_eq_some_iff.mp h).1).trans h
inductive All2 {α β : Type} (Q : α → β → Prop) : List α → List β → Prop
  | nil : All2 Q [] []
  | cons {a : α} {b : β} {as : List α} {bs : List β} : Q a b → All2 Q as bs → All2 Q (a :: as) (b :: bs)
theorem All2.length {α β : Type} {Q : α → β → Prop} {as : List α} {bs : List β} (h : All2 Q as bs) : bs.length = as.length := by
  induction h with
  | nil => rfl
  | cons _ _ ih => simp [ih]
theorem All2.map_eq {α β : Type} {g : α → β} {as : List α} {bs : List β} (h : All2 (fun a b => b = g a) as bs) : bs = as.map g := by
  induction h with
  | nil => rfl
  | cons q _ ih => rw [q, ih]; rfl
/-! ### the turns of a comprehension -/
variable {tp : Bool} {is : List Nat} {env : Env} {n : Nat}
theorem lcI_none {c : Env → Sto → R Bool} {f : Env → Sto → R U} {all : List U} : ∀ (us : List U) (S : Sto), lcI tp is env c f n all none us S = lcJ tp is env c f n (fun _ => true) us S
  | [], S => rfl
  | u :: us, S => by
    unfold lcI lcJ
    simp only [stays, if_true]
    cases setN tp is u env with
    | none => rfl
    | some env' =>
      simp only
      congr 1
      funext b S1
      cases b with
      | true =>
        simp only [if_true]
        congr 1
        funext y S2
        congr 1
        funext _ S3
        exact lcI_none us S3
      | false =>
        simp only [Bool.false_eq_true, if_false]
        exact lcI_none us S1
theorem pushAt_ok {u : U} {acc : List U} (h : S[n]? = some (.lst acc)) (hz : acc.length < sizeLine) : pushAt n u S = .ok () (S.set n (.lst (acc ++ [u]))) := by
  unfold pushAt
  simp only [h]
  rw [if_pos hz]
theorem lcJ_rel {α : Type} {fu : α → U} {c : Env → Sto → R Bool} {f : Env → Sto → R U} {Inv : Sto → Prop} {Q : α → U → Prop} (hi : ∀ S x, Inv S → Inv (S.set n (.lst x))) : ∀ {us : List α} {S : Sto} {acc : List U}
    (hf : ∀ u ∈ us, ∃ env', setN tp is (fu u) env = some env' ∧ ∀ S, Inv S → n < S.length → c env' S = .ok true S ∧ ∃ y S', f env' S = .ok y S' ∧ Q u y ∧ Inv S' ∧ S.length ≤ S'.length ∧ S'[n]? = S[n]?) (h0 : Inv S) (hS : S[n]? = some (.lst acc)) (hz : acc.length + us.length ≤ sizeLine),
    ∃ ys S', lcJ tp is env c f n (fun _ => true) (us.map fu) S = .ok () S' ∧ All2 Q us ys ∧ Inv S' ∧ S.length ≤ S'.length ∧ S'[n]? = some (.lst (acc ++ ys))
  | [], S, acc, hf, h0, hS, hz => ⟨[], S, rfl, .nil, h0, Nat.le_refl _, by rw [List.append_nil]; exact hS⟩
  | u :: us, S, acc, hf, h0, hS, hz => by
    obtain ⟨env', e1, e2⟩ := hf u List.mem_cons_self
    have hn : n < S.length := (List.getElem?_eq_some_iff.mp hS).1
    obtain ⟨ec, y, S1, e3, q, h1, l1, k1⟩ := e2 S h0 hn
    have hS1 : S1[n]? = some (.lst acc) := k1.trans hS
    have hn1 : n < S1.length := by omega
    obtain ⟨ys, S2, e4, q2, h2, l2, k2⟩ := lcJ_rel (us := us) (acc := acc ++ [y]) hi (fun v hv => hf v (List.mem_cons_of_mem _ hv)) (hi S1 (acc ++ [y]) h1) (by rw [List.getElem?_set_self hn1]) (by simp at hz ⊢; omega)
    refine ⟨y :: ys, S2, ?_, .cons q q2, h2, by simp at l2; omega, by rw [k2, List.append_assoc]; rfl⟩
    rw [List.map_cons]
    unfold lcJ
    simp only [if_true, e1, ec, bind_ok, e3, pushAt_ok hS1 (show acc.length < sizeLine by simp at hz; omega)]
    exact e4
theorem lcJ_fil {α : Type} {fu : α → U} {c : Env → Sto → R Bool} {f : Env → Sto → R U} {Inv : Sto → Prop} {b : α → Bool} {g : α → U} (hi : ∀ S x, Inv S → Inv (S.set n (.lst x))) : ∀ {us : List α} {S : Sto} {acc : List U}
    (hf : ∀ u ∈ us, ∃ env', setN tp is (fu u) env = some env' ∧ ∀ S, Inv S → n < S.length → ∃ S', c env' S = .ok (b u) S' ∧ Inv S' ∧ S.length ≤ S'.length ∧ S'[n]? = S[n]? ∧ f env' S' = .ok (g u) S') (h0 : Inv S) (hS : S[n]? = some (.lst acc)) (hz : acc.length + us.length ≤ sizeLine),
    ∃ S', lcJ tp is env c f n (fun _ => true) (us.map fu) S = .ok () S' ∧ Inv S' ∧ S.length ≤ S'.length ∧ S'[n]? = some (.lst (acc ++ (us.filter b).map g))
  | [], S, acc, hf, h0, hS, hz => ⟨S, rfl, h0, Nat.le_refl _, by simpa using hS⟩
  | u :: us, S, acc, hf, h0, hS, hz => by
    obtain ⟨env', e1, e2⟩ := hf u List.mem_cons_self
    have hn : n < S.length := (List.getElem?_eq_some_iff.mp hS).1
    obtain ⟨S1, ec, h1, l1, k1, e3⟩ := e2 S h0 hn
    have hS1 : S1[n]? = some (.lst acc) := k1.trans hS
    have hn1 : n < S1.length := by omega
    cases hb : b u with
    | true =>
      obtain ⟨S2, e4, h2, l2, k2⟩ := lcJ_fil (us := us) (acc := acc ++ [g u]) hi (fun v hv => hf v (List.mem_cons_of_mem _ hv)) (hi S1 (acc ++ [g u]) h1) (by rw [List.getElem?_set_self hn1]) (by simp at hz ⊢; omega)
      refine ⟨S2, ?_, h2, by simp at l2; omega, by rw [k2]; simp [hb]⟩
      rw [List.map_cons]
      unfold lcJ
      simp only [if_true, e1, ec, hb, bind_ok, e3, pushAt_ok hS1 (show acc.length < sizeLine by simp at hz; omega)]
      exact e4
    | false =>
      obtain ⟨S2, e4, h2, l2, k2⟩ := lcJ_fil (us := us) (acc := acc) hi (fun v hv => hf v (List.mem_cons_of_mem _ hv)) h1 hS1 (by simp at hz ⊢; omega)
      refine ⟨S2, ?_, h2, by omega, by rw [k2]; simp [hb]⟩
      rw [List.map_cons]
      unfold lcJ
      simp only [if_true, e1, ec, hb, bind_ok, Bool.false_eq_true, if_false]
      exact e4
end
/-! ### comprehensions as wholes -/
section
variable {S S0 : Sto} {Φ : Cal} {tp : Bool} {is : List Nat} {env : Env} {elt it a b : E} {es : Es} {t : T} {us xs ys : List U} {i j : Int}
theorem lc_run (hit : ev Φ it env S = .ok (.tup us) S0) : ev Φ (.lc is tp elt it t) env S = (lcJ tp is (wipeE env is) (fun env S => (evt Φ t env S).noex) (fun env S => (ev Φ elt env S).noex) S0.length (fun _ => true) us (S0 ++ [.lst []])).bind fun _ S' => .ok (.loc S0.length) S' := by
  rw [ev_lc, hit, bind_ok]
  simp only [iterU, lcI_none]
theorem lcr_run (ha : ev Φ a env S = .ok (.int i) S) (hb : ev Φ b env S = .ok (.int j) S) (hi : -(2 ^ 62) ≤ i ∧ i < 2 ^ 62 ∧ -(2 ^ 62) ≤ j ∧ j < 2 ^ 62) :
    ev Φ (.lcr is elt a b t) env S = (lcJ false is (wipeE env is) (fun env S => (evt Φ t env S).noex) (fun env S => (ev Φ elt env S).noex) S.length (fun _ => true) (ranged i j) (S ++ [.lst []])).bind fun _ S' => .ok (.loc S.length) S' := by
  rw [ev, ha, bind_ok, hb, bind_ok]
  simp only [if_pos hi, lcI_none]
theorem lcz_run (he : evs Φ es env S = .ok [.tup xs, .tup ys] S0) : ev Φ (.lcz is elt es t) env S = (lcJ true is (wipeE env is) (fun env S => (evt Φ t env S).noex) (fun env S => (ev Φ elt env S).noex) S0.length (fun _ => true) (zipped xs ys) (S0 ++ [.lst []])).bind fun _ S' => .ok (.loc S0.length) S' := by
  rw [ev, he, bind_ok]
  simp only [zipU]
/-- each item by a pure function -/
def PureAt {α : Type} (Φ : Cal) (tp : Bool) (is : List Nat) (env : Env) (elt : E) (l : List α) (fu g : α → U) : Prop := ∀ u ∈ l, ∃ env', setN tp is (fu u) (wipeE env is) = some env' ∧ ∀ S1, ∃ S2, ev Φ elt env' S1 = .ok (g u) S2 ∧ Gr S1 S2
variable {α : Type} {l : List α} {fu g : α → U} {k : α → Bool}
theorem lcJ_pure (h : PureAt Φ tp is env elt l fu g) (hz : l.length ≤ sizeLine) : ∃ S', (lcJ tp is (wipeE env is) (fun env S => (evt Φ .tt env S).noex) (fun env S => (ev Φ elt env S).noex) S.length (fun _ => true) (l.map fu) (S ++ [.lst []])).bind (fun _ S' => (R.ok (U.loc S.length) S' : R U)) = .ok (.loc S.length) S' ∧ Gr S S' ∧ S'[S.length]? = some (.lst (l.map g)) := by
  obtain ⟨ys, S', e, q, g1, _, k⟩ := lcJ_rel (tp := tp) (is := is) (env := wipeE env is) (n := S.length) (c := fun env S => (evt Φ .tt env S).noex) (f := fun env S => (ev Φ elt env S).noex) (Inv := fun S1 => Gr S S1) (Q := fun u y => y = g u) (fu := fu) (us := l) (S := S ++ [.lst []]) (acc := [])
    (fun S1 x h1 => h1.set_new (Nat.le_refl _)) (fun u hu => by
      obtain ⟨env', e1, e2⟩ := h u hu
      refine ⟨env', e1, fun S1 h1 hn => ⟨rfl, ?_⟩⟩
      obtain ⟨S2, e3, g2⟩ := e2 S1
      exact ⟨g u, S2, by simp only [e3]; rfl, rfl, h1.trans g2, g2.1, g2.2 _ hn⟩) Gr.push last_get (by simpa using hz)
  exact ⟨S', by rw [e, bind_ok], g1, by rw [k, q.map_eq]; rfl⟩
theorem lc_pure (hit : ev Φ it env S = .ok (.tup (l.map fu)) S0) (h : PureAt Φ tp is env elt l fu g) (hz : l.length ≤ sizeLine) : ∃ S', ev Φ (.lc is tp elt it .tt) env S = .ok (.loc S0.length) S' ∧ Gr S0 S' ∧ S'[S0.length]? = some (.lst (l.map g)) := by
  rw [lc_run hit]
  exact lcJ_pure h hz
theorem zipped_map {β : Type} {f : β → U} : ∀ xs ys : List β, zipped (xs.map f) (ys.map f) = (xs.zip ys).map fun p => .tup [f p.1, f p.2]
  | [], _ => by simp [zipped]
  | _ :: _, [] => by simp [zipped]
  | x :: xs, y :: ys => by simp [zipped, zipped_map xs ys]
theorem lcz_pure {β : Type} {f : β → U} {xs ys : List β} {g : β × β → U} (he : evs Φ es env S = .ok [.tup (xs.map f), .tup (ys.map f)] S0) (h : PureAt Φ true is env elt (xs.zip ys) (fun p => .tup [f p.1, f p.2]) g) (hz : (xs.zip ys).length ≤ sizeLine) :
    ∃ S', ev Φ (.lcz is elt es .tt) env S = .ok (.loc S0.length) S' ∧ Gr S0 S' ∧ S'[S0.length]? = some (.lst ((xs.zip ys).map g)) := by
  rw [lcz_run he, zipped_map]
  exact lcJ_pure h hz
theorem lcr_pure {g : Nat → U} (ha : ev Φ a env S = .ok (.int i) S) (hb : ev Φ b env S = .ok (.int j) S) (hi : -(2 ^ 62) ≤ i ∧ i < 2 ^ 62 ∧ -(2 ^ 62) ≤ j ∧ j < 2 ^ 62) (h : PureAt Φ false is env elt (List.range (j - i).toNat) (fun k => U.int (i + (k : Nat))) g) (hz : (j - i).toNat ≤ sizeLine) :
    ∃ S', ev Φ (.lcr is elt a b .tt) env S = .ok (.loc S.length) S' ∧ Gr S S' ∧ S'[S.length]? = some (.lst ((List.range (j - i).toNat).map g)) := by
  rw [lcr_run ha hb hi]
  exact lcJ_pure h (by simpa using hz)
/-- those items of which the test is true -/
def TestAt {α : Type} (Φ : Cal) (tp : Bool) (is : List Nat) (env : Env) (elt : E) (t : T) (l : List α) (fu g : α → U) (k : α → Bool) : Prop := ∀ u ∈ l, ∃ env', setN tp is (fu u) (wipeE env is) = some env' ∧ ∀ S1, ∃ S2, evt Φ t env' S1 = .ok (k u) S2 ∧ Gr S1 S2 ∧ ev Φ elt env' S2 = .ok (g u) S2
theorem lcJ_test (h : TestAt Φ tp is env elt t l fu g k) (hz : l.length ≤ sizeLine) : ∃ S', (lcJ tp is (wipeE env is) (fun env S => (evt Φ t env S).noex) (fun env S => (ev Φ elt env S).noex) S.length (fun _ => true) (l.map fu) (S ++ [.lst []])).bind (fun _ S' => (R.ok (U.loc S.length) S' : R U)) = .ok (.loc S.length) S' ∧ Gr S S' ∧ S'[S.length]? = some (.lst ((l.filter k).map g)) := by
  obtain ⟨S', e, g1, _, q⟩ := lcJ_fil (tp := tp) (is := is) (env := wipeE env is) (n := S.length) (c := fun env S => (evt Φ t env S).noex) (f := fun env S => (ev Φ elt env S).noex) (Inv := fun S1 => Gr S S1) (b := k) (g := g) (fu := fu) (us := l) (S := S ++ [.lst []]) (acc := [])
    (fun S1 x h1 => h1.set_new (Nat.le_refl _)) (fun u hu => by
      obtain ⟨env', e1, e2⟩ := h u hu
      refine ⟨env', e1, fun S1 h1 hn => ?_⟩
      obtain ⟨S2, e3, g2, e4⟩ := e2 S1
      exact ⟨S2, by simp only [e3]; rfl, h1.trans g2, g2.1, g2.2 _ hn, by simp only [e4]; rfl⟩) Gr.push last_get (by simpa using hz)
  exact ⟨S', by rw [e, bind_ok], g1, by rw [q]; rfl⟩
theorem lc_test (hit : ev Φ it env S = .ok (.tup (l.map fu)) S0) (h : TestAt Φ tp is env elt t l fu g k) (hz : l.length ≤ sizeLine) : ∃ S', ev Φ (.lc is tp elt it t) env S = .ok (.loc S0.length) S' ∧ Gr S0 S' ∧ S'[S0.length]? = some (.lst ((l.filter k).map g)) := by
  rw [lc_run hit]
  exact lcJ_test h hz
theorem lcr_test {g : Nat → U} {k : Nat → Bool} (ha : ev Φ a env S = .ok (.int i) S) (hb : ev Φ b env S = .ok (.int j) S) (hi : -(2 ^ 62) ≤ i ∧ i < 2 ^ 62 ∧ -(2 ^ 62) ≤ j ∧ j < 2 ^ 62) (h : TestAt Φ false is env elt t (List.range (j - i).toNat) (fun k => U.int (i + (k : Nat))) g k) (hz : (j - i).toNat ≤ sizeLine) :
    ∃ S', ev Φ (.lcr is elt a b t) env S = .ok (.loc S.length) S' ∧ Gr S S' ∧ S'[S.length]? = some (.lst (((List.range (j - i).toNat).filter k).map g)) := by
  rw [lcr_run ha hb hi]
  exact lcJ_test h (by simpa using hz)
/-- with a state: Inv goes through -/
theorem lc_state {Inv : Sto → Prop} {Q : α → U → Prop} (hit : ev Φ it env S = .ok (.tup (l.map fu)) S0) (hi : ∀ S x, Inv S → Inv (S.set S0.length (.lst x))) (h : ∀ u ∈ l, ∃ env', setN tp is (fu u) (wipeE env is) = some env' ∧ ∀ S1, Inv S1 → S0.length < S1.length → ∃ y S2, ev Φ elt env' S1 = .ok y S2 ∧ Q u y ∧ Inv S2 ∧ S1.length ≤ S2.length ∧ S2[S0.length]? = S1[S0.length]?)
    (h0 : Inv (S0 ++ [.lst []])) (hz : l.length ≤ sizeLine) : ∃ ys S', ev Φ (.lc is tp elt it .tt) env S = .ok (.loc S0.length) S' ∧ All2 Q l ys ∧ Inv S' ∧ S0.length < S'.length ∧ S'[S0.length]? = some (.lst ys) := by
  rw [lc_run hit]
  obtain ⟨ys, S', e, q, g1, l1, k⟩ := lcJ_rel (tp := tp) (is := is) (env := wipeE env is) (n := S0.length) (c := fun env S => (evt Φ .tt env S).noex) (f := fun env S => (ev Φ elt env S).noex) (Inv := Inv) (Q := Q) (fu := fu) (us := l) (S := S0 ++ [.lst []]) (acc := [])
    hi (fun u hu => by
      obtain ⟨env', e1, e2⟩ := h u hu
      refine ⟨env', e1, fun S1 h1 hn => ⟨rfl, ?_⟩⟩
      obtain ⟨y, S2, e3, q, i2, l2, k2⟩ := e2 S1 h1 hn
      exact ⟨y, S2, by simp only [e3]; rfl, q, i2, l2, k2⟩) h0 last_get (by simpa using hz)
  exact ⟨ys, S', by rw [e, bind_ok], q, g1, by simp at l1; omega, k⟩
/-! ### with a state of two cells -/
/-- only the cells st, cl change -/
def F2 (S S' : Sto) (st cl : Nat) : Prop := S.length ≤ S'.length ∧ ∀ k, k < S.length → k ≠ st → k ≠ cl → S'[k]? = S[k]?
theorem F2.refl {st cl : Nat} : F2 S S st cl := ⟨Nat.le_refl _, fun _ _ _ _ => rfl⟩
theorem F2.trans {S1 S2 S3 : Sto} {st cl : Nat} (a : F2 S1 S2 st cl) (b : F2 S2 S3 st cl) : F2 S1 S3 st cl := ⟨Nat.le_trans a.1 b.1, fun k h h1 h2 => (b.2 k (Nat.lt_of_lt_of_le h a.1) h1 h2).trans (a.2 k h h1 h2)⟩
theorem F2.push {st cl : Nat} {c : Cel} : F2 S (S ++ [c]) st cl := ⟨by simp, fun k h _ _ => List.getElem?_append_left h⟩
theorem Gr.f2 {S S' : Sto} {st cl : Nat} (g : Gr S S') : F2 S S' st cl := ⟨g.1, fun k h _ _ => g.2 k h⟩
structure Stt (S : Sto) (st cl : Nat) (c : Int) (cs : List Int) : Prop where
  s : S[st]? = some (.lst [.int c, .loc cl])
  t : S[cl]? = some (.lst (cs.map U.int))
  ne : st ≠ cl
  pos : cs ≠ []
  nn : ∀ x ∈ cs, 0 ≤ x
def HasSt (S : Sto) (st cl : Nat) : Prop := ∃ c cs, Stt S st cl c cs
theorem HasSt.gr {S S' : Sto} {st cl : Nat} (h : HasSt S st cl) (g : Gr S S') : HasSt S' st cl := by
  obtain ⟨c, cs, h⟩ := h
  exact ⟨c, cs, g.at_ h.s, g.at_ h.t, h.ne, h.pos, h.nn⟩
theorem HasSt.lt {S : Sto} {st cl : Nat} (h : HasSt S st cl) : st < S.length ∧ cl < S.length := by
  obtain ⟨c, cs, h⟩ := h
  exact ⟨(List.getElem?_eq_some_iff.mp h.s).1, (List.getElem?_eq_some_iff.mp h.t).1⟩
theorem HasSt.set {S : Sto} {st cl n : Nat} {c : Cel} (h : HasSt S st cl) (h1 : n ≠ st) (h2 : n ≠ cl) : HasSt (S.set n c) st cl := by
  obtain ⟨a, cs, h⟩ := h
  exact ⟨a, cs, by rw [List.getElem?_set_ne h1]; exact h.s, by rw [List.getElem?_set_ne h2]; exact h.t, h.ne, h.pos, h.nn⟩
/-- a comprehension whose items take from the state -/
theorem lc_take {st cl : Nat} {Q : α → U → Prop} (hs : HasSt S0 st cl) (hit : ev Φ it env S = .ok (.tup (l.map fu)) S0) (h : ∀ u ∈ l, ∃ env', setN tp is (fu u) (wipeE env is) = some env' ∧ ∀ S1, HasSt S1 st cl → ∃ y S2, ev Φ elt env' S1 = .ok y S2 ∧ Q u y ∧ HasSt S2 st cl ∧ F2 S1 S2 st cl) (hz : l.length ≤ sizeLine) :
    ∃ ys S', ev Φ (.lc is tp elt it .tt) env S = .ok (.loc S0.length) S' ∧ All2 Q l ys ∧ HasSt S' st cl ∧ F2 S0 S' st cl ∧ S'[S0.length]? = some (.lst ys) := by
  obtain ⟨h1, h2⟩ := hs.lt
  obtain ⟨ys, S', e, q, ⟨i1, i2⟩, _, k⟩ := lc_state (Inv := fun S1 => HasSt S1 st cl ∧ F2 S0 S1 st cl) (Q := Q) (elt := elt) (tp := tp) (is := is) hit (fun S1 x ⟨a, b⟩ => ⟨a.set (by omega) (by omega), by simp; exact b.1, fun k hk n1 n2 => by rw [List.getElem?_set_ne (by omega)]; exact b.2 k hk n1 n2⟩)
    (fun u hu => by
      obtain ⟨env', e1, e2⟩ := h u hu
      refine ⟨env', e1, fun S1 ⟨a, b⟩ hn => ?_⟩
      obtain ⟨y, S2, e3, q, a2, b2⟩ := e2 S1 a
      exact ⟨y, S2, e3, q, ⟨a2, b.trans b2⟩, b2.1, b2.2 _ hn (by omega) (by omega)⟩) ⟨hs.gr Gr.push, F2.push⟩ hz
  exact ⟨ys, S', e, q, i1, i2, k⟩
end
section
variable {Φ : Cal} {S : Sto} {env : Env} {e : E} {t : String} {x k : U}
theorem ev_isi : ev Φ (.isi e t) env S = (ev Φ e env S).bind fun x S => (match tyU S x with | some t' => (match kitB t' t with | some k => .ok (.bl k) S | none => .bad) | none => .bad) := rfl
theorem ev_gd {x : Str} {kvs : List (Str × U)} (h : Φ.gd x = some kvs) : ev Φ (.gd x e) env S = (ev Φ e env S).bind fun k S => (match k with | .str z => rO (kvs.lookup z) S | _ => .bad) := by
  rw [ev, h]
  congr 1
  funext k S
  cases k <;> rfl
end
/-! ### what is built of texts and tuples -/
mutual
def stU : U → Bool
  | .str _ => true
  | .tup xs => stUs xs
  | _ => false
def stUs : List U → Bool
  | [] => true
  | u :: us => stU u && stUs us
end
mutual
theorem eqU_st : ∀ a b : U, stU a = true → stU b = true → (eqU a b = true ↔ a = b)
  | .str x, b, _, hb => by cases b <;> simp_all [stU, eqU]
  | .tup x, b, ha, hb => by
    cases b with
    | tup y =>
      simp only [eqU, U.tup.injEq]
      exact eqUs_st x y (by simpa [stU] using ha) (by simpa [stU] using hb)
    | _ => simp_all [stU, eqU]
  | .non, b, ha, hb => by simp [stU] at ha
  | .bl _, b, ha, hb => by simp [stU] at ha
  | .int _, b, ha, hb => by simp [stU] at ha
  | .loc _, b, ha, hb => by simp [stU] at ha
theorem eqUs_st : ∀ a b : List U, stUs a = true → stUs b = true → (eqUs a b = true ↔ a = b)
  | [], b, _, _ => by cases b <;> simp [eqUs]
  | x :: xs, b, ha, hb => by
    cases b with
    | nil => simp [eqUs]
    | cons y ys =>
      simp only [stUs, Bool.and_eq_true] at ha hb
      simp only [eqUs, Bool.and_eq_true, List.cons.injEq]
      rw [eqU_st x y ha.1 hb.1, eqUs_st xs ys ha.2 hb.2]
end
theorem eqR_tup {xs ys : List U} {S : Sto} (h : okU (.tup xs) = true) (h' : okU (.tup ys) = true) : eqR (.tup xs) (.tup ys) S = some (eqU (.tup xs) (.tup ys)) := by
  unfold eqR
  simp only [h, h', Bool.and_self, if_true]
/-! ### in every store -/
section
variable {Φ : Cal} {env : Env} {e a b : E} {es : Es} {t t' : T} {sts : Sts} {u w x y : U} {k : Bool} {f : Str} {o : Cm} {i : Nat}
def Ev (Φ : Cal) (e : E) (env : Env) (u : U) : Prop := ∀ S, ∃ S', ev Φ e env S = .ok u S'
def Et (Φ : Cal) (t : T) (env : Env) (k : Bool) : Prop := ∀ S, ∃ S', evt Φ t env S = .ok k S'
def Ex (Φ : Cal) (sts : Sts) (env : Env) (u : U) : Prop := ∀ S, ∃ S', exs Φ sts env S = .ret u S'
def Ec (Φ : Cal) (f : Str) (us : List U) (w : U) : Prop := ∀ S, ∃ S', Φ.call f us S = .ok w S'
theorem Ev.v (h : env[i]? = some (some u)) : Ev Φ (.v i) env u := fun S => ⟨S, ev_v' h⟩
theorem Ev.con : Ev Φ (.k u) env u := fun S => ⟨S, rfl⟩
theorem Ev.call1 (h : Ev Φ a env u) (hc : Ec Φ f [u] w) : Ev Φ (.call f (.cons a .nil)) env w := fun S => by
  obtain ⟨S1, e1⟩ := h S
  obtain ⟨S2, e2⟩ := hc S1
  exact ⟨S2, by rw [ev_call, evs_cons, e1, bind_ok, evs_nil, bind_ok, bind_ok, e2]⟩
theorem Ev.call2 (h : Ev Φ a env u) (h' : Ev Φ b env x) (hc : Ec Φ f [u, x] w) : Ev Φ (.call f (.cons a (.cons b .nil))) env w := fun S => by
  obtain ⟨S1, e1⟩ := h S
  obtain ⟨S2, e2⟩ := h' S1
  obtain ⟨S3, e3⟩ := hc S2
  exact ⟨S3, by rw [ev_call, evs_cons, e1, bind_ok, evs_cons, e2, bind_ok, evs_nil, bind_ok, bind_ok, bind_ok, e3]⟩
theorem Ev.cmp (h : Ev Φ a env x) (h' : Ev Φ b env y) (hc : ∀ S, cmpU o x y S = .ok w S) : Ev Φ (.cmp o a b) env w := fun S => by
  obtain ⟨S1, e1⟩ := h S
  obtain ⟨S2, e2⟩ := h' S1
  exact ⟨S2, by rw [ev_cmp, e1, bind_ok, e2, bind_ok, hc]⟩
theorem Ev.and_t (h : Ev Φ a env (.bl true)) (h' : Ev Φ b env w) : Ev Φ (.and a b) env w := fun S => by
  obtain ⟨S1, e1⟩ := h S
  obtain ⟨S2, e2⟩ := h' S1
  exact ⟨S2, by rw [ev_and, e1, bind_ok]; exact e2⟩
theorem Ev.tup1 (h : Ev Φ a env x) : Ev Φ (.tup (.cons a .nil)) env (.tup [x]) := fun S => by
  obtain ⟨S1, e1⟩ := h S
  exact ⟨S1, by rw [ev_tup, evs_cons, e1, bind_ok, evs_nil, bind_ok, bind_ok, if_pos (show [x].length ≤ sizeLine from (by decide : 1 ≤ sizeLine))]⟩
theorem Et.ex (h : Ev Φ a env (.bl k)) : Et Φ (.e a) env k := fun S => by
  obtain ⟨S1, e1⟩ := h S
  exact ⟨S1, by rw [evt_e, e1, bind_ok]; rfl⟩
theorem Et.not (h : Et Φ t env k) : Et Φ (.not t) env (!k) := fun S => by
  obtain ⟨S1, e1⟩ := h S
  exact ⟨S1, by rw [evt_not, e1, bind_ok]⟩
theorem Et.or_f (h : Et Φ t env false) (h' : Et Φ t' env k) : Et Φ (.or t t') env k := fun S => by
  obtain ⟨S1, e1⟩ := h S
  obtain ⟨S2, e2⟩ := h' S1
  exact ⟨S2, by rw [evt_or, e1, bind_ok, if_neg Bool.false_ne_true, e2]⟩
theorem Et.or_t (h : Et Φ t env true) : Et Φ (.or t t') env true := fun S => by
  obtain ⟨S1, e1⟩ := h S
  exact ⟨S1, by rw [evt_or, e1, bind_ok, if_pos rfl]⟩
theorem Et.and_t (h : Et Φ t env true) (h' : Et Φ t' env k) : Et Φ (.and t t') env k := fun S => by
  obtain ⟨S1, e1⟩ := h S
  obtain ⟨S2, e2⟩ := h' S1
  exact ⟨S2, by rw [evt_and, e1, bind_ok, if_pos rfl, e2]⟩
theorem Et.and_f (h : Et Φ t env false) : Et Φ (.and t t') env false := fun S => by
  obtain ⟨S1, e1⟩ := h S
  exact ⟨S1, by rw [evt_and, e1, bind_ok, if_neg Bool.false_ne_true]⟩
theorem Ex.skip (h : Et Φ t env false) (h' : Ex Φ sts env u) {s : Sts} : Ex Φ (.cons (.if_ t s .nil) sts) env u := fun S => by
  obtain ⟨S1, e1⟩ := h S
  obtain ⟨S2, e2⟩ := h' S1
  exact ⟨S2, by rw [exs_cons, ex_if, e1, on_ok, if_neg Bool.false_ne_true, exs_nil, then_nx, e2]⟩
theorem Ex.stop (h : Et Φ t env true) (h' : Ev Φ e env u) {s : Sts} : Ex Φ (.cons (.if_ t (.cons (.ret e) .nil) s) sts) env u := fun S => by
  obtain ⟨S1, e1⟩ := h S
  obtain ⟨S2, e2⟩ := h' S1
  exact ⟨S2, by rw [exs_cons, ex_if, e1, on_ok, if_pos rfl, exs_cons, ex_ret, e2, on_ok, then_ret, then_ret]⟩
theorem Ex.set (h : Ev Φ e env x) (h' : Ex Φ sts (env.set i (some x)) u) : Ex Φ (.cons (.set false [i] e) sts) env u := fun S => by
  obtain ⟨S1, e1⟩ := h S
  obtain ⟨S2, e2⟩ := h' S1
  exact ⟨S2, by rw [exs_cons, ex_set, e1, on_ok]; exact e2⟩
theorem Ex.ret (h : Ev Φ e env u) : Ex Φ (.cons (.ret e) sts) env u := fun S => by
  obtain ⟨S1, e1⟩ := h S
  exact ⟨S1, by rw [exs_cons, ex_ret, e1, on_ok, then_ret]⟩
/-- one statement, in a store -/
theorem go_set {S S' : Sto} (h : ev Φ e env S = .ok x S') : exs Φ (.cons (.set false [i] e) sts) env S = exs Φ sts (env.set i (some x)) S' := by
  rw [exs_cons, ex_set, h, on_ok]
  rfl
theorem go_skip {S S' : Sto} {s : Sts} (h : evt Φ t env S = .ok false S') : exs Φ (.cons (.if_ t s .nil) sts) env S = exs Φ sts env S' := by
  rw [exs_cons, ex_if, h, on_ok, if_neg Bool.false_ne_true, exs_nil, then_nx]
theorem go_if_set {S S' S'' : Sto} {s : Sts} (h : evt Φ t env S = .ok true S') (h' : ev Φ e env S' = .ok x S'') : exs Φ (.cons (.if_ t (.cons (.set false [i] e) .nil) s) sts) env S = exs Φ sts (env.set i (some x)) S'' := by
  rw [exs_cons, ex_if, h, on_ok, if_pos rfl, go_set h', exs_nil, then_nx]
end
/-! ### texts that are written, patterns, keywords -/
theorem ofS_inj {a b : String} : (Str.ofString a = Str.ofString b) = (a = b) := by
  apply propext
  constructor
  · intro h
    rw [Str.ofString_eq_toList, Str.ofString_eq_toList] at h
    have h1 : a.toList.map Char.toNat = b.toList.map Char.toNat := by
      have := congrArg (fun z : Str => z.cps.toList) h
      simpa using this
    have h2 : a.toList = b.toList := (List.map_inj_right fun x y e => by
      have := congrArg Char.ofNat e
      simpa using this).mp h1
    exact String.toList_inj.mp h2
  · rintro rfl; rfl
section
variable {Φ : Cal} {env : Env} {S : Sto} {e : E} {cs : Cs} {p : Pt} {b : Sts} {u : U} {us : List U} {ps : List Pi} {x y : Str} {i : Nat} {es ks : Es} {f : Str}
theorem ex_mtch : ex Φ (.mtch e cs) env S = (ev Φ e env S).on fun u S => exc Φ cs u env S := rfl
theorem exc_nil : exc Φ .nil u env S = .nx env S := rfl
theorem exc_cons : exc Φ (.cons p b cs) u env S = (match ptM p u env with
    | some (some env') => exs Φ b env' S
    | some none => exc Φ cs u env S
    | none => .bad) := rfl
theorem pt_wild : ptM .wild u env = some (some env) := by cases u <;> rfl
theorem pt_val : ptM (.val x) (.str y) env = some (if y = x then some env else none) := rfl
theorem pt_seq : ptM (.seq ps) (.tup us) env = if us.length = ps.length then pisM ps us env else some none := rfl
theorem pi_nil : pisM [] [] env = some (some env) := rfl
theorem pi_lit : pisM (.lit x :: ps) (.str y :: us) env = if y = x then pisM ps us env else some none := rfl
theorem pi_cap : pisM (.cap i :: ps) (u :: us) env = pisM ps us (env.set i (some u)) := by cases u <;> rfl
theorem pi_wild : pisM (.wild :: ps) (u :: us) env = pisM ps us env := by cases u <;> rfl
theorem ev_kcall : ev Φ (.kcall f es ks) env S = (evs Φ es env S).bind fun us S => (evs Φ ks env S).bind fun zs S => Φ.kcal f (us ++ zs) S := rfl
theorem ev_din {kvs : List (Str × U)} (h : Φ.gd x = some kvs) : ev Φ (.din x e) env S = (ev Φ e env S).bind fun k S => (match k with | .str z => .ok (.bl (kvs.lookup z).isSome) S | _ => .bad) := by
  rw [ev, h]
  congr 1
  funext k S
  cases k <;> rfl
end
/-! ### what is built of texts, integers and tuples -/
mutual
def siU : U → Bool
  | .str _ => true
  | .int _ => true
  | .tup xs => siUs xs
  | _ => false
def siUs : List U → Bool
  | [] => true
  | u :: us => siU u && siUs us
end
mutual
theorem eqU_si : ∀ a b : U, siU a = true → siU b = true → (eqU a b = true ↔ a = b)
  | .str x, b, _, hb => by cases b <;> simp_all [siU, eqU]
  | .int x, b, _, hb => by cases b <;> simp_all [siU, eqU]
  | .tup x, b, ha, hb => by
    cases b with
    | tup y =>
      simp only [eqU, U.tup.injEq]
      exact eqUs_si x y (by simpa [siU] using ha) (by simpa [siU] using hb)
    | _ => simp_all [siU, eqU]
  | .non, b, ha, hb => by simp [siU] at ha
  | .bl _, b, ha, hb => by simp [siU] at ha
  | .loc _, b, ha, hb => by simp [siU] at ha
theorem eqUs_si : ∀ a b : List U, siUs a = true → siUs b = true → (eqUs a b = true ↔ a = b)
  | [], b, _, _ => by cases b <;> simp [eqUs]
  | x :: xs, b, ha, hb => by
    cases b with
    | nil => simp [eqUs]
    | cons y ys =>
      simp only [siUs, Bool.and_eq_true] at ha hb
      simp only [eqUs, Bool.and_eq_true, List.cons.injEq]
      rw [eqU_si x y ha.1 hb.1, eqUs_si xs ys ha.2 hb.2]
end
end Oz
/-! comprehensions left -/

end
local macro_rules
  | `(tactic| simp_arith only [$ls,*] $[$l:location]?) => `(tactic| simp only [Oz.bind_ok, Oz.bind_exc, Oz.bind_bad, Oz.on_ok, Oz.on_exc, Oz.then_nx, Oz.then_ret, Oz.then_exc, Oz.then_bk, Oz.then_ct, Oz.turn_nx, Oz.turn_ret, Oz.turn_exc, Oz.fin_nx, Oz.fin_ret, Oz.fin_exc, Oz.rO_some, Oz.noex_ok,
      Oz.ev_v, Oz.ev_k, Oz.ev_tup, Oz.ev_lst, Oz.ev_bin, Oz.ev_neg, Oz.ev_cmp, Oz.ev_and, Oz.ev_or, Oz.ev_not, Oz.ev_ife, Oz.ev_ix, Oz.ev_sl, Oz.ev_call, Oz.ev_bf, Oz.ev_bm, Oz.ev_isi, Oz.evo_no, Oz.evo_so, Oz.evs_nil, Oz.evs_cons, Oz.evs_star, Oz.evt_tt, Oz.evt_e, Oz.evt_and, Oz.evt_or, Oz.evt_not,
      Oz.ex_mtch, Oz.exc_nil, Oz.exc_cons, Oz.pt_wild, Oz.pt_val, Oz.pt_seq, Oz.pi_nil, Oz.pi_lit, Oz.pi_cap, Oz.pi_wild, Oz.ev_kcall, Oz.ofS_inj, String.reduceEq, Nat.reduceEqDiff, Oz.ex_set, Oz.ex_sub, Oz.ex_aug, Oz.ex_ex, Oz.ex_ret, Oz.ex_if, Oz.exs_nil, Oz.exs_cons, Oz.tru_bl, Oz.tru_int, Oz.add_int, Oz.sub_int, Oz.aug_add_int, Oz.aug_sub_int, Oz.c_eq_int, Oz.c_ne_int, Oz.c_lt_int, Oz.c_le_int, Oz.c_gt_int, Oz.c_ge_int, Oz.c_eq_str, Oz.c_ne_str,
      Oz.set_int, List.replicate_succ, List.replicate_zero, List.getElem?_cons_zero, List.getElem?_cons_succ, List.set_cons_zero, List.set_cons_succ, List.map_cons, List.map_nil, List.cons_append, List.nil_append, List.append_nil, if_true, if_false, Bool.false_eq_true, Bool.true_eq_false, decide_eq_true_eq, true_and, and_true, Bool.not_true, Bool.not_false, List.length_cons, List.length_nil, Nat.zero_add, Nat.reduceAdd, $ls,*] $[$l:location]?)
section
set_option maxHeartbeats 4000000

end

section
set_option maxHeartbeats 4000000
/-! OzQ: walks over lists. -/
namespace Oz
open PySem PySem.Spec PyProof.Rows L2
section
variable {S S' : Sto} {tp tp1 : Bool} {is is1 : List Nat} {env : Env} {n m : Nat}
theorem lcI_eq {c : Env → Sto → R Bool} {f : Env → Sto → R U} {all : List U} {src : Option Nat} : ∀ (us : List U) (S : Sto), lcI tp is env c f n all src us S = lcJ tp is env c f n (fun S => stays S all src) us S
  | [], S => rfl
  | u :: us, S => by
    unfold lcI lcJ
    cases stays S all src with
    | false => rfl
    | true =>
      simp only [if_true]
      cases setN tp is u env with
      | none => rfl
      | some env' =>
        simp only
        congr 1
        funext b S1
        cases b with
        | true =>
          simp only [if_true]
          congr 1
          funext y S2
          congr 1
          funext _ S3
          exact lcI_eq us S3
        | false =>
          simp only [Bool.false_eq_true, if_false]
          exact lcI_eq us S1
theorem lcJ_relS {α : Type} {fu : α → U} {c : Env → Sto → R Bool} {f : Env → Sto → R U} {st : Sto → Bool} {Inv : Sto → Prop} {Q : α → U → Prop} (hi : ∀ S x, Inv S → Inv (S.set n (.lst x))) (hst : ∀ S, Inv S → st S = true) : ∀ {us : List α} {S : Sto} {acc : List U}
    (hf : ∀ u ∈ us, ∃ env', setN tp is (fu u) env = some env' ∧ ∀ S, Inv S → n < S.length → c env' S = .ok true S ∧ ∃ y S', f env' S = .ok y S' ∧ Q u y ∧ Inv S' ∧ S.length ≤ S'.length ∧ S'[n]? = S[n]?) (h0 : Inv S) (hS : S[n]? = some (.lst acc)) (hz : acc.length + us.length ≤ sizeLine),
    ∃ ys S', lcJ tp is env c f n st (us.map fu) S = .ok () S' ∧ All2 Q us ys ∧ Inv S' ∧ S.length ≤ S'.length ∧ S'[n]? = some (.lst (acc ++ ys))
  | [], S, acc, hf, h0, hS, hz => ⟨[], S, by rw [List.map_nil, lcJ, if_pos (hst S h0)], .nil, h0, Nat.le_refl _, by rw [List.append_nil]; exact hS⟩
  | u :: us, S, acc, hf, h0, hS, hz => by
    obtain ⟨env', e1, e2⟩ := hf u List.mem_cons_self
    have hn : n < S.length := (List.getElem?_eq_some_iff.mp hS).1
    obtain ⟨ec, y, S1, e3, q, h1, l1, k1⟩ := e2 S h0 hn
    have hS1 : S1[n]? = some (.lst acc) := k1.trans hS
    have hn1 : n < S1.length := by omega
    obtain ⟨ys, S2, e4, q2, h2, l2, k2⟩ := lcJ_relS (us := us) (acc := acc ++ [y]) hi hst (fun v hv => hf v (List.mem_cons_of_mem _ hv)) (hi S1 (acc ++ [y]) h1) (by rw [List.getElem?_set_self hn1]) (by simp at hz ⊢; omega)
    refine ⟨y :: ys, S2, ?_, .cons q q2, h2, by simp at l2; omega, by rw [k2, List.append_assoc]; rfl⟩
    rw [List.map_cons]
    unfold lcJ
    simp only [hst S h0, if_true, e1, ec, bind_ok, e3, pushAt_ok hS1 (show acc.length < sizeLine by simp at hz; omega)]
    exact e4
variable {Φ : Cal} {S0 : Sto} {elt it it1 : E} {α β : Type} {l : List α} {fu : α → U}
theorem stays_lst {us : List U} (h : S[m]? = some (.lst us)) : stays S us (some m) = true := isLst_lst h
theorem lcl_run {us : List U} (hit : ev Φ it env S = .ok (.loc m) S0) (hm : S0[m]? = some (.lst us)) : ev Φ (.lc is tp elt it .tt) env S = (lcJ tp is (wipeE env is) (fun env S => (evt Φ .tt env S).noex) (fun env S => (ev Φ elt env S).noex) S0.length (fun S => stays S us (some m)) us (S0 ++ [.lst []])).bind fun _ S' => .ok (.loc S0.length) S' := by
  rw [ev_lc, hit, bind_ok]
  simp only [iterU, hm, lcI_eq]
theorem lcl_pure {g : α → U} (hit : ev Φ it env S = .ok (.loc m) S0) (hm : S0[m]? = some (.lst (l.map fu))) (h : PureAt Φ tp is env elt l fu g) (hz : l.length ≤ sizeLine) : ∃ S', ev Φ (.lc is tp elt it .tt) env S = .ok (.loc S0.length) S' ∧ Gr S0 S' ∧ S'[S0.length]? = some (.lst (l.map g)) := by
  rw [lcl_run hit hm]
  obtain ⟨ys, S', e, q, g1, _, k⟩ := lcJ_relS (tp := tp) (is := is) (env := wipeE env is) (n := S0.length) (c := fun env S => (evt Φ .tt env S).noex) (f := fun env S => (ev Φ elt env S).noex) (Inv := fun S1 => Gr S0 S1) (Q := fun u y => y = g u) (fu := fu) (us := l) (S := S0 ++ [.lst []]) (acc := []) (st := fun S => stays S (l.map fu) (some m))
    (fun S1 x h1 => h1.set_new (Nat.le_refl _)) (fun S1 h1 => stays_lst (h1.at_ hm)) (fun u hu => by
      obtain ⟨env', e1, e2⟩ := h u hu
      refine ⟨env', e1, fun S1 h1 hn => ⟨rfl, ?_⟩⟩
      obtain ⟨S2, e3, g2⟩ := e2 S1
      exact ⟨g u, S2, by simp only [e3]; rfl, rfl, h1.trans g2, g2.1, g2.2 _ hn⟩) Gr.push last_get (by simpa using hz)
  exact ⟨S', by rw [e, bind_ok], g1, by rw [k, q.map_eq]; rfl⟩
theorem lcl_take {st cl : Nat} {Q : α → U → Prop} (hs : HasSt S0 st cl) (hit : ev Φ it env S = .ok (.loc m) S0) (hm : S0[m]? = some (.lst (l.map fu))) (h1 : m ≠ st) (h2 : m ≠ cl) (h : ∀ u ∈ l, ∃ env', setN tp is (fu u) (wipeE env is) = some env' ∧ ∀ S1, HasSt S1 st cl → ∃ y S2, ev Φ elt env' S1 = .ok y S2 ∧ Q u y ∧ HasSt S2 st cl ∧ F2 S1 S2 st cl) (hz : l.length ≤ sizeLine) :
    ∃ ys S', ev Φ (.lc is tp elt it .tt) env S = .ok (.loc S0.length) S' ∧ All2 Q l ys ∧ HasSt S' st cl ∧ F2 S0 S' st cl ∧ S'[S0.length]? = some (.lst ys) := by
  obtain ⟨hs1, hs2⟩ := hs.lt
  have hml : m < S0.length := (List.getElem?_eq_some_iff.mp hm).1
  rw [lcl_run hit hm]
  obtain ⟨ys, S', e, q, ⟨i1, i2⟩, _, k⟩ := lcJ_relS (tp := tp) (is := is) (env := wipeE env is) (n := S0.length) (c := fun env S => (evt Φ .tt env S).noex) (f := fun env S => (ev Φ elt env S).noex) (Inv := fun S1 => HasSt S1 st cl ∧ F2 S0 S1 st cl) (Q := Q) (fu := fu) (us := l) (S := S0 ++ [.lst []]) (acc := []) (st := fun S => stays S (l.map fu) (some m))
    (fun S1 x ⟨a, b⟩ => ⟨a.set (by omega) (by omega), by simp; exact b.1, fun k hk n1 n2 => by rw [List.getElem?_set_ne (by omega)]; exact b.2 k hk n1 n2⟩)
    (fun S1 h3 => stays_lst ((h3.2.2 m hml h1 h2).trans hm)) (fun u hu => by
      obtain ⟨env', e1, e2⟩ := h u hu
      refine ⟨env', e1, fun S1 ⟨a, b⟩ hn => ⟨rfl, ?_⟩⟩
      obtain ⟨y, S2, e3, q, a2, b2⟩ := e2 S1 a
      exact ⟨y, S2, by simp only [e3]; rfl, q, ⟨a2, b.trans b2⟩, b2.1, b2.2 _ hn (by omega) (by omega)⟩) ⟨hs.gr Gr.push, F2.push⟩ last_get (by simpa using hz)
  exact ⟨ys, S', by rw [e, bind_ok], q, i1, i2, k⟩
/-! ### two walks -/
theorem lcK_pure {fv : β → U} {g : β → U} {f : Env → Sto → R U} {all1 : List U} {env : Env} : ∀ {l1 : List β} {S : Sto} {acc : List U} (h : ∀ b ∈ l1, ∃ env', setN tp1 is1 (fv b) env = some env' ∧ ∀ S, f env' S = .ok (g b) S) (hS : S[n]? = some (.lst acc)) (hz : acc.length + l1.length ≤ sizeLine),
    lcK is1 tp1 f n all1 none env (l1.map fv) S = .ok () (S.set n (.lst (acc ++ l1.map g)))
  | [], S, acc, h, hS, hz => by
    rw [List.map_nil, lcK, List.map_nil, List.append_nil, set_same hS]
    rfl
  | b :: l1, S, acc, h, hS, hz => by
    obtain ⟨env', e1, e2⟩ := h b List.mem_cons_self
    have hn : n < S.length := (List.getElem?_eq_some_iff.mp hS).1
    rw [List.map_cons, lcK]
    simp only [stays, if_true, e1, e2 S, bind_ok, pushAt_ok hS (show acc.length < sizeLine by simp at hz; omega)]
    rw [lcK_pure (g := g) (acc := acc ++ [g b]) (fun c hc => h c (List.mem_cons_of_mem _ hc)) (by rw [List.getElem?_set_self hn]) (by simp at hz ⊢; omega)]
    simp [List.set_set]
theorem lcL_pure {inner : α → List β} {fv : β → U} {g : α → β → U} {gi f : Env → Sto → R U} {all : List U} {env : Env} (hmn : m ≠ n) : ∀ {l : List α} {S : Sto} {acc : List U} (h : ∀ a ∈ l, ∃ env', setN tp is (fu a) env = some env' ∧ (∀ S, gi env' S = .ok (.tup ((inner a).map fv)) S) ∧ ∀ b ∈ inner a, ∃ env'', setN tp1 is1 (fv b) (wipeE env' is1) = some env'' ∧ ∀ S, f env'' S = .ok (g a b) S)
    (hS : S[n]? = some (.lst acc)) (hm : S[m]? = some (.lst all)) (hz : acc.length + (l.flatMap fun a => (inner a).map (g a)).length ≤ sizeLine),
    lcL tp tp1 is is1 env gi f n all (some m) (l.map fu) S = .ok () (S.set n (.lst (acc ++ l.flatMap fun a => (inner a).map (g a))))
  | [], S, acc, h, hS, hm, hz => by
    rw [List.map_nil, lcL, if_pos (stays_lst hm), List.flatMap_nil, List.append_nil, set_same hS]
  | a :: l, S, acc, h, hS, hm, hz => by
    obtain ⟨env', e1, e2, e3⟩ := h a List.mem_cons_self
    have hn : n < S.length := (List.getElem?_eq_some_iff.mp hS).1
    rw [List.flatMap_cons, List.length_append] at hz
    rw [List.map_cons, lcL, if_pos (stays_lst hm)]
    simp only [e1, e2 S, bind_ok, iterU]
    rw [lcK_pure (g := g a) (acc := acc) e3 hS (by simp at hz ⊢; omega), bind_ok, lcL_pure hmn (acc := acc ++ (inner a).map (g a)) (fun c hc => h c (List.mem_cons_of_mem _ hc)) (by rw [List.getElem?_set_self hn]) (by rw [List.getElem?_set_ne (Ne.symm hmn)]; exact hm) (by simp at hz ⊢; omega)]
    simp [List.set_set]
theorem lc2_pure {inner : α → List β} {fv : β → U} {g : α → β → U} (hit : ev Φ it env S = .ok (.loc m) S0) (hm : S0[m]? = some (.lst (l.map fu)))
    (h : ∀ a ∈ l, ∃ env', setN tp is (fu a) (wipeE env (is ++ is1)) = some env' ∧ (∀ S, ev Φ it1 env' S = .ok (.tup ((inner a).map fv)) S) ∧ ∀ b ∈ inner a, ∃ env'', setN tp1 is1 (fv b) (wipeE env' is1) = some env'' ∧ ∀ S, ev Φ elt env'' S = .ok (g a b) S)
    (hz : (l.flatMap fun a => (inner a).map (g a)).length ≤ sizeLine) :
    ev Φ (.lc2 is is1 tp tp1 elt it it1) env S = .ok (.loc S0.length) (S0 ++ [.lst (l.flatMap fun a => (inner a).map (g a))]) := by
  have hml : m < S0.length := (List.getElem?_eq_some_iff.mp hm).1
  rw [ev, hit, bind_ok]
  simp only [iterU, hm]
  rw [lcL_pure (inner := inner) (fv := fv) (g := g) (acc := []) (show m ≠ S0.length by omega) (fun a ha => ?_) last_get (Gr.push.at_ hm) (by simpa using hz), bind_ok, List.nil_append, last_set]
  obtain ⟨env', e1, e2, e3⟩ := h a ha
  refine ⟨env', e1, fun S => by simp only [e2]; rfl, fun b hb => ?_⟩
  obtain ⟨env'', f1, f2⟩ := e3 b hb
  exact ⟨env'', f1, fun S => by simp only [f2]; rfl⟩
/-! ### for -/
theorem forI_inv {f : Env → Sto → O} {all : List U} {src : Option Nat} {L : List α} (I : List α → Env → Sto → Prop) (hst : ∀ done env S, I done env S → stays S all src = true)
    (step : ∀ done a r env S, done ++ a :: r = L → I done env S → ∃ env1, setN tp is (fu a) env = some env1 ∧ ∃ env' S', f env1 S = .nx env' S' ∧ I (done ++ [a]) env' S') : ∀ (r done : List α) (env : Env) (S : Sto), done ++ r = L → I done env S → ∃ env' S', forI tp is f all src (r.map fu) env S = .nx env' S' ∧ I L env' S'
  | [], done, env, S, e, h => by
    rw [List.append_nil] at e
    subst e
    exact ⟨env, S, by rw [List.map_nil, forI, if_pos (hst _ _ _ h)], h⟩
  | a :: r, done, env, S, e, h => by
    obtain ⟨env1, e1, env2, S2, e2, h2⟩ := step done a r env S e h
    obtain ⟨env3, S3, e3, h3⟩ := forI_inv I hst step r (done ++ [a]) env2 S2 (by rw [List.append_assoc]; exact e) h2
    refine ⟨env3, S3, ?_, h3⟩
    rw [List.map_cons, forI, if_pos (hst _ _ _ h)]
    simp only [e1, e2]
    exact e3
theorem ex_for_tup {us : List U} {sts : Sts} (hit : ev Φ it env S = .ok (.tup us) S0) : ex Φ (.for_ tp is it sts) env S = forI tp is (fun env S => exs Φ sts env S) us none us env S0 := by
  rw [ex_for, hit, on_ok]
  rfl
theorem ex_for_loc {us : List U} {sts : Sts} (hit : ev Φ it env S = .ok (.loc m) S0) (hm : S0[m]? = some (.lst us)) : ex Φ (.for_ tp is it sts) env S = forI tp is (fun env S => exs Φ sts env S) us (some m) us env S0 := by
  rw [ex_for, hit, on_ok]
  simp only [iterU, hm]
theorem go_for_loc {us : List U} {b sts : Sts} {env' : Env} {S2 : Sto} (hit : ev Φ it env S = .ok (.loc m) S0) (hm : S0[m]? = some (.lst us)) (h : forI tp is (fun env S => exs Φ b env S) us (some m) us env S0 = .nx env' S2) : exs Φ (.cons (.for_ tp is it b) sts) env S = exs Φ sts env' S2 := by
  rw [exs_cons, ex_for_loc hit hm, h, then_nx]
theorem go_for_tup {us : List U} {b sts : Sts} {env' : Env} {S2 : Sto} (hit : ev Φ it env S = .ok (.tup us) S0) (h : forI tp is (fun env S => exs Φ b env S) us none us env S0 = .nx env' S2) : exs Φ (.cons (.for_ tp is it b) sts) env S = exs Φ sts env' S2 := by
  rw [exs_cons, ex_for_tup hit, h, then_nx]
theorem go_ret {sts : Sts} {u : U} {e : E} (h : ev Φ e env S = .ok u S') : exs Φ (.cons (.ret e) sts) env S = .ret u S' := by
  rw [exs_cons, ex_ret, h, on_ok, then_ret]
theorem fin_of {b : Sts} {u : U} (h : exs Φ b env S = .ret u S') : (exs Φ b env S).fin = .ok u S' := by rw [h]; rfl
theorem extend_ok {us vs : List U} (hn : S[n]? = some (.lst us)) (hm : S[m]? = some (.lst vs)) (hz : us.length + vs.length ≤ sizeLine) : bmU .extend (.loc n) [.loc m] S = .ok .non (S.set n (.lst (us ++ vs))) := by
  show extendF (.loc n) [.loc m] S = _
  unfold extendF
  simp only [hn, hm, if_pos hz]
theorem add_loc {us vs : List U} (hn : S[n]? = some (.lst us)) (hm : S[m]? = some (.lst vs)) (hz : us.length + vs.length ≤ sizeLine) : binU .add (.loc n) (.loc m) S = .ok (.loc S.length) (S ++ [.lst (us ++ vs)]) := by
  unfold binU
  simp only [hn, hm, if_pos hz]
theorem list_tup {us : List U} : bfU .list [.tup us] S = .ok (.loc S.length) (S ++ [.lst us]) := rfl
theorem list_loc {us : List U} (h : S[m]? = some (.lst us)) : bfU .list [.loc m] S = .ok (.loc S.length) (S ++ [.lst us]) := by
  show listF [.loc m] S = _
  unfold listF
  simp only [items?, h]
theorem ty_ext {us : List U} (h : S[m]? = some (.lst us)) : tyB .extend (.loc m) S = true := by
  unfold tyB
  simp only [list?, h, Option.isSome]
theorem ev_gget {x : Str} {kvs : List (Str × U)} {a b : E} (h : Φ.gd x = some kvs) : ev Φ (.gget x a b) env S = (ev Φ a env S).bind fun k S => (ev Φ b env S).bind fun v S => (match k with | .str z => .ok ((kvs.lookup z).getD v) S | _ => .bad) := by
  rw [ev, h]
  congr 1
  funext k S
  congr 1
  funext v S
  cases k <;> rfl
end
end Oz

end

section
set_option maxHeartbeats 4000000
/-! OzD: draws from a state. -/
namespace Oz
open PySem PySem.Spec PyProof.Rows L2
section
variable {Φ : Cal} {env : Env} {e e' : E} {es : Es} {t : T} {sts body : Sts} {st cl i : Nat} {f : Str} {P : U → Prop} {Q R : U → Prop} {k : Bool} {Ps : List U → Prop}
def Dr (Φ : Cal) (st cl : Nat) (e : E) (env : Env) (P : U → Prop) : Prop := ∀ S, HasSt S st cl → ∃ u S', ev Φ e env S = .ok u S' ∧ P u ∧ HasSt S' st cl ∧ F2 S S' st cl
def Drs (Φ : Cal) (st cl : Nat) (es : Es) (env : Env) (P : List U → Prop) : Prop := ∀ S, HasSt S st cl → ∃ us S', evs Φ es env S = .ok us S' ∧ P us ∧ HasSt S' st cl ∧ F2 S S' st cl
def Sx (Φ : Cal) (st cl : Nat) (sts : Sts) (env : Env) (P : U → Prop) : Prop := ∀ S, HasSt S st cl → ∃ u S', exs Φ sts env S = .ret u S' ∧ P u ∧ HasSt S' st cl ∧ F2 S S' st cl
def Dc (Φ : Cal) (st cl : Nat) (f : Str) (us : List U) (P : U → Prop) : Prop := ∀ S, HasSt S st cl → ∃ u S', Φ.call f us S = .ok u S' ∧ P u ∧ HasSt S' st cl ∧ F2 S S' st cl
theorem Dr.pure {u : U} (h : ∀ S, ev Φ e env S = .ok u S) (hp : P u) : Dr Φ st cl e env P := fun S hs => ⟨u, S, h S, hp, hs, F2.refl⟩
theorem Dr.imp (h : Dr Φ st cl e env P) (hi : ∀ u, P u → Q u) : Dr Φ st cl e env Q := fun S hs => by
  obtain ⟨u, S', a, b, c⟩ := h S hs
  exact ⟨u, S', a, hi u b, c⟩
theorem Drs.nil (h : Ps []) : Drs Φ st cl .nil env Ps := fun S hs => ⟨[], S, rfl, h, hs, F2.refl⟩
theorem Drs.cons (h : Dr Φ st cl e env P) (h' : ∀ u, P u → Drs Φ st cl es env fun us => Ps (u :: us)) : Drs Φ st cl (.cons e es) env Ps := fun S hs => by
  obtain ⟨u, S1, e1, p1, hs1, f1⟩ := h S hs
  obtain ⟨us, S2, e2, p2, hs2, f2⟩ := h' u p1 S1 hs1
  exact ⟨u :: us, S2, by rw [evs_cons, e1, bind_ok, e2, bind_ok], p2, hs2, f1.trans f2⟩
theorem Dr.tup (h : Drs Φ st cl es env fun us => us.length ≤ sizeLine ∧ P (.tup us)) : Dr Φ st cl (.tup es) env P := fun S hs => by
  obtain ⟨us, S1, e1, ⟨p0, p1⟩, hs1, f1⟩ := h S hs
  exact ⟨.tup us, S1, by rw [ev_tup, e1, bind_ok, if_pos p0], p1, hs1, f1⟩
theorem Dr.call (h : Drs Φ st cl es env fun us => Dc Φ st cl f us P) : Dr Φ st cl (.call f es) env P := fun S hs => by
  obtain ⟨us, S1, e1, p1, hs1, f1⟩ := h S hs
  obtain ⟨u, S2, e2, p2, hs2, f2⟩ := p1 S1 hs1
  exact ⟨u, S2, by rw [ev_call, e1, bind_ok, e2], p2, hs2, f1.trans f2⟩
theorem Dr.add {P' : U → Prop} (h : Dr Φ st cl e env P) (h' : ∀ u, P u → Dr Φ st cl e' env P') (hc : ∀ u v, P u → P' v → ∃ xs ys, u = .tup xs ∧ v = .tup ys ∧ xs.length + ys.length ≤ sizeLine ∧ Q (.tup (xs ++ ys))) : Dr Φ st cl (.bin .add e e') env Q := fun S hs => by
  obtain ⟨u, S1, e1, p1, hs1, f1⟩ := h S hs
  obtain ⟨v, S2, e2, p2, hs2, f2⟩ := h' u p1 S1 hs1
  obtain ⟨xs, ys, rfl, rfl, hz, q⟩ := hc u v p1 p2
  exact ⟨_, S2, by rw [ev_bin, e1, bind_ok, e2, bind_ok, add_tup hz], q, hs2, f1.trans f2⟩
theorem Dr.pick (h : Drs Φ st cl es env fun us => us.length ≤ sizeLine ∧ Dr Φ st cl e env fun v => ∃ i w, v = .int i ∧ atI us i = some w ∧ P w) : Dr Φ st cl (.ix (.lst es) e) env P := fun S hs => by
  obtain ⟨us, S1, e1, ⟨hz, p1⟩, hs1, f1⟩ := h S hs
  obtain ⟨h1, h2⟩ := hs1.lt
  obtain ⟨v, S2, e2, ⟨i, w, rfl, ha, hp⟩, hs2, f2⟩ := p1 (S1 ++ [.lst us]) (hs1.gr Gr.push)
  have hl : S2[S1.length]? = some (.lst us) := (f2.2 S1.length (by simp) (by omega) (by omega)).trans last_get
  exact ⟨w, S2, by rw [ev_ix, ev_lst, e1, bind_ok, if_pos hz, bind_ok, e2, bind_ok, ix_loc hl, ha], hp, hs2, (f1.trans F2.push).trans f2⟩
theorem Sx.set (h : Dr Φ st cl e env P) (h' : ∀ u, P u → Sx Φ st cl sts (env.set i (some u)) Q) : Sx Φ st cl (.cons (.set false [i] e) sts) env Q := fun S hs => by
  obtain ⟨u, S1, e1, p1, hs1, f1⟩ := h S hs
  obtain ⟨v, S2, e2, p2, hs2, f2⟩ := h' u p1 S1 hs1
  exact ⟨v, S2, by rw [go_set e1, e2], p2, hs2, f1.trans f2⟩
theorem Sx.ret (h : Dr Φ st cl e env P) : Sx Φ st cl (.cons (.ret e) sts) env P := fun S hs => by
  obtain ⟨u, S1, e1, p1, hs1, f1⟩ := h S hs
  exact ⟨u, S1, go_ret e1, p1, hs1, f1⟩
theorem Sx.ifs (h : ∀ S, evt Φ t env S = .ok k S) (ht : k = true → Sx Φ st cl body env Q) (hf : k = false → Sx Φ st cl sts env Q) : Sx Φ st cl (.cons (.if_ t body .nil) sts) env Q := fun S hs => by
  cases k with
  | true =>
    obtain ⟨u, S1, e1, r⟩ := ht rfl S hs
    exact ⟨u, S1, by rw [exs_cons, ex_if, h, on_ok, if_pos rfl, e1, then_ret], r⟩
  | false =>
    obtain ⟨u, S1, e1, r⟩ := hf rfl S hs
    exact ⟨u, S1, by rw [exs_cons, ex_if, h, on_ok, if_neg Bool.false_ne_true, exs_nil, then_nx, e1], r⟩
theorem Sx.ift {Pk : Bool → Prop} (h : ∀ S, HasSt S st cl → ∃ k S', evt Φ t env S = .ok k S' ∧ Pk k ∧ HasSt S' st cl ∧ F2 S S' st cl) (ht : Pk true → Sx Φ st cl body env Q) (hf : Pk false → Sx Φ st cl sts env Q) : Sx Φ st cl (.cons (.if_ t body .nil) sts) env Q := fun S hs => by
  obtain ⟨k, S1, e1, p1, hs1, f1⟩ := h S hs
  cases k with
  | true =>
    obtain ⟨u, S2, e2, p2, hs2, f2⟩ := ht p1 S1 hs1
    exact ⟨u, S2, by rw [exs_cons, ex_if, e1, on_ok, if_pos rfl, e2, then_ret], p2, hs2, f1.trans f2⟩
  | false =>
    obtain ⟨u, S2, e2, p2, hs2, f2⟩ := hf p1 S1 hs1
    exact ⟨u, S2, by rw [exs_cons, ex_if, e1, on_ok, if_neg Bool.false_ne_true, exs_nil, then_nx, e2], p2, hs2, f1.trans f2⟩
/-- a test that leaves what stood -/
theorem Sx.ifg (h : ∀ S, ∃ S', evt Φ t env S = .ok k S' ∧ Gr S S') (ht : k = true → Sx Φ st cl body env Q) (hf : k = false → Sx Φ st cl sts env Q) : Sx Φ st cl (.cons (.if_ t body .nil) sts) env Q :=
  Sx.ift (Pk := fun j => k = j) (fun S hs => by
    obtain ⟨S', e, g⟩ := h S
    exact ⟨k, S', e, rfl, hs.gr g, g.f2⟩) ht hf
theorem Dc.of {b : Sts} {us : List U} {Φ' : Cal} {env : Env} (h : ∀ S, Φ'.call f us S = (exs Φ b env S).fin) (hx : Sx Φ st cl b env P) : Dc Φ' st cl f us P := fun S hs => by
  obtain ⟨u, S1, e1, r⟩ := hx S hs
  exact ⟨u, S1, by rw [h, e1]; rfl, r⟩
theorem Drs.pure {us : List U} (h : ∀ S, evs Φ es env S = .ok us S) (hp : Ps us) : Drs Φ st cl es env Ps := fun S hs => ⟨us, S, h S, hp, hs, F2.refl⟩
theorem Dr.var {n : Nat} {u : U} (h : env[n]? = some (some u)) (hp : P u) : Dr Φ st cl (.v n) env P := Dr.pure (fun S => ev_v' h) hp
theorem Dr.con {u : U} (hp : P u) : Dr Φ st cl (.k u) env P := Dr.pure (fun S => rfl) hp
end
end Oz

end

section
set_option maxHeartbeats 4000000
/-! OzE: draws from a state, with lists that are held. -/
namespace Oz
open PySem PySem.Spec PyProof.Rows L2
abbrev Ks := List (Nat × List U)
structure Hs (S : Sto) (st cl : Nat) (K : Ks) : Prop where
  h : HasSt S st cl
  k : ∀ p ∈ K, S[p.1]? = some (.lst p.2) ∧ p.1 ≠ st ∧ p.1 ≠ cl
section
variable {Φ : Cal} {env : Env} {e e' : E} {es : Es} {t : T} {sts body : Sts} {st cl i j : Nat} {f : Str} {P P' : U → Ks → Prop} {Q : U → Prop} {Ps : List U → Ks → Prop} {K K1 : Ks} {S S' : Sto} {us : List U}
theorem Hs.f2 (h : Hs S st cl K) (hs : HasSt S' st cl) (f : F2 S S' st cl) : Hs S' st cl K := ⟨hs, fun p hp => by
  obtain ⟨a, b, c⟩ := h.k p hp
  exact ⟨(f.2 _ (List.getElem?_eq_some_iff.mp a).1 b c).trans a, b, c⟩⟩
theorem Hs.sub (h : Hs S st cl K1) (s : ∀ p ∈ K, p ∈ K1) : Hs S st cl K := ⟨h.h, fun p hp => h.k p (s p hp)⟩
theorem Hs.gr (h : Hs S st cl K) (g : Gr S S') : Hs S' st cl K := h.f2 (h.h.gr g) g.f2
theorem Hs.push (h : Hs S st cl K) : Hs (S ++ [.lst us]) st cl ((S.length, us) :: K) := ⟨h.h.gr Gr.push, fun p hp => by
  obtain ⟨h1, h2⟩ := h.h.lt
  rcases List.mem_cons.mp hp with rfl | hp
  · exact ⟨last_get, by simp only; omega, by simp only; omega⟩
  · exact (h.gr Gr.push).k p hp⟩
def De (Φ : Cal) (st cl : Nat) (K : Ks) (e : E) (env : Env) (P : U → Ks → Prop) : Prop := ∀ S, Hs S st cl K → ∃ u K' S', ev Φ e env S = .ok u S' ∧ P u K' ∧ (∀ p ∈ K, p ∈ K') ∧ Hs S' st cl K' ∧ F2 S S' st cl
def Des (Φ : Cal) (st cl : Nat) (K : Ks) (es : Es) (env : Env) (P : List U → Ks → Prop) : Prop := ∀ S, Hs S st cl K → ∃ us K' S', evs Φ es env S = .ok us S' ∧ P us K' ∧ (∀ p ∈ K, p ∈ K') ∧ Hs S' st cl K' ∧ F2 S S' st cl
def Se (Φ : Cal) (st cl : Nat) (K : Ks) (sts : Sts) (env : Env) (Q : U → Prop) : Prop := ∀ S, Hs S st cl K → ∃ u S', exs Φ sts env S = .ret u S' ∧ Q u ∧ HasSt S' st cl ∧ F2 S S' st cl
def Dk (Φ : Cal) (st cl : Nat) (K : Ks) (f : Str) (us : List U) (Q : U → Prop) : Prop := ∀ S, Hs S st cl K → ∃ u S', Φ.call f us S = .ok u S' ∧ Q u ∧ HasSt S' st cl ∧ F2 S S' st cl
theorem De.pure {u : U} (h : ∀ S, Hs S st cl K → ev Φ e env S = .ok u S) (hp : P u K) : De Φ st cl K e env P := fun S hs => ⟨u, K, S, h S hs, hp, fun _ h => h, hs, F2.refl⟩
theorem De.dr (h : Dr Φ st cl e env Q) (hp : ∀ u, Q u → P u K) : De Φ st cl K e env P := fun S hs => by
  obtain ⟨u, S', a, b, c, f⟩ := h S hs.h
  exact ⟨u, K, S', a, hp u b, fun _ h => h, hs.f2 c f, f⟩
theorem De.imp (h : De Φ st cl K e env P) (hi : ∀ u K', (∀ p ∈ K, p ∈ K') → P u K' → P' u K') : De Φ st cl K e env P' := fun S hs => by
  obtain ⟨u, K', S', a, b, c, d⟩ := h S hs
  exact ⟨u, K', S', a, hi u K' c b, c, d⟩
theorem Des.nil (h : Ps [] K) : Des Φ st cl K .nil env Ps := fun S hs => ⟨[], K, S, rfl, h, fun _ h => h, hs, F2.refl⟩
theorem Des.cons (h : De Φ st cl K e env P) (h' : ∀ u K', (∀ p ∈ K, p ∈ K') → P u K' → Des Φ st cl K' es env fun us K'' => Ps (u :: us) K'') : Des Φ st cl K (.cons e es) env Ps := fun S hs => by
  obtain ⟨u, K1, S1, e1, p1, s1, hs1, f1⟩ := h S hs
  obtain ⟨us, K2, S2, e2, p2, s2, hs2, f2⟩ := h' u K1 s1 p1 S1 hs1
  exact ⟨u :: us, K2, S2, by rw [evs_cons, e1, bind_ok, e2, bind_ok], p2, fun p hp => s2 p (s1 p hp), hs2, f1.trans f2⟩
theorem De.tup (h : Des Φ st cl K es env fun us K' => us.length ≤ sizeLine ∧ P (.tup us) K') : De Φ st cl K (.tup es) env P := fun S hs => by
  obtain ⟨us, K1, S1, e1, ⟨p0, p1⟩, s1, hs1, f1⟩ := h S hs
  exact ⟨.tup us, K1, S1, by rw [ev_tup, e1, bind_ok, if_pos p0], p1, s1, hs1, f1⟩
theorem De.lst (h : Des Φ st cl K es env fun us K' => us.length ≤ sizeLine ∧ ∀ n, P (.loc n) ((n, us) :: K')) : De Φ st cl K (.lst es) env P := fun S hs => by
  obtain ⟨us, K1, S1, e1, ⟨p0, p1⟩, s1, hs1, f1⟩ := h S hs
  exact ⟨.loc S1.length, (S1.length, us) :: K1, S1 ++ [.lst us], by rw [ev_lst, e1, bind_ok, if_pos p0], p1 _, fun p hp => List.mem_cons_of_mem _ (s1 p hp), hs1.push, f1.trans F2.push⟩
/-- two lists one behind the other -/
theorem De.addl (h : De Φ st cl K e env P) (h' : ∀ u K', (∀ p ∈ K, p ∈ K') → P u K' → De Φ st cl K' e' env fun v K'' => ∃ m n xs ys, u = .loc m ∧ v = .loc n ∧ (m, xs) ∈ K'' ∧ (n, ys) ∈ K'' ∧ xs.length + ys.length ≤ sizeLine ∧ ∀ l, P' (.loc l) ((l, xs ++ ys) :: K'')) : De Φ st cl K (.bin .add e e') env P' := fun S hs => by
  obtain ⟨u, K1, S1, e1, p1, s1, hs1, f1⟩ := h S hs
  obtain ⟨v, K2, S2, e2, ⟨m, n, xs, ys, rfl, rfl, hm, hn, hz, p2⟩, s2, hs2, f2⟩ := h' u K1 s1 p1 S1 hs1
  exact ⟨.loc S2.length, _, S2 ++ [.lst (xs ++ ys)], by rw [ev_bin, e1, bind_ok, e2, bind_ok, add_loc (hs2.k _ hm).1 (hs2.k _ hn).1 hz], p2 _, fun p hp => List.mem_cons_of_mem _ (s2 p (s1 p hp)), hs2.push, (f1.trans f2).trans F2.push⟩
theorem De.call (h : Des Φ st cl K es env fun us K' => Dk Φ st cl K' f us Q) (hp : ∀ u K', (∀ p ∈ K, p ∈ K') → Q u → P u K') : De Φ st cl K (.call f es) env P := fun S hs => by
  obtain ⟨us, K1, S1, e1, p1, s1, hs1, f1⟩ := h S hs
  obtain ⟨u, S2, e2, p2, hs2, f2⟩ := p1 S1 hs1
  exact ⟨u, K1, S2, by rw [ev_call, e1, bind_ok, e2], hp u K1 s1 p2, s1, hs1.f2 hs2 f2, f1.trans f2⟩
theorem Se.set (h : De Φ st cl K e env P) (h' : ∀ u K', (∀ p ∈ K, p ∈ K') → P u K' → Se Φ st cl K' sts (env.set i (some u)) Q) : Se Φ st cl K (.cons (.set false [i] e) sts) env Q := fun S hs => by
  obtain ⟨u, K1, S1, e1, p1, s1, hs1, f1⟩ := h S hs
  obtain ⟨v, S2, e2, p2, hs2, f2⟩ := h' u K1 s1 p1 S1 hs1
  exact ⟨v, S2, by rw [go_set e1, e2], p2, hs2, f1.trans f2⟩
theorem Se.par (h : Des Φ st cl K es env fun us K' => ∃ u v, us = [u, v] ∧ Se Φ st cl K' sts ((env.set i (some u)).set j (some v)) Q) : Se Φ st cl K (.cons (.par i j es) sts) env Q := fun S hs => by
  obtain ⟨us, K1, S1, e1, ⟨u, v, rfl, p1⟩, s1, hs1, f1⟩ := h S hs
  obtain ⟨w, S2, e2, p2, hs2, f2⟩ := p1 S1 hs1
  exact ⟨w, S2, by rw [exs_cons, ex, e1, on_ok]; exact e2, p2, hs2, f1.trans f2⟩
theorem Se.ret (h : De Φ st cl K e env fun u _ => Q u) : Se Φ st cl K (.cons (.ret e) sts) env Q := fun S hs => by
  obtain ⟨u, K1, S1, e1, p1, s1, hs1, f1⟩ := h S hs
  exact ⟨u, S1, go_ret e1, p1, hs1.h, f1⟩
/-- a test; its body returns -/
theorem Se.ift {Pk : Bool → Prop} (h : ∀ S, Hs S st cl K → ∃ k S', evt Φ t env S = .ok k S' ∧ Pk k ∧ HasSt S' st cl ∧ F2 S S' st cl) (ht : Pk true → Se Φ st cl K body env Q) (hf : Pk false → Se Φ st cl K sts env Q) : Se Φ st cl K (.cons (.if_ t body .nil) sts) env Q := fun S hs => by
  obtain ⟨k, S1, e1, p1, hs1, f1⟩ := h S hs
  cases k with
  | true =>
    obtain ⟨u, S2, e2, p2, hs2, f2⟩ := ht p1 S1 (hs.f2 hs1 f1)
    exact ⟨u, S2, by rw [exs_cons, ex_if, e1, on_ok, if_pos rfl, e2, then_ret], p2, hs2, f1.trans f2⟩
  | false =>
    obtain ⟨u, S2, e2, p2, hs2, f2⟩ := hf p1 S1 (hs.f2 hs1 f1)
    exact ⟨u, S2, by rw [exs_cons, ex_if, e1, on_ok, if_neg Bool.false_ne_true, exs_nil, then_nx, e2], p2, hs2, f1.trans f2⟩
theorem Se.ifs {k : Bool} (h : ∀ S, evt Φ t env S = .ok k S) (ht : k = true → Se Φ st cl K body env Q) (hf : k = false → Se Φ st cl K sts env Q) : Se Φ st cl K (.cons (.if_ t body .nil) sts) env Q :=
  Se.ift (Pk := fun j => k = j) (fun S hs => ⟨k, S, h S, rfl, hs.h, F2.refl⟩) ht hf
/-- a test; its body sets one name, both ways go on -/
theorem Se.ifset {Pk : Bool → Prop} (h : ∀ S, Hs S st cl K → ∃ k S', evt Φ t env S = .ok k S' ∧ Pk k ∧ HasSt S' st cl ∧ F2 S S' st cl) (ht : Pk true → De Φ st cl K e env P) (h' : ∀ u K', (∀ p ∈ K, p ∈ K') → P u K' → Se Φ st cl K' sts (env.set i (some u)) Q) (hf : Pk false → Se Φ st cl K sts env Q) : Se Φ st cl K (.cons (.if_ t (.cons (.set false [i] e) .nil) .nil) sts) env Q := fun S hs => by
  obtain ⟨k, S1, e1, p1, hs1, f1⟩ := h S hs
  cases k with
  | true =>
    obtain ⟨u, K2, S2, e2, p2, s2, hs2, f2⟩ := ht p1 S1 (hs.f2 hs1 f1)
    obtain ⟨v, S3, e3, p3, hs3, f3⟩ := h' u K2 s2 p2 S2 hs2
    exact ⟨v, S3, by rw [go_if_set e1 e2, e3], p3, hs3, (f1.trans f2).trans f3⟩
  | false =>
    obtain ⟨u, S2, e2, p2, hs2, f2⟩ := hf p1 S1 (hs.f2 hs1 f1)
    exact ⟨u, S2, by rw [go_skip e1, e2], p2, hs2, f1.trans f2⟩
theorem Dk.of {b : Sts} {us : List U} {Φ' : Cal} {env : Env} (h : ∀ S, Φ'.call f us S = (exs Φ b env S).fin) (hx : Se Φ st cl K b env Q) : Dk Φ' st cl K f us Q := fun S hs => by
  obtain ⟨u, S1, e1, r⟩ := hx S hs
  exact ⟨u, S1, by rw [h, e1]; rfl, r⟩
theorem Dk.dc (h : Dc Φ st cl f us Q) : Dk Φ st cl K f us Q := fun S hs => h S hs.h
theorem Dk.sub (h : Dk Φ st cl K f us Q) (s : ∀ p ∈ K, p ∈ K1) : Dk Φ st cl K1 f us Q := fun S hs => h S (hs.sub s)
theorem Dk.imp {Q' : U → Prop} (h : Dk Φ st cl K f us Q) (hi : ∀ u, Q u → Q' u) : Dk Φ st cl K f us Q' := fun S hs => by
  obtain ⟨u, S', a, b, c⟩ := h S hs
  exact ⟨u, S', a, hi u b, c⟩
theorem De.var {n : Nat} {u : U} (h : env[n]? = some (some u)) (hp : P u K) : De Φ st cl K (.v n) env P := De.pure (fun S _ => ev_v' h) hp
theorem De.con {u : U} (hp : P u K) : De Φ st cl K (.k u) env P := De.pure (fun S _ => rfl) hp
/-- one item of a displayed list -/
theorem De.pick (h : Des Φ st cl K es env fun us K' => us.length ≤ sizeLine ∧ ∀ n, De Φ st cl ((n, us) :: K') e env fun v K'' => ∃ i w, v = .int i ∧ atI us i = some w ∧ P w K'') : De Φ st cl K (.ix (.lst es) e) env P := fun S hs => by
  obtain ⟨us, K1, S1, e1, ⟨hz, p1⟩, s1, hs1, f1⟩ := h S hs
  obtain ⟨v, K2, S2, e2, ⟨i, w, rfl, ha, hp⟩, s2, hs2, f2⟩ := p1 S1.length (S1 ++ [.lst us]) hs1.push
  have hl := (hs2.k _ (s2 _ List.mem_cons_self)).1
  exact ⟨w, K2, S2, by rw [ev_ix, ev_lst, e1, bind_ok, if_pos hz, bind_ok, e2, bind_ok, ix_loc hl, ha], hp, fun p hq => s2 p (List.mem_cons_of_mem _ (s1 p hq)), hs2, (f1.trans F2.push).trans f2⟩
end
end Oz

end

section
set_option maxHeartbeats 4000000
/-! OzF: texts against anything; repr of what holds lists or an empty dict; displays of dicts. -/
namespace Oz
open PySem PySem.Spec PyProof.Rows L2
open PySem.AutoSeq1 (wpAny_loadPart')
theorem str_eq_declines_dict (b : Str) (u : Tok) (l : Addr) (es : Array DictEntry) (n : Nat) (dd : Option Addr) (sl : Array (Option Value)) :
    Meets (Builtin.«str.__eq__» ⟨[.str b u, .ref l], []⟩) (fun _ R s => s.heap.get? l = some { cls := .type "dict", dict := dd, data := .dict es n, slots := sl } ∧ R (.ok (.ret .notImplemented)) s) :=
  .of_wp fun prog w A R s h => by obtain ⟨hp, g, d, tk, os⟩ := s; obtain ⟨hl, h⟩ := h; wp_walk using wpAny_loadPart' hl, wpAny_load hl; exact ⟨_, rfl, h⟩
theorem dict_eq_declines_str (l : Addr) (es : Array DictEntry) (n : Nat) (dd : Option Addr) (sl : Array (Option Value)) (b : Str) (u : Tok) :
    Meets (Builtin.«dict.__eq__» ⟨[.ref l, .str b u], []⟩) (fun _ R s => s.heap.get? l = some { cls := .type "dict", dict := dd, data := .dict es n, slots := sl } ∧ R (.ok (.ret .notImplemented)) s) :=
  .of_wp fun prog w A R s h => by obtain ⟨hp, g, d, tk, os⟩ := s; obtain ⟨hl, h⟩ := h; have f1 := F.sub_str_dict; wp_walk using wpAny_loadPart' hl; exact ⟨_, rfl, h⟩
section
variable {A : Around} {s : Shared}
theorem rc_str_dict {l : Addr} {es : Array DictEntry} {n : Nat} {dd : Option Addr} {sl : Array (Option Value)} (b : Str) (u : Tok) (ho : s.heap.get? l = some { cls := .type "dict", dict := dd, data := .dict es n, slots := sl }) (hu : A.units < cLine) : SeqAt.RcAt A s (.str b u) (.ref l) false := fun prog w E Q h =>
  SeqAt.rc_eq_decline_or (k := false) (typeIs_str s b u) ⟨_, ho, rfl⟩ (by decide) F.sub_dict_str F.slot_str_eq F.slot_dict_eq_refl
    (fun _ hq => call_meets F.slot_str_eq (typeIs_str s b u) F.entry_str_eq (F.args_str_eq_2 _ _) (str_eq_declines_dict b u l es n dd sl) ⟨ho, hq⟩)
    (fun _ hq => call_meets F.slot_dict_eq_refl ⟨_, ho, rfl⟩ F.entry_dict_eq (F.args_dict_eq_2 _ _) (dict_eq_declines_str l es n dd sl b u) ⟨ho, hq⟩)
    (fun _ hq => wpAny_of_eq (rfl : isSame (.str b u) (.ref l) = pure false) hq) (.inr hu) h
theorem eqAt_of_rc {b : Str} {u : Tok} {l : Addr} {k : Bool} (h : SeqAt.RcAt A s (.str b u) (.ref l) k) : SeqAt.EqAt A s (.str b u) (.ref l) k := fun prog w E Q hq => by
  unfold eqBool
  refine wpAny_holding ?_
  refine wpAny_ite_split (fun hab => absurd (eq_of_beq hab) nofun) (fun _ => ?_)
  exact wpAny_bind (h prog w E _ (wpAny_truthy_bool hq))
end
section
variable {X : Cx} {pins : List (Addr × Obj)} {σ : L2.St} {H : Hp} {s : Shared} {ρ : List Addr} {S : Sto}
theorem dic_obj (I : Inv X pins σ H s) (w : Wok X.K X.mg ρ S H) {n : Nat} {p : Addr} {kvs : List (Key × U)} (h : S[n]? = some (.dic kvs)) (hp : ρ[n]? = some p) : (p == sysModules) = false ∧ ∃ o es k, s.heap.get? p = some o ∧ o.cls = .type "dict" ∧ o.data = .dict es k ∧ es.size = kvs.length := by
  obtain ⟨vk, hH, r⟩ := w.at_ h hp
  obtain ⟨_, hs, vs, kv, o, es, k, ho, hc, hd, _, pr, _⟩ := dk_of I.hok hH
  refine ⟨hs, o, es, k, ho, hc.1, hd, ?_⟩
  have e1 := pr.length
  have e2 := kv.length
  have e3 := Paired.length r
  simp only [Array.length_toList] at e1
  omega
theorem rc_text (I : Inv X pins σ H s) (w : Wok X.K X.mg ρ S H) {A : Around} (hu : A.units < cLine) {z : Str} {t : Tok} {a : U} {v : V} {x : Value} (ho : othB S a = true) (ra : RelU X.K ρ H a v) (rx : RelV v x) : SeqAt.RcAt A s (.str z t) x (eqT (.str z) a) := by
  cases a with
  | non => cases ra.non; cases rx; exact SeqAt.RcAt.str_none z t
  | bl b => cases ra.bl; cases rx; exact SeqAt.RcAt.str_bool z t b
  | int i => cases ra.int; obtain ⟨u, rfl⟩ := rx; exact SeqAt.RcAt.str_int z t i u
  | str y => cases ra.str; obtain ⟨u, rfl⟩ := rx; exact SeqAt.RcAt.str_str z t y u
  | tup xs =>
    obtain ⟨p, vs, rfl, hs, hr⟩ := ra.tup
    cases rx
    obtain ⟨its, rv, pl, _⟩ := I.tuple hs
    exact SeqAt.RcAt.str_tuple z t pl hu
  | loc n =>
    obtain ⟨p, rfl, hp⟩ := ra.loc
    cases rx
    simp only [othB] at ho
    split at ho
    · rename_i xs hn
      obtain ⟨vs, e, q⟩ := w.at_ hn hp
      obtain ⟨its, rv, pl, _⟩ := I.list (.inl (.inl e))
      exact SeqAt.RcAt.str_list z t pl.isList hu
    · rename_i xs hn
      obtain ⟨vs, e, q⟩ := w.at_ hn hp
      obtain ⟨its, rv, pl, _⟩ := I.list e.sql
      exact SeqAt.RcAt.str_list z t pl.isList hu
    · rename_i xs hn
      obtain ⟨_, ⟨c, dd, dt, sl⟩, es, k, ho, hc, hd, _⟩ := dic_obj I w hn hp
      simp only at hc hd
      subst hc hd
      exact rc_str_dict z t ho hu
    · cases ho
theorem eqAt_text (I : Inv X pins σ H s) (w : Wok X.K X.mg ρ S H) {A : Around} (hu : A.units < cLine) {z : Str} {t : Tok} {a : U} {v : V} {x : Value} (ho : othB S a = true) (ra : RelU X.K ρ H a v) (rx : RelV v x) : SeqAt.EqAt A s (.str z t) x (eqT (.str z) a) := by
  cases a with
  | non => cases ra.non; cases rx; exact SeqAt.EqAt.str_none z t
  | bl b => cases ra.bl; cases rx; exact SeqAt.EqAt.str_bool z t b
  | int i => cases ra.int; obtain ⟨u, rfl⟩ := rx; exact SeqAt.EqAt.str_int z t i u
  | str y => cases ra.str; obtain ⟨u, rfl⟩ := rx; exact SeqAt.EqAt.str_str z t y u
  | tup xs =>
    obtain ⟨p, rfl⟩ : ∃ p, v = .ref p := by obtain ⟨p, vs, e, _⟩ := ra.tup; exact ⟨p, e⟩
    have r := rc_text (z := z) (t := t) I w hu ho ra rx
    cases rx
    exact eqAt_of_rc r
  | loc n =>
    obtain ⟨p, rfl⟩ : ∃ p, v = .ref p := by obtain ⟨p, e, _⟩ := ra.loc; exact ⟨p, e⟩
    have r := rc_text (z := z) (t := t) I w hu ho ra rx
    cases rx
    exact eqAt_of_rc r
def eqTV (a : U) : Value → Bool
  | .str z _ => eqT (.str z) a
  | _ => false
theorem eqTV_any {a : U} : ∀ {xs : List U} {vs : List V} {us : List Value}, RelUs X.K ρ H xs vs → Vals vs us → xs.all isStrU = true → us.any (eqTV a) = xs.any fun y => eqT y a
  | [], vs, us, r, rv, _ => by
    simp only [RelUs] at r
    subst r
    cases rv
    rfl
  | y :: xs, vs, us, r, rv, h => by
    simp only [RelUs] at r
    obtain ⟨v, vs', rfl, h1, h2⟩ := r
    cases rv with
    | cons r1 r2 =>
      simp only [List.all_cons, Bool.and_eq_true] at h
      cases y with
      | str z =>
        cases h1.str
        obtain ⟨t, rfl⟩ := r1
        simp only [List.any_cons]
        rw [eqTV_any h2 r2 h.2]
        rfl
      | _ => exact absurd h.1 Bool.false_ne_true
theorem mem_text (I : Inv X pins σ H s) (w : Wok X.K X.mg ρ S H) {A : Around} (hu : A.units < cLine) {a : U} {v : V} {x : Value} (ho : othB S a = true) (ra : RelU X.K ρ H a v) (rx : RelV v x) : ∀ {xs : List U} {vs : List V} {us : List Value}, RelUs X.K ρ H xs vs → Vals vs us → xs.all isStrU = true → ∀ u ∈ us, SeqAt.EqAt A s u x (eqTV a u)
  | [], vs, us, r, rv, _ => by
    simp only [RelUs] at r
    subst r
    cases rv
    intro u hu
    cases hu
  | y :: xs, vs, us, r, rv, h => by
    simp only [RelUs] at r
    obtain ⟨v', vs', rfl, h1, h2⟩ := r
    cases rv with
    | cons r1 r2 =>
      simp only [List.all_cons, Bool.and_eq_true] at h
      intro u hm
      rcases List.mem_cons.mp hm with rfl | hm
      · cases y with
        | str z =>
          cases h1.str
          obtain ⟨t, rfl⟩ := r1
          exact eqAt_text I w hu ho ra rx
        | _ => exact absurd h.1 Bool.false_ne_true
      · exact mem_text I w hu ho ra rx h2 r2 h.2 u hm
end
def xinU (neg : Bool) (x y : U) (S : Sto) : R U := (rO (xinR x y S) S).bind fun k S => .ok (.bl (if neg then !k else k)) S
def xeqU (x y : U) (S : Sto) : R U := (rO (xeqR x y S) S).bind fun k S => .ok (.bl (if false then !k else k)) S
section
variable {X : Cx} {p : Pg} {nm : Names} {ad : Str → Addr} {d : Nat} {W : XK} {Φ : Cal} {pos : Pos} {a b : Expr} {ta tb : E}
theorem op_xin (hu : X.A.units + 65 < cLine) (neg : Bool) : OpR X (compareOp (if neg then .NotIn else .In)) (r2 X W (xinU neg)) := by
  rintro pins s σ H x y v u Q I rx ry ⟨ρ, S, a, b, w, ra, rb, h⟩
  unfold xinU xinR at h
  split at h
  · rename_i xs hx
    split at h
    · rename_i hz
      rw [Bool.and_eq_true] at hz
      obtain ⟨q, vs, rfl, hq, hr⟩ := w.items hx rb
      cases ry
      have hA : X.A.in1.units < cLine := by show X.A.units + 1 < cLine; omega
      rcases hq with hq | hq
      · obtain ⟨its, rv, pl, _⟩ := I.list hq
        have e := eqTV_any (X := X) (a := a) hr rv hz.1
        cases neg
        · refine SeqAt.in_listAt (eqTV a) pl.isList (fun w' hw => mem_text I w hA hz.2 ra rx hr rv hz.1 w' (by simpa using hw)) ⟨.bl _, H, I, rfl, ?_⟩
          rw [show its.toArray.any (eqTV a) = its.any (eqTV a) by simp, e]
          exact h.here w relBl
        · refine SeqAt.notIn_listAt (eqTV a) pl.isList (fun w' hw => mem_text I w hA hz.2 ra rx hr rv hz.1 w' (by simpa using hw)) ⟨.bl _, H, I, rfl, ?_⟩
          rw [show its.toArray.any (eqTV a) = its.any (eqTV a) by simp, e]
          exact h.here w relBl
      · obtain ⟨its, rv, pl, _⟩ := I.tuple hq
        have e := eqTV_any (X := X) (a := a) hr rv hz.1
        cases neg
        · refine SeqAt.in_tupleAt (eqTV a) pl (fun w' hw => mem_text I w hA hz.2 ra rx hr rv hz.1 w' (by simpa using hw)) ⟨.bl _, H, I, rfl, ?_⟩
          rw [show its.toArray.any (eqTV a) = its.any (eqTV a) by simp, e]
          exact h.here w relBl
        · refine SeqAt.notIn_tupleAt (eqTV a) pl (fun w' hw => mem_text I w hA hz.2 ra rx hr rv hz.1 w' (by simpa using hw)) ⟨.bl _, H, I, rfl, ?_⟩
          rw [show its.toArray.any (eqTV a) = its.any (eqTV a) by simp, e]
          exact h.here w relBl
    · exact h.elim
  · exact h.elim
theorem op_xeq (hu : X.A.units + 65 < cLine) : OpR X (compareOp .Eq) (r2 X W xeqU) := by
  rintro pins s σ H x y v u Q I rx ry ⟨ρ, S, a, b, w, ra, rb, h⟩
  unfold xeqU xeqR at h
  by_cases hz : (isStrU a && othB S b) = true
  · rw [if_pos hz] at h
    rw [Bool.and_eq_true] at hz
    cases a with
    | str z =>
      cases ra.str
      obtain ⟨t, rfl⟩ := rx
      exact rc_text I w (by omega) hz.2 rb ry X.prog X.w _ _ ⟨.bl _, H, I, rfl, h.here w relBl⟩
    | _ => exact absurd hz.1 Bool.false_ne_true
  · rw [if_neg hz] at h
    exact h.elim
theorem s_xin (O : Ok X p nm ad d W) (neg : Bool) (ha : PE X a (tE X Φ W ta)) (hb : PE X b (tE X Φ W tb)) (hm : behindInMarks (if neg then CmpOp.NotIn else CmpOp.In) b = false := by rfl) : PE X (.Compare a [if neg then CmpOp.NotIn else CmpOp.In] [b] pos) (tE X Φ W (.xin neg ta tb)) :=
  PEw (pe_cmpR (op_xin (W := W) O.hu neg) ha hb hm) fun σ H Q ⟨ρ, S, env, w, eo, h⟩ => by rw [ev] at h; exact two w eo h
theorem s_xeq (O : Ok X p nm ad d W) (ha : PE X a (tE X Φ W ta)) (hb : PE X b (tE X Φ W tb)) (hm : behindInMarks CmpOp.Eq b = false := by rfl) : PE X (.Compare a [.Eq] [b] pos) (tE X Φ W (.xeq false ta tb)) :=
  PEw (pe_cmpR (op_xeq (W := W) O.hu) ha hb hm) fun σ H Q ⟨ρ, S, env, w, eo, h⟩ => by rw [ev] at h; exact two w eo h
theorem s_txin (O : Ok X p nm ad d W) (neg : Bool) (ha : PE X a (tE X Φ W ta)) (hb : PE X b (tE X Φ W tb)) (hm : behindInMarks (if neg then CmpOp.NotIn else CmpOp.In) b = false := by rfl) : PT X (.Compare a [if neg then CmpOp.NotIn else CmpOp.In] [b] pos) (tTs X Φ W (.e (.xin neg ta tb))) :=
  PTw' (pt_cmpR (op_xin (W := W) O.hu neg) ha hb hm) fun σ H Q ⟨ρ, S, env, w, eo, h⟩ => by
    rw [evt, ev] at h
    have h0 : Post X.mg X.K Rid W ρ H ((ev Φ ta env S).bind fun x S => (ev Φ tb env S).bind fun y S => (xinU neg x y S).bind fun z S => rO (truU z S) S) Q := by
      cases hx : ev Φ ta env S with
      | ok x S1 =>
        rw [hx] at h
        simp only [R.bind] at h ⊢
        cases hy : ev Φ tb env S1 with
        | ok y S2 =>
          rw [hy] at h
          exact h
        | exc c fs S2 => rw [hy] at h; exact h
        | bad => rw [hy] at h; exact h
      | exc c fs S1 => rw [hx] at h; exact h
      | bad => rw [hx] at h; exact h
    refine ⟨ρ, S, env, w, eo, (Post.bind h0).imp fun x H1 ⟨ρ1, S1, u, e1, w1, r1, h1⟩ => ⟨ρ1, S1, env, w1, eo.mono e1, (Post.bind h1).imp fun y H2 ⟨ρ2, S2, u2, e2, w2, r2, h2⟩ => ?_⟩⟩
    refine ⟨ρ2, S2, u, u2, w2, r1.mono e2, r2, ?_⟩
    unfold xinU at h2 ⊢
    cases hk : xinR u u2 S2 with
    | none => rw [hk] at h2; exact h2.elim
    | some k =>
      rw [hk] at h2
      intro ρ3 H3 v e3 w3 r3
      cases r3.bl
      exact ⟨_, rfl, h2 ρ3 H3 _ e3 w3 rfl⟩
end
/-! ### in of a dict, as a test -/
section
variable {X : Cx} {p : Pg} {nm : Names} {ad : Str → Addr} {d : Nat} {W : XK} {Φ : Cal} {pos : Pos} {a b : Expr} {ta tb : E}
theorem dhas_readT {b : Bool} {ta ti : E} {σ : L2.St} {H : Hp} {Q : Bool → Hp → Prop} (h : tTs X Φ W (.e (.dhas b ti ta)) σ H Q) : (tE X Φ W ti) σ H fun y H1 => (tE X Φ W ta) σ H1 fun x H2 => ∃ c o, x = .ref c ∧ DGet H2 c y o ∧ Q (o.isSome == b) H2 := by
  obtain ⟨ρ, S, env, w, eo, h⟩ := h
  rw [evt, ev] at h
  have h0 : Post X.mg X.K Rid W ρ H ((ev Φ ti env S).bind fun y S => (ev Φ ta env S).bind fun x S => (dhasU b x y S).bind fun z S => rO (truU z S) S) Q := by
    cases hx : ev Φ ti env S with
    | ok x S1 =>
      rw [hx] at h
      simp only [R.bind] at h ⊢
      cases hy : ev Φ ta env S1 with
      | ok y S2 => rw [hy] at h; exact h
      | exc c fs S2 => rw [hy] at h; exact h
      | bad => rw [hy] at h; exact h
    | exc c fs S1 => rw [hx] at h; exact h
    | bad => rw [hx] at h; exact h
  refine ⟨ρ, S, env, w, eo, (Post.bind h0).imp fun y H1 ⟨ρ1, S1, u2, e1, w1, r2, h1⟩ => ⟨ρ1, S1, env, w1, eo.mono e1, (Post.bind h1).imp fun x H2 ⟨ρ2, S2, u, e2, w2, r1, h2⟩ => ?_⟩⟩
  have key : ∃ n k, u = .loc n ∧ keyU u2 = some k := by
    cases u with
    | loc n =>
      cases hk : keyU u2 with
      | some k => exact ⟨n, k, rfl, rfl⟩
      | none => unfold dhasU at h2; rw [hk] at h2; exact h2.elim
    | _ => exact (show False from h2).elim
  obtain ⟨n, k, rfl, hk⟩ := key
  unfold dhasU at h2
  simp only [hk] at h2
  split at h2
  · rename_i kvs hn
    obtain ⟨q, rfl, hq⟩ := r1.loc
    obtain ⟨vk, hH, hr⟩ := w2.at_ hn hq
    have ey := keyU_rel hk (r2.mono e2)
    subst ey
    have es : (valU kvs k).isSome = (valV vk k).isSome := by
      cases hv : valU kvs k with
      | none => rw [(KVR.val hr k).2 hv]; rfl
      | some z => obtain ⟨v, e, _⟩ := (KVR.val hr k).1 z hv; rw [e]; rfl
    rw [es] at h2
    exact ⟨q, valV vk k, rfl, DGet.k hH, h2.here w2 rfl⟩
  · exact h2.elim
theorem s_tdhasIn (O : Ok X p nm ad d W) {a i : Expr} {ta ti : E} (hi : PE X i (tE X Φ W ti)) (ha : PE X a (tE X Φ W ta)) (hm : behindInMarks CmpOp.In a = false := by rfl) : PT X (.Compare i [.In] [a] pos) (tTs X Φ W (.e (.dhas true ti ta))) :=
  PTw' (pt_cmp (pc_din (by have := O.room.un; omega) hi ha) hm) fun σ H Q h => by
    obtain ⟨ρ, S, env, w, eo, h⟩ := dhas_readT h
    exact ⟨ρ, S, env, w, eo, h.imp fun y H1 ⟨ρ1, S1, env1, w1, eo1, h1⟩ => ⟨ρ1, S1, env1, w1, eo1, h1.imp fun x H2 ⟨c, o, hx, g, q⟩ => ⟨c, o, hx, g, _, rfl, by simpa using q⟩⟩⟩
theorem s_tdhasNo (O : Ok X p nm ad d W) {a i : Expr} {ta ti : E} (hi : PE X i (tE X Φ W ti)) (ha : PE X a (tE X Φ W ta)) (hm : behindInMarks CmpOp.NotIn a = false := by rfl) : PT X (.Compare i [.NotIn] [a] pos) (tTs X Φ W (.e (.dhas false ti ta))) :=
  PTw' (pt_cmp (pc_dnotin (by have := O.room.un; omega) hi ha) hm) fun σ H Q h => by
    obtain ⟨ρ, S, env, w, eo, h⟩ := dhas_readT h
    exact ⟨ρ, S, env, w, eo, h.imp fun y H1 ⟨ρ1, S1, env1, w1, eo1, h1⟩ => ⟨ρ1, S1, env1, w1, eo1, h1.imp fun x H2 ⟨c, o, hx, g, q⟩ => ⟨c, o, hx, g, _, rfl, by cases ho : o.isSome <;> rw [ho] at q <;> exact q⟩⟩⟩
end
/-! ### repr -/
section
variable {X : Cx} {pins : List (Addr × Obj)} {σ : L2.St} {H : Hp} {s : Shared} {ρ : List Addr} {S : Sto}
mutual
theorem pdS_pur : ∀ {u : U}, purU u = true → pdS S u = pdU u
  | .non, _ => rfl
  | .bl _, _ => rfl
  | .int _, _ => rfl
  | .str _, _ => rfl
  | .tup us, h => by
    simp only [pdS, pdU]
    rw [pdSs_pur (by simpa [purU] using h)]
  | .loc n, h => by simp [purU] at h
theorem pdSs_pur : ∀ {us : List U}, purUs us = true → pdSs S us = pdUs us
  | [], _ => rfl
  | u :: us, h => by
    simp only [purUs, Bool.and_eq_true] at h
    simp only [pdSs, pdUs]
    rw [pdS_pur h.1, pdSs_pur h.2]
end
mutual
theorem rdS (I : Inv X pins σ H s) (w : Wok X.K X.mg ρ S H) : ∀ {u : U} {v : V} {x : Value}, okS S u = true → RelU X.K ρ H u v → RelV v x → ∃ as, Reads s.heap x (pdS S u) as ∧ (lfS S u = true → sysModules ∉ as)
  | .non, v, x, _, r, rx => by cases r.non; cases rx; exact ⟨[], .none, fun _ h => by cases h⟩
  | .bl b, v, x, _, r, rx => by cases r.bl; cases rx; exact ⟨[], .bool b, fun _ h => by cases h⟩
  | .int i, v, x, _, r, rx => by cases r.int; obtain ⟨t, rfl⟩ := rx; exact ⟨[], .int i t, fun _ h => by cases h⟩
  | .str y, v, x, _, r, rx => by cases r.str; obtain ⟨t, rfl⟩ := rx; exact ⟨[], .str y t, fun _ h => by cases h⟩
  | .tup us, v, x, h, r, rx => by
    obtain ⟨p, vs, rfl, hs, hr⟩ := r.tup
    cases rx
    obtain ⟨its, rv, ⟨o, ho, hc, n, hd⟩, _⟩ := I.tuple hs
    obtain ⟨as, ra, l⟩ := rdSs I w (by simpa [okS] using h) hr rv
    exact ⟨as, .tuple ho hc hd (by simpa using ra), fun z => l (by simpa [lfS] using z)⟩
  | .loc n, v, x, h, r, rx => by
    obtain ⟨p, rfl, hp⟩ := r.loc
    cases rx
    unfold pdS lfS
    simp only [okS] at h
    split at h
    · rename_i xs hn
      obtain ⟨vs, e, q⟩ := w.at_ hn hp
      obtain ⟨its, rv, ⟨o, k, ho, hc, _, hd⟩, _⟩ := I.list (.inl (.inl e))
      obtain ⟨as, ra⟩ := Dp.readsAll I _ _ its (dpUs h q) rv
      simp only [hn]
      exact ⟨_, .list ho hc hd (by simpa using ra), fun z => by cases z⟩
    · rename_i xs hn
      obtain ⟨vs, e, q⟩ := w.at_ hn hp
      obtain ⟨its, rv, ⟨o, k, ho, hc, _, hd⟩, _⟩ := I.list e.sql
      obtain ⟨as, ra⟩ := Dp.readsAll I _ _ its (dpUs h q) rv
      simp only [hn]
      exact ⟨_, .list ho hc hd (by simpa using ra), fun z => by cases z⟩
    · rename_i hn
      obtain ⟨hs, o, es, k, ho, hc, hd, hz⟩ := dic_obj I w hn hp
      have he : es = #[] := by
        apply Array.eq_empty_of_size_eq_zero
        simpa using hz
      subst he
      simp only [hn]
      refine ⟨_, .dict (kvs := []) ho hc hd .nil .nil, fun _ z => ?_⟩
      simp only [List.nil_append, List.append_nil, List.mem_cons, List.not_mem_nil, or_false] at z
      rw [z] at hs
      simp at hs
    · cases h
theorem rdSs (I : Inv X pins σ H s) (w : Wok X.K X.mg ρ S H) : ∀ {us : List U} {vs : List V} {xs : List Value}, okSs S us = true → RelUs X.K ρ H us vs → Vals vs xs → ∃ as, ReadsAll s.heap xs (pdSs S us) as ∧ (lfSs S us = true → sysModules ∉ as)
  | [], vs, xs, _, r, rx => by
    simp only [RelUs] at r
    subst r
    cases rx
    exact ⟨[], .nil, fun _ h => by cases h⟩
  | u :: us, vs, xs, h, r, rx => by
    simp only [RelUs] at r
    obtain ⟨v, vs', rfl, h1, h2⟩ := r
    cases rx with
    | cons r1 r2 =>
      simp only [okSs, Bool.and_eq_true] at h
      obtain ⟨a1, b1, c1⟩ := rdS I w h.1 h1 r1
      obtain ⟨a2, b2, c2⟩ := rdSs I w h.2 h2 r2
      refine ⟨a1 ++ a2, .cons b1 b2, fun z hm => ?_⟩
      simp only [lfSs, Bool.and_eq_true] at z
      rcases List.mem_append.mp hm with hm | hm
      · exact c1 z.1 hm
      · exact c2 z.2 hm
end
end
section
variable {X : Cx} {p : Pg} {nm : Names} {ad : Str → Addr} {d : Nat} {W : XK} {Φ : Cal} {pos : Pos} {a b : Expr} {ta tb : E}
def bfX (X : Cx) (W : XK) : List V → Hp → VK → Prop := fun vs H Q => ∃ ρ S u v, vs = [v] ∧ Wok X.K X.mg ρ S H ∧ RelU X.K ρ H u v ∧ Post X.mg X.K (RelU X.K) W ρ H (xrepR u S) Q
theorem cf_xrep (hg : X.A.guards = some []) (hu : X.A.units + 70 < cLine) : CallR X (.builtin "repr") (bfX X W) := by
  rintro pins s σ H vs us Q I rv ⟨ρ, S, u, v, rfl, w, ru, h⟩
  obtain ⟨x, rfl, rx⟩ : ∃ x, us = [x] ∧ RelV v x := by
    cases rv with
    | cons r rr =>
      cases rr
      exact ⟨_, rfl, r⟩
  unfold xrepR at h
  split at h
  · rename_i hk
    simp only [Bool.and_eq_true] at hk
    obtain ⟨h1, h2, h3, h4, h5⟩ := hk
    have hdep := of_decide_eq_true h3
    have hsz := of_decide_eq_true h5
    obtain ⟨as, rd, l⟩ := rdS I w h1 ru rx
    have hsm : (pdS S u).hasDict = true → sysModules ∉ as := fun z => by
      rw [z] at h2
      exact l (by simpa using h2)
    have fin : ∀ h' u' tk, (∀ b o, s.heap.get? b = some o → h'.get? b = some o) → EP X pins σ Q (.str (pdS S u).shown u') { s with heap := h', toks := tk } := fun h' u' tk hk => ⟨.str _, H, I.kept (t' := tk) hk, ⟨u', rfl⟩, h.here w relStr⟩
    generalize pdS S u = dd at *
    cases rd with
    | none => exact PySem.P.repr_of_none (fin _ _ _ fun _ _ e => e)
    | bool b => exact PySem.P.repr_of_bool (fin _ _ _ fun _ _ e => e)
    | int i t => exact PySem.P.repr_of_int (by simpa [PyData.showable] using h4) (fin _ _ _ fun _ _ e => e)
    | str y t => exact PySem.P.repr_of_str (fin _ _ _ fun _ _ e => e) (by simpa only [PyData.shown] using hsz)
    | list b1 b2 b3 b4 => exact repr_of_reads' (h₀ := s.heap) (.list b1 b2 b3 b4) h4 hsm hg (by omega) (fun _ _ e => e) fin hsz
    | tuple b1 b2 b3 b4 => exact repr_of_reads' (h₀ := s.heap) (.tuple b1 b2 b3 b4) h4 hsm hg (by omega) (fun _ _ e => e) fin hsz
    | dict b1 b2 b3 b4 b5 => exact repr_of_reads' (h₀ := s.heap) (.dict b1 b2 b3 b4 b5) h4 hsm hg (by omega) (fun _ _ e => e) fin hsz
  · exact h.elim
theorem s_xrep (O : Ok X p nm ad d W) {px : Pos} (ha : PE X a (tE X Φ W ta)) (hv : bootBuiltins "repr" = some (.builtin "repr") := by decide +kernel) (hg : Gl X "repr" := by rfl) (hm : ("repr" : Str) ∈ nm.bins := by decide +kernel)
    (he : starEach [a] X.env = (false, eval a X.env) :: starEach [] X.env := by rfl) (hpl : (backTo pos (starEach [] X.env)).any (·.1) = false := by rfl) : PE X (.Call (.Name "repr" px) [a] [] pos) (tE X Φ W (.xrep ta)) :=
  PEw (pe_callB (cf_xrep (W := W) O.room.gd (by have := O.room.un; omega)) hg (O.sta.bin _ hm) hv (pa_cons ha pa_nil he) (by decide) (by decide) he hpl) fun σ H Q ⟨ρ, S, env, w, eo, h⟩ => by
    rw [ev] at h
    exact ⟨ρ, S, env, w, eo, (Post.bind h).imp fun x H1 ⟨ρ1, S1, u, e1, w1, r1, h1⟩ => ⟨ρ1, S1, u, x, rfl, w1, r1, h1⟩⟩
/-! ### displays of dicts -/
def flatP : List (V × V) → List V
  | [] => []
  | p :: ps => p.1 :: p.2 :: flatP ps
structure PD (X : Cx) (Φ : Cal) (W : XK) (pos : Pos) (keys : List (Option Expr)) (vals : List Expr) (es : Es) : Prop where
  ex : ∃ trs, PPs X pos keys vals trs ∧ ∀ σ H ρ S env Q Qp, Wok X.K X.mg ρ S H → EnvOk X.K ρ H env σ → Post X.mg X.K (RelUs X.K) W ρ H (evs Φ es env S) Q → (∀ ps H', Q (flatP ps) H' → Qp ps H') → tPairs trs σ H Qp
theorem pd_nil : PD X Φ W pos [] [] .nil := ⟨[], pps_nil, fun σ H ρ S env Q Qp w eo h i => by
  rw [evs] at h
  exact i _ _ (h.here w RelUs.nil)⟩
theorem pd_cons {k v : Expr} {ks : List (Option Expr)} {vs : List Expr} {tk tv : E} {es : Es} (hk : PE X k (tE X Φ W tk)) (hv : PE X v (tE X Φ W tv)) (hr : PD X Φ W pos ks vs es) : PD X Φ W pos (some k :: ks) (v :: vs) (.cons tk (.cons tv es)) := by
  obtain ⟨trs, hp, hq⟩ := hr.ex
  refine ⟨_, pps_cons hk hv hp, fun σ H ρ S env Q Qp w eo h i => ?_⟩
  rw [evs] at h
  refine ⟨ρ, S, env, w, eo, (Post.bind h).imp fun x H1 ⟨ρ1, S1, u, e1, w1, r1, h1⟩ => ?_⟩
  rw [evs, bind_assoc] at h1
  refine ⟨ρ1, S1, env, w1, eo.mono e1, (Post.bind h1).imp fun y H2 ⟨ρ2, S2, u2, e2, w2, r2, h2⟩ => ?_⟩
  rw [bind_assoc] at h2
  refine hq σ H2 ρ2 S2 env (fun zs H3 => Q (x :: y :: zs) H3) _ w2 ((eo.mono e1).mono e2) ((Post.bind (Rr := RelUs X.K) h2).imp fun zs H3 ⟨ρ3, S3, us, e3, w3, r3, h3⟩ => ?_) fun ps H3 q => i _ _ q
  exact h3.here w3 (RelUs.cons ((r1.mono e2).mono e3) (RelUs.cons (r2.mono e3) r3))
theorem dpl_vals {K : PySem.W.Frag} {ρ : List Addr} {H : Hp} : ∀ {us : List U} {ps : List (V × V)} {kvs0 : List (Key × U)}, dplU us = some kvs0 → RelUs K ρ H us (flatP ps) → ∃ kvs : List (Key × V), ps = kvs.map (fun kv => (kV kv.1, kv.2)) ∧ KVR K ρ H kvs0 kvs
  | [], ps, kvs0, e, r => by
    cases ps with
    | nil => simp only [dplU, Option.some.injEq] at e; subst e; exact ⟨[], rfl, .nil⟩
    | cons p ps => simp [RelUs, flatP] at r
  | [u], ps, kvs0, e, r => by simp [dplU] at e
  | u :: u2 :: us, ps, kvs0, e, r => by
    cases ps with
    | nil => simp [RelUs, flatP] at r
    | cons p ps =>
      simp only [RelUs, flatP] at r
      obtain ⟨v, vs', e1, h1, v2, vs2, e2, h2, h3⟩ := r
      simp only [List.cons.injEq] at e1
      obtain ⟨rfl, rfl⟩ := e1
      simp only [List.cons.injEq] at e2
      obtain ⟨rfl, rfl⟩ := e2
      simp only [dplU, Option.bind_eq_some_iff, Option.map_eq_some_iff] at e
      obtain ⟨k, hk, ks, hks, rfl⟩ := e
      obtain ⟨kvs, e3, r3⟩ := dpl_vals hks h3
      refine ⟨(k, p.2) :: kvs, ?_, .cons ⟨rfl, h2⟩ r3⟩
      rw [List.map_cons, ← e3, ← keyU_rel hk h1]
theorem s_dpl {keys : List (Option Expr)} {vals : List Expr} {es : Es} (h : PD X Φ W pos keys vals es) (hall : keys.all (·.isSome) = true := by rfl) (hl : keys.length = vals.length := by rfl) (h0 : keys ≠ [] := by exact fun z => nomatch z) (h15 : keys.length ≤ 15 := by decide) : PE X (.Dict keys vals pos) (tE X Φ W (.dpl es)) := by
  obtain ⟨trs, hp, hq⟩ := h.ex
  refine PEw (pe_disp hp hall hl h0 h15) fun σ H Q ⟨ρ, S, env, w, eo, h⟩ => ?_
  rw [ev] at h
  intro P hP
  have e0 : Ext ρ H (ρ ++ [P]) (upd H P (.dK [])) := Ext.push (upd_grow hP)
  have w0 := w.push (c := .dic []) hP (upd_grow hP) ⟨[], upd_same, .nil⟩
  have hP0 := push_at (p := P) w.len
  refine hq σ (upd H P (.dK [])) (ρ ++ [P]) (S ++ [.dic []]) env _ _ w0 (eo.mono e0) (Post.bind (Rr := RelUs X.K) (Post.ext e0 h)) fun ps H2 ⟨ρ2, S2, us, e2, w2, r2, h2⟩ => ?_
  unfold dplR at h2
  split at h2
  · rename_i kvs0 hn hd
    split at h2
    · rename_i hz
      have hP2 := e2.at_ hP0
      obtain ⟨vk, hH, rk⟩ := w2.at_ hn hP2
      have evk := KVR.nil_of rk
      subst evk
      obtain ⟨kvs, e3, r3⟩ := dpl_vals hd r2
      have l3 := Paired.length r3
      refine ⟨hH, kvs, e3, by omega, ?_⟩
      have ex1 : Ext ρ2 H2 ρ2 (upd H2 P (.dK (mergeK [] kvs))) := Ext.write (dic_mut hH)
      have w3 := w2.write (o := .dK (mergeK [] kvs)) (c := .dic (mrgU [] kvs0)) hP2 hn rfl rfl (dic_mut hH) ⟨_, upd_same, (KVR.merge r3 .nil).mono ex1⟩
      exact h2 ρ2 _ (.ref P) ex1 w3 (relLoc hP2)
    · exact h2.elim
  · exact h2.elim
end
end Oz

end

section
set_option maxHeartbeats 4000000
/-! The program halfnoted_k26_any_value_as_a_check in the small language (printed by wip/tools/gen.py). -/
namespace Pr
open PySem L2 Oz
def top (i : Nat) : Stmt := PySem.Challenge.pw_halfnoted_k26_any_value_as_a_check.main.body.getD i (.Pass ⟨0, 0, 0, 0⟩)
abbrev st_source_ground : Stmt := top 8
def T_source_ground : Sts := (.cons (.if_ (.e (.cmp .eq (.ix (.v 0) (.k (.int 0))) (.k (.str "give")))) (.cons (.ret (.call "source_ground" (.cons (.ix (.v 0) (.k (.int 1))) .nil))) .nil) .nil) (.cons (.if_ (.e (.cmp .in_ (.ix (.v 0) (.k (.int 0))) (.tup (.cons (.k (.str "same")) (.cons (.k (.str "fail")) .nil))))) (.cons (.ret (.ix (.v 0) (.k (.int 1)))) .nil) .nil) (.cons (.ret (.ix (.v 0) (.k (.int 0)))) .nil)))
def N_source_ground : List Str := ["check"]
abbrev st_is_check : Stmt := top 9
def T_is_check : Sts := (.cons (.ret (.call "is_check_of" (.cons (.v 0) (.cons (.g "HEADS") (.cons (.g "MOST_HEIGHT") .nil))))) .nil)
def N_is_check : List Str := ["value"]
abbrev st_is_check_of : Stmt := top 10
def T_is_check_of : Sts := (.cons (.if_ (.or (.e (.cmp .eq (.v 2) (.k (.int 0)))) (.or (.not (.e (.isi (.v 0) "tuple"))) (.e (.cmp .eq (.bf .len (.cons (.v 0) .nil)) (.k (.int 0)))))) (.cons (.ret (.k (.bl false))) .nil) .nil) (.cons (.if_ (.or (.e (.xin true (.ix (.v 0) (.k (.int 0))) (.v 1))) (.e (.cmp .ne (.bf .len (.cons (.v 0) .nil)) (.gd "LENGTHS" (.ix (.v 0) (.k (.int 0))))))) (.cons (.ret (.k (.bl false))) .nil) .nil) (.cons (.mtch (.v 0) (.cons (.seq [.lit "any"]) (.cons (.ret (.k (.bl true))) .nil) (.cons (.seq [.lit "same", .cap 3]) (.cons (.ret (.xin false (.v 3) (.g "SAME_GROUNDS"))) .nil) (.cons (.seq [.lit "give", .cap 4]) (.cons (.ret (.call "is_check_of" (.cons (.v 4) (.cons (.g "PLAIN_HEADS") (.cons (.v 2) .nil))))) .nil) (.cons (.seq [.lit "fail", .cap 3, .cap 5, .cap 6]) (.cons (.ret (.and (.call "is_ground" (.cons (.v 3) .nil)) (.and (.call "is_label" (.cons (.v 5) .nil)) (.and (.call "is_ground" (.cons (.v 6) .nil)) (.cmp .ne (.v 3) (.v 6)))))) .nil) (.cons (.seq [.lit "take", .cap 3, .cap 5, .cap 7]) (.cons (.ret (.and (.call "is_label" (.cons (.v 5) .nil)) (.and (.call "is_check_of" (.cons (.v 7) (.cons (.g "TAKEN_HEADS") (.cons (.v 2) .nil)))) (.xeq false (.call "source_ground" (.cons (.v 7) .nil)) (.v 3))))) .nil) .nil)))))) (.cons (.ret (.and (.call "is_check_of" (.cons (.ix (.v 0) (.k (.int 1))) (.cons (.g "HEADS") (.cons (.bin .sub (.v 2) (.k (.int 1))) .nil)))) (.call "is_check_of" (.cons (.ix (.v 0) (.k (.int 2))) (.cons (.g "HEADS") (.cons (.bin .sub (.v 2) (.k (.int 1))) .nil)))))) .nil))))
def N_is_check_of : List Str := ["value", "heads", "most", "name", "given", "label", "wanted", "taken"]
abbrev st_is_ground : Stmt := top 11
def T_is_ground : Sts := (.cons (.ret (.and (.isi (.v 0) "str") (.din "GROUND_TYPES" (.v 0)))) .nil)
def N_is_ground : List Str := ["value"]
abbrev st_is_label : Stmt := top 12
def T_is_label : Sts := (.cons (.if_ (.or (.not (.e (.isi (.v 0) "tuple"))) (.e (.cmp .ne (.bf .len (.cons (.v 0) .nil)) (.k (.int 2))))) (.cons (.ret (.k (.bl false))) .nil) .nil) (.cons (.set true [1, 2] (.v 0)) (.cons (.ret (.and (.call "is_number" (.cons (.v 1) .nil)) (.and (.call "is_number" (.cons (.v 2) .nil)) (.cmp .lt (.v 2) (.k (.int 2)))))) .nil)))
def N_is_label : List Str := ["value", "number", "side"]
abbrev st_is_number : Stmt := top 13
def T_is_number : Sts := (.cons (.ret (.and (.isi (.v 0) "int") (.and (.not (.isi (.v 0) "bool")) (.cmp .ge (.v 0) (.k (.int 0)))))) .nil)
def N_is_number : List Str := ["value"]
abbrev st__law_state : Stmt := top 15
def T__law_state : Sts := (.cons (.set false [1] (.lc [2] false (.bf .abs (.cons (.v 2) .nil)) (.sl (.v 0) .no (.so (.k (.int 63)))) .tt)) (.cons (.if_ (.e (.cmp .eq (.bf .len (.cons (.v 1) .nil)) (.k (.int 0)))) (.cons (.set false [1] (.lst (.cons (.k (.int 0)) .nil))) .nil) .nil) (.cons (.ret (.lst (.cons (.k (.int 0)) (.cons (.v 1) .nil)))) .nil)))
def N__law_state : List Str := ["script", "cells", "cell"]
abbrev st__law_take : Stmt := top 16
def T__law_take : Sts := (.cons (.set false [2] (.ix (.v 0) (.k (.int 1)))) (.cons (.set false [3] (.bin .mod (.ix (.v 0) (.k (.int 0))) (.bf .len (.cons (.v 2) .nil)))) (.cons (.set false [4] (.ix (.v 2) (.v 3))) (.cons (.if_ (.e (.cmp .ge (.v 4) (.k (.int 1000000000000000000)))) (.cons (.sub (.v 2) (.v 3) (.bin .fdiv (.v 4) (.v 1))) (.cons (.ret (.bin .mod (.v 4) (.v 1))) .nil)) .nil) (.cons (.sub (.v 0) (.k (.int 0)) (.bin .add (.ix (.v 0) (.k (.int 0))) (.k (.int 1)))) (.cons (.set false [5] (.bin .mod (.bf .int (.cons (.bin .add (.bin .mul (.v 4) (.k (.int 48271))) (.bin .mul (.ix (.v 0) (.k (.int 0))) (.k (.int 69621)))) .nil)) (.k (.int 2147483647)))) (.cons (.set false [5] (.bin .mod (.bf .int (.cons (.bin .add (.bin .mul (.v 5) (.k (.int 16807))) (.bin .mul (.ix (.v 0) (.k (.int 0))) (.k (.int 7919)))) .nil)) (.k (.int 1000000007)))) (.cons (.ret (.bin .mod (.bin .fdiv (.v 5) (.k (.int 7))) (.v 1))) .nil))))))))
def N__law_take : List Str := ["state", "most", "cells", "at", "cell", "mixed"]
abbrev st__law_type : Stmt := top 17
def T__law_type : Sts := (.cons (.set false [2] (.call "_law_take" (.cons (.v 0) (.cons (.k (.int 9)) .nil)))) (.cons (.if_ (.and (.e (.cmp .gt (.v 1) (.k (.int 0)))) (.e (.cmp .eq (.v 2) (.k (.int 0))))) (.cons (.ret (.tup (.cons (.k (.str "fun")) (.cons (.call "_law_type" (.cons (.v 0) (.cons (.bin .sub (.v 1) (.k (.int 1))) .nil))) (.cons (.call "_law_type" (.cons (.v 0) (.cons (.bin .sub (.v 1) (.k (.int 1))) .nil))) .nil))))) .nil) .nil) (.cons (.if_ (.and (.e (.cmp .gt (.v 1) (.k (.int 0)))) (.e (.cmp .eq (.v 2) (.k (.int 1))))) (.cons (.ret (.tup (.cons (.k (.str "pair")) (.cons (.call "_law_type" (.cons (.v 0) (.cons (.bin .sub (.v 1) (.k (.int 1))) .nil))) (.cons (.call "_law_type" (.cons (.v 0) (.cons (.bin .sub (.v 1) (.k (.int 1))) .nil))) .nil))))) .nil) .nil) (.cons (.if_ (.and (.e (.cmp .gt (.v 1) (.k (.int 0)))) (.e (.cmp .eq (.v 2) (.k (.int 2))))) (.cons (.ret (.tup (.cons (.k (.str "box")) (.cons (.call "_law_type" (.cons (.v 0) (.cons (.bin .sub (.v 1) (.k (.int 1))) .nil))) .nil)))) .nil) .nil) (.cons (.ret (.ix (.lst (.cons (.tup (.cons (.k (.str "int")) .nil)) (.cons (.tup (.cons (.k (.str "any")) .nil)) (.cons (.tup (.cons (.k (.str "bool")) .nil)) (.cons (.tup (.cons (.k (.str "int")) .nil)) (.cons (.tup (.cons (.k (.str "unit")) .nil)) (.cons (.tup (.cons (.k (.str "any")) .nil)) .nil))))))) (.bin .mod (.v 2) (.k (.int 6))))) .nil)))))
def N__law_type : List Str := ["state", "depth", "kind"]
abbrev st__law_ground_type : Stmt := top 19
def T__law_ground_type : Sts := (.cons (.if_ (.or (.e (.cmp .eq (.v 0) (.k (.str "fun")))) (.e (.cmp .eq (.v 0) (.k (.str "pair"))))) (.cons (.ret (.tup (.cons (.v 0) (.cons (.tup (.cons (.k (.str "any")) .nil)) (.cons (.tup (.cons (.k (.str "any")) .nil)) .nil))))) .nil) .nil) (.cons (.if_ (.e (.cmp .eq (.v 0) (.k (.str "box")))) (.cons (.ret (.tup (.cons (.k (.str "box")) (.cons (.tup (.cons (.k (.str "any")) .nil)) .nil)))) .nil) .nil) (.cons (.ret (.tup (.cons (.v 0) .nil))) .nil)))
def N__law_ground_type : List Str := ["name"]
abbrev st__law_check : Stmt := top 20
def T__law_check : Sts := (.cons (.if_ (.and (.e (.cmp .eq (.ix (.v 0) (.k (.int 0))) (.k (.str "any")))) (.e (.cmp .eq (.ix (.v 1) (.k (.int 0))) (.k (.str "any"))))) (.cons (.ret (.tup (.cons (.k (.str "any")) .nil))) .nil) .nil) (.cons (.if_ (.e (.cmp .eq (.ix (.v 1) (.k (.int 0))) (.k (.str "any")))) (.cons (.ret (.tup (.cons (.k (.str "give")) (.cons (.call "_law_check" (.cons (.v 0) (.cons (.call "_law_ground_type" (.cons (.ix (.v 0) (.k (.int 0))) .nil)) (.cons (.v 2) (.cons (.v 3) .nil))))) .nil)))) .nil) .nil) (.cons (.if_ (.e (.cmp .eq (.ix (.v 0) (.k (.int 0))) (.k (.str "any")))) (.cons (.ret (.tup (.cons (.k (.str "take")) (.cons (.ix (.v 1) (.k (.int 0))) (.cons (.tup (.cons (.v 2) (.cons (.v 3) .nil))) (.cons (.call "_law_check" (.cons (.call "_law_ground_type" (.cons (.ix (.v 1) (.k (.int 0))) .nil)) (.cons (.v 1) (.cons (.v 2) (.cons (.v 3) .nil))))) .nil)))))) .nil) .nil) (.cons (.if_ (.e (.cmp .eq (.bf .len (.cons (.v 0) .nil)) (.k (.int 1)))) (.cons (.ret (.tup (.cons (.k (.str "same")) (.cons (.ix (.v 0) (.k (.int 0))) .nil)))) .nil) .nil) (.cons (.set false [4] (.bin .sub (.bf .len (.cons (.v 0) .nil)) (.k (.int 1)))) (.cons (.set false [5] (.call "_law_check" (.cons (.ix (.v 0) (.v 4)) (.cons (.ix (.v 1) (.v 4)) (.cons (.v 2) (.cons (.v 3) .nil)))))) (.cons (.if_ (.e (.cmp .eq (.ix (.v 0) (.k (.int 0))) (.k (.str "pair")))) (.cons (.ret (.tup (.cons (.k (.str "pair")) (.cons (.call "_law_check" (.cons (.ix (.v 0) (.k (.int 1))) (.cons (.ix (.v 1) (.k (.int 1))) (.cons (.v 2) (.cons (.v 3) .nil))))) (.cons (.v 5) .nil))))) .nil) .nil) (.cons (.ret (.tup (.cons (.ix (.v 0) (.k (.int 0))) (.cons (.call "_law_check" (.cons (.ix (.v 1) (.k (.int 1))) (.cons (.ix (.v 0) (.k (.int 1))) (.cons (.v 2) (.cons (.bin .sub (.k (.int 1)) (.v 3)) .nil))))) (.cons (.v 5) .nil))))) .nil))))))))
def N__law_check : List Str := ["one", "other", "number", "side", "last", "second"]
abbrev st__law_partner : Stmt := top 21
def T__law_partner : Sts := (.cons (.set false [3] (.call "_law_take" (.cons (.v 0) (.cons (.k (.int 4)) .nil)))) (.cons (.if_ (.e (.cmp .eq (.v 3) (.k (.int 0)))) (.cons (.ret (.tup (.cons (.k (.str "any")) .nil))) .nil) .nil) (.cons (.if_ (.e (.cmp .eq (.ix (.v 1) (.k (.int 0))) (.k (.str "any")))) (.cons (.ret (.call "_law_type" (.cons (.v 0) (.cons (.v 2) .nil)))) .nil) .nil) (.cons (.if_ (.or (.e (.cmp .eq (.ix (.v 1) (.k (.int 0))) (.k (.str "fun")))) (.e (.cmp .eq (.ix (.v 1) (.k (.int 0))) (.k (.str "pair"))))) (.cons (.ret (.tup (.cons (.ix (.v 1) (.k (.int 0))) (.cons (.call "_law_partner" (.cons (.v 0) (.cons (.ix (.v 1) (.k (.int 1))) (.cons (.bin .sub (.v 2) (.k (.int 1))) .nil)))) (.cons (.call "_law_partner" (.cons (.v 0) (.cons (.ix (.v 1) (.k (.int 2))) (.cons (.bin .sub (.v 2) (.k (.int 1))) .nil)))) .nil))))) .nil) .nil) (.cons (.if_ (.e (.cmp .eq (.ix (.v 1) (.k (.int 0))) (.k (.str "box")))) (.cons (.ret (.tup (.cons (.k (.str "box")) (.cons (.call "_law_partner" (.cons (.v 0) (.cons (.ix (.v 1) (.k (.int 1))) (.cons (.bin .sub (.v 2) (.k (.int 1))) .nil)))) .nil)))) .nil) .nil) (.cons (.ret (.v 1)) .nil))))))
def N__law_partner : List Str := ["state", "one", "depth", "kind"]
abbrev st__law_ground : Stmt := top 27
def T__law_ground : Sts := (.cons (.if_ (.e (.cmp .eq (.ix (.v 0) (.k (.int 0))) (.k (.str "same")))) (.cons (.ret (.ix (.v 0) (.k (.int 1)))) .nil) .nil) (.cons (.ret (.ix (.v 0) (.k (.int 0)))) .nil))
def N__law_ground : List Str := ["check"]
abbrev st__law_join : Stmt := top 28
def T__law_join : Sts := (.cons (.if_ (.e (.cmp .eq (.ix (.v 0) (.k (.int 0))) (.k (.str "any")))) (.cons (.ret (.v 1)) .nil) .nil) (.cons (.if_ (.e (.cmp .eq (.ix (.v 0) (.k (.int 0))) (.k (.str "fail")))) (.cons (.ret (.v 0)) .nil) .nil) (.cons (.if_ (.e (.cmp .eq (.ix (.v 0) (.k (.int 0))) (.k (.str "take")))) (.cons (.ret (.tup (.cons (.k (.str "take")) (.cons (.ix (.v 0) (.k (.int 1))) (.cons (.ix (.v 0) (.k (.int 2))) (.cons (.call "_law_join" (.cons (.ix (.v 0) (.k (.int 3))) (.cons (.v 1) .nil))) .nil)))))) .nil) .nil) (.cons (.if_ (.e (.cmp .eq (.ix (.v 0) (.k (.int 0))) (.k (.str "give")))) (.cons (.if_ (.e (.cmp .eq (.ix (.v 1) (.k (.int 0))) (.k (.str "any")))) (.cons (.ret (.v 0)) .nil) .nil) (.cons (.if_ (.e (.cmp .eq (.ix (.v 1) (.k (.int 1))) (.call "_law_ground" (.cons (.ix (.v 0) (.k (.int 1))) .nil)))) (.cons (.ret (.call "_law_join" (.cons (.ix (.v 0) (.k (.int 1))) (.cons (.ix (.v 1) (.k (.int 3))) .nil)))) .nil) .nil) (.cons (.ret (.tup (.cons (.k (.str "fail")) (.cons (.call "_law_ground" (.cons (.ix (.v 0) (.k (.int 1))) .nil)) (.cons (.ix (.v 1) (.k (.int 2))) (.cons (.ix (.v 1) (.k (.int 1))) .nil)))))) .nil))) .nil) (.cons (.if_ (.e (.cmp .eq (.ix (.v 1) (.k (.int 0))) (.k (.str "fail")))) (.cons (.ret (.v 1)) .nil) .nil) (.cons (.if_ (.e (.cmp .eq (.ix (.v 1) (.k (.int 0))) (.k (.str "give")))) (.cons (.ret (.tup (.cons (.k (.str "give")) (.cons (.call "_law_join" (.cons (.v 0) (.cons (.ix (.v 1) (.k (.int 1))) .nil))) .nil)))) .nil) .nil) (.cons (.if_ (.e (.cmp .eq (.ix (.v 0) (.k (.int 0))) (.k (.str "same")))) (.cons (.ret (.v 0)) .nil) .nil) (.cons (.if_ (.e (.cmp .eq (.ix (.v 0) (.k (.int 0))) (.k (.str "pair")))) (.cons (.ret (.tup (.cons (.k (.str "pair")) (.cons (.call "_law_join" (.cons (.ix (.v 0) (.k (.int 1))) (.cons (.ix (.v 1) (.k (.int 1))) .nil))) (.cons (.call "_law_join" (.cons (.ix (.v 0) (.k (.int 2))) (.cons (.ix (.v 1) (.k (.int 2))) .nil))) .nil))))) .nil) .nil) (.cons (.ret (.tup (.cons (.ix (.v 0) (.k (.int 0))) (.cons (.call "_law_join" (.cons (.ix (.v 1) (.k (.int 1))) (.cons (.ix (.v 0) (.k (.int 1))) .nil))) (.cons (.call "_law_join" (.cons (.ix (.v 0) (.k (.int 2))) (.cons (.ix (.v 1) (.k (.int 2))) .nil))) .nil))))) .nil)))))))))
def N__law_join : List Str := ["one", "two"]
abbrev st__law_chain : Stmt := top 29
def T__law_chain : Sts := (.cons (.set false [2] (.lst (.cons (.call "_law_type" (.cons (.v 0) (.cons (.bin .add (.k (.int 1)) (.call "_law_take" (.cons (.v 0) (.cons (.k (.int 3)) .nil)))) .nil))) .nil))) (.cons (.forr 3 (.k (.int 0)) (.v 1) (.cons (.set false [4] (.ix (.v 2) (.bin .sub (.bf .len (.cons (.v 2) .nil)) (.k (.int 1))))) (.cons (.if_ (.e (.cmp .eq (.call "_law_take" (.cons (.v 0) (.cons (.k (.int 4)) .nil))) (.k (.int 0)))) (.cons (.ex (.bm .append (.v 2) (.cons (.tup (.cons (.k (.str "any")) .nil)) .nil))) .nil) (.cons (.ex (.bm .append (.v 2) (.cons (.call "_law_partner" (.cons (.v 0) (.cons (.v 4) (.cons (.k (.int 2)) .nil)))) .nil))) .nil)) .nil))) (.cons (.set false [5] (.lst .nil)) (.cons (.forr 3 (.k (.int 0)) (.v 1) (.cons (.ex (.bm .append (.v 5) (.cons (.call "_law_check" (.cons (.ix (.v 2) (.v 3)) (.cons (.ix (.v 2) (.bin .add (.v 3) (.k (.int 1)))) (.cons (.call "_law_take" (.cons (.v 0) (.cons (.k (.int 50)) .nil))) (.cons (.call "_law_take" (.cons (.v 0) (.cons (.k (.int 2)) .nil))) .nil))))) .nil))) .nil)) (.cons (.ret (.tup (.cons (.v 2) (.cons (.v 5) .nil)))) .nil)))))
def N__law_chain : List Str := ["state", "count", "types", "k", "last", "checks"]
abbrev st__law_is_int : Stmt := top 30
def T__law_is_int : Sts := (.cons (.ret (.and (.isi (.v 0) "int") (.not (.isi (.v 0) "bool")))) .nil)
def N__law_is_int : List Str := ["value"]
abbrev st__law_label : Stmt := top 31
def T__law_label : Sts := (.cons (.if_ (.or (.not (.e (.isi (.v 0) "tuple"))) (.or (.e (.cmp .ne (.bf .len (.cons (.v 0) .nil)) (.k (.int 2)))) (.or (.not (.e (.call "_law_is_int" (.cons (.ix (.v 0) (.k (.int 0))) .nil)))) (.not (.e (.call "_law_is_int" (.cons (.ix (.v 0) (.k (.int 1))) .nil))))))) (.cons (.ret (.k (.bl false))) .nil) .nil) (.cons (.ret (.and (.cmp .ge (.ix (.v 0) (.k (.int 0))) (.k (.int 0))) (.cmp .in_ (.ix (.v 0) (.k (.int 1))) (.lst (.cons (.k (.int 0)) (.cons (.k (.int 1)) .nil)))))) .nil))
def N__law_label : List Str := ["value"]
abbrev st__law_name : Stmt := top 32
def T__law_name : Sts := (.cons (.ret (.and (.isi (.v 0) "str") (.cmp .in_ (.v 0) (.lst (.cons (.k (.str "int")) (.cons (.k (.str "bool")) (.cons (.k (.str "unit")) (.cons (.k (.str "fun")) (.cons (.k (.str "pair")) (.cons (.k (.str "box")) .nil)))))))))) .nil)
def N__law_name : List Str := ["value"]
abbrev st__law_kind : Stmt := top 33
def T__law_kind : Sts := (.cons (.if_ (.or (.not (.e (.isi (.v 0) "tuple"))) (.or (.e (.cmp .eq (.bf .len (.cons (.v 0) .nil)) (.k (.int 0)))) (.not (.e (.isi (.ix (.v 0) (.k (.int 0))) "str"))))) (.cons (.ret (.k (.str ""))) .nil) .nil) (.cons (.set false [1] (.dpl (.cons (.k (.str "any")) (.cons (.k (.int 1)) (.cons (.k (.str "same")) (.cons (.k (.int 2)) (.cons (.k (.str "give")) (.cons (.k (.int 2)) (.cons (.k (.str "fun")) (.cons (.k (.int 3)) (.cons (.k (.str "pair")) (.cons (.k (.int 3)) (.cons (.k (.str "box")) (.cons (.k (.int 3)) (.cons (.k (.str "take")) (.cons (.k (.int 4)) (.cons (.k (.str "fail")) (.cons (.k (.int 4)) .nil)))))))))))))))))) (.cons (.if_ (.or (.e (.dhas false (.ix (.v 0) (.k (.int 0))) (.v 1))) (.e (.cmp .ne (.dat (.v 1) (.ix (.v 0) (.k (.int 0)))) (.bf .len (.cons (.v 0) .nil))))) (.cons (.ret (.k (.str ""))) .nil) .nil) (.cons (.ret (.ix (.v 0) (.k (.int 0)))) .nil))))
def N__law_kind : List Str := ["value", "sizes"]
abbrev st__law_plain : Stmt := top 34
def T__law_plain : Sts := (.cons (.set false [1] (.call "_law_kind" (.cons (.v 0) .nil))) (.cons (.if_ (.e (.cmp .eq (.v 1) (.k (.str "same")))) (.cons (.ret (.and (.isi (.ix (.v 0) (.k (.int 1))) "str") (.cmp .in_ (.ix (.v 0) (.k (.int 1))) (.lst (.cons (.k (.str "int")) (.cons (.k (.str "bool")) (.cons (.k (.str "unit")) .nil))))))) .nil) .nil) (.cons (.if_ (.e (.cmp .in_ (.v 1) (.lst (.cons (.k (.str "fun")) (.cons (.k (.str "pair")) (.cons (.k (.str "box")) .nil)))))) (.cons (.ret (.and (.call "_law_good" (.cons (.ix (.v 0) (.k (.int 1))) .nil)) (.call "_law_good" (.cons (.ix (.v 0) (.k (.int 2))) .nil)))) .nil) .nil) (.cons (.ret (.k (.bl false))) .nil))))
def N__law_plain : List Str := ["value", "kind"]
abbrev st__law_failing : Stmt := top 35
def T__law_failing : Sts := (.cons (.if_ (.or (.e (.cmp .ne (.call "_law_kind" (.cons (.v 0) .nil)) (.k (.str "fail")))) (.or (.not (.e (.call "_law_name" (.cons (.ix (.v 0) (.k (.int 1))) .nil)))) (.not (.e (.call "_law_label" (.cons (.ix (.v 0) (.k (.int 2))) .nil)))))) (.cons (.ret (.k (.bl false))) .nil) .nil) (.cons (.ret (.and (.call "_law_name" (.cons (.ix (.v 0) (.k (.int 3))) .nil)) (.cmp .ne (.ix (.v 0) (.k (.int 1))) (.ix (.v 0) (.k (.int 3)))))) .nil))
def N__law_failing : List Str := ["value"]
abbrev st__law_good : Stmt := top 36
def T__law_good : Sts := (.cons (.set false [1] (.call "_law_kind" (.cons (.v 0) .nil))) (.cons (.if_ (.or (.e (.cmp .eq (.v 1) (.k (.str "any")))) (.or (.e (.call "_law_failing" (.cons (.v 0) .nil))) (.e (.call "_law_plain" (.cons (.v 0) .nil))))) (.cons (.ret (.k (.bl true))) .nil) .nil) (.cons (.if_ (.e (.cmp .eq (.v 1) (.k (.str "give")))) (.cons (.ret (.call "_law_plain" (.cons (.ix (.v 0) (.k (.int 1))) .nil))) .nil) .nil) (.cons (.if_ (.or (.e (.cmp .ne (.v 1) (.k (.str "take")))) (.or (.not (.e (.call "_law_name" (.cons (.ix (.v 0) (.k (.int 1))) .nil)))) (.not (.e (.call "_law_label" (.cons (.ix (.v 0) (.k (.int 2))) .nil)))))) (.cons (.ret (.k (.bl false))) .nil) .nil) (.cons (.set false [2] (.ix (.v 0) (.k (.int 3)))) (.cons (.if_ (.e (.call "_law_failing" (.cons (.v 2) .nil))) (.cons (.ret (.cmp .eq (.ix (.v 2) (.k (.int 1))) (.ix (.v 0) (.k (.int 1))))) .nil) .nil) (.cons (.if_ (.and (.e (.cmp .eq (.call "_law_kind" (.cons (.v 2) .nil)) (.k (.str "give")))) (.e (.call "_law_plain" (.cons (.ix (.v 2) (.k (.int 1))) .nil)))) (.cons (.ret (.cmp .eq (.call "_law_ground" (.cons (.ix (.v 2) (.k (.int 1))) .nil)) (.ix (.v 0) (.k (.int 1))))) .nil) .nil) (.cons (.ret (.and (.call "_law_plain" (.cons (.v 2) .nil)) (.cmp .eq (.call "_law_ground" (.cons (.v 2) .nil)) (.ix (.v 0) (.k (.int 1)))))) .nil))))))))
def N__law_good : List Str := ["value", "kind", "inner"]
abbrev st__law_strange : Stmt := top 37
def T__law_strange : Sts := (.cons (.set false [1] (.lst (.cons (.k .non) (.cons (.k (.bl true)) (.cons (.k (.int 0)) (.cons (.k (.int 1)) (.cons (.neg (.k (.int 1))) (.cons (.k (.str "")) (.cons (.k (.str "int")) (.cons (.k (.str "any")) (.cons (.tup .nil) (.cons (.lst .nil) (.cons (.tup (.cons (.k (.str "any")) .nil)) (.cons (.tup (.cons (.k (.str "same")) (.cons (.k (.str "int")) .nil))) (.cons (.tup (.cons (.k (.str "same")) (.cons (.k (.str "any")) .nil))) (.cons (.tup (.cons (.k (.int 0)) (.cons (.k (.int 1)) .nil))) (.cons (.tup (.cons (.k (.int 1)) (.cons (.k (.int 2)) .nil))) .nil))))))))))))))))) (.cons (.set false [1] (.bin .add (.v 1) (.lst (.cons .dnew (.cons (.lst (.cons (.k (.str "any")) .nil)) (.cons (.tup (.cons (.k (.str "give")) (.cons (.tup (.cons (.k (.str "any")) .nil)) .nil))) (.cons (.tup (.cons (.k (.str "take")) (.cons (.k (.str "int")) (.cons (.tup (.cons (.k (.int 0)) (.cons (.k (.int 0)) .nil))) (.cons (.tup (.cons (.k (.str "any")) .nil)) .nil))))) (.cons (.tup (.cons (.k (.bl true)) (.cons (.k (.int 0)) .nil))) (.cons (.tup (.cons (.k (.str "fun")) (.cons (.tup (.cons (.k (.str "any")) .nil)) .nil))) .nil))))))))) (.cons (.ret (.ix (.v 1) (.call "_law_take" (.cons (.v 0) (.cons (.k (.int 21)) .nil))))) .nil)))
def N__law_strange : List Str := ["state", "things"]
abbrev st__law_bent : Stmt := top 38
def T__law_bent : Sts := (.cons (.if_ (.or (.not (.e (.isi (.v 1) "tuple"))) (.or (.e (.cmp .eq (.bf .len (.cons (.v 1) .nil)) (.k (.int 0)))) (.e (.cmp .eq (.call "_law_take" (.cons (.v 0) (.cons (.k (.int 4)) .nil))) (.k (.int 0)))))) (.cons (.ret (.call "_law_strange" (.cons (.v 0) .nil))) .nil) .nil) (.cons (.set false [2] (.call "_law_take" (.cons (.v 0) (.cons (.bf .len (.cons (.v 1) .nil)) .nil)))) (.cons (.set false [3] (.call "_law_take" (.cons (.v 0) (.cons (.k (.int 9)) .nil)))) (.cons (.if_ (.e (.cmp .eq (.v 3) (.k (.int 0)))) (.cons (.ret (.bin .add (.sl (.v 1) .no (.so (.v 2))) (.sl (.v 1) (.so (.bin .add (.v 2) (.k (.int 1)))) .no))) .nil) .nil) (.cons (.if_ (.e (.cmp .eq (.v 3) (.k (.int 1)))) (.cons (.ret (.bin .add (.bin .add (.sl (.v 1) .no (.so (.v 2))) (.tup (.cons (.ix (.v 1) (.v 2)) .nil))) (.sl (.v 1) (.so (.v 2)) .no))) .nil) .nil) (.cons (.if_ (.e (.cmp .eq (.v 3) (.k (.int 2)))) (.cons (.ret (.bf .list (.cons (.v 1) .nil))) .nil) .nil) (.cons (.ret (.bin .add (.bin .add (.sl (.v 1) .no (.so (.v 2))) (.tup (.cons (.call "_law_bent" (.cons (.v 0) (.cons (.ix (.v 1) (.v 2)) .nil))) .nil))) (.sl (.v 1) (.so (.bin .add (.v 2) (.k (.int 1)))) .no))) .nil)))))))
def N__law_bent : List Str := ["state", "value", "at", "kind"]
abbrev st_law : Stmt := top 39
def T_law : Sts := (.cons (.set false [1] (.call "_law_state" (.cons (.v 0) .nil))) (.cons (.set true [2, 3] (.call "_law_chain" (.cons (.v 1) (.cons (.bin .add (.k (.int 1)) (.call "_law_take" (.cons (.v 1) (.cons (.k (.int 4)) .nil)))) .nil)))) (.cons (.set false [4] (.ix (.v 3) (.k (.int 0)))) (.cons (.for_ false [5] (.sl (.v 3) (.so (.k (.int 1))) .no) (.cons (.set false [4] (.call "_law_join" (.cons (.v 4) (.cons (.v 5) .nil)))) .nil)) (.cons (.if_ (.or (.e (.cmp .isNotN (.call "is_check" (.cons (.v 4) .nil)) (.k (.bl true)))) (.not (.e (.call "_law_good" (.cons (.v 4) .nil))))) (.cons (.ret (.k (.bl false))) .nil) .nil) (.cons (.set false [6] (.call "_law_bent" (.cons (.v 1) (.cons (.v 4) .nil)))) (.cons (.set false [7] (.xrep (.v 6))) (.cons (.set false [8] (.call "is_check" (.cons (.v 6) .nil))) (.cons (.ret (.and (.isi (.v 8) "bool") (.and (.cmp .eq (.v 8) (.call "_law_good" (.cons (.v 6) .nil))) (.cmp .eq (.xrep (.v 6)) (.v 7))))) .nil)))))))))
def N_law : List Str := ["script", "state", "types", "checks", "value", "check", "bent", "kept", "told"]
def tp_fns_0 : List Str := ["source_ground",
  "is_check",
  "is_check_of",
  "is_ground",
  "is_label",
  "is_number",
  "_law_state",
  "_law_take",
  "_law_type",
  "_law_ground_type",
  "_law_check",
  "_law_partner",
  "_law_ground",
  "_law_join",
  "_law_chain",
  "_law_is_int",
  "_law_label",
  "_law_name",
  "_law_kind",
  "_law_plain",
  "_law_failing",
  "_law_good",
  "_law_strange",
  "_law_bent",
  "law"]
def tp_clss_0 : List Str := []
def tp_mets_0 : List (Str × Str) := []
def tp_inis_0 : List Str := []
def tp_flds_0 : List (Str × Str) := []
def tp_xcs_0 : List (Str × Str) := []
def tp_bins_0 : List Str := ["abs",
  "bool",
  "int",
  "isinstance",
  "len",
  "list",
  "range",
  "repr",
  "str",
  "tuple"]
def tp_glos_0 : List (Str × U) := [("MOST_HEIGHT", (U.int 60)),
  ("HEADS", (U.tup [(U.str "any"), (U.str "give"), (U.str "fail"), (U.str "take"), (U.str "same"), (U.str "fun"), (U.str "pair"), (U.str "box")])),
  ("PLAIN_HEADS", (U.tup [(U.str "same"), (U.str "fun"), (U.str "pair"), (U.str "box")])),
  ("TAKEN_HEADS", (U.tup [(U.str "same"), (U.str "fun"), (U.str "pair"), (U.str "box"), (U.str "give"), (U.str "fail")])),
  ("SAME_GROUNDS", (U.tup [(U.str "int"), (U.str "bool"), (U.str "unit")]))]
def tp_gdis_0 : List (Str × List (Str × U)) := [("GROUND_TYPES", [("int", (U.tup [(U.str "int")])), ("bool", (U.tup [(U.str "bool")])), ("unit", (U.tup [(U.str "unit")])), ("fun", (U.tup [(U.str "fun"), (U.tup [(U.str "any")]), (U.tup [(U.str "any")])])), ("pair", (U.tup [(U.str "pair"), (U.tup [(U.str "any")]), (U.tup [(U.str "any")])])), ("box", (U.tup [(U.str "box"), (U.tup [(U.str "any")])]))]),
  ("LENGTHS", [("any", (U.int 1)), ("same", (U.int 2)), ("fun", (U.int 3)), ("pair", (U.int 3)), ("box", (U.int 3)), ("give", (U.int 2)), ("fail", (U.int 4)), ("take", (U.int 4))])]
def tp_defs_0 : List (Str × He.DefD) := [("source_ground", ⟨("source_ground", none), "source_ground", "source_ground", defArgs st_source_ground, defBody st_source_ground, defScope st_source_ground, [], []⟩),
  ("is_check", ⟨("is_check", none), "is_check", "is_check", defArgs st_is_check, defBody st_is_check, defScope st_is_check, [], []⟩),
  ("is_check_of", ⟨("is_check_of", none), "is_check_of", "is_check_of", defArgs st_is_check_of, defBody st_is_check_of, defScope st_is_check_of, [], []⟩),
  ("is_ground", ⟨("is_ground", none), "is_ground", "is_ground", defArgs st_is_ground, defBody st_is_ground, defScope st_is_ground, [], []⟩),
  ("is_label", ⟨("is_label", none), "is_label", "is_label", defArgs st_is_label, defBody st_is_label, defScope st_is_label, [], []⟩),
  ("is_number", ⟨("is_number", none), "is_number", "is_number", defArgs st_is_number, defBody st_is_number, defScope st_is_number, [], []⟩),
  ("_law_state", ⟨("_law_state", none), "_law_state", "_law_state", defArgs st__law_state, defBody st__law_state, defScope st__law_state, [], []⟩),
  ("_law_take", ⟨("_law_take", none), "_law_take", "_law_take", defArgs st__law_take, defBody st__law_take, defScope st__law_take, [], []⟩),
  ("_law_type", ⟨("_law_type", none), "_law_type", "_law_type", defArgs st__law_type, defBody st__law_type, defScope st__law_type, [], []⟩),
  ("_law_ground_type", ⟨("_law_ground_type", none), "_law_ground_type", "_law_ground_type", defArgs st__law_ground_type, defBody st__law_ground_type, defScope st__law_ground_type, [], []⟩),
  ("_law_check", ⟨("_law_check", none), "_law_check", "_law_check", defArgs st__law_check, defBody st__law_check, defScope st__law_check, [], []⟩),
  ("_law_partner", ⟨("_law_partner", none), "_law_partner", "_law_partner", defArgs st__law_partner, defBody st__law_partner, defScope st__law_partner, [], []⟩),
  ("_law_ground", ⟨("_law_ground", none), "_law_ground", "_law_ground", defArgs st__law_ground, defBody st__law_ground, defScope st__law_ground, [], []⟩),
  ("_law_join", ⟨("_law_join", none), "_law_join", "_law_join", defArgs st__law_join, defBody st__law_join, defScope st__law_join, [], []⟩),
  ("_law_chain", ⟨("_law_chain", none), "_law_chain", "_law_chain", defArgs st__law_chain, defBody st__law_chain, defScope st__law_chain, [], []⟩),
  ("_law_is_int", ⟨("_law_is_int", none), "_law_is_int", "_law_is_int", defArgs st__law_is_int, defBody st__law_is_int, defScope st__law_is_int, [], []⟩),
  ("_law_label", ⟨("_law_label", none), "_law_label", "_law_label", defArgs st__law_label, defBody st__law_label, defScope st__law_label, [], []⟩),
  ("_law_name", ⟨("_law_name", none), "_law_name", "_law_name", defArgs st__law_name, defBody st__law_name, defScope st__law_name, [], []⟩),
  ("_law_kind", ⟨("_law_kind", none), "_law_kind", "_law_kind", defArgs st__law_kind, defBody st__law_kind, defScope st__law_kind, [], []⟩),
  ("_law_plain", ⟨("_law_plain", none), "_law_plain", "_law_plain", defArgs st__law_plain, defBody st__law_plain, defScope st__law_plain, [], []⟩),
  ("_law_failing", ⟨("_law_failing", none), "_law_failing", "_law_failing", defArgs st__law_failing, defBody st__law_failing, defScope st__law_failing, [], []⟩),
  ("_law_good", ⟨("_law_good", none), "_law_good", "_law_good", defArgs st__law_good, defBody st__law_good, defScope st__law_good, [], []⟩),
  ("_law_strange", ⟨("_law_strange", none), "_law_strange", "_law_strange", defArgs st__law_strange, defBody st__law_strange, defScope st__law_strange, [], []⟩),
  ("_law_bent", ⟨("_law_bent", none), "_law_bent", "_law_bent", defArgs st__law_bent, defBody st__law_bent, defScope st__law_bent, [], []⟩),
  ("law", ⟨("law", none), "law", "law", defArgs st_law, defBody st_law, defScope st_law, [], []⟩)]
def tp_kws_0 : List (Str × Nat × List Str) := []
def tp : Top := { fns := tp_fns_0, clss := tp_clss_0, mets := tp_mets_0, inis := tp_inis_0, flds := tp_flds_0, xcs := tp_xcs_0, bins := tp_bins_0, glos := tp_glos_0, gdis := tp_gdis_0, defs := tp_defs_0, kws := tp_kws_0 }
end Pr

end

section
set_option maxHeartbeats 4000000
namespace Pr
open PySem PySem.Spec PyProof.Rows L2 Oz
def tb_0 : List (Str × (Df ⊕ (Cal → List U → Sto → R U))) := [("source_ground", .inl ⟨1, 1, false, T_source_ground⟩),
  ("is_check", .inl ⟨1, 1, false, T_is_check⟩),
  ("is_check_of", .inl ⟨3, 8, false, T_is_check_of⟩),
  ("is_ground", .inl ⟨1, 1, false, T_is_ground⟩),
  ("is_label", .inl ⟨1, 3, false, T_is_label⟩),
  ("is_number", .inl ⟨1, 1, false, T_is_number⟩),
  ("_law_state", .inl ⟨1, 3, false, T__law_state⟩),
  ("_law_take", .inl ⟨2, 6, false, T__law_take⟩),
  ("_law_type", .inl ⟨2, 3, false, T__law_type⟩),
  ("_law_ground_type", .inl ⟨1, 1, false, T__law_ground_type⟩),
  ("_law_check", .inl ⟨4, 6, false, T__law_check⟩),
  ("_law_partner", .inl ⟨3, 4, false, T__law_partner⟩),
  ("_law_ground", .inl ⟨1, 1, false, T__law_ground⟩),
  ("_law_join", .inl ⟨2, 2, false, T__law_join⟩),
  ("_law_chain", .inl ⟨2, 6, false, T__law_chain⟩),
  ("_law_is_int", .inl ⟨1, 1, false, T__law_is_int⟩),
  ("_law_label", .inl ⟨1, 1, false, T__law_label⟩),
  ("_law_name", .inl ⟨1, 1, false, T__law_name⟩),
  ("_law_kind", .inl ⟨1, 2, false, T__law_kind⟩),
  ("_law_plain", .inl ⟨1, 2, false, T__law_plain⟩),
  ("_law_failing", .inl ⟨1, 1, false, T__law_failing⟩),
  ("_law_good", .inl ⟨1, 3, false, T__law_good⟩),
  ("_law_strange", .inl ⟨1, 2, false, T__law_strange⟩),
  ("_law_bent", .inl ⟨2, 4, false, T__law_bent⟩),
  ("law", .inl ⟨1, 9, false, T_law⟩)]
def ktb_0 : List (Str × Df) := []
def tbl : List (Str × (Df ⊕ (Cal → List U → Sto → R U))) := tb_0
def ktbl : List (Str × Df) := ktb_0
def pg : Pg := ⟨fun f => tbl.lookup f, fun f => ktbl.lookup f, fun x => tp.glos.lookup x, fun c => tp.xcs.lookup c, fun x => tp.gdis.lookup x⟩
def nm : Names := tp.nm
theorem sc_source_ground : FnScope ["check"] ["check"] (defScope st_source_ground) := ⟨rfl, rfl, rfl, by decide +kernel, rfl, by decide +kernel, by decide +kernel⟩
theorem d_source_ground {P : Program} {w : World} {K : PySem.W.Frag} {mg : Str → Option Value} {base : Heap} {ad : Str → Addr} {d : Nat} {f : Addr} (X : Cx) (cdv : Value) (A : Around) (outer : List PySem.Env) (s : Shared) (H : Hp) (E : XK) (hX : X = cxOf (L2.CX P w) P w K mg base ["check"] "source_ground" (defScope st_source_ground) f cdv A outer s H E) (O : Ok X pg nm ad d E) : PSs X (defBody st_source_ground) (tB X (pg.cal d) E T_source_ground) := by
  subst hX
  have nd := sc_source_ground.nd
  exact (b_cons (x_if (s_tcmp O .eq (s_ix (s_v 0) s_int) s_str) (b_cons (x_ret (s_call O (s_cons (s_ix (s_v 0) s_int) s_nil))) b_nil) b_nil) (b_cons (x_if (s_tcmp O .in_ (s_ix (s_v 0) s_int) (s_tup (s_cons s_str (s_cons s_str s_nil)))) (b_cons (x_ret (s_ix (s_v 0) s_int)) b_nil) b_nil) (b_cons (x_ret (s_ix (s_v 0) s_int)) b_nil)))
theorem sc_is_check : FnScope ["value"] ["value"] (defScope st_is_check) := ⟨rfl, rfl, rfl, by decide +kernel, rfl, by decide +kernel, by decide +kernel⟩
theorem d_is_check {P : Program} {w : World} {K : PySem.W.Frag} {mg : Str → Option Value} {base : Heap} {ad : Str → Addr} {d : Nat} {f : Addr} (X : Cx) (cdv : Value) (A : Around) (outer : List PySem.Env) (s : Shared) (H : Hp) (E : XK) (hX : X = cxOf (L2.CX P w) P w K mg base ["value"] "is_check" (defScope st_is_check) f cdv A outer s H E) (O : Ok X pg nm ad d E) : PSs X (defBody st_is_check) (tB X (pg.cal d) E T_is_check) := by
  subst hX
  have nd := sc_is_check.nd
  exact (b_cons (x_ret (s_call O (s_cons (s_v 0) (s_cons (s_g O) (s_cons (s_g O) s_nil))))) b_nil)
theorem sc_is_check_of : FnScope ["value", "heads", "most", "name", "given", "label", "wanted", "taken"] ["value", "heads", "most"] (defScope st_is_check_of) := ⟨rfl, rfl, rfl, by decide +kernel, rfl, by decide +kernel, by decide +kernel⟩
theorem d_is_check_of {P : Program} {w : World} {K : PySem.W.Frag} {mg : Str → Option Value} {base : Heap} {ad : Str → Addr} {d : Nat} {f : Addr} (X : Cx) (cdv : Value) (A : Around) (outer : List PySem.Env) (s : Shared) (H : Hp) (E : XK) (hX : X = cxOf (L2.CX P w) P w K mg base ["value", "heads", "most", "name", "given", "label", "wanted", "taken"] "is_check_of" (defScope st_is_check_of) f cdv A outer s H E) (O : Ok X pg nm ad d E) : PSs X (defBody st_is_check_of) (tB X (pg.cal d) E T_is_check_of) := by
  subst hX
  have nd := sc_is_check_of.nd
  exact (b_cons (x_if (PW.pt (w_or (s_tcmp O .eq (s_v 2) s_int) (w_or (s_tnot (s_tt (s_isi O (s_v 0) (by decide +kernel)))) (w_or1 (s_tcmp O .eq (s_bfB O .len cf_len (by decide +kernel) (s_cons (s_v 0) s_nil)) s_int))))) (b_cons (x_ret s_bl) b_nil) b_nil) (b_cons (x_if (PW.pt (w_or (s_txin O true (s_ix (s_v 0) s_int) (s_v 1)) (w_or1 (s_tcmp O .ne (s_bfB O .len cf_len (by decide +kernel) (s_cons (s_v 0) s_nil)) (s_gd O (s_ix (s_v 0) s_int)))))) (b_cons (x_ret s_bl) b_nil) b_nil) (b_cons (x_match (s_v 0) (c_cons O.calm nd (PtOk.seq (PisOk.lit PisOk.nil) rfl rfl) (b_cons (x_ret s_bl) b_nil) (c_cons O.calm nd (PtOk.seq (PisOk.lit (PisOk.cap (i := 3) rfl (by first | exact Or.inl rfl | exact Or.inr rfl) (by first | exact .inl rfl | exact .inr rfl) PisOk.nil)) rfl rfl) (b_cons (x_ret (s_xin O false (s_v 3) (s_g O))) b_nil) (c_cons O.calm nd (PtOk.seq (PisOk.lit (PisOk.cap (i := 4) rfl (by first | exact Or.inl rfl | exact Or.inr rfl) (by first | exact .inl rfl | exact .inr rfl) PisOk.nil)) rfl rfl) (b_cons (x_ret (s_call O (s_cons (s_v 4) (s_cons (s_g O) (s_cons (s_v 2) s_nil))))) b_nil) (c_cons O.calm nd (PtOk.seq (PisOk.lit (PisOk.cap (i := 3) rfl (by first | exact Or.inl rfl | exact Or.inr rfl) (by first | exact .inl rfl | exact .inr rfl) (PisOk.cap (i := 5) rfl (by first | exact Or.inl rfl | exact Or.inr rfl) (by first | exact .inl rfl | exact .inr rfl) (PisOk.cap (i := 6) rfl (by first | exact Or.inl rfl | exact Or.inr rfl) (by first | exact .inl rfl | exact .inr rfl) PisOk.nil)))) rfl rfl) (b_cons (x_ret (s_and (s_call O (s_cons (s_v 3) s_nil)) (s_and (s_call O (s_cons (s_v 5) s_nil)) (s_and (s_call O (s_cons (s_v 6) s_nil)) (s_one (s_cmp O .ne (s_v 3) (s_v 6))))))) b_nil) (c_cons O.calm nd (PtOk.seq (PisOk.lit (PisOk.cap (i := 3) rfl (by first | exact Or.inl rfl | exact Or.inr rfl) (by first | exact .inl rfl | exact .inr rfl) (PisOk.cap (i := 5) rfl (by first | exact Or.inl rfl | exact Or.inr rfl) (by first | exact .inl rfl | exact .inr rfl) (PisOk.cap (i := 7) rfl (by first | exact Or.inl rfl | exact Or.inr rfl) (by first | exact .inl rfl | exact .inr rfl) PisOk.nil)))) rfl rfl) (b_cons (x_ret (s_and (s_call O (s_cons (s_v 5) s_nil)) (s_and (s_call O (s_cons (s_v 7) (s_cons (s_g O) (s_cons (s_v 2) s_nil)))) (s_one (s_xeq O (s_call O (s_cons (s_v 7) s_nil)) (s_v 3)))))) b_nil) c_nil)))))) (b_cons (x_ret (s_and (s_call O (s_cons (s_ix (s_v 0) s_int) (s_cons (s_g O) (s_cons (s_bin .sub (s_v 2) s_int) s_nil)))) (s_one (s_call O (s_cons (s_ix (s_v 0) s_int) (s_cons (s_g O) (s_cons (s_bin .sub (s_v 2) s_int) s_nil))))))) b_nil))))
theorem sc_is_ground : FnScope ["value"] ["value"] (defScope st_is_ground) := ⟨rfl, rfl, rfl, by decide +kernel, rfl, by decide +kernel, by decide +kernel⟩
theorem d_is_ground {P : Program} {w : World} {K : PySem.W.Frag} {mg : Str → Option Value} {base : Heap} {ad : Str → Addr} {d : Nat} {f : Addr} (X : Cx) (cdv : Value) (A : Around) (outer : List PySem.Env) (s : Shared) (H : Hp) (E : XK) (hX : X = cxOf (L2.CX P w) P w K mg base ["value"] "is_ground" (defScope st_is_ground) f cdv A outer s H E) (O : Ok X pg nm ad d E) : PSs X (defBody st_is_ground) (tB X (pg.cal d) E T_is_ground) := by
  subst hX
  have nd := sc_is_ground.nd
  exact (b_cons (x_ret (s_and (s_isi O (s_v 0) (by decide +kernel)) (s_one (s_din O (s_v 0))))) b_nil)
theorem sc_is_label : FnScope ["value", "number", "side"] ["value"] (defScope st_is_label) := ⟨rfl, rfl, rfl, by decide +kernel, rfl, by decide +kernel, by decide +kernel⟩
theorem d_is_label {P : Program} {w : World} {K : PySem.W.Frag} {mg : Str → Option Value} {base : Heap} {ad : Str → Addr} {d : Nat} {f : Addr} (X : Cx) (cdv : Value) (A : Around) (outer : List PySem.Env) (s : Shared) (H : Hp) (E : XK) (hX : X = cxOf (L2.CX P w) P w K mg base ["value", "number", "side"] "is_label" (defScope st_is_label) f cdv A outer s H E) (O : Ok X pg nm ad d E) : PSs X (defBody st_is_label) (tB X (pg.cal d) E T_is_label) := by
  subst hX
  have nd := sc_is_label.nd
  exact (b_cons (x_if (PW.pt (w_or (s_tnot (s_tt (s_isi O (s_v 0) (by decide +kernel)))) (w_or1 (s_tcmp O .ne (s_bfB O .len cf_len (by decide +kernel) (s_cons (s_v 0) s_nil)) s_int)))) (b_cons (x_ret s_bl) b_nil) b_nil) (b_cons (x_tup rfl (s_v 0) (gs_cons 1 nd (gs_cons 2 nd gs_nil))) (b_cons (x_ret (s_and (s_call O (s_cons (s_v 1) s_nil)) (s_and (s_call O (s_cons (s_v 2) s_nil)) (s_one (s_cmp O .lt (s_v 2) s_int))))) b_nil)))
theorem sc_is_number : FnScope ["value"] ["value"] (defScope st_is_number) := ⟨rfl, rfl, rfl, by decide +kernel, rfl, by decide +kernel, by decide +kernel⟩
theorem d_is_number {P : Program} {w : World} {K : PySem.W.Frag} {mg : Str → Option Value} {base : Heap} {ad : Str → Addr} {d : Nat} {f : Addr} (X : Cx) (cdv : Value) (A : Around) (outer : List PySem.Env) (s : Shared) (H : Hp) (E : XK) (hX : X = cxOf (L2.CX P w) P w K mg base ["value"] "is_number" (defScope st_is_number) f cdv A outer s H E) (O : Ok X pg nm ad d E) : PSs X (defBody st_is_number) (tB X (pg.cal d) E T_is_number) := by
  subst hX
  have nd := sc_is_number.nd
  exact (b_cons (x_ret (s_and (s_isi O (s_v 0) (by decide +kernel)) (s_and (s_not (s_isi O (s_v 0) (by decide +kernel))) (s_one (s_cmp O .ge (s_v 0) s_int))))) b_nil)
theorem sc__law_state : FnScope ["script", "cells", "cell"] ["script"] (defScope st__law_state) := ⟨rfl, rfl, rfl, by decide +kernel, rfl, by decide +kernel, by decide +kernel⟩
theorem d__law_state {P : Program} {w : World} {K : PySem.W.Frag} {mg : Str → Option Value} {base : Heap} {ad : Str → Addr} {d : Nat} {f : Addr} (X : Cx) (cdv : Value) (A : Around) (outer : List PySem.Env) (s : Shared) (H : Hp) (E : XK) (hX : X = cxOf (L2.CX P w) P w K mg base ["script", "cells", "cell"] "_law_state" (defScope st__law_state) f cdv A outer s H E) (O : Ok X pg nm ad d E) : PSs X (defBody st__law_state) (tB X (pg.cal d) E T__law_state) := by
  subst hX
  have nd := sc__law_state.nd
  exact (b_cons (x_setLc O 1 false [(("cell" : Str), 2)] nd (s_sl (s_v 0) s_no (s_so s_int)) (blkOk_by (N := ["script", "cells", "cell"]) (sc := defScope st__law_state) (by decide +kernel)) (fun _ _ _ _ _ => g_name 2 nd) (fun _ _ _ _ _ => t_tt) (fun _ _ _ _ _ => (s_bfB (O.blk) .abs cf_abs (by decide +kernel) (s_cons (s_v 2) s_nil))) (sw_true rfl rfl rfl (by decide +kernel))) (b_cons (x_if (s_tcmp O .eq (s_bfB O .len cf_len (by decide +kernel) (s_cons (s_v 1) s_nil)) s_int) (b_cons (x_set 1 nd (s_lst (s_cons s_int s_nil))) b_nil) b_nil) (b_cons (x_ret (s_lst (s_cons s_int (s_cons (s_v 1) s_nil)))) b_nil)))
theorem sc__law_take : FnScope ["state", "most", "cells", "at", "cell", "mixed"] ["state", "most"] (defScope st__law_take) := ⟨rfl, rfl, rfl, by decide +kernel, rfl, by decide +kernel, by decide +kernel⟩
theorem d__law_take {P : Program} {w : World} {K : PySem.W.Frag} {mg : Str → Option Value} {base : Heap} {ad : Str → Addr} {d : Nat} {f : Addr} (X : Cx) (cdv : Value) (A : Around) (outer : List PySem.Env) (s : Shared) (H : Hp) (E : XK) (hX : X = cxOf (L2.CX P w) P w K mg base ["state", "most", "cells", "at", "cell", "mixed"] "_law_take" (defScope st__law_take) f cdv A outer s H E) (O : Ok X pg nm ad d E) : PSs X (defBody st__law_take) (tB X (pg.cal d) E T__law_take) := by
  subst hX
  have nd := sc__law_take.nd
  exact (b_cons (x_set 2 nd (s_ix (s_v 0) s_int)) (b_cons (x_set 3 nd (s_bin .mod (s_ix (s_v 0) s_int) (s_bfB O .len cf_len (by decide +kernel) (s_cons (s_v 2) s_nil)))) (b_cons (x_set 4 nd (s_ix (s_v 2) (s_v 3))) (b_cons (x_if (s_tcmp O .ge (s_v 4) s_int) (b_cons (x_sub (s_bin .fdiv (s_v 4) (s_v 1)) (s_v 2) (s_v 3)) (b_cons (x_ret (s_bin .mod (s_v 4) (s_v 1))) b_nil)) b_nil) (b_cons (x_sub (s_bin .add (s_ix (s_v 0) s_int) s_int) (s_v 0) s_int) (b_cons (x_set 5 nd (s_bin .mod (s_bfT O .int cf_int (by decide +kernel) (s_cons (s_bin .add (s_bin .mul (s_v 4) s_int) (s_bin .mul (s_ix (s_v 0) s_int) s_int)) s_nil)) s_int)) (b_cons (x_set 5 nd (s_bin .mod (s_bfT O .int cf_int (by decide +kernel) (s_cons (s_bin .add (s_bin .mul (s_v 5) s_int) (s_bin .mul (s_ix (s_v 0) s_int) s_int)) s_nil)) s_int)) (b_cons (x_ret (s_bin .mod (s_bin .fdiv (s_v 5) s_int) (s_v 1))) b_nil))))))))
theorem sc__law_type : FnScope ["state", "depth", "kind"] ["state", "depth"] (defScope st__law_type) := ⟨rfl, rfl, rfl, by decide +kernel, rfl, by decide +kernel, by decide +kernel⟩
theorem d__law_type {P : Program} {w : World} {K : PySem.W.Frag} {mg : Str → Option Value} {base : Heap} {ad : Str → Addr} {d : Nat} {f : Addr} (X : Cx) (cdv : Value) (A : Around) (outer : List PySem.Env) (s : Shared) (H : Hp) (E : XK) (hX : X = cxOf (L2.CX P w) P w K mg base ["state", "depth", "kind"] "_law_type" (defScope st__law_type) f cdv A outer s H E) (O : Ok X pg nm ad d E) : PSs X (defBody st__law_type) (tB X (pg.cal d) E T__law_type) := by
  subst hX
  have nd := sc__law_type.nd
  exact (b_cons (x_set 2 nd (s_call O (s_cons (s_v 0) (s_cons s_int s_nil)))) (b_cons (x_if (PW.pt (w_and (s_tcmp O .gt (s_v 1) s_int) (w_and1 (s_tcmp O .eq (s_v 2) s_int)))) (b_cons (x_ret (s_tup (s_cons s_str (s_cons (s_call O (s_cons (s_v 0) (s_cons (s_bin .sub (s_v 1) s_int) s_nil))) (s_cons (s_call O (s_cons (s_v 0) (s_cons (s_bin .sub (s_v 1) s_int) s_nil))) s_nil))))) b_nil) b_nil) (b_cons (x_if (PW.pt (w_and (s_tcmp O .gt (s_v 1) s_int) (w_and1 (s_tcmp O .eq (s_v 2) s_int)))) (b_cons (x_ret (s_tup (s_cons s_str (s_cons (s_call O (s_cons (s_v 0) (s_cons (s_bin .sub (s_v 1) s_int) s_nil))) (s_cons (s_call O (s_cons (s_v 0) (s_cons (s_bin .sub (s_v 1) s_int) s_nil))) s_nil))))) b_nil) b_nil) (b_cons (x_if (PW.pt (w_and (s_tcmp O .gt (s_v 1) s_int) (w_and1 (s_tcmp O .eq (s_v 2) s_int)))) (b_cons (x_ret (s_tup (s_cons s_str (s_cons (s_call O (s_cons (s_v 0) (s_cons (s_bin .sub (s_v 1) s_int) s_nil))) s_nil)))) b_nil) b_nil) (b_cons (x_ret (s_ix (s_lst (s_cons (s_tup (s_cons s_str s_nil)) (s_cons (s_tup (s_cons s_str s_nil)) (s_cons (s_tup (s_cons s_str s_nil)) (s_cons (s_tup (s_cons s_str s_nil)) (s_cons (s_tup (s_cons s_str s_nil)) (s_cons (s_tup (s_cons s_str s_nil)) s_nil))))))) (s_bin .mod (s_v 2) s_int))) b_nil)))))
theorem sc__law_ground_type : FnScope ["name"] ["name"] (defScope st__law_ground_type) := ⟨rfl, rfl, rfl, by decide +kernel, rfl, by decide +kernel, by decide +kernel⟩
theorem d__law_ground_type {P : Program} {w : World} {K : PySem.W.Frag} {mg : Str → Option Value} {base : Heap} {ad : Str → Addr} {d : Nat} {f : Addr} (X : Cx) (cdv : Value) (A : Around) (outer : List PySem.Env) (s : Shared) (H : Hp) (E : XK) (hX : X = cxOf (L2.CX P w) P w K mg base ["name"] "_law_ground_type" (defScope st__law_ground_type) f cdv A outer s H E) (O : Ok X pg nm ad d E) : PSs X (defBody st__law_ground_type) (tB X (pg.cal d) E T__law_ground_type) := by
  subst hX
  have nd := sc__law_ground_type.nd
  exact (b_cons (x_if (PW.pt (w_or (s_tcmp O .eq (s_v 0) s_str) (w_or1 (s_tcmp O .eq (s_v 0) s_str)))) (b_cons (x_ret (s_tup (s_cons (s_v 0) (s_cons (s_tup (s_cons s_str s_nil)) (s_cons (s_tup (s_cons s_str s_nil)) s_nil))))) b_nil) b_nil) (b_cons (x_if (s_tcmp O .eq (s_v 0) s_str) (b_cons (x_ret (s_tup (s_cons s_str (s_cons (s_tup (s_cons s_str s_nil)) s_nil)))) b_nil) b_nil) (b_cons (x_ret (s_tup (s_cons (s_v 0) s_nil))) b_nil)))
theorem sc__law_check : FnScope ["one", "other", "number", "side", "last", "second"] ["one", "other", "number", "side"] (defScope st__law_check) := ⟨rfl, rfl, rfl, by decide +kernel, rfl, by decide +kernel, by decide +kernel⟩
theorem d__law_check {P : Program} {w : World} {K : PySem.W.Frag} {mg : Str → Option Value} {base : Heap} {ad : Str → Addr} {d : Nat} {f : Addr} (X : Cx) (cdv : Value) (A : Around) (outer : List PySem.Env) (s : Shared) (H : Hp) (E : XK) (hX : X = cxOf (L2.CX P w) P w K mg base ["one", "other", "number", "side", "last", "second"] "_law_check" (defScope st__law_check) f cdv A outer s H E) (O : Ok X pg nm ad d E) : PSs X (defBody st__law_check) (tB X (pg.cal d) E T__law_check) := by
  subst hX
  have nd := sc__law_check.nd
  exact (b_cons (x_if (PW.pt (w_and (s_tcmp O .eq (s_ix (s_v 0) s_int) s_str) (w_and1 (s_tcmp O .eq (s_ix (s_v 1) s_int) s_str)))) (b_cons (x_ret (s_tup (s_cons s_str s_nil))) b_nil) b_nil) (b_cons (x_if (s_tcmp O .eq (s_ix (s_v 1) s_int) s_str) (b_cons (x_ret (s_tup (s_cons s_str (s_cons (s_call O (s_cons (s_v 0) (s_cons (s_call O (s_cons (s_ix (s_v 0) s_int) s_nil)) (s_cons (s_v 2) (s_cons (s_v 3) s_nil))))) s_nil)))) b_nil) b_nil) (b_cons (x_if (s_tcmp O .eq (s_ix (s_v 0) s_int) s_str) (b_cons (x_ret (s_tup (s_cons s_str (s_cons (s_ix (s_v 1) s_int) (s_cons (s_tup (s_cons (s_v 2) (s_cons (s_v 3) s_nil))) (s_cons (s_call O (s_cons (s_call O (s_cons (s_ix (s_v 1) s_int) s_nil)) (s_cons (s_v 1) (s_cons (s_v 2) (s_cons (s_v 3) s_nil))))) s_nil)))))) b_nil) b_nil) (b_cons (x_if (s_tcmp O .eq (s_bfB O .len cf_len (by decide +kernel) (s_cons (s_v 0) s_nil)) s_int) (b_cons (x_ret (s_tup (s_cons s_str (s_cons (s_ix (s_v 0) s_int) s_nil)))) b_nil) b_nil) (b_cons (x_set 4 nd (s_bin .sub (s_bfB O .len cf_len (by decide +kernel) (s_cons (s_v 0) s_nil)) s_int)) (b_cons (x_set 5 nd (s_call O (s_cons (s_ix (s_v 0) (s_v 4)) (s_cons (s_ix (s_v 1) (s_v 4)) (s_cons (s_v 2) (s_cons (s_v 3) s_nil)))))) (b_cons (x_if (s_tcmp O .eq (s_ix (s_v 0) s_int) s_str) (b_cons (x_ret (s_tup (s_cons s_str (s_cons (s_call O (s_cons (s_ix (s_v 0) s_int) (s_cons (s_ix (s_v 1) s_int) (s_cons (s_v 2) (s_cons (s_v 3) s_nil))))) (s_cons (s_v 5) s_nil))))) b_nil) b_nil) (b_cons (x_ret (s_tup (s_cons (s_ix (s_v 0) s_int) (s_cons (s_call O (s_cons (s_ix (s_v 1) s_int) (s_cons (s_ix (s_v 0) s_int) (s_cons (s_v 2) (s_cons (s_bin .sub s_int (s_v 3)) s_nil))))) (s_cons (s_v 5) s_nil))))) b_nil))))))))
theorem sc__law_partner : FnScope ["state", "one", "depth", "kind"] ["state", "one", "depth"] (defScope st__law_partner) := ⟨rfl, rfl, rfl, by decide +kernel, rfl, by decide +kernel, by decide +kernel⟩
theorem d__law_partner {P : Program} {w : World} {K : PySem.W.Frag} {mg : Str → Option Value} {base : Heap} {ad : Str → Addr} {d : Nat} {f : Addr} (X : Cx) (cdv : Value) (A : Around) (outer : List PySem.Env) (s : Shared) (H : Hp) (E : XK) (hX : X = cxOf (L2.CX P w) P w K mg base ["state", "one", "depth", "kind"] "_law_partner" (defScope st__law_partner) f cdv A outer s H E) (O : Ok X pg nm ad d E) : PSs X (defBody st__law_partner) (tB X (pg.cal d) E T__law_partner) := by
  subst hX
  have nd := sc__law_partner.nd
  exact (b_cons (x_set 3 nd (s_call O (s_cons (s_v 0) (s_cons s_int s_nil)))) (b_cons (x_if (s_tcmp O .eq (s_v 3) s_int) (b_cons (x_ret (s_tup (s_cons s_str s_nil))) b_nil) b_nil) (b_cons (x_if (s_tcmp O .eq (s_ix (s_v 1) s_int) s_str) (b_cons (x_ret (s_call O (s_cons (s_v 0) (s_cons (s_v 2) s_nil)))) b_nil) b_nil) (b_cons (x_if (PW.pt (w_or (s_tcmp O .eq (s_ix (s_v 1) s_int) s_str) (w_or1 (s_tcmp O .eq (s_ix (s_v 1) s_int) s_str)))) (b_cons (x_ret (s_tup (s_cons (s_ix (s_v 1) s_int) (s_cons (s_call O (s_cons (s_v 0) (s_cons (s_ix (s_v 1) s_int) (s_cons (s_bin .sub (s_v 2) s_int) s_nil)))) (s_cons (s_call O (s_cons (s_v 0) (s_cons (s_ix (s_v 1) s_int) (s_cons (s_bin .sub (s_v 2) s_int) s_nil)))) s_nil))))) b_nil) b_nil) (b_cons (x_if (s_tcmp O .eq (s_ix (s_v 1) s_int) s_str) (b_cons (x_ret (s_tup (s_cons s_str (s_cons (s_call O (s_cons (s_v 0) (s_cons (s_ix (s_v 1) s_int) (s_cons (s_bin .sub (s_v 2) s_int) s_nil)))) s_nil)))) b_nil) b_nil) (b_cons (x_ret (s_v 1)) b_nil))))))
theorem sc__law_ground : FnScope ["check"] ["check"] (defScope st__law_ground) := ⟨rfl, rfl, rfl, by decide +kernel, rfl, by decide +kernel, by decide +kernel⟩
theorem d__law_ground {P : Program} {w : World} {K : PySem.W.Frag} {mg : Str → Option Value} {base : Heap} {ad : Str → Addr} {d : Nat} {f : Addr} (X : Cx) (cdv : Value) (A : Around) (outer : List PySem.Env) (s : Shared) (H : Hp) (E : XK) (hX : X = cxOf (L2.CX P w) P w K mg base ["check"] "_law_ground" (defScope st__law_ground) f cdv A outer s H E) (O : Ok X pg nm ad d E) : PSs X (defBody st__law_ground) (tB X (pg.cal d) E T__law_ground) := by
  subst hX
  have nd := sc__law_ground.nd
  exact (b_cons (x_if (s_tcmp O .eq (s_ix (s_v 0) s_int) s_str) (b_cons (x_ret (s_ix (s_v 0) s_int)) b_nil) b_nil) (b_cons (x_ret (s_ix (s_v 0) s_int)) b_nil))
theorem sc__law_join : FnScope ["one", "two"] ["one", "two"] (defScope st__law_join) := ⟨rfl, rfl, rfl, by decide +kernel, rfl, by decide +kernel, by decide +kernel⟩
theorem d__law_join {P : Program} {w : World} {K : PySem.W.Frag} {mg : Str → Option Value} {base : Heap} {ad : Str → Addr} {d : Nat} {f : Addr} (X : Cx) (cdv : Value) (A : Around) (outer : List PySem.Env) (s : Shared) (H : Hp) (E : XK) (hX : X = cxOf (L2.CX P w) P w K mg base ["one", "two"] "_law_join" (defScope st__law_join) f cdv A outer s H E) (O : Ok X pg nm ad d E) : PSs X (defBody st__law_join) (tB X (pg.cal d) E T__law_join) := by
  subst hX
  have nd := sc__law_join.nd
  exact (b_cons (x_if (s_tcmp O .eq (s_ix (s_v 0) s_int) s_str) (b_cons (x_ret (s_v 1)) b_nil) b_nil) (b_cons (x_if (s_tcmp O .eq (s_ix (s_v 0) s_int) s_str) (b_cons (x_ret (s_v 0)) b_nil) b_nil) (b_cons (x_if (s_tcmp O .eq (s_ix (s_v 0) s_int) s_str) (b_cons (x_ret (s_tup (s_cons s_str (s_cons (s_ix (s_v 0) s_int) (s_cons (s_ix (s_v 0) s_int) (s_cons (s_call O (s_cons (s_ix (s_v 0) s_int) (s_cons (s_v 1) s_nil))) s_nil)))))) b_nil) b_nil) (b_cons (x_if (s_tcmp O .eq (s_ix (s_v 0) s_int) s_str) (b_cons (x_if (s_tcmp O .eq (s_ix (s_v 1) s_int) s_str) (b_cons (x_ret (s_v 0)) b_nil) b_nil) (b_cons (x_if (s_tcmp O .eq (s_ix (s_v 1) s_int) (s_call O (s_cons (s_ix (s_v 0) s_int) s_nil))) (b_cons (x_ret (s_call O (s_cons (s_ix (s_v 0) s_int) (s_cons (s_ix (s_v 1) s_int) s_nil)))) b_nil) b_nil) (b_cons (x_ret (s_tup (s_cons s_str (s_cons (s_call O (s_cons (s_ix (s_v 0) s_int) s_nil)) (s_cons (s_ix (s_v 1) s_int) (s_cons (s_ix (s_v 1) s_int) s_nil)))))) b_nil))) b_nil) (b_cons (x_if (s_tcmp O .eq (s_ix (s_v 1) s_int) s_str) (b_cons (x_ret (s_v 1)) b_nil) b_nil) (b_cons (x_if (s_tcmp O .eq (s_ix (s_v 1) s_int) s_str) (b_cons (x_ret (s_tup (s_cons s_str (s_cons (s_call O (s_cons (s_v 0) (s_cons (s_ix (s_v 1) s_int) s_nil))) s_nil)))) b_nil) b_nil) (b_cons (x_if (s_tcmp O .eq (s_ix (s_v 0) s_int) s_str) (b_cons (x_ret (s_v 0)) b_nil) b_nil) (b_cons (x_if (s_tcmp O .eq (s_ix (s_v 0) s_int) s_str) (b_cons (x_ret (s_tup (s_cons s_str (s_cons (s_call O (s_cons (s_ix (s_v 0) s_int) (s_cons (s_ix (s_v 1) s_int) s_nil))) (s_cons (s_call O (s_cons (s_ix (s_v 0) s_int) (s_cons (s_ix (s_v 1) s_int) s_nil))) s_nil))))) b_nil) b_nil) (b_cons (x_ret (s_tup (s_cons (s_ix (s_v 0) s_int) (s_cons (s_call O (s_cons (s_ix (s_v 1) s_int) (s_cons (s_ix (s_v 0) s_int) s_nil))) (s_cons (s_call O (s_cons (s_ix (s_v 0) s_int) (s_cons (s_ix (s_v 1) s_int) s_nil))) s_nil))))) b_nil)))))))))
theorem sc__law_chain : FnScope ["state", "count", "types", "k", "last", "checks"] ["state", "count"] (defScope st__law_chain) := ⟨rfl, rfl, rfl, by decide +kernel, rfl, by decide +kernel, by decide +kernel⟩
theorem d__law_chain {P : Program} {w : World} {K : PySem.W.Frag} {mg : Str → Option Value} {base : Heap} {ad : Str → Addr} {d : Nat} {f : Addr} (X : Cx) (cdv : Value) (A : Around) (outer : List PySem.Env) (s : Shared) (H : Hp) (E : XK) (hX : X = cxOf (L2.CX P w) P w K mg base ["state", "count", "types", "k", "last", "checks"] "_law_chain" (defScope st__law_chain) f cdv A outer s H E) (O : Ok X pg nm ad d E) : PSs X (defBody st__law_chain) (tB X (pg.cal d) E T__law_chain) := by
  subst hX
  have nd := sc__law_chain.nd
  exact (b_cons (x_set 2 nd (s_lst (s_cons (s_call O (s_cons (s_v 0) (s_cons (s_bin .add s_int (s_call O (s_cons (s_v 0) (s_cons s_int s_nil)))) s_nil))) s_nil))) (b_cons (x_forr O 3 (pi_r1 O (s_v 1)) (g_name 3 nd) (b_cons (x_set 4 nd (s_ix (s_v 2) (s_bin .sub (s_bfB O .len cf_len (by decide +kernel) (s_cons (s_v 2) s_nil)) s_int))) (b_cons (x_if (s_tcmp O .eq (s_call O (s_cons (s_v 0) (s_cons s_int s_nil))) s_int) (b_cons (x_ex (s_bm .append rfl PySem.F.plainAttrs_list PySem.F.slot_list_append PySem.F.type_list_append bm_append (s_v 2) (s_cons (s_tup (s_cons s_str s_nil)) s_nil))) b_nil) (b_cons (x_ex (s_bm .append rfl PySem.F.plainAttrs_list PySem.F.slot_list_append PySem.F.type_list_append bm_append (s_v 2) (s_cons (s_call O (s_cons (s_v 0) (s_cons (s_v 4) (s_cons s_int s_nil)))) s_nil))) b_nil)) b_nil))) (b_cons (x_set 5 nd (s_lst s_nil)) (b_cons (x_forr O 3 (pi_r1 O (s_v 1)) (g_name 3 nd) (b_cons (x_ex (s_bm .append rfl PySem.F.plainAttrs_list PySem.F.slot_list_append PySem.F.type_list_append bm_append (s_v 5) (s_cons (s_call O (s_cons (s_ix (s_v 2) (s_v 3)) (s_cons (s_ix (s_v 2) (s_bin .add (s_v 3) s_int)) (s_cons (s_call O (s_cons (s_v 0) (s_cons s_int s_nil))) (s_cons (s_call O (s_cons (s_v 0) (s_cons s_int s_nil))) s_nil))))) s_nil))) b_nil)) (b_cons (x_ret (s_tup (s_cons (s_v 2) (s_cons (s_v 5) s_nil)))) b_nil)))))
theorem sc__law_is_int : FnScope ["value"] ["value"] (defScope st__law_is_int) := ⟨rfl, rfl, rfl, by decide +kernel, rfl, by decide +kernel, by decide +kernel⟩
theorem d__law_is_int {P : Program} {w : World} {K : PySem.W.Frag} {mg : Str → Option Value} {base : Heap} {ad : Str → Addr} {d : Nat} {f : Addr} (X : Cx) (cdv : Value) (A : Around) (outer : List PySem.Env) (s : Shared) (H : Hp) (E : XK) (hX : X = cxOf (L2.CX P w) P w K mg base ["value"] "_law_is_int" (defScope st__law_is_int) f cdv A outer s H E) (O : Ok X pg nm ad d E) : PSs X (defBody st__law_is_int) (tB X (pg.cal d) E T__law_is_int) := by
  subst hX
  have nd := sc__law_is_int.nd
  exact (b_cons (x_ret (s_and (s_isi O (s_v 0) (by decide +kernel)) (s_one (s_not (s_isi O (s_v 0) (by decide +kernel)))))) b_nil)
theorem sc__law_label : FnScope ["value"] ["value"] (defScope st__law_label) := ⟨rfl, rfl, rfl, by decide +kernel, rfl, by decide +kernel, by decide +kernel⟩
theorem d__law_label {P : Program} {w : World} {K : PySem.W.Frag} {mg : Str → Option Value} {base : Heap} {ad : Str → Addr} {d : Nat} {f : Addr} (X : Cx) (cdv : Value) (A : Around) (outer : List PySem.Env) (s : Shared) (H : Hp) (E : XK) (hX : X = cxOf (L2.CX P w) P w K mg base ["value"] "_law_label" (defScope st__law_label) f cdv A outer s H E) (O : Ok X pg nm ad d E) : PSs X (defBody st__law_label) (tB X (pg.cal d) E T__law_label) := by
  subst hX
  have nd := sc__law_label.nd
  exact (b_cons (x_if (PW.pt (w_or (s_tnot (s_tt (s_isi O (s_v 0) (by decide +kernel)))) (w_or (s_tcmp O .ne (s_bfB O .len cf_len (by decide +kernel) (s_cons (s_v 0) s_nil)) s_int) (w_or (s_tnot (s_tt (s_call O (s_cons (s_ix (s_v 0) s_int) s_nil)))) (w_or1 (s_tnot (s_tt (s_call O (s_cons (s_ix (s_v 0) s_int) s_nil))))))))) (b_cons (x_ret s_bl) b_nil) b_nil) (b_cons (x_ret (s_and (s_cmp O .ge (s_ix (s_v 0) s_int) s_int) (s_one (s_cmp O .in_ (s_ix (s_v 0) s_int) (s_lst (s_cons s_int (s_cons s_int s_nil))))))) b_nil))
theorem sc__law_name : FnScope ["value"] ["value"] (defScope st__law_name) := ⟨rfl, rfl, rfl, by decide +kernel, rfl, by decide +kernel, by decide +kernel⟩
theorem d__law_name {P : Program} {w : World} {K : PySem.W.Frag} {mg : Str → Option Value} {base : Heap} {ad : Str → Addr} {d : Nat} {f : Addr} (X : Cx) (cdv : Value) (A : Around) (outer : List PySem.Env) (s : Shared) (H : Hp) (E : XK) (hX : X = cxOf (L2.CX P w) P w K mg base ["value"] "_law_name" (defScope st__law_name) f cdv A outer s H E) (O : Ok X pg nm ad d E) : PSs X (defBody st__law_name) (tB X (pg.cal d) E T__law_name) := by
  subst hX
  have nd := sc__law_name.nd
  exact (b_cons (x_ret (s_and (s_isi O (s_v 0) (by decide +kernel)) (s_one (s_cmp O .in_ (s_v 0) (s_lst (s_cons s_str (s_cons s_str (s_cons s_str (s_cons s_str (s_cons s_str (s_cons s_str s_nil))))))))))) b_nil)
theorem sc__law_kind : FnScope ["value", "sizes"] ["value"] (defScope st__law_kind) := ⟨rfl, rfl, rfl, by decide +kernel, rfl, by decide +kernel, by decide +kernel⟩
theorem d__law_kind {P : Program} {w : World} {K : PySem.W.Frag} {mg : Str → Option Value} {base : Heap} {ad : Str → Addr} {d : Nat} {f : Addr} (X : Cx) (cdv : Value) (A : Around) (outer : List PySem.Env) (s : Shared) (H : Hp) (E : XK) (hX : X = cxOf (L2.CX P w) P w K mg base ["value", "sizes"] "_law_kind" (defScope st__law_kind) f cdv A outer s H E) (O : Ok X pg nm ad d E) : PSs X (defBody st__law_kind) (tB X (pg.cal d) E T__law_kind) := by
  subst hX
  have nd := sc__law_kind.nd
  exact (b_cons (x_if (PW.pt (w_or (s_tnot (s_tt (s_isi O (s_v 0) (by decide +kernel)))) (w_or (s_tcmp O .eq (s_bfB O .len cf_len (by decide +kernel) (s_cons (s_v 0) s_nil)) s_int) (w_or1 (s_tnot (s_tt (s_isi O (s_ix (s_v 0) s_int) (by decide +kernel)))))))) (b_cons (x_ret s_str) b_nil) b_nil) (b_cons (x_set 1 nd (s_dpl (pd_cons s_str s_int (pd_cons s_str s_int (pd_cons s_str s_int (pd_cons s_str s_int (pd_cons s_str s_int (pd_cons s_str s_int (pd_cons s_str s_int (pd_cons s_str s_int pd_nil)))))))))) (b_cons (x_if (PW.pt (w_or (s_tdhasNo O (s_ix (s_v 0) s_int) (s_v 1)) (w_or1 (s_tcmp O .ne (s_dat O (s_v 1) (s_ix (s_v 0) s_int)) (s_bfB O .len cf_len (by decide +kernel) (s_cons (s_v 0) s_nil)))))) (b_cons (x_ret s_str) b_nil) b_nil) (b_cons (x_ret (s_ix (s_v 0) s_int)) b_nil))))
theorem sc__law_plain : FnScope ["value", "kind"] ["value"] (defScope st__law_plain) := ⟨rfl, rfl, rfl, by decide +kernel, rfl, by decide +kernel, by decide +kernel⟩
theorem d__law_plain {P : Program} {w : World} {K : PySem.W.Frag} {mg : Str → Option Value} {base : Heap} {ad : Str → Addr} {d : Nat} {f : Addr} (X : Cx) (cdv : Value) (A : Around) (outer : List PySem.Env) (s : Shared) (H : Hp) (E : XK) (hX : X = cxOf (L2.CX P w) P w K mg base ["value", "kind"] "_law_plain" (defScope st__law_plain) f cdv A outer s H E) (O : Ok X pg nm ad d E) : PSs X (defBody st__law_plain) (tB X (pg.cal d) E T__law_plain) := by
  subst hX
  have nd := sc__law_plain.nd
  exact (b_cons (x_set 1 nd (s_call O (s_cons (s_v 0) s_nil))) (b_cons (x_if (s_tcmp O .eq (s_v 1) s_str) (b_cons (x_ret (s_and (s_isi O (s_ix (s_v 0) s_int) (by decide +kernel)) (s_one (s_cmp O .in_ (s_ix (s_v 0) s_int) (s_lst (s_cons s_str (s_cons s_str (s_cons s_str s_nil)))))))) b_nil) b_nil) (b_cons (x_if (s_tcmp O .in_ (s_v 1) (s_lst (s_cons s_str (s_cons s_str (s_cons s_str s_nil))))) (b_cons (x_ret (s_and (s_call O (s_cons (s_ix (s_v 0) s_int) s_nil)) (s_one (s_call O (s_cons (s_ix (s_v 0) s_int) s_nil))))) b_nil) b_nil) (b_cons (x_ret s_bl) b_nil))))
theorem sc__law_failing : FnScope ["value"] ["value"] (defScope st__law_failing) := ⟨rfl, rfl, rfl, by decide +kernel, rfl, by decide +kernel, by decide +kernel⟩
theorem d__law_failing {P : Program} {w : World} {K : PySem.W.Frag} {mg : Str → Option Value} {base : Heap} {ad : Str → Addr} {d : Nat} {f : Addr} (X : Cx) (cdv : Value) (A : Around) (outer : List PySem.Env) (s : Shared) (H : Hp) (E : XK) (hX : X = cxOf (L2.CX P w) P w K mg base ["value"] "_law_failing" (defScope st__law_failing) f cdv A outer s H E) (O : Ok X pg nm ad d E) : PSs X (defBody st__law_failing) (tB X (pg.cal d) E T__law_failing) := by
  subst hX
  have nd := sc__law_failing.nd
  exact (b_cons (x_if (PW.pt (w_or (s_tcmp O .ne (s_call O (s_cons (s_v 0) s_nil)) s_str) (w_or (s_tnot (s_tt (s_call O (s_cons (s_ix (s_v 0) s_int) s_nil)))) (w_or1 (s_tnot (s_tt (s_call O (s_cons (s_ix (s_v 0) s_int) s_nil)))))))) (b_cons (x_ret s_bl) b_nil) b_nil) (b_cons (x_ret (s_and (s_call O (s_cons (s_ix (s_v 0) s_int) s_nil)) (s_one (s_cmp O .ne (s_ix (s_v 0) s_int) (s_ix (s_v 0) s_int))))) b_nil))
theorem sc__law_good : FnScope ["value", "kind", "inner"] ["value"] (defScope st__law_good) := ⟨rfl, rfl, rfl, by decide +kernel, rfl, by decide +kernel, by decide +kernel⟩
theorem d__law_good {P : Program} {w : World} {K : PySem.W.Frag} {mg : Str → Option Value} {base : Heap} {ad : Str → Addr} {d : Nat} {f : Addr} (X : Cx) (cdv : Value) (A : Around) (outer : List PySem.Env) (s : Shared) (H : Hp) (E : XK) (hX : X = cxOf (L2.CX P w) P w K mg base ["value", "kind", "inner"] "_law_good" (defScope st__law_good) f cdv A outer s H E) (O : Ok X pg nm ad d E) : PSs X (defBody st__law_good) (tB X (pg.cal d) E T__law_good) := by
  subst hX
  have nd := sc__law_good.nd
  exact (b_cons (x_set 1 nd (s_call O (s_cons (s_v 0) s_nil))) (b_cons (x_if (PW.pt (w_or (s_tcmp O .eq (s_v 1) s_str) (w_or (s_tt (s_call O (s_cons (s_v 0) s_nil))) (w_or1 (s_tt (s_call O (s_cons (s_v 0) s_nil))))))) (b_cons (x_ret s_bl) b_nil) b_nil) (b_cons (x_if (s_tcmp O .eq (s_v 1) s_str) (b_cons (x_ret (s_call O (s_cons (s_ix (s_v 0) s_int) s_nil))) b_nil) b_nil) (b_cons (x_if (PW.pt (w_or (s_tcmp O .ne (s_v 1) s_str) (w_or (s_tnot (s_tt (s_call O (s_cons (s_ix (s_v 0) s_int) s_nil)))) (w_or1 (s_tnot (s_tt (s_call O (s_cons (s_ix (s_v 0) s_int) s_nil)))))))) (b_cons (x_ret s_bl) b_nil) b_nil) (b_cons (x_set 2 nd (s_ix (s_v 0) s_int)) (b_cons (x_if (s_tt (s_call O (s_cons (s_v 2) s_nil))) (b_cons (x_ret (s_cmp O .eq (s_ix (s_v 2) s_int) (s_ix (s_v 0) s_int))) b_nil) b_nil) (b_cons (x_if (PW.pt (w_and (s_tcmp O .eq (s_call O (s_cons (s_v 2) s_nil)) s_str) (w_and1 (s_tt (s_call O (s_cons (s_ix (s_v 2) s_int) s_nil)))))) (b_cons (x_ret (s_cmp O .eq (s_call O (s_cons (s_ix (s_v 2) s_int) s_nil)) (s_ix (s_v 0) s_int))) b_nil) b_nil) (b_cons (x_ret (s_and (s_call O (s_cons (s_v 2) s_nil)) (s_one (s_cmp O .eq (s_call O (s_cons (s_v 2) s_nil)) (s_ix (s_v 0) s_int))))) b_nil))))))))
theorem sc__law_strange : FnScope ["state", "things"] ["state"] (defScope st__law_strange) := ⟨rfl, rfl, rfl, by decide +kernel, rfl, by decide +kernel, by decide +kernel⟩
theorem d__law_strange {P : Program} {w : World} {K : PySem.W.Frag} {mg : Str → Option Value} {base : Heap} {ad : Str → Addr} {d : Nat} {f : Addr} (X : Cx) (cdv : Value) (A : Around) (outer : List PySem.Env) (s : Shared) (H : Hp) (E : XK) (hX : X = cxOf (L2.CX P w) P w K mg base ["state", "things"] "_law_strange" (defScope st__law_strange) f cdv A outer s H E) (O : Ok X pg nm ad d E) : PSs X (defBody st__law_strange) (tB X (pg.cal d) E T__law_strange) := by
  subst hX
  have nd := sc__law_strange.nd
  exact (b_cons (x_set 1 nd (s_lst (s_cons s_non (s_cons s_bl (s_cons s_int (s_cons s_int (s_cons (s_neg s_int) (s_cons s_str (s_cons s_str (s_cons s_str (s_cons (s_tup s_nil) (s_cons (s_lst s_nil) (s_cons (s_tup (s_cons s_str s_nil)) (s_cons (s_tup (s_cons s_str (s_cons s_str s_nil))) (s_cons (s_tup (s_cons s_str (s_cons s_str s_nil))) (s_cons (s_tup (s_cons s_int (s_cons s_int s_nil))) (s_cons (s_tup (s_cons s_int (s_cons s_int s_nil))) s_nil))))))))))))))))) (b_cons (x_set 1 nd (s_bin .add (s_v 1) (s_lst (s_cons s_dnew (s_cons (s_lst (s_cons s_str s_nil)) (s_cons (s_tup (s_cons s_str (s_cons (s_tup (s_cons s_str s_nil)) s_nil))) (s_cons (s_tup (s_cons s_str (s_cons s_str (s_cons (s_tup (s_cons s_int (s_cons s_int s_nil))) (s_cons (s_tup (s_cons s_str s_nil)) s_nil))))) (s_cons (s_tup (s_cons s_bl (s_cons s_int s_nil))) (s_cons (s_tup (s_cons s_str (s_cons (s_tup (s_cons s_str s_nil)) s_nil))) s_nil))))))))) (b_cons (x_ret (s_ix (s_v 1) (s_call O (s_cons (s_v 0) (s_cons s_int s_nil))))) b_nil)))
theorem sc__law_bent : FnScope ["state", "value", "at", "kind"] ["state", "value"] (defScope st__law_bent) := ⟨rfl, rfl, rfl, by decide +kernel, rfl, by decide +kernel, by decide +kernel⟩
theorem d__law_bent {P : Program} {w : World} {K : PySem.W.Frag} {mg : Str → Option Value} {base : Heap} {ad : Str → Addr} {d : Nat} {f : Addr} (X : Cx) (cdv : Value) (A : Around) (outer : List PySem.Env) (s : Shared) (H : Hp) (E : XK) (hX : X = cxOf (L2.CX P w) P w K mg base ["state", "value", "at", "kind"] "_law_bent" (defScope st__law_bent) f cdv A outer s H E) (O : Ok X pg nm ad d E) : PSs X (defBody st__law_bent) (tB X (pg.cal d) E T__law_bent) := by
  subst hX
  have nd := sc__law_bent.nd
  exact (b_cons (x_if (PW.pt (w_or (s_tnot (s_tt (s_isi O (s_v 1) (by decide +kernel)))) (w_or (s_tcmp O .eq (s_bfB O .len cf_len (by decide +kernel) (s_cons (s_v 1) s_nil)) s_int) (w_or1 (s_tcmp O .eq (s_call O (s_cons (s_v 0) (s_cons s_int s_nil))) s_int))))) (b_cons (x_ret (s_call O (s_cons (s_v 0) s_nil))) b_nil) b_nil) (b_cons (x_set 2 nd (s_call O (s_cons (s_v 0) (s_cons (s_bfB O .len cf_len (by decide +kernel) (s_cons (s_v 1) s_nil)) s_nil)))) (b_cons (x_set 3 nd (s_call O (s_cons (s_v 0) (s_cons s_int s_nil)))) (b_cons (x_if (s_tcmp O .eq (s_v 3) s_int) (b_cons (x_ret (s_bin .add (s_sl (s_v 1) s_no (s_so (s_v 2))) (s_sl (s_v 1) (s_so (s_bin .add (s_v 2) s_int)) s_no))) b_nil) b_nil) (b_cons (x_if (s_tcmp O .eq (s_v 3) s_int) (b_cons (x_ret (s_bin .add (s_bin .add (s_sl (s_v 1) s_no (s_so (s_v 2))) (s_tup (s_cons (s_ix (s_v 1) (s_v 2)) s_nil))) (s_sl (s_v 1) (s_so (s_v 2)) s_no))) b_nil) b_nil) (b_cons (x_if (s_tcmp O .eq (s_v 3) s_int) (b_cons (x_ret (s_bfT O .list cf_list (by decide +kernel) (s_cons (s_v 1) s_nil))) b_nil) b_nil) (b_cons (x_ret (s_bin .add (s_bin .add (s_sl (s_v 1) s_no (s_so (s_v 2))) (s_tup (s_cons (s_call O (s_cons (s_v 0) (s_cons (s_ix (s_v 1) (s_v 2)) s_nil))) s_nil))) (s_sl (s_v 1) (s_so (s_bin .add (s_v 2) s_int)) s_no))) b_nil)))))))
theorem sc_law : FnScope ["script", "state", "types", "checks", "value", "check", "bent", "kept", "told"] ["script"] (defScope st_law) := ⟨rfl, rfl, rfl, by decide +kernel, rfl, by decide +kernel, by decide +kernel⟩
theorem d_law {P : Program} {w : World} {K : PySem.W.Frag} {mg : Str → Option Value} {base : Heap} {ad : Str → Addr} {d : Nat} {f : Addr} (X : Cx) (cdv : Value) (A : Around) (outer : List PySem.Env) (s : Shared) (H : Hp) (E : XK) (hX : X = cxOf (L2.CX P w) P w K mg base ["script", "state", "types", "checks", "value", "check", "bent", "kept", "told"] "law" (defScope st_law) f cdv A outer s H E) (O : Ok X pg nm ad d E) : PSs X (defBody st_law) (tB X (pg.cal d) E T_law) := by
  subst hX
  have nd := sc_law.nd
  exact (b_cons (x_set 1 nd (s_call O (s_cons (s_v 0) s_nil))) (b_cons (x_tup rfl (s_call O (s_cons (s_v 1) (s_cons (s_bin .add s_int (s_call O (s_cons (s_v 1) (s_cons s_int s_nil)))) s_nil))) (gs_cons 2 nd (gs_cons 3 nd gs_nil))) (b_cons (x_set 4 nd (s_ix (s_v 3) s_int)) (b_cons (x_for O false [5] (s_sl (s_v 3) (s_so s_int) s_no) (g_name 5 nd) (b_cons (x_set 4 nd (s_call O (s_cons (s_v 4) (s_cons (s_v 5) s_nil)))) b_nil)) (b_cons (x_if (PW.pt (w_or (s_tcmp O .isNotN (s_call O (s_cons (s_v 4) s_nil)) s_bl) (w_or1 (s_tnot (s_tt (s_call O (s_cons (s_v 4) s_nil))))))) (b_cons (x_ret s_bl) b_nil) b_nil) (b_cons (x_set 6 nd (s_call O (s_cons (s_v 1) (s_cons (s_v 4) s_nil)))) (b_cons (x_set 7 nd (s_xrep O (s_v 6))) (b_cons (x_set 8 nd (s_call O (s_cons (s_v 6) s_nil))) (b_cons (x_ret (s_and (s_isi O (s_v 8) (by decide +kernel)) (s_and (s_cmp O .eq (s_v 8) (s_call O (s_cons (s_v 6) s_nil))) (s_one (s_cmp O .eq (s_xrep O (s_v 6)) (s_v 7)))))) b_nil)))))))))
end Pr

end

section
set_option maxHeartbeats 4000000
namespace Pr
open PySem L2 Oz
variable {S S' : Sto} {d : Nat}
theorem call_eq {f : Str} {df : Df} (h : tbl.lookup f = some (.inl df)) (d : Nat) (us : List U) (S : Sto) : (pg.cal (d + 1)).call f us S = df.run (pg.cal d) us S := by
  show (match tbl.lookup f with | some (.inl df) => df.run (pg.cal d) us S | some (.inr g) => g (pg.cal d) us S | none => R.bad) = _
  rw [h]
theorem run_eq {np nn : Nat} {b : Sts} {Φ : Cal} {us : List U} {S : Sto} (h : us.length = np) : (⟨np, nn, false, b⟩ : Df).run Φ us S = (exs Φ b (us.map some ++ List.replicate (nn - np) none) S).fin := by
  unfold Df.run bindU startU
  subst h
  rw [if_neg (show ¬ (false = true) from Bool.false_ne_true), if_pos rfl]
/-! ### types -/
inductive Ty where
  | any | int | bool | unit | fn (a b : Ty) | pr (a b : Ty) | bx (a : Ty)
  deriving DecidableEq
namespace Ty
def hd : Ty → Str
  | any => "any" | int => "int" | bool => "bool" | unit => "unit" | fn _ _ => "fun" | pr _ _ => "pair" | bx _ => "box"
def pt : Ty → List Ty
  | fn a b => [a, b] | pr a b => [a, b] | bx a => [a] | _ => []
def kd : Ty → Nat
  | any => 0 | int => 1 | bool => 2 | unit => 3 | fn _ _ => 4 | pr _ _ => 5 | bx _ => 6
def dep : Ty → Nat
  | fn a b => 1 + max a.dep b.dep | pr a b => 1 + max a.dep b.dep | bx a => 1 + a.dep | _ => 1
theorem dep_pos (t : Ty) : 1 ≤ t.dep := by cases t <;> simp [dep] <;> omega
theorem dep_pt {t p : Ty} (h : p ∈ t.pt) : p.dep < t.dep := by
  cases t <;> simp [pt] at h <;> (try rcases h with rfl | rfl) <;> (try subst h) <;> simp [dep] <;> omega
theorem pt_len (t : Ty) : t.pt.length ≤ 2 := by cases t <;> simp [pt]
def nmK : Nat → Str
  | 0 => "any" | 1 => "int" | 2 => "bool" | 3 => "unit" | 4 => "fun" | 5 => "pair" | _ => "box"
theorem nm_inj : ∀ i j : Fin 7, nmK i = nmK j → i = j := by decide +kernel
theorem hd_nm (t : Ty) : t.hd = nmK t.kd := by cases t <;> rfl
theorem kd_lt (t : Ty) : t.kd < 7 := by cases t <;> simp [kd]
theorem hd_kd (a b : Ty) : a.hd = b.hd ↔ a.kd = b.kd := by
  rw [hd_nm, hd_nm]
  constructor
  · intro h
    have := nm_inj ⟨a.kd, a.kd_lt⟩ ⟨b.kd, b.kd_lt⟩ h
    exact congrArg Fin.val this
  · intro h
    rw [h]
theorem len_hd {a b : Ty} (h : a.hd = b.hd) : a.pt.length = b.pt.length := by
  rw [hd_kd] at h
  cases a <;> cases b <;> first | rfl | (simp [kd] at h)
end Ty
def tu : Ty → U
  | .any => .tup [.str "any"] | .int => .tup [.str "int"] | .bool => .tup [.str "bool"] | .unit => .tup [.str "unit"]
  | .fn a b => .tup [.str "fun", tu a, tu b] | .pr a b => .tup [.str "pair", tu a, tu b] | .bx a => .tup [.str "box", tu a]
theorem tu_eq (t : Ty) : tu t = .tup (.str t.hd :: t.pt.map tu) := by cases t <;> rfl
theorem tu_inj : ∀ a b : Ty, tu a = tu b → a = b := by
  intro a
  induction a with
  | any => intro b h; cases b <;> first | rfl | (rw [tu_eq, tu_eq] at h; simp only [U.tup.injEq, List.cons.injEq, U.str.injEq, Ty.hd_kd] at h; exact absurd h.1 (by simp [Ty.kd]))
  | int => intro b h; cases b <;> first | rfl | (rw [tu_eq, tu_eq] at h; simp only [U.tup.injEq, List.cons.injEq, U.str.injEq, Ty.hd_kd] at h; exact absurd h.1 (by simp [Ty.kd]))
  | bool => intro b h; cases b <;> first | rfl | (rw [tu_eq, tu_eq] at h; simp only [U.tup.injEq, List.cons.injEq, U.str.injEq, Ty.hd_kd] at h; exact absurd h.1 (by simp [Ty.kd]))
  | unit => intro b h; cases b <;> first | rfl | (rw [tu_eq, tu_eq] at h; simp only [U.tup.injEq, List.cons.injEq, U.str.injEq, Ty.hd_kd] at h; exact absurd h.1 (by simp [Ty.kd]))
  | fn x y ih1 ih2 =>
    intro b h
    cases b with
    | fn x' y' =>
      simp only [tu, U.tup.injEq, List.cons.injEq, and_true, true_and] at h
      rw [ih1 _ h.1, ih2 _ h.2]
    | _ => rw [tu_eq, tu_eq] at h; simp only [U.tup.injEq, List.cons.injEq, U.str.injEq, Ty.hd_kd] at h; exact absurd h.1 (by simp [Ty.kd])
  | pr x y ih1 ih2 =>
    intro b h
    cases b with
    | pr x' y' =>
      simp only [tu, U.tup.injEq, List.cons.injEq, and_true, true_and] at h
      rw [ih1 _ h.1, ih2 _ h.2]
    | _ => rw [tu_eq, tu_eq] at h; simp only [U.tup.injEq, List.cons.injEq, U.str.injEq, Ty.hd_kd] at h; exact absurd h.1 (by simp [Ty.kd])
  | bx x ih1 =>
    intro b h
    cases b with
    | bx x' =>
      simp only [tu, U.tup.injEq, List.cons.injEq, and_true, true_and] at h
      rw [ih1 _ h]
    | _ => rw [tu_eq, tu_eq] at h; simp only [U.tup.injEq, List.cons.injEq, U.str.injEq, Ty.hd_kd] at h; exact absurd h.1 (by simp [Ty.kd])
theorem st_tu : ∀ t : Ty, stU (tu t) = true
  | .any => rfl | .int => rfl | .bool => rfl | .unit => rfl
  | .fn a b => by simp [tu, stU, stUs, st_tu a, st_tu b]
  | .pr a b => by simp [tu, stU, stUs, st_tu a, st_tu b]
  | .bx a => by simp [tu, stU, stUs, st_tu a]
theorem pur_tu : ∀ t : Ty, purU (tu t) = true
  | .any => rfl | .int => rfl | .bool => rfl | .unit => rfl
  | .fn a b => by simp [tu, purU, purUs, pur_tu a, pur_tu b]
  | .pr a b => by simp [tu, purU, purUs, pur_tu a, pur_tu b]
  | .bx a => by simp [tu, purU, purUs, pur_tu a]
theorem lay_tu : ∀ t : Ty, (pdU (tu t)).canLay0 = true
  | .any => by decide +kernel
  | .int => by decide +kernel
  | .bool => by decide +kernel
  | .unit => by decide +kernel
  | .fn a b => by simp [tu, pdU, pdUs, PyData.canLay0, PyData.canLayAll0, lay_tu a, lay_tu b]; decide +kernel
  | .pr a b => by simp [tu, pdU, pdUs, PyData.canLay0, PyData.canLayAll0, lay_tu a, lay_tu b]; decide +kernel
  | .bx a => by simp [tu, pdU, pdUs, PyData.canLay0, PyData.canLayAll0, lay_tu a]; decide +kernel
theorem dep_tu : ∀ t : Ty, (pdU (tu t)).depth ≤ t.dep + 1
  | .any => by decide +kernel
  | .int => by decide +kernel
  | .bool => by decide +kernel
  | .unit => by decide +kernel
  | .fn a b => by
    have := dep_tu a
    have := dep_tu b
    simp only [tu, pdU, pdUs, PyData.depth, PyData.depthAll, Ty.dep]
    omega
  | .pr a b => by
    have := dep_tu a
    have := dep_tu b
    simp only [tu, pdU, pdUs, PyData.depth, PyData.depthAll, Ty.dep]
    omega
  | .bx a => by
    have := dep_tu a
    simp only [tu, pdU, pdUs, PyData.depth, PyData.depthAll, Ty.dep]
    omega
theorem ok_tu {t : Ty} (h : t.dep ≤ 20) : okU (tu t) = true := by
  have := dep_tu t
  unfold okU SeqAt.shaped
  rw [pur_tu, lay_tu, Bool.true_and, Bool.true_and]
  exact decide_eq_true (by omega)
theorem eqU_tu (a b : Ty) : eqU (tu a) (tu b) = decide (a = b) := by
  have h := eqU_st (tu a) (tu b) (st_tu a) (st_tu b)
  by_cases e : a = b
  · rw [e] at h ⊢
    rw [h.mpr rfl]
    simp
  · rw [decide_eq_false e]
    cases q : eqU (tu a) (tu b) with
    | false => rfl
    | true => exact absurd (tu_inj a b (h.mp q)) e
theorem eqR_tu {a b : Ty} (ha : a.dep ≤ 20) (hb : b.dep ≤ 20) : eqR (tu a) (tu b) S = some (decide (a = b)) := by
  have h1 := ok_tu ha
  have h2 := ok_tu hb
  have h3 := eqU_tu a b
  rw [tu_eq a, tu_eq b] at *
  rw [eqR_tup h1 h2, h3]
theorem c_eq {a b : Ty} (ha : a.dep ≤ 20) (hb : b.dep ≤ 20) : cmpU .eq (tu a) (tu b) S = .ok (.bl (decide (a = b))) S := by
  unfold cmpU cmpB
  rw [eqR_tu ha hb]
theorem c_ne {a b : Ty} (ha : a.dep ≤ 20) (hb : b.dep ≤ 20) : cmpU .ne (tu a) (tu b) S = .ok (.bl (!decide (a = b))) S := by
  unfold cmpU cmpB
  rw [eqR_tu ha hb]
  rfl
theorem tu_any : U.tup [.str "any"] = tu .any := rfl
theorem ix_hd (t : Ty) : ixU (tu t) (.int 0) S = .ok (.str t.hd) S := by cases t <;> rfl
theorem sl_pt (t : Ty) : slU (tu t) (some 1) none S = .ok (.tup (t.pt.map tu)) S := by cases t <;> rfl
theorem len_tu (t : Ty) : bfU .len [tu t] S = .ok (.int ((1 + t.pt.length : Nat) : Int)) S := by cases t <;> rfl
theorem ix_pt (t : Ty) {k : Nat} {p : Ty} (h : t.pt[k]? = some p) : ixU (tu t) (.int (1 + (k : Nat))) S = .ok (tu p) S := by
  rw [tu_eq, Oz.ix_tup]
  have e : atI (U.str t.hd :: t.pt.map tu) (1 + (k : Int)) = some (tu p) := by
    have := atI_nat_own (xs := U.str t.hd :: t.pt.map tu) (n := k + 1) (u := tu p) (by rw [List.getElem?_cons_succ, List.getElem?_map, h]; rfl)
    rw [show ((k + 1 : Nat) : Int) = 1 + (k : Int) by omega] at this
    exact this
  rw [e]
theorem szle {n : Nat} (h : n ≤ 1000) : n ≤ sizeLine := Nat.le_trans h (by decide)
end Pr

end

section
set_option maxHeartbeats 4000000
namespace Oz
open PySem L2
section
variable {S : Sto} {i j : Int}
theorem mod_int (h : 0 < j) : binU .mod (.int i) (.int j) S = .ok (.int (i % j)) S := if_pos h
theorem mul_int (h : CMul i j) : binU .mul (.int i) (.int j) S = .ok (.int (i * j)) S := if_pos h
theorem fdiv_int (h : CDiv i j) : binU .fdiv (.int i) (.int j) S = .ok (.int (i / j)) S := if_pos h
theorem int_int : bfU .int [.int i] S = .ok (.int i) S := rfl
theorem mul_r (h1 : -(2 ^ 64) < j) (h2 : j < 2 ^ 64) : CMul i j := .inr ⟨h1, h2⟩
end
end Oz
namespace Pr
open PySem L2 Oz
variable {S S' : Sto} {d : Nat}
theorem sz2 : (2 ≤ sizeLine) = True := by decide
theorem sz3 : (3 ≤ sizeLine) = True := by decide
theorem sz5 : (5 ≤ sizeLine) = True := by decide
theorem sz1 : (1 ≤ sizeLine) = True := by decide
/-! ### the law's own numbers -/
theorem takes_eq {st cl : Nat} {most : Int} (hs : HasSt S st cl) (h0 : 0 < most) (h1 : most < 1000000) : ∃ v S', (pg.cal (d + 1)).call "_law_take" [.loc st, .int most] S = .ok (.int v) S' ∧ 0 ≤ v ∧ v < most ∧ HasSt S' st cl ∧ F2 S S' st cl := by
  obtain ⟨c, cs, h⟩ := hs
  rw [call_eq (df := ⟨2, 6, false, T__law_take⟩) (by kernel_rfl), run_eq (by rfl)]
  unfold T__law_take
  have hlen : (0 : Int) < ((cs.map U.int).length : Int) := by
    rw [List.length_map]
    have := List.length_pos_iff.mpr h.pos
    omega
  have hst : st < S.length := (List.getElem?_eq_some_iff.mp h.s).1
  have hcl : cl < S.length := (List.getElem?_eq_some_iff.mp h.t).1
  obtain ⟨a, ha⟩ : ∃ a : Nat, (a : Int) = c % ((cs.map U.int).length : Int) := ⟨(c % ((cs.map U.int).length : Int)).toNat, Int.toNat_of_nonneg (Int.emod_nonneg _ (by omega))⟩
  have hal : a < cs.length := by
    have q := Int.emod_lt_of_pos c hlen
    rw [← ha, List.length_map] at q
    omega
  have hat : atI (cs.map U.int) (a : Int) = some (.int cs[a]) := L2.atI_nat (by rw [List.getElem?_map, List.getElem?_eq_getElem hal]; rfl)
  have p0 : ∀ x y : U, atI [x, y] (0 : Int) = some x := fun _ _ => rfl
  have p1 : ∀ x y : U, atI [x, y] (1 : Int) = some y := fun _ _ => rfl
  have hcell : 0 ≤ cs[a] := h.nn _ (List.getElem_mem hal)
  simp_arith [ix_loc h.s, p0, p1, len_loc h.t, mod_int hlen, ← ha, ix_loc h.t, hat]
  by_cases hb : (1000000000000000000 : Int) ≤ cs[a]
  · have hi : setItemU (.loc cl) (.int a) (.int (cs[a] / most)) S = .ok () (S.set cl (.lst ((cs.set a (cs[a] / most)).map U.int))) := by
      unfold setItemU
      simp only [h.t]
      have hx : ixN (cs.map U.int).length (a : Int) = some a := by
        unfold ixN
        rw [if_pos (by omega), if_pos (by rw [List.length_map]; omega)]
        simp
      rw [hx, List.map_set]
    simp_arith [hb, decide_true, fdiv_int (show CDiv cs[a] most from ⟨h0, by omega⟩), hi, mod_int h0]
    refine ⟨_, _, rfl, Int.emod_nonneg _ (by omega), Int.emod_lt_of_pos _ h0, ⟨c, cs.set a (cs[a] / most), ?_, ?_, h.ne, ?_, ?_⟩, ⟨by simp, fun k hk h1 h2 => by rw [List.getElem?_set_ne (Ne.symm h2)]⟩⟩
    · rw [List.getElem?_set_ne (Ne.symm h.ne)]
      exact h.s
    · rw [List.getElem?_set_self hcl]
    · intro z
      have := congrArg List.length z
      simp at this
      exact h.pos this
    · intro x hx
      rcases List.mem_or_eq_of_mem_set hx with hx | hx
      · exact h.nn x hx
      · rw [hx]
        exact Int.ediv_nonneg hcell (by omega)
  · have hi : setItemU (.loc st) (.int 0) (.int (c + 1)) S = .ok () (S.set st (.lst [.int (c + 1), .loc cl])) := by
      unfold setItemU
      simp only [h.s]
      rfl
    have g1 : (S.set st (.lst [.int (c + 1), .loc cl]))[st]? = some (.lst [.int (c + 1), .loc cl]) := by rw [List.getElem?_set_self hst]
    simp_arith [hb, decide_false, ix_loc h.s, hi, ix_loc g1, p0, mul_int (mul_r (i := cs[a]) (j := 48271) (by decide) (by decide)), mul_int (mul_r (i := c + 1) (j := 69621) (by decide) (by decide)), int_int, mod_int (show (0 : Int) < 2147483647 by decide),
      mul_int (mul_r (i := (cs[a] * 48271 + (c + 1) * 69621) % 2147483647) (j := 16807) (by decide) (by decide)), mul_int (mul_r (i := c + 1) (j := 7919) (by decide) (by decide)), mod_int (show (0 : Int) < 1000000007 by decide),
      fdiv_int (show CDiv (((cs[a] * 48271 + (c + 1) * 69621) % 2147483647 * 16807 + (c + 1) * 7919) % 1000000007) 7 from ⟨by decide, by decide⟩), mod_int h0]
    refine ⟨_, _, rfl, Int.emod_nonneg _ (by omega), Int.emod_lt_of_pos _ h0, ⟨c + 1, cs, g1, ?_, h.ne, h.pos, h.nn⟩, ⟨by simp, fun k hk h1 h2 => by rw [List.getElem?_set_ne (Ne.symm h1)]⟩⟩
    rw [List.getElem?_set_ne h.ne]
    exact h.t
def absU (i : Int) : Int := if i < 0 then -i else i
theorem state_eq (ns : List Int) (hl : ns.length ≤ 63) : ∃ st cl S', (pg.cal (d + 1)).call "_law_state" [.loc 0] [.fro (ns.map U.int)] = .ok (.loc st) S' ∧ HasSt S' st cl := by
  rw [call_eq (df := ⟨1, 3, false, T__law_state⟩) (by kernel_rfl), run_eq (by rfl)]
  unfold T__law_state
  have hsl : slU (.loc 0) none (some 63) [.fro (ns.map U.int)] = .ok (.loc 1) [.fro (ns.map U.int), .lst (ns.map U.int)] := by
    have hc : cutA (ns.map U.int) none (some 63) = ns.map U.int := by
      unfold cutA
      have e1 : HT.sIx (ns.map U.int).length (ns.map U.int).length (some 63) = (ns.map U.int).length := by
        unfold HT.sIx
        dsimp only
        rw [if_neg (by decide), List.length_map]
        omega
      rw [e1, HT.sIx_none, Nat.sub_zero, List.drop_zero]
      exact List.take_length
    show R.ok (U.loc 1) ([Cel.fro (ns.map U.int)] ++ [Cel.lst (cutA (ns.map U.int) none (some 63))]) = _
    rw [hc]
    rfl
  simp_arith [hsl]
  have hit : iterU [.fro (ns.map U.int), .lst (ns.map U.int)] (.loc 1) = some (ns.map U.int, some 1) := rfl
  simp_arith [hit, wipeE]
  rw [lcI_all (g := fun u => match u with | .int i => .int (absU i) | u => u) (acc := []) (fun u hu => ?_) (fun x => ?_) rfl (by simp; exact Nat.le_trans hl (by decide))]
  · have hm : (ns.map U.int).map (fun u => match u with | .int i => U.int (absU i) | u => u) = (ns.map absU).map U.int := by
      simp only [List.map_map]
      rfl
    rw [hm]
    simp only [List.length_cons, List.length_nil, Nat.zero_add, Nat.reduceAdd, List.nil_append, List.set_cons_succ, List.set_cons_zero]
    have hln : bfU .len [.loc 2] [Cel.fro (ns.map U.int), Cel.lst (ns.map U.int), Cel.lst ((ns.map absU).map U.int)] = .ok (.int ((ns.map absU).map U.int).length) _ := len_loc (n := 2) rfl
    have hl0 : (((((ns.map absU).map U.int).length : Nat) : Int) = 0) = (ns = []) := by
      rw [List.length_map, List.length_map, eq_iff_iff]
      constructor
      · intro z
        exact List.length_eq_zero_iff.mp (by omega)
      · rintro rfl
        rfl
    have hpos : ∀ x ∈ ns.map absU, 0 ≤ x := fun x hx => by
      obtain ⟨i, _, rfl⟩ := List.mem_map.mp hx
      unfold absU
      split <;> omega
    simp_arith [hln, hl0]
    by_cases hn : ns = []
    · subst hn
      simp_arith [decide_true, sz1, sz2, List.length_cons, List.length_nil, Nat.zero_add, Nat.reduceAdd]
      exact ⟨4, 3, _, rfl, 0, [0], rfl, rfl, by decide, by decide, by decide⟩
    · simp_arith [hn, decide_false, sz1, sz2, List.length_cons, List.length_nil, Nat.zero_add, Nat.reduceAdd]
      exact ⟨3, 2, _, rfl, 0, ns.map absU, rfl, rfl, by decide, by simpa using hn, hpos⟩
  · obtain ⟨i, _, rfl⟩ := List.mem_map.mp hu
    exact ⟨_, rfl, fun S => ⟨rfl, rfl⟩⟩
  · unfold stays
    exact isLst_lst (us := ns.map U.int) rfl
end Pr

end

section
set_option maxHeartbeats 4000000
namespace Pr
open PySem L2 Oz
variable {S S' : Sto} {d : Nat}
/-! ### grounds -/
inductive Gd where
  | int | bool | unit | fn | pr | bx
  deriving DecidableEq
def Gd.nm : Gd → Str
  | int => "int" | bool => "bool" | unit => "unit" | fn => "fun" | pr => "pair" | bx => "box"
def Ty.gd : Ty → Gd
  | any => .int | int => .int | bool => .bool | unit => .unit | fn _ _ => .fn | pr _ _ => .pr | bx _ => .bx
def gty : Gd → Ty
  | .int => .int | .bool => .bool | .unit => .unit | .fn => .fn .any .any | .pr => .pr .any .any | .bx => .bx .any
theorem hd_gd {t : Ty} (h : t ≠ .any) : t.hd = t.gd.nm := by cases t <;> first | rfl | exact absurd rfl h
theorem gd_gty (g : Gd) : (gty g).gd = g := by cases g <;> rfl
theorem gty_ne (g : Gd) : gty g ≠ .any := by cases g <;> intro h <;> cases h
theorem nm_inj {a b : Gd} : (a.nm = b.nm) = (a = b) := by
  cases a <;> cases b <;> simp [Gd.nm, ofS_inj]
theorem nm_any (a : Gd) : (a.nm = ("any" : Str)) = False := by cases a <;> simp [Gd.nm, ofS_inj]
theorem dep_gty (g : Gd) : (gty g).dep ≤ 2 := by cases g <;> decide
/-! ### labels, checks -/
abbrev Lb := Int × Int
def lu (l : Lb) : U := .tup [.int l.1, .int l.2]
def tn (l : Lb) : Lb := (l.1, 1 - l.2)
inductive Ck where
  | any | same (g : Gd) | fn (s t : Ck) | pr (s t : Ck) | bx (s t : Ck) | give (c : Ck) | fail (g : Gd) (l : Lb) (h : Gd) | take (g : Gd) (l : Lb) (c : Ck)
  deriving DecidableEq
def cu : Ck → U
  | .any => .tup [.str "any"] | .same g => .tup [.str "same", .str g.nm] | .fn s t => .tup [.str "fun", cu s, cu t] | .pr s t => .tup [.str "pair", cu s, cu t] | .bx s t => .tup [.str "box", cu s, cu t]
  | .give c => .tup [.str "give", cu c] | .fail g l h => .tup [.str "fail", .str g.nm, lu l, .str h.nm] | .take g l c => .tup [.str "take", .str g.nm, lu l, cu c]
namespace Ck
/-- tuples in one another -/
def dp : Ck → Nat
  | any => 1 | same _ => 1 | fn s t => 1 + max s.dp t.dp | pr s t => 1 + max s.dp t.dp | bx s t => 1 + max s.dp t.dp | give c => 1 + c.dp | fail _ _ _ => 2 | take _ _ c => 1 + max 2 c.dp
def sz : Ck → Nat
  | any => 1 | same _ => 1 | fn s t => 1 + (s.sz + t.sz) | pr s t => 1 + (s.sz + t.sz) | bx s t => 1 + (s.sz + t.sz) | give c => 1 + c.sz | fail _ _ _ => 1 | take _ _ c => 1 + c.sz
def ht : Ck → Nat
  | any => 1 | same _ => 1 | fn s t => 1 + max s.ht t.ht | pr s t => 1 + max s.ht t.ht | bx s t => 1 + max s.ht t.ht | give c => c.ht | fail _ _ _ => 1 | take _ _ c => c.ht
def pl : Ck → Bool
  | same _ => true | fn _ _ => true | pr _ _ => true | bx _ _ => true | _ => false
/-- the ground of its values -/
def sg : Ck → Gd
  | any => .int | same g => g | fn _ _ => .fn | pr _ _ => .pr | bx _ _ => .bx | give c => c.sg | fail g _ _ => g | take g _ _ => g
def hd : Ck → Str
  | any => "any" | same _ => "same" | fn _ _ => "fun" | pr _ _ => "pair" | bx _ _ => "box" | give _ => "give" | fail _ _ _ => "fail" | take _ _ _ => "take"
theorem dp_pos (c : Ck) : 1 ≤ c.dp := by cases c <;> simp [dp] <;> omega
theorem ht_pos : ∀ c : Ck, 1 ≤ c.ht
  | any => by simp [ht] | same _ => by simp [ht] | fn _ _ => by simp [ht] <;> omega | pr _ _ => by simp [ht] <;> omega | bx _ _ => by simp [ht] <;> omega
  | give c => by simp only [ht]; exact ht_pos c
  | fail _ _ _ => by simp [ht]
  | take _ _ c => by simp only [ht]; exact ht_pos c
theorem sz_pos (c : Ck) : 1 ≤ c.sz := by cases c <;> simp [sz] <;> omega
end Ck
theorem lu_inj {a b : Lb} (h : lu a = lu b) : a = b := by
  simp only [lu, U.tup.injEq, List.cons.injEq, U.int.injEq, and_true] at h
  exact Prod.ext h.1 h.2
theorem cu_inj : ∀ {a b : Ck}, cu a = cu b → a = b
  | .any, b, h => by cases b <;> simp_all [cu, ofS_inj]
  | .same g, b, h => by cases b <;> simp_all [cu, ofS_inj, nm_inj]
  | .fn s t, b, h => by
    cases b <;> simp [cu, ofS_inj] at h
    rw [cu_inj h.1, cu_inj h.2]
  | .pr s t, b, h => by
    cases b <;> simp [cu, ofS_inj] at h
    rw [cu_inj h.1, cu_inj h.2]
  | .bx s t, b, h => by
    cases b <;> simp [cu, ofS_inj] at h
    rw [cu_inj h.1, cu_inj h.2]
  | .give c, b, h => by
    cases b <;> simp [cu, ofS_inj] at h
    rw [cu_inj h]
  | .fail g l k, b, h => by
    cases b <;> simp [cu, ofS_inj, nm_inj] at h
    rw [h.1, lu_inj h.2.1, h.2.2]
  | .take g l c, b, h => by
    cases b <;> simp [cu, ofS_inj, nm_inj] at h
    rw [h.1, lu_inj h.2.1, cu_inj h.2.2]
theorem si_lu (l : Lb) : siU (lu l) = true := rfl
theorem si_cu : ∀ c : Ck, siU (cu c) = true
  | .any => rfl | .same _ => rfl | .fail _ l _ => rfl
  | .fn s t => by simp [cu, siU, siUs, si_cu s, si_cu t]
  | .pr s t => by simp [cu, siU, siUs, si_cu s, si_cu t]
  | .bx s t => by simp [cu, siU, siUs, si_cu s, si_cu t]
  | .give c => by simp [cu, siU, siUs, si_cu c]
  | .take _ l c => by simp [cu, siU, siUs, si_cu c, si_lu l]
theorem pur_cu : ∀ c : Ck, purU (cu c) = true
  | .any => rfl | .same _ => rfl | .fail _ l _ => rfl
  | .fn s t => by simp [cu, purU, purUs, pur_cu s, pur_cu t]
  | .pr s t => by simp [cu, purU, purUs, pur_cu s, pur_cu t]
  | .bx s t => by simp [cu, purU, purUs, pur_cu s, pur_cu t]
  | .give c => by simp [cu, purU, purUs, pur_cu c]
  | .take _ l c => by simp [cu, lu, purU, purUs, pur_cu c]
theorem lay_nm (g : Gd) : (pdU (.str g.nm)).canLay0 = true := by cases g <;> decide +kernel
theorem lay_lu (l : Lb) : (pdU (lu l)).canLay0 = true := by simp [lu, pdU, pdUs, PyData.canLay0, PyData.canLayAll0]
theorem lay_cu : ∀ c : Ck, (pdU (cu c)).canLay0 = true
  | .any => by decide +kernel
  | .same g => by cases g <;> decide +kernel
  | .fail g l h => by
    have h1 := lay_nm g; have h2 := lay_nm h; have h3 := lay_lu l
    simp only [cu, pdU, pdUs, PyData.canLay0, PyData.canLayAll0, Bool.and_true, Bool.and_eq_true] at *
    exact ⟨by decide +kernel, h1, h3, h2⟩
  | .fn s t => by simp [cu, pdU, pdUs, PyData.canLay0, PyData.canLayAll0, lay_cu s, lay_cu t]; decide +kernel
  | .pr s t => by simp [cu, pdU, pdUs, PyData.canLay0, PyData.canLayAll0, lay_cu s, lay_cu t]; decide +kernel
  | .bx s t => by simp [cu, pdU, pdUs, PyData.canLay0, PyData.canLayAll0, lay_cu s, lay_cu t]; decide +kernel
  | .give c => by simp [cu, pdU, pdUs, PyData.canLay0, PyData.canLayAll0, lay_cu c]; decide +kernel
  | .take g l c => by
    have h1 := lay_nm g; have h3 := lay_lu l; have h4 := lay_cu c
    simp only [cu, pdU, pdUs, PyData.canLay0, PyData.canLayAll0, Bool.and_true, Bool.and_eq_true] at *
    exact ⟨by decide +kernel, h1, h3, h4⟩
theorem dep_cu : ∀ c : Ck, (pdU (cu c)).depth ≤ c.dp + 1
  | .any => by decide +kernel
  | .same g => by cases g <;> decide +kernel
  | .fail g l h => by simp [cu, lu, pdU, pdUs, PyData.depth, PyData.depthAll, Ck.dp]
  | .fn s t => by
    have := dep_cu s
    have := dep_cu t
    simp only [cu, pdU, pdUs, PyData.depth, PyData.depthAll, Ck.dp]
    omega
  | .pr s t => by
    have := dep_cu s
    have := dep_cu t
    simp only [cu, pdU, pdUs, PyData.depth, PyData.depthAll, Ck.dp]
    omega
  | .bx s t => by
    have := dep_cu s
    have := dep_cu t
    simp only [cu, pdU, pdUs, PyData.depth, PyData.depthAll, Ck.dp]
    omega
  | .give c => by
    have := dep_cu c
    simp only [cu, pdU, pdUs, PyData.depth, PyData.depthAll, Ck.dp]
    omega
  | .take g l c => by
    have := dep_cu c
    simp only [cu, lu, pdU, pdUs, PyData.depth, PyData.depthAll, Ck.dp]
    omega
theorem ok_cu {c : Ck} (h : c.dp ≤ 50) : okU (cu c) = true := by
  have := dep_cu c
  unfold okU SeqAt.shaped
  rw [pur_cu, lay_cu, Bool.true_and, Bool.true_and]
  exact decide_eq_true (by omega)
theorem eqU_cu (a b : Ck) : eqU (cu a) (cu b) = decide (a = b) := by
  have h := eqU_si (cu a) (cu b) (si_cu a) (si_cu b)
  by_cases e : a = b
  · rw [e] at h ⊢
    rw [h.mpr rfl]
    simp
  · rw [decide_eq_false e]
    cases q : eqU (cu a) (cu b) with
    | false => rfl
    | true => exact absurd (cu_inj (h.mp q)) e
theorem cu_tup (c : Ck) : ∃ us, cu c = .tup us := by cases c <;> exact ⟨_, rfl⟩
theorem eqR_cu {a b : Ck} (ha : a.dp ≤ 50) (hb : b.dp ≤ 50) : eqR (cu a) (cu b) S = some (decide (a = b)) := by
  have h1 := ok_cu ha
  have h2 := ok_cu hb
  have h3 := eqU_cu a b
  obtain ⟨xs, ex⟩ := cu_tup a
  obtain ⟨ys, ey⟩ := cu_tup b
  rw [ex] at h1 h3 ⊢
  rw [ey] at h2 h3 ⊢
  rw [eqR_tup h1 h2, h3]
theorem cc_eq {a b : Ck} (ha : a.dp ≤ 50) (hb : b.dp ≤ 50) : cmpU .eq (cu a) (cu b) S = .ok (.bl (decide (a = b))) S := by
  unfold cmpU cmpB
  rw [eqR_cu ha hb]
theorem cc_ne {a b : Ck} (ha : a.dp ≤ 50) (hb : b.dp ≤ 50) : cmpU .ne (cu a) (cu b) S = .ok (.bl (!decide (a = b))) S := by
  unfold cmpU cmpB
  rw [eqR_cu ha hb]
  rfl
theorem ixc_hd (c : Ck) : ixU (cu c) (.int 0) S = .ok (.str c.hd) S := by cases c <;> rfl
end Pr

end

section
set_option maxHeartbeats 4000000
namespace Pr
open PySem L2 Oz
/-! ### joining -/
def jn : Ck → Ck → Ck
  | .any, b => b
  | .fail g l h, _ => .fail g l h
  | .take g l c, b => .take g l (jn c b)
  | .give c, .any => .give c
  | .give c, .take g l i => if c.sg = g then jn c i else .fail c.sg l g
  | .give c, _ => .give c
  | a, .fail g l h => .fail g l h
  | a, .give c => .give (jn a c)
  | .same g, _ => .same g
  | .pr s t, .pr s' t' => .pr (jn s s') (jn t t')
  | .fn s t, .fn s' t' => .fn (jn s' s) (jn t t')
  | .bx s t, .bx s' t' => .bx (jn s' s) (jn t t')
  | a, _ => a
termination_by a b => a.sz + b.sz
decreasing_by all_goals (simp only [Ck.sz]; omega)
theorem jn_ht : ∀ (n : Nat) (a b : Ck), a.sz + b.sz ≤ n → (jn a b).ht ≤ max a.ht b.ht
  | 0, a, b, h => absurd a.sz_pos (by omega)
  | n + 1, a, b, h => by
    have pa := a.ht_pos
    have pb := b.ht_pos
    cases a with
    | any => rw [jn]; omega
    | fail g l k => rw [jn]; omega
    | take g l c =>
      have := jn_ht n c b (by simp only [Ck.sz] at h; omega)
      rw [jn]
      simp only [Ck.ht] at *
      omega
    | give c =>
      cases b with
      | take g l i =>
        have := jn_ht n c i (by simp only [Ck.sz] at h; omega)
        rw [jn]
        split
        · simp only [Ck.ht] at *
          omega
        · simp only [Ck.ht] at *
          omega
      | _ => rw [jn] <;> first | omega | simp
    | same g =>
      cases b with
      | give c =>
        have := jn_ht n (.same g) c (by simp only [Ck.sz] at h ⊢; omega)
        rw [jn]
        · simp only [Ck.ht] at *; omega
        all_goals simp
      | _ => rw [jn] <;> first | omega | simp
    | pr s t =>
      cases b with
      | give c =>
        have := jn_ht n (.pr s t) c (by simp only [Ck.sz] at h ⊢; omega)
        rw [jn]
        · simp only [Ck.ht] at *; omega
        all_goals simp
      | pr s' t' =>
        have h1 := jn_ht n s s' (by simp only [Ck.sz] at h; omega)
        have h2 := jn_ht n t t' (by simp only [Ck.sz] at h; omega)
        rw [jn]
        simp only [Ck.ht] at *
        omega
      | _ => rw [jn] <;> first | omega | simp
    | fn s t =>
      cases b with
      | give c =>
        have := jn_ht n (.fn s t) c (by simp only [Ck.sz] at h ⊢; omega)
        rw [jn]
        · simp only [Ck.ht] at *; omega
        all_goals simp
      | fn s' t' =>
        have h1 := jn_ht n s' s (by simp only [Ck.sz] at h; omega)
        have h2 := jn_ht n t t' (by simp only [Ck.sz] at h; omega)
        rw [jn]
        simp only [Ck.ht] at *
        omega
      | _ => rw [jn] <;> first | omega | simp
    | bx s t =>
      cases b with
      | give c =>
        have := jn_ht n (.bx s t) c (by simp only [Ck.sz] at h ⊢; omega)
        rw [jn]
        · simp only [Ck.ht] at *; omega
        all_goals simp
      | bx s' t' =>
        have h1 := jn_ht n s' s (by simp only [Ck.sz] at h; omega)
        have h2 := jn_ht n t t' (by simp only [Ck.sz] at h; omega)
        rw [jn]
        simp only [Ck.ht] at *
        omega
      | _ => rw [jn] <;> first | omega | simp
/-! ### from a type to a type -/
inductive Tk : Ck → Ty → Ty → Prop
  | any : Tk .any .any .any
  | same {g : Gd} : g = .int ∨ g = .bool ∨ g = .unit → Tk (.same g) (gty g) (gty g)
  | fn {s t : Ck} {a b c e : Ty} : Tk s c a → Tk t b e → Tk (.fn s t) (.fn a b) (.fn c e)
  | pr {s t : Ck} {a b c e : Ty} : Tk s a c → Tk t b e → Tk (.pr s t) (.pr a b) (.pr c e)
  | bx {s t : Ck} {a c : Ty} : Tk s c a → Tk t a c → Tk (.bx s t) (.bx a) (.bx c)
  | give {c : Ck} {a : Ty} : a ≠ .any → c.pl = true → Tk c a (gty a.gd) → Tk (.give c) a .any
  | fail {a b : Ty} {l : Lb} {h : Gd} : a ≠ .any → h ≠ a.gd → Tk (.fail a.gd l h) a b
  | take {g : Gd} {l : Lb} {c : Ck} {b : Ty} : Tk c (gty g) b → Tk (.take g l c) .any b
theorem Tk.src {c : Ck} {a b : Ty} (h : Tk c a b) (ha : a ≠ .any) : c.sg = a.gd ∧ c ≠ .any ∧ ∀ g l i, c ≠ .take g l i := by
  induction h with
  | any => exact absurd rfl ha
  | same hg => exact ⟨(gd_gty _).symm, by simp, by simp⟩
  | fn _ _ => exact ⟨rfl, by simp, by simp⟩
  | pr _ _ => exact ⟨rfl, by simp, by simp⟩
  | bx _ _ => exact ⟨rfl, by simp, by simp⟩
  | give h1 _ _ ih => exact ⟨(ih h1).1, by simp, by simp⟩
  | fail _ _ => exact ⟨rfl, by simp, by simp⟩
  | take _ _ => exact absurd rfl ha
/-- a check of values of any kind -/
theorem Tk.of_any {c : Ck} {b : Ty} (h : Tk c .any b) : (c = .any ∧ b = .any) ∨ ∃ g l i, c = .take g l i ∧ Tk i (gty g) b := by
  generalize ha : Ty.any = a at h
  cases h with
  | any => exact .inl ⟨rfl, rfl⟩
  | @same g hg => exact absurd ha.symm (gty_ne g)
  | fn _ _ => cases ha
  | pr _ _ => cases ha
  | bx _ _ => cases ha
  | give h1 _ _ => exact absurd ha.symm h1
  | fail h1 _ => exact absurd ha.symm h1
  | @take g l i b h => exact .inr ⟨g, l, i, rfl, h⟩
/-- a plain check: both types are of one kind -/
theorem Tk.plain {c : Ck} {a b : Ty} (h : Tk c a b) (hp : c.pl = true) : a ≠ .any ∧ b ≠ .any ∧ a.gd = b.gd := by
  cases h with
  | any => cases hp
  | @same g hg => exact ⟨gty_ne g, gty_ne g, rfl⟩
  | fn _ _ => exact ⟨by simp, by simp, rfl⟩
  | pr _ _ => exact ⟨by simp, by simp, rfl⟩
  | bx _ _ => exact ⟨by simp, by simp, rfl⟩
  | give _ _ _ => cases hp
  | fail _ _ => cases hp
  | take _ => cases hp
/-- behind a plain check -/
theorem Tk.next {c : Ck} {a b : Ty} (h : Tk c a b) (ha : a ≠ .any) : c.pl = true ∨ (∃ i, c = .give i ∧ b = .any ∧ i.pl = true ∧ Tk i a (gty a.gd)) ∨ ∃ l k, c = .fail a.gd l k ∧ k ≠ a.gd := by
  cases h with
  | any => exact absurd rfl ha
  | same _ => exact .inl rfl
  | fn _ _ => exact .inl rfl
  | pr _ _ => exact .inl rfl
  | bx _ _ => exact .inl rfl
  | give h1 h2 h3 => exact .inr (.inl ⟨_, rfl, rfl, h2, h3⟩)
  | @fail a b l k h1 h2 => exact .inr (.inr ⟨l, k, rfl, h2⟩)
  | take _ => exact absurd rfl ha
theorem jn_fail {c : Ck} {g : Gd} {l : Lb} {h : Gd} (hp : c.pl = true) : jn c (.fail g l h) = .fail g l h := by
  cases c <;> first | exact absurd (show false = true from hp) Bool.false_ne_true | (rw [jn] <;> simp)
theorem jn_give {c i : Ck} (hp : c.pl = true) : jn c (.give i) = .give (jn c i) := by
  cases c <;> first | exact absurd (show false = true from hp) Bool.false_ne_true | (rw [jn] <;> simp)
theorem pl_kinds {c i : Ck} {a b e : Ty} (h : Tk c a b) (h' : Tk i b e) (hp : c.pl = true) (hq : i.pl = true) : (∃ g, c = .same g ∧ i = .same g ∧ a = e ∧ jn c i = .same g) ∨
    (∃ s t s' t', c = .pr s t ∧ i = .pr s' t' ∧ jn c i = .pr (jn s s') (jn t t') ∧ ∃ a1 a2 b1 b2 e1 e2, a = .pr a1 a2 ∧ b = .pr b1 b2 ∧ e = .pr e1 e2 ∧ Tk s a1 b1 ∧ Tk t a2 b2 ∧ Tk s' b1 e1 ∧ Tk t' b2 e2) ∨
    (∃ s t s' t', c = .fn s t ∧ i = .fn s' t' ∧ jn c i = .fn (jn s' s) (jn t t') ∧ ∃ a1 a2 b1 b2 e1 e2, a = .fn a1 a2 ∧ b = .fn b1 b2 ∧ e = .fn e1 e2 ∧ Tk s b1 a1 ∧ Tk t a2 b2 ∧ Tk s' e1 b1 ∧ Tk t' b2 e2) ∨
    ∃ s t s' t', c = .bx s t ∧ i = .bx s' t' ∧ jn c i = .bx (jn s' s) (jn t t') ∧ ∃ a1 b1 e1, a = .bx a1 ∧ b = .bx b1 ∧ e = .bx e1 ∧ Tk s b1 a1 ∧ Tk t a1 b1 ∧ Tk s' e1 b1 ∧ Tk t' b1 e1 := by
  cases h with
  | any => cases hp
  | @same g hg =>
    left
    have e1 : jn (.same g) i = .same g := by cases i <;> first | exact absurd (show false = true from hq) Bool.false_ne_true | (rw [jn] <;> simp)
    generalize hb : gty g = b at h'
    cases h' with
    | any => cases hq
    | @same g' hg' =>
      have : g = g' := by rw [← gd_gty g, hb, gd_gty]
      subst this
      exact ⟨g, rfl, rfl, rfl, e1⟩
    | fn _ _ => cases g <;> simp [gty] at hb hg
    | pr _ _ => cases g <;> simp [gty] at hb hg
    | bx _ _ => cases g <;> simp [gty] at hb hg
    | give _ _ _ => cases hq
    | fail _ _ => cases hq
    | take _ => cases hq
  | @fn s t a1 a2 b1 b2 h1 h2 =>
    right; right; left
    generalize hb : Ty.fn b1 b2 = b at h'
    cases h' with
    | any => cases hq
    | @same g' hg' => cases g' <;> simp [gty] at hb hg'
    | @fn s' t' _ _ e1 e2 h3 h4 =>
      cases hb
      exact ⟨s, t, s', t', rfl, rfl, by rw [jn], _, _, _, _, _, _, rfl, rfl, rfl, h1, h2, h3, h4⟩
    | pr _ _ => cases hb
    | bx _ _ => cases hb
    | give _ _ _ => cases hq
    | fail _ _ => cases hq
    | take _ => cases hq
  | @pr s t a1 a2 b1 b2 h1 h2 =>
    right; left
    generalize hb : Ty.pr b1 b2 = b at h'
    cases h' with
    | any => cases hq
    | @same g' hg' => cases g' <;> simp [gty] at hb hg'
    | @pr s' t' _ _ e1 e2 h3 h4 =>
      cases hb
      exact ⟨s, t, s', t', rfl, rfl, by rw [jn], _, _, _, _, _, _, rfl, rfl, rfl, h1, h2, h3, h4⟩
    | fn _ _ => cases hb
    | bx _ _ => cases hb
    | give _ _ _ => cases hq
    | fail _ _ => cases hq
    | take _ => cases hq
  | @bx s t a1 b1 h1 h2 =>
    right; right; right
    generalize hb : Ty.bx b1 = b at h'
    cases h' with
    | any => cases hq
    | @same g' hg' => cases g' <;> simp [gty] at hb hg'
    | @bx s' t' _ e1 h3 h4 =>
      cases hb
      exact ⟨s, t, s', t', rfl, rfl, by rw [jn], _, _, _, rfl, rfl, rfl, h1, h2, h3, h4⟩
    | fn _ _ => cases hb
    | pr _ _ => cases hb
    | give _ _ _ => cases hq
    | fail _ _ => cases hq
    | take _ => cases hq
  | give _ _ _ => cases hp
  | fail _ _ => cases hp
  | take _ => cases hp
theorem jn_pl {c i : Ck} {a b e : Ty} (h : Tk c a b) (h' : Tk i b e) (hp : c.pl = true) (hq : i.pl = true) : (jn c i).pl = true := by
  rcases pl_kinds h h' hp hq with ⟨g, _, _, _, e⟩ | ⟨s, t, s', t', _, _, e, _⟩ | ⟨s, t, s', t', _, _, e, _⟩ | ⟨s, t, s', t', _, _, e, _⟩ <;> rw [e] <;> rfl
theorem jn_tk : ∀ (n : Nat) {s t : Ck} {a b c : Ty}, s.sz + t.sz ≤ n → Tk s a b → Tk t b c → Tk (jn s t) a c
  | 0, s, t, a, b, c, h, _, _ => absurd s.sz_pos (by omega)
  | n + 1, s, t, a, b, c, h, hs, ht => by
    by_cases ha : a = .any
    · subst ha
      rcases hs.of_any with ⟨rfl, rfl⟩ | ⟨g, l, i, rfl, hi⟩
      · rw [jn]; exact ht
      · rw [jn]
        exact .take (jn_tk n (by simp only [Ck.sz] at h; omega) hi ht)
    · rcases hs.next ha with hp | ⟨i, rfl, rfl, hip, hi⟩ | ⟨l, k, rfl, hk⟩
      · obtain ⟨_, hb, hab⟩ := hs.plain hp
        rcases ht.next hb with hq | ⟨j, rfl, rfl, hjp, hj⟩ | ⟨l, k, rfl, hk⟩
        · rcases pl_kinds hs ht hp hq with ⟨g, rfl, rfl, rfl, e⟩ | ⟨s1, t1, s2, t2, rfl, rfl, e, a1, a2, b1, b2, e1, e2, rfl, rfl, rfl, h1, h2, h3, h4⟩ | ⟨s1, t1, s2, t2, rfl, rfl, e, a1, a2, b1, b2, e1, e2, rfl, rfl, rfl, h1, h2, h3, h4⟩ | ⟨s1, t1, s2, t2, rfl, rfl, e, a1, b1, e1, rfl, rfl, rfl, h1, h2, h3, h4⟩
          · rw [e]
            cases hs with
            | same hg => 
              cases ht with
              | same _ => exact .same hg
          · rw [e]
            exact .pr (jn_tk n (by simp only [Ck.sz] at h; omega) h1 h3) (jn_tk n (by simp only [Ck.sz] at h; omega) h2 h4)
          · rw [e]
            exact .fn (jn_tk n (by simp only [Ck.sz] at h; omega) h3 h1) (jn_tk n (by simp only [Ck.sz] at h; omega) h2 h4)
          · rw [e]
            exact .bx (jn_tk n (by simp only [Ck.sz] at h; omega) h3 h1) (jn_tk n (by simp only [Ck.sz] at h; omega) h2 h4)
        · rw [jn_give hp]
          have := jn_tk n (s := s) (t := j) (by simp only [Ck.sz] at h; omega) hs hj
          rw [← hab] at this
          exact .give ha (jn_pl hs hj hp hjp) this
        · rw [jn_fail hp, ← hab]
          exact .fail ha (by rw [hab]; exact hk)
      · rcases ht.of_any with ⟨rfl, rfl⟩ | ⟨g, l, j, rfl, hj⟩
        · rw [jn]
          exact .give ha hip hi
        · rw [jn, (hi.src ha).1]
          by_cases hg : a.gd = g
          · rw [if_pos hg]
            rw [← hg] at hj
            exact jn_tk n (by simp only [Ck.sz] at h; omega) hi hj
          · rw [if_neg hg]
            exact .fail ha (Ne.symm hg)
      · rw [jn]
        exact .fail ha hk
/-! ### the first blame -/
def fb : Ck → Gd → Option Lb
  | .fail _ l _, _ => some l
  | .take g l c, g0 => if g = g0 then fb c g0 else some l
  | _, _ => none
theorem fb_pl {c : Ck} {g0 : Gd} (h : c.pl = true) : fb c g0 = none := by cases c <;> first | rfl | cases h
theorem fb_jn : ∀ (n : Nat) {s t : Ck} {a b c : Ty} {g0 : Gd}, s.sz + t.sz ≤ n → Tk s a b → Tk t b c → (a ≠ .any → g0 = a.gd) → fb (jn s t) g0 = (fb s g0).or (fb t g0)
  | 0, s, t, a, b, c, g0, h, _, _, _ => absurd s.sz_pos (by omega)
  | n + 1, s, t, a, b, c, g0, h, hs, ht, hg0 => by
    by_cases ha : a = .any
    · subst ha
      rcases hs.of_any with ⟨rfl, rfl⟩ | ⟨g, l, i, rfl, hi⟩
      · rw [jn]; rfl
      · rw [jn]
        simp only [fb]
        by_cases hg : g = g0
        · rw [if_pos hg, if_pos hg]
          exact fb_jn n (by simp only [Ck.sz] at h; omega) hi ht fun _ => by rw [gd_gty, hg]
        · rw [if_neg hg, if_neg hg]; rfl
    · have hg := hg0 ha
      rcases hs.next ha with hp | ⟨i, rfl, rfl, hip, hi⟩ | ⟨l, k, rfl, hk⟩
      · obtain ⟨_, hb, hab⟩ := hs.plain hp
        rw [fb_pl hp]
        rcases ht.next hb with hq | ⟨j, rfl, rfl, hjp, hj⟩ | ⟨l, k, rfl, hk⟩
        · rw [fb_pl (jn_pl hs ht hp hq), fb_pl hq]; rfl
        · rw [jn_give hp]; rfl
        · rw [jn_fail hp]; rfl
      · rcases ht.of_any with ⟨rfl, rfl⟩ | ⟨g, l, j, rfl, hj⟩
        · rw [jn]; rfl
        · rw [jn, (hi.src ha).1]
          by_cases hgg : a.gd = g
          · rw [if_pos hgg]
            have hj' : Tk j (gty a.gd) c := by rw [hgg]; exact hj
            rw [fb_jn n (by simp only [Ck.sz] at h; omega) hi hj' hg0, fb_pl hip]
            show fb j g0 = fb (.take g l j) g0
            simp only [fb]
            rw [if_pos (by rw [hg, hgg])]
          · rw [if_neg hgg]
            show some l = fb (.take g l j) g0
            simp only [fb]
            rw [if_neg (by rw [hg]; exact Ne.symm hgg)]
      · rw [jn]; rfl
end Pr

end

section
set_option maxHeartbeats 4000000
namespace Pr
open PySem L2 Oz
variable {S S' : Sto} {d : Nat}
/-! ### the check of a cast -/
mutual
def chkT : Ty → Lb → Ck
  | .any, _ => .any
  | .int, l => .take .int l (.same .int)
  | .bool, l => .take .bool l (.same .bool)
  | .unit, l => .take .unit l (.same .unit)
  | .fn a b, l => .take .fn l (.fn (chkF a (tn l)) (chkT b l))
  | .pr a b, l => .take .pr l (.pr (chkT a l) (chkT b l))
  | .bx a, l => .take .bx l (.bx (chkF a (tn l)) (chkT a l))
def chkF : Ty → Lb → Ck
  | .any, _ => .any
  | .int, _ => .give (.same .int)
  | .bool, _ => .give (.same .bool)
  | .unit, _ => .give (.same .unit)
  | .fn a b, l => .give (.fn (chkT a (tn l)) (chkF b l))
  | .pr a b, l => .give (.pr (chkF a l) (chkF b l))
  | .bx a, l => .give (.bx (chkT a (tn l)) (chkF a l))
end
def chk : Ty → Ty → Lb → Ck
  | .any, b, l => chkT b l
  | a, .any, l => chkF a l
  | .int, .int, _ => .same .int
  | .bool, .bool, _ => .same .bool
  | .unit, .unit, _ => .same .unit
  | .fn a b, .fn c e, l => .fn (chk c a (tn l)) (chk b e l)
  | .pr a b, .pr c e, l => .pr (chk a c l) (chk b e l)
  | .bx a, .bx c, l => .bx (chk c a (tn l)) (chk a c l)
  | _, _, _ => .any
termination_by a b => sizeOf a + sizeOf b
decreasing_by all_goals (simp only [Ty.fn.sizeOf_spec, Ty.pr.sizeOf_spec, Ty.bx.sizeOf_spec]; omega)
theorem chk_any (a : Ty) (l : Lb) : chk a .any l = chkF a l := by cases a <;> first | (rw [chk] <;> simp) | (rw [chk]; rfl)
theorem any_chk (a : Ty) (l : Lb) : chk .any a l = chkT a l := by rw [chk]
def fits : Ty → Ty → Bool
  | .any, _ => true
  | _, .any => true
  | .int, .int => true | .bool, .bool => true | .unit, .unit => true
  | .fn a b, .fn c e => fits a c && fits b e
  | .pr a b, .pr c e => fits a c && fits b e
  | .bx a, .bx c => fits a c
  | _, _ => false
theorem fits_any (a : Ty) : fits a .any = true := by cases a <;> rfl
theorem any_fits (a : Ty) : fits .any a = true := by cases a <;> rfl
theorem fits_symm : ∀ {a b : Ty}, fits a b = true → fits b a = true
  | .any, b, _ => by cases b <;> rfl
  | .int, b, h => by cases b <;> first | rfl | cases h
  | .bool, b, h => by cases b <;> first | rfl | cases h
  | .unit, b, h => by cases b <;> first | rfl | cases h
  | .fn a b, c, h => by
    cases c <;> first | rfl | (cases h; done) | skip
    simp only [fits, Bool.and_eq_true] at h ⊢
    exact ⟨fits_symm h.1, fits_symm h.2⟩
  | .pr a b, c, h => by
    cases c <;> first | rfl | (cases h; done) | skip
    simp only [fits, Bool.and_eq_true] at h ⊢
    exact ⟨fits_symm h.1, fits_symm h.2⟩
  | .bx a, c, h => by
    cases c <;> first | rfl | (cases h; done) | skip
    simp only [fits] at h ⊢
    exact fits_symm h
theorem fits_self : ∀ a : Ty, fits a a = true
  | .any => rfl | .int => rfl | .bool => rfl | .unit => rfl
  | .fn a b => by simp [fits, fits_self a, fits_self b]
  | .pr a b => by simp [fits, fits_self a, fits_self b]
  | .bx a => by simp [fits, fits_self a]
/-- both are of one kind -/
theorem fits_gd {a b : Ty} (h : fits a b = true) (ha : a ≠ .any) (hb : b ≠ .any) : a.gd = b.gd := by
  cases a <;> cases b <;> first | rfl | exact absurd rfl ha | exact absurd rfl hb | cases h
mutual
theorem tk_T : ∀ (a : Ty) (l : Lb), Tk (chkT a l) .any a
  | .any, _ => .any
  | .int, l => .take (.same (g := .int) (.inl rfl))
  | .bool, l => .take (.same (g := .bool) (.inr (.inl rfl)))
  | .unit, l => .take (.same (g := .unit) (.inr (.inr rfl)))
  | .fn a b, l => .take (g := .fn) (.fn (tk_F a (tn l)) (tk_T b l))
  | .pr a b, l => .take (g := .pr) (.pr (tk_T a l) (tk_T b l))
  | .bx a, l => .take (g := .bx) (.bx (tk_F a (tn l)) (tk_T a l))
theorem tk_F : ∀ (a : Ty) (l : Lb), Tk (chkF a l) a .any
  | .any, _ => .any
  | .int, l => .give (by simp) rfl (.same (g := .int) (.inl rfl))
  | .bool, l => .give (by simp) rfl (.same (g := .bool) (.inr (.inl rfl)))
  | .unit, l => .give (by simp) rfl (.same (g := .unit) (.inr (.inr rfl)))
  | .fn a b, l => .give (by simp) rfl (.fn (tk_T a (tn l)) (tk_F b l))
  | .pr a b, l => .give (by simp) rfl (.pr (tk_F a l) (tk_F b l))
  | .bx a, l => .give (by simp) rfl (.bx (tk_T a (tn l)) (tk_F a l))
end
theorem chk_tk : ∀ (n : Nat) {a b : Ty} {l : Lb}, a.dep + b.dep ≤ n → fits a b = true → Tk (chk a b l) a b
  | 0, a, b, l, h, _ => absurd a.dep_pos (by omega)
  | n + 1, a, b, l, h, hf => by
    cases a with
    | any => rw [any_chk]; exact tk_T b l
    | int => cases b <;> first | exact absurd (show false = true from hf) Bool.false_ne_true | (rw [chk_any]; exact tk_F _ l) | (rw [chk]; exact .same (g := .int) (.inl rfl))
    | bool => cases b <;> first | exact absurd (show false = true from hf) Bool.false_ne_true | (rw [chk_any]; exact tk_F _ l) | (rw [chk]; exact .same (g := .bool) (.inr (.inl rfl)))
    | unit => cases b <;> first | exact absurd (show false = true from hf) Bool.false_ne_true | (rw [chk_any]; exact tk_F _ l) | (rw [chk]; exact .same (g := .unit) (.inr (.inr rfl)))
    | fn a1 a2 =>
      cases b with
      | any => rw [chk_any]; exact tk_F _ l
      | fn b1 b2 =>
        simp only [fits, Bool.and_eq_true] at hf
        simp only [Ty.dep] at h
        rw [chk]
        exact .fn (chk_tk n (by omega) (fits_symm hf.1)) (chk_tk n (by omega) hf.2)
      | _ => cases hf
    | pr a1 a2 =>
      cases b with
      | any => rw [chk_any]; exact tk_F _ l
      | pr b1 b2 =>
        simp only [fits, Bool.and_eq_true] at hf
        simp only [Ty.dep] at h
        rw [chk]
        exact .pr (chk_tk n (by omega) hf.1) (chk_tk n (by omega) hf.2)
      | _ => cases hf
    | bx a1 =>
      cases b with
      | any => rw [chk_any]; exact tk_F _ l
      | bx b1 =>
        simp only [fits] at hf
        simp only [Ty.dep] at h
        rw [chk]
        exact .bx (chk_tk n (by omega) (fits_symm hf)) (chk_tk n (by omega) hf)
      | _ => cases hf
mutual
theorem ht_T : ∀ (a : Ty) (l : Lb), (chkT a l).ht ≤ a.dep
  | .any, _ => by simp [chkT, Ck.ht, Ty.dep]
  | .int, l => by simp [chkT, Ck.ht, Ty.dep]
  | .bool, l => by simp [chkT, Ck.ht, Ty.dep]
  | .unit, l => by simp [chkT, Ck.ht, Ty.dep]
  | .fn a b, l => by
    have := ht_F a (tn l); have := ht_T b l
    simp only [chkT, Ck.ht, Ty.dep]; omega
  | .pr a b, l => by
    have := ht_T a l; have := ht_T b l
    simp only [chkT, Ck.ht, Ty.dep]; omega
  | .bx a, l => by
    have := ht_F a (tn l); have := ht_T a l
    simp only [chkT, Ck.ht, Ty.dep]; omega
theorem ht_F : ∀ (a : Ty) (l : Lb), (chkF a l).ht ≤ a.dep
  | .any, _ => by simp [chkF, Ck.ht, Ty.dep]
  | .int, l => by simp [chkF, Ck.ht, Ty.dep]
  | .bool, l => by simp [chkF, Ck.ht, Ty.dep]
  | .unit, l => by simp [chkF, Ck.ht, Ty.dep]
  | .fn a b, l => by
    have := ht_T a (tn l); have := ht_F b l
    simp only [chkF, Ck.ht, Ty.dep]; omega
  | .pr a b, l => by
    have := ht_F a l; have := ht_F b l
    simp only [chkF, Ck.ht, Ty.dep]; omega
  | .bx a, l => by
    have := ht_T a (tn l); have := ht_F a l
    simp only [chkF, Ck.ht, Ty.dep]; omega
end
theorem chk_ht : ∀ (n : Nat) {a b : Ty} {l : Lb}, a.dep + b.dep ≤ n → fits a b = true → (chk a b l).ht ≤ max a.dep b.dep
  | 0, a, b, l, h, _ => absurd a.dep_pos (by omega)
  | n + 1, a, b, l, h, hf => by
    cases a with
    | any => rw [any_chk]; have := ht_T b l; omega
    | int => cases b <;> first | exact absurd (show false = true from hf) Bool.false_ne_true | (rw [chk_any]; have := ht_F .int l; omega) | (rw [chk]; simp [Ck.ht, Ty.dep])
    | bool => cases b <;> first | exact absurd (show false = true from hf) Bool.false_ne_true | (rw [chk_any]; have := ht_F .bool l; omega) | (rw [chk]; simp [Ck.ht, Ty.dep])
    | unit => cases b <;> first | exact absurd (show false = true from hf) Bool.false_ne_true | (rw [chk_any]; have := ht_F .unit l; omega) | (rw [chk]; simp [Ck.ht, Ty.dep])
    | fn a1 a2 =>
      cases b with
      | any => rw [chk_any]; have := ht_F (.fn a1 a2) l; omega
      | fn b1 b2 =>
        simp only [fits, Bool.and_eq_true] at hf
        simp only [Ty.dep] at h
        have h1 := chk_ht n (a := b1) (b := a1) (l := tn l) (by omega) (fits_symm hf.1)
        have h2 := chk_ht n (a := a2) (b := b2) (l := l) (by omega) hf.2
        rw [chk]
        simp only [Ck.ht, Ty.dep]; omega
      | _ => cases hf
    | pr a1 a2 =>
      cases b with
      | any => rw [chk_any]; have := ht_F (.pr a1 a2) l; omega
      | pr b1 b2 =>
        simp only [fits, Bool.and_eq_true] at hf
        simp only [Ty.dep] at h
        have h1 := chk_ht n (a := a1) (b := b1) (l := l) (by omega) hf.1
        have h2 := chk_ht n (a := a2) (b := b2) (l := l) (by omega) hf.2
        rw [chk]
        simp only [Ck.ht, Ty.dep]; omega
      | _ => cases hf
    | bx a1 =>
      cases b with
      | any => rw [chk_any]; have := ht_F (.bx a1) l; omega
      | bx b1 =>
        simp only [fits] at hf
        simp only [Ty.dep] at h
        have h1 := chk_ht n (a := b1) (b := a1) (l := tn l) (by omega) (fits_symm hf)
        have h2 := chk_ht n (a := a1) (b := b1) (l := l) (by omega) hf
        rw [chk]
        simp only [Ck.ht, Ty.dep]; omega
      | _ => cases hf
theorem tk_dp {c : Ck} {a b : Ty} (h : Tk c a b) : c.dp ≤ 3 * c.ht ∧ (a ≠ .any → c.dp + 1 ≤ 3 * c.ht) ∧ (c.pl = true → c.dp + 2 ≤ 3 * c.ht) := by
  induction h with
  | any => exact ⟨by decide, fun h => absurd rfl h, fun h => by cases h⟩
  | @same g hg => exact ⟨by simp [Ck.dp, Ck.ht], fun _ => by simp [Ck.dp, Ck.ht], fun _ => by simp [Ck.dp, Ck.ht]⟩
  | fn _ _ ih1 ih2 =>
    have := ih1.1; have := ih2.1
    simp only [Ck.dp, Ck.ht]
    exact ⟨by omega, fun _ => by omega, fun _ => by omega⟩
  | pr _ _ ih1 ih2 =>
    have := ih1.1; have := ih2.1
    simp only [Ck.dp, Ck.ht]
    exact ⟨by omega, fun _ => by omega, fun _ => by omega⟩
  | bx _ _ ih1 ih2 =>
    have := ih1.1; have := ih2.1
    simp only [Ck.dp, Ck.ht]
    exact ⟨by omega, fun _ => by omega, fun _ => by omega⟩
  | give h1 h2 _ ih =>
    have := ih.2.2 h2
    simp only [Ck.dp, Ck.ht]
    exact ⟨by omega, fun _ => by omega, fun h => by cases h⟩
  | fail _ _ => exact ⟨by simp [Ck.dp, Ck.ht], fun _ => by simp [Ck.dp, Ck.ht], fun h => by cases h⟩
  | @take g l c b _ ih =>
    have := ih.2.1 (gty_ne g)
    have := c.ht_pos
    simp only [Ck.dp, Ck.ht]
    exact ⟨by omega, fun h => absurd rfl h, fun h => by cases h⟩
theorem chkT_eq {a : Ty} {l : Lb} (h : a ≠ .any) : chkT a l = .take a.gd l (chk (gty a.gd) a l) := by
  cases a with
  | any => exact absurd rfl h
  | fn a b => simp only [gty, Ty.gd]; rw [chk, chk_any, any_chk, chkT]
  | pr a b => simp only [gty, Ty.gd]; rw [chk, any_chk, any_chk, chkT]
  | bx a => simp only [gty, Ty.gd]; rw [chk, chk_any, any_chk, chkT]
  | _ => simp only [gty, Ty.gd]; rw [chk, chkT]
theorem chkF_eq {a : Ty} {l : Lb} (h : a ≠ .any) : chkF a l = .give (chk a (gty a.gd) l) := by
  cases a with
  | any => exact absurd rfl h
  | fn a b => simp only [gty, Ty.gd]; rw [chk, chk_any, any_chk, chkF]
  | pr a b => simp only [gty, Ty.gd]; rw [chk, chk_any, chk_any, chkF]
  | bx a => simp only [gty, Ty.gd]; rw [chk, chk_any, any_chk, chkF]
  | _ => simp only [gty, Ty.gd]; rw [chk, chkF]
theorem fits_gty {a : Ty} (h : a ≠ .any) : fits a (gty a.gd) = true := by
  cases a <;> first | exact absurd rfl h | rfl | simp [fits, gty, Ty.gd, fits_any]
theorem dep_gd {a : Ty} (h : a ≠ .any) : (gty a.gd).dep ≤ a.dep := by
  cases a with
  | any => exact absurd rfl h
  | fn a b => have := a.dep_pos; have := b.dep_pos; simp only [gty, Ty.gd, Ty.dep]; omega
  | pr a b => have := a.dep_pos; have := b.dep_pos; simp only [gty, Ty.gd, Ty.dep]; omega
  | bx a => have := a.dep_pos; simp only [gty, Ty.gd, Ty.dep]; omega
  | _ => exact Nat.le_refl _
end Pr

end

section
set_option maxHeartbeats 4000000
namespace Pr
open PySem L2 Oz
variable {S S' : Sto} {d : Nat}
theorem sz4 : (4 ≤ sizeLine) = True := by decide
def GT : List (Str × U) := [("int", tu .int), ("bool", tu .bool), ("unit", tu .unit), ("fun", tu (.fn .any .any)), ("pair", tu (.pr .any .any)), ("box", tu (.bx .any))]
theorem g_GT (d : Nat) : (pg.cal d).gd "GROUND_TYPES" = some GT := by rw [cal_gd]; rfl
theorem gt_at (g : Gd) : GT.lookup g.nm = some (tu (gty g)) := by cases g <;> rfl
theorem g_SG (d : Nat) : (pg.cal d).glo "SAME_GROUNDS" = some (.tup [.str "int", .str "bool", .str "unit"]) := by rw [cal_glo]; rfl
theorem in_sg (g : Gd) : cmpU .in_ (.str g.nm) (.tup [.str "int", .str "bool", .str "unit"]) S = .ok (.bl (decide (g = .int ∨ g = .bool ∨ g = .unit))) S := by cases g <;> rfl
theorem gd_hd {a : Ty} (h : a ≠ .any) : ixU (tu a) (.int 0) S = .ok (.str a.gd.nm) S := by rw [ix_hd, hd_gd h]
theorem lst1 {a b : Ty} : ixU (tu (.fn a b)) (.int (-1)) S = .ok (tu b) S ∧ ixU (tu (.pr a b)) (.int (-1)) S = .ok (tu b) S ∧ ixU (tu (.bx a)) (.int (-1)) S = .ok (tu a) S := ⟨rfl, rfl, rfl⟩
theorem ix1 {a b : Ty} : ixU (tu (.fn a b)) (.int 1) S = .ok (tu a) S ∧ ixU (tu (.pr a b)) (.int 1) S = .ok (tu a) S ∧ ixU (tu (.bx a)) (.int 1) S = .ok (tu a) S := ⟨rfl, rfl, rfl⟩
theorem ixb {a : Ty} : ixU (tu (.bx a)) (.int 1) S = .ok (tu a) S ∧ ixU (tu (.bx a)) (.int (-1)) S = .ok (tu a) S := ⟨rfl, rfl⟩
theorem ix2 {a b : Ty} : ixU (tu (.fn a b)) (.int 2) S = .ok (tu b) S ∧ ixU (tu (.pr a b)) (.int 2) S = .ok (tu b) S := ⟨rfl, rfl⟩
end Pr

end

section
set_option maxHeartbeats 4000000
namespace Pr
open PySem L2 Oz
variable {S S' : Sto} {d : Nat}
theorem sground_eq {c : Ck} (h : c.pl = true) (hd : 1 ≤ d) : (pg.cal d).call "source_ground" [cu c] S = .ok (.str c.sg.nm) S := by
  obtain ⟨d, rfl⟩ : ∃ e, d = e + 1 := ⟨d - 1, by omega⟩
  rw [call_eq (df := ⟨1, 1, false, T_source_ground⟩) (by kernel_rfl), run_eq (by rfl)]
  have in1 : cmpU .in_ (.str "same") (.tup [.str "same", .str "fail"]) S = .ok (.bl true) S := by kernel_rfl
  have in2 : cmpU .in_ (.str "fun") (.tup [.str "same", .str "fail"]) S = .ok (.bl false) S := by kernel_rfl
  have in3 : cmpU .in_ (.str "pair") (.tup [.str "same", .str "fail"]) S = .ok (.bl false) S := by kernel_rfl
  have in4 : cmpU .in_ (.str "box") (.tup [.str "same", .str "fail"]) S = .ok (.bl false) S := by kernel_rfl
  have i1 : ∀ g : Gd, ixU (cu (.same g)) (.int 1) S = .ok (.str g.nm) S := fun g => rfl
  unfold T_source_ground
  cases c with
  | same g => simp_arith only [ixc_hd, Ck.hd, decide_false, decide_true, sz2, in1, i1, Ck.sg]
  | fn s t => simp_arith only [ixc_hd, Ck.hd, decide_false, decide_true, sz2, in2, Ck.sg, Gd.nm]
  | pr s t => simp_arith only [ixc_hd, Ck.hd, decide_false, decide_true, sz2, in3, Ck.sg, Gd.nm]
  | bx s t => simp_arith only [ixc_hd, Ck.hd, decide_false, decide_true, sz2, in4, Ck.sg, Gd.nm]
  | _ => cases h
theorem go_mtch {Φ : Cal} {env env' : Oz.Env} {e : E} {cs : Cs} {sts : Sts} {u : U} {S1 S2 : Sto} (h : ev Φ e env S = .ok u S1) (h' : exc Φ cs u env S1 = .nx env' S2) : exs Φ (.cons (.mtch e cs) sts) env S = exs Φ sts env' S2 := by
  rw [exs_cons, ex_mtch, h, on_ok, h', then_nx]
theorem cix (s t : Ck) : ixU (cu (.fn s t)) (.int 1) S = .ok (cu s) S ∧ ixU (cu (.fn s t)) (.int 2) S = .ok (cu t) S ∧ ixU (cu (.pr s t)) (.int 1) S = .ok (cu s) S ∧ ixU (cu (.pr s t)) (.int 2) S = .ok (cu t) S ∧ ixU (cu (.bx s t)) (.int 1) S = .ok (cu s) S ∧ ixU (cu (.bx s t)) (.int 2) S = .ok (cu t) S := ⟨rfl, rfl, rfl, rfl, rfl, rfl⟩
theorem c_eq_any {c : Ck} (h : c.dp ≤ 50) : cmpU .eq (cu c) (.tup [.str "any"]) S = .ok (.bl (decide (c = .any))) S := cc_eq (b := .any) h (by decide)
end Pr

end

section
set_option maxHeartbeats 4000000
namespace Oz
open PySem L2
section
variable {Φ : Cal} {env : Env} {e : E} {es : Es} {t : T} {sts body a b : Sts} {st cl i : Nat} {f : Str} {P Q : U → Prop} {us : List U} {S S' : Sto} {k : Bool}
/-- a call whose arguments are at hand -/
theorem Dr.callp (h : ∀ S, evs Φ es env S = .ok us S) (hc : Dc Φ st cl f us P) : Dr Φ st cl (.call f es) env P := Dr.call (Drs.pure h hc)
theorem Dc.imp (h : Dc Φ st cl f us P) (hi : ∀ u, P u → Q u) : Dc Φ st cl f us Q := fun S hs => by
  obtain ⟨u, S', e, p, r⟩ := h S hs
  exact ⟨u, S', e, hi u p, r⟩
theorem go_if {k : Bool} (h : evt Φ t env S = .ok k S') : exs Φ (.cons (.if_ t a b) sts) env S = (exs Φ (if k then a else b) env S').then_ fun env S => exs Φ sts env S := by
  rw [exs_cons, ex_if, h, on_ok]
  cases k <;> rfl
theorem go_ex {u : U} (h : ev Φ e env S = .ok u S') : exs Φ (.cons (.ex e) sts) env S = exs Φ sts env S' := by
  rw [exs_cons, ex_ex, h, on_ok, then_nx]
end
end Oz
namespace Pr
open PySem L2 Oz
variable {S S' : Sto} {d st cl : Nat}
/-! ### draws -/
def PI (m : Int) (u : U) : Prop := ∃ v : Int, u = .int v ∧ 0 ≤ v ∧ v < m
def PT (m : Nat) (u : U) : Prop := ∃ t : Ty, u = tu t ∧ t.dep ≤ m
def PF (a : Ty) (m : Nat) (u : U) : Prop := ∃ t : Ty, u = tu t ∧ t.dep ≤ m ∧ fits a t = true
theorem tk_of {m : Int} (h0 : 0 < m) (h1 : m < 1000000) (hd : 1 ≤ d) : Dc (pg.cal d) st cl "_law_take" [.loc st, .int m] (PI m) := fun S hs => by
  obtain ⟨d, rfl⟩ : ∃ e, d = e + 1 := ⟨d - 1, by omega⟩
  obtain ⟨v, S', e, a, b, c, f⟩ := takes_eq (d := d) hs h0 h1
  exact ⟨.int v, S', e, ⟨v, rfl, a, b⟩, c, f⟩
theorem six {v : Int} (h0 : 0 ≤ v) : ∃ t : Ty, t.dep ≤ 1 ∧ atI [tu .int, tu .any, tu .bool, tu .int, tu .unit, tu .any] (v % 6) = some (tu t) := by
  have h1 := Int.emod_nonneg v (show (6 : Int) ≠ 0 by decide)
  have h2 := Int.emod_lt_of_pos v (show (0 : Int) < 6 by decide)
  obtain ⟨k, hk⟩ : ∃ k : Nat, v % 6 = k := ⟨(v % 6).toNat, by omega⟩
  rw [hk]
  have hk6 : k < 6 := by omega
  have h6 : ∀ k : Fin 6, ∃ t : Ty, t.dep ≤ 1 ∧ [tu .int, tu .any, tu .bool, tu .int, tu .unit, tu .any][k.val]? = some (tu t) := by
    intro k
    match k with
    | ⟨0, _⟩ => exact ⟨.int, by decide, rfl⟩
    | ⟨1, _⟩ => exact ⟨.any, by decide, rfl⟩
    | ⟨2, _⟩ => exact ⟨.bool, by decide, rfl⟩
    | ⟨3, _⟩ => exact ⟨.int, by decide, rfl⟩
    | ⟨4, _⟩ => exact ⟨.unit, by decide, rfl⟩
    | ⟨5, _⟩ => exact ⟨.any, by decide, rfl⟩
  obtain ⟨t, a, b⟩ := h6 ⟨k, hk6⟩
  exact ⟨t, a, atI_nat_own b⟩
theorem and2 {Φ : Cal} {env : Oz.Env} {a b : E} {p q : Bool} (h1 : ∀ S, evt Φ (.e a) env S = .ok p S) (h2 : ∀ S, evt Φ (.e b) env S = .ok q S) (S : Sto) : evt Φ (.and (.e a) (.e b)) env S = .ok (p && q) S := by
  rw [evt_and, h1, bind_ok]
  cases p
  · rfl
  · rw [if_pos rfl, h2]; rfl
theorem ltype_eq : ∀ (n : Nat) (i : Int) (d : Nat), i.toNat ≤ n → n + 2 ≤ d → Dc (pg.cal d) st cl "_law_type" [.loc st, .int i] (PT (i.toNat + 1)) := by
  intro n
  induction n with
  | zero =>
    intro i d hi hd
    obtain ⟨d, rfl⟩ : ∃ e, d = e + 1 := ⟨d - 1, by omega⟩
    refine Dc.of (Φ := pg.cal d) (b := T__law_type) (env := [some (.loc st), some (.int i), none]) (fun S => by rw [call_eq (df := ⟨2, 3, false, T__law_type⟩) (by kernel_rfl), run_eq (by rfl)]; rfl) ?_
    unfold T__law_type
    refine Sx.set (Dr.callp (fun S => rfl) (tk_of (m := 9) (by decide) (by decide) (by omega))) fun u ⟨k, hu, k0, k9⟩ => ?_
    subst hu
    have hg : ¬ (0 < i) := by omega
    have ht : ∀ (x : Int) (S : Sto), evt (pg.cal d) (.and (.e (.cmp .gt (.v 1) (.k (.int 0)))) (.e (.cmp .eq (.v 2) (.k (.int x))))) [some (.loc st), some (.int i), some (.int k)] S = .ok false S := fun x S => by
      rw [and2 (p := false) (q := decide (k = x)) (fun S => by simp_arith only [hg, decide_false]) (fun S => by simp_arith only [true_and])]; rfl
    refine Sx.ifs (ht 0) (fun h => by cases h) fun _ => Sx.ifs (ht 1) (fun h => by cases h) fun _ => Sx.ifs (ht 2) (fun h => by cases h) fun _ => ?_
    obtain ⟨t, hd1, ha⟩ := six k0
    refine Sx.ret (Dr.pick (fun S hs => ⟨_, S, rfl, ⟨by decide, Dr.pure (u := .int (k % 6)) (fun S => by simp_arith only [mod_int (show (0 : Int) < 6 by decide)]) ⟨_, tu t, rfl, ha, t, rfl, by omega⟩⟩, hs, F2.refl⟩))
  | succ n ih =>
    intro i d hi hd
    obtain ⟨d, rfl⟩ : ∃ e, d = e + 1 := ⟨d - 1, by omega⟩
    refine Dc.of (Φ := pg.cal d) (b := T__law_type) (env := [some (.loc st), some (.int i), none]) (fun S => by rw [call_eq (df := ⟨2, 3, false, T__law_type⟩) (by kernel_rfl), run_eq (by rfl)]; rfl) ?_
    unfold T__law_type
    refine Sx.set (Dr.callp (fun S => rfl) (tk_of (m := 9) (by decide) (by decide) (by omega))) fun u ⟨k, hu, k0, k9⟩ => ?_
    subst hu
    have ht : ∀ (x : Int) (S : Sto), evt (pg.cal d) (.and (.e (.cmp .gt (.v 1) (.k (.int 0)))) (.e (.cmp .eq (.v 2) (.k (.int x))))) [some (.loc st), some (.int i), some (.int k)] S = .ok (decide (0 < i) && decide (k = x)) S := fun x S => by
      rw [and2 (p := decide (0 < i)) (q := decide (k = x)) (fun S => by simp_arith only [true_and]) (fun S => by simp_arith only [true_and])]
    have IH : 0 < i → Dc (pg.cal d) st cl "_law_type" [.loc st, .int (i - 1)] (PT i.toNat) := fun h => (ih (i - 1) d (by omega) (by omega)).imp fun u ⟨t, a, b⟩ => ⟨t, a, by omega⟩
    refine Sx.ifs (ht 0) (fun h => ?_) fun _ => Sx.ifs (ht 1) (fun h => ?_) fun _ => Sx.ifs (ht 2) (fun h => ?_) fun _ => ?_
    · simp only [Bool.and_eq_true, decide_eq_true_eq] at h
      refine Sx.ret (Dr.tup (Drs.cons (Dr.con (P := fun u => u = .str "fun") rfl) fun u1 h1 => Drs.cons (Dr.callp (fun S => rfl) (IH h.1)) fun u2 ⟨t1, e1, b1⟩ => Drs.cons (Dr.callp (fun S => rfl) (IH h.1)) fun u3 ⟨t2, e2, b2⟩ => Drs.nil ⟨(by decide : 3 ≤ sizeLine), .fn t1 t2, by rw [h1, e1, e2]; rfl, by simp only [Ty.dep]; omega⟩))
    · simp only [Bool.and_eq_true, decide_eq_true_eq] at h
      refine Sx.ret (Dr.tup (Drs.cons (Dr.con (P := fun u => u = .str "pair") rfl) fun u1 h1 => Drs.cons (Dr.callp (fun S => rfl) (IH h.1)) fun u2 ⟨t1, e1, b1⟩ => Drs.cons (Dr.callp (fun S => rfl) (IH h.1)) fun u3 ⟨t2, e2, b2⟩ => Drs.nil ⟨(by decide : 3 ≤ sizeLine), .pr t1 t2, by rw [h1, e1, e2]; rfl, by simp only [Ty.dep]; omega⟩))
    · simp only [Bool.and_eq_true, decide_eq_true_eq] at h
      refine Sx.ret (Dr.tup (Drs.cons (Dr.con (P := fun u => u = .str "box") rfl) fun u1 h1 => Drs.cons (Dr.callp (fun S => rfl) (IH h.1)) fun u2 ⟨t1, e1, b1⟩ => Drs.nil ⟨(by decide : 2 ≤ sizeLine), .bx t1, by rw [h1, e1]; rfl, by simp only [Ty.dep]; omega⟩))
    · obtain ⟨t, hd1, ha⟩ := six k0
      refine Sx.ret (Dr.pick (fun S hs => ⟨_, S, rfl, ⟨by decide, Dr.pure (u := .int (k % 6)) (fun S => by simp_arith only [mod_int (show (0 : Int) < 6 by decide)]) ⟨_, tu t, rfl, ha, t, rfl, by omega⟩⟩, hs, F2.refl⟩))
theorem lground_eq (g : Gd) (h : 1 ≤ d) : (pg.cal d).call "_law_ground_type" [.str g.nm] S = .ok (tu (gty g)) S := by
  obtain ⟨d, rfl⟩ : ∃ e, d = e + 1 := ⟨d - 1, by omega⟩
  rw [call_eq (df := ⟨1, 1, false, T__law_ground_type⟩) (by kernel_rfl), run_eq (by rfl)]
  cases g <;> kernel_rfl
theorem ixt_hd {a : Ty} : ixU (tu a) (.int 0) S = .ok (.str a.hd) S := ix_hd a
theorem lpartner_eq : ∀ (n : Nat) (a : Ty) (i : Int) (d : Nat), a.dep ≤ n → i ≤ 2 → n + 6 ≤ d → Dc (pg.cal d) st cl "_law_partner" [.loc st, tu a, .int i] (PF a (max a.dep (i.toNat + 1))) := by
  intro n
  induction n with
  | zero => intro a i d h _ _; exact absurd a.dep_pos (by omega)
  | succ n ih =>
    intro a i d ha hi hd
    obtain ⟨d, rfl⟩ : ∃ e, d = e + 1 := ⟨d - 1, by omega⟩
    refine Dc.of (Φ := pg.cal d) (b := T__law_partner) (env := [some (.loc st), some (tu a), some (.int i), none]) (fun S => by rw [call_eq (df := ⟨3, 4, false, T__law_partner⟩) (by kernel_rfl), run_eq (by rfl)]; rfl) ?_
    unfold T__law_partner
    refine Sx.set (Dr.callp (fun S => rfl) (tk_of (m := 4) (by decide) (by decide) (by omega))) fun u ⟨k, hu, k0, k9⟩ => ?_
    subst hu
    refine Sx.ifs (k := decide (k = 0)) (fun S => by simp_arith only [true_and]) (fun h => Sx.ret (Dr.pure (u := tu .any) (fun S => rfl) ⟨.any, rfl, by simp only [Ty.dep]; omega, fits_any a⟩)) fun _ => ?_
    refine Sx.ifs (k := decide (a = .any)) (fun S => by simp_arith only [ix_hd, show (("any" : Str)) = Ty.any.hd from rfl, Ty.hd_kd]; cases a <;> rfl) (fun h => ?_) fun h => ?_
    · simp only [decide_eq_true_eq] at h
      subst h
      exact Sx.ret (Dr.callp (fun S => rfl) ((ltype_eq i.toNat i d (Nat.le_refl _) (by omega)).imp fun u ⟨t, e, b⟩ => ⟨t, e, by omega, any_fits t⟩))
    · simp only [decide_eq_false_iff_not] at h
      have hIH : ∀ b : Ty, b.dep ≤ n → Dc (pg.cal d) st cl "_law_partner" [.loc st, tu b, .int (i - 1)] (PF b (max b.dep ((i - 1).toNat + 1))) := fun b hb => ih b (i - 1) d hb (by omega) (by omega)
      cases a with
      | any => exact absurd rfl h
      | fn x y =>
        simp only [Ty.dep] at ha
        have px := x.dep_pos
        refine Sx.ifs (k := true) (fun S => by simp_arith only [ix_hd, Ty.hd, decide_true]) (fun _ => ?_) (fun h => by cases h)
        refine Sx.ret (Dr.tup (Drs.cons (Dr.pure (P := fun u => u = .str "fun") (u := .str "fun") (fun S => by simp_arith only [ix_hd, Ty.hd]) rfl) fun u1 h1 => Drs.cons (Dr.callp (us := [.loc st, tu x, .int (i - 1)]) (fun S => by simp_arith only [ix1]) (hIH x (by omega))) fun u2 ⟨t1, e1, b1, f1⟩ => Drs.cons (Dr.callp (us := [.loc st, tu y, .int (i - 1)]) (fun S => by simp_arith only [ix2]) (hIH y (by omega))) fun u3 ⟨t2, e2, b2, f2⟩ => Drs.nil ⟨(by decide : 3 ≤ sizeLine), .fn t1 t2, by rw [h1, e1, e2]; rfl, by simp only [Ty.dep]; omega, by simp [fits, f1, f2]⟩))
      | pr x y =>
        simp only [Ty.dep] at ha
        have px := x.dep_pos
        refine Sx.ifs (k := true) (fun S => by simp_arith only [ix_hd, Ty.hd, decide_true, decide_false]) (fun _ => ?_) (fun h => by cases h)
        refine Sx.ret (Dr.tup (Drs.cons (Dr.pure (P := fun u => u = .str "pair") (u := .str "pair") (fun S => by simp_arith only [ix_hd, Ty.hd]) rfl) fun u1 h1 => Drs.cons (Dr.callp (us := [.loc st, tu x, .int (i - 1)]) (fun S => by simp_arith only [ix1]) (hIH x (by omega))) fun u2 ⟨t1, e1, b1, f1⟩ => Drs.cons (Dr.callp (us := [.loc st, tu y, .int (i - 1)]) (fun S => by simp_arith only [ix2]) (hIH y (by omega))) fun u3 ⟨t2, e2, b2, f2⟩ => Drs.nil ⟨(by decide : 3 ≤ sizeLine), .pr t1 t2, by rw [h1, e1, e2]; rfl, by simp only [Ty.dep]; omega, by simp [fits, f1, f2]⟩))
      | bx x =>
        simp only [Ty.dep] at ha
        have px := x.dep_pos
        refine Sx.ifs (k := false) (fun S => by simp_arith only [ix_hd, Ty.hd, decide_false]) (fun h => by cases h) fun _ => ?_
        refine Sx.ifs (k := true) (fun S => by simp_arith only [ix_hd, Ty.hd, decide_true]) (fun _ => ?_) (fun h => by cases h)
        refine Sx.ret (Dr.tup (Drs.cons (Dr.con (P := fun u => u = .str "box") rfl) fun u1 h1 => Drs.cons (Dr.callp (us := [.loc st, tu x, .int (i - 1)]) (fun S => by simp_arith only [ixb]) (hIH x (by omega))) fun u2 ⟨t1, e1, b1, f1⟩ => Drs.nil ⟨(by decide : 2 ≤ sizeLine), .bx t1, by rw [h1, e1]; rfl, by simp only [Ty.dep]; omega, by simp [fits, f1]⟩))
      | int =>
        refine Sx.ifs (k := false) (fun S => by simp_arith only [ix_hd, Ty.hd, decide_false]) (fun h => by cases h) fun _ => Sx.ifs (k := false) (fun S => by simp_arith only [ix_hd, Ty.hd, decide_false]) (fun h => by cases h) fun _ => ?_
        exact Sx.ret (Dr.var rfl ⟨.int, rfl, by simp only [Ty.dep]; omega, rfl⟩)
      | bool =>
        refine Sx.ifs (k := false) (fun S => by simp_arith only [ix_hd, Ty.hd, decide_false]) (fun h => by cases h) fun _ => Sx.ifs (k := false) (fun S => by simp_arith only [ix_hd, Ty.hd, decide_false]) (fun h => by cases h) fun _ => ?_
        exact Sx.ret (Dr.var rfl ⟨.bool, rfl, by simp only [Ty.dep]; omega, rfl⟩)
      | unit =>
        refine Sx.ifs (k := false) (fun S => by simp_arith only [ix_hd, Ty.hd, decide_false]) (fun h => by cases h) fun _ => Sx.ifs (k := false) (fun S => by simp_arith only [ix_hd, Ty.hd, decide_false]) (fun h => by cases h) fun _ => ?_
        exact Sx.ret (Dr.var rfl ⟨.unit, rfl, by simp only [Ty.dep]; omega, rfl⟩)
end Pr

end

section
set_option maxHeartbeats 4000000
namespace Pr
open PySem L2 Oz
variable {S S' : Sto} {d : Nat}
/-! ### the law's check of a cast -/
theorem len_ty (a b : Ty) : bfU .len [tu .int] S = .ok (.int 1) S ∧ bfU .len [tu .bool] S = .ok (.int 1) S ∧ bfU .len [tu .unit] S = .ok (.int 1) S ∧ bfU .len [tu (.fn a b)] S = .ok (.int 3) S ∧ bfU .len [tu (.pr a b)] S = .ok (.int 3) S ∧ bfU .len [tu (.bx a)] S = .ok (.int 2) S := ⟨rfl, rfl, rfl, rfl, rfl, rfl⟩
theorem lcheck_eq : ∀ (n : Nat), n ≤ 15 → (∀ (a b : Ty) (l : Lb) (d : Nat) (S : Sto), a.dep ≤ n → b.dep ≤ n → fits a b = true → a ≠ .any → b ≠ .any → 2 * n ≤ d + 1 → (pg.cal d).call "_law_check" [tu a, tu b, .int l.1, .int l.2] S = .ok (cu (chk a b l)) S) ∧
    ∀ (a b : Ty) (l : Lb) (d : Nat) (S : Sto), a.dep ≤ n → b.dep ≤ n → fits a b = true → 2 * n ≤ d → (pg.cal d).call "_law_check" [tu a, tu b, .int l.1, .int l.2] S = .ok (cu (chk a b l)) S
  | 0, _ => ⟨fun a b l d S h _ _ _ _ _ => absurd a.dep_pos (by omega), fun a b l d S h _ _ _ => absurd a.dep_pos (by omega)⟩
  | n + 1, hn => by
    obtain ⟨_, IH⟩ := lcheck_eq n (by omega)
    have Q : ∀ (a b : Ty) (l : Lb) (d : Nat) (S : Sto), a.dep ≤ n + 1 → b.dep ≤ n + 1 → fits a b = true → a ≠ .any → b ≠ .any → 2 * (n + 1) ≤ d + 1 → (pg.cal d).call "_law_check" [tu a, tu b, .int l.1, .int l.2] S = .ok (cu (chk a b l)) S := by
      intro a b l d S ha hb hf na nb hd
      obtain ⟨d, rfl⟩ : ∃ e, d = e + 1 := ⟨d - 1, by omega⟩
      rw [call_eq (df := ⟨4, 6, false, T__law_check⟩) (by kernel_rfl), run_eq (by rfl)]
      unfold T__law_check
      have IH' : ∀ (a b : Ty) (x y : Int) (S : Sto), a.dep ≤ n → b.dep ≤ n → fits a b = true → (pg.cal d).call "_law_check" [tu a, tu b, .int x, .int y] S = .ok (cu (chk a b (x, y))) S := fun a b x y S h1 h2 h3 => IH a b (x, y) d S h1 h2 h3 (by omega)
      cases a with
      | any => exact absurd rfl na
      | int => cases b <;> first | exact absurd (show false = true from hf) Bool.false_ne_true | exact absurd rfl nb | (simp_arith only [ix_hd, Ty.hd, decide_false, decide_true, len_ty .any .any, sz2]; rw [chk]; rfl)
      | bool => cases b <;> first | exact absurd (show false = true from hf) Bool.false_ne_true | exact absurd rfl nb | (simp_arith only [ix_hd, Ty.hd, decide_false, decide_true, len_ty .any .any, sz2]; rw [chk]; rfl)
      | unit => cases b <;> first | exact absurd (show false = true from hf) Bool.false_ne_true | exact absurd rfl nb | (simp_arith only [ix_hd, Ty.hd, decide_false, decide_true, len_ty .any .any, sz2]; rw [chk]; rfl)
      | fn a1 a2 =>
        cases b with
        | fn b1 b2 =>
          simp only [fits, Bool.and_eq_true] at hf
          simp only [Ty.dep] at ha hb
          simp_arith only [ix_hd, Ty.hd, decide_false, decide_true, len_ty a1 a2, Int.reduceEq, Int.reduceSub, ix1, ix2, IH' a2 b2 _ _ _ (by omega) (by omega) hf.2, IH' b1 a1 _ _ _ (by omega) (by omega) (fits_symm hf.1), sz3]
          rw [chk]; rfl
        | _ => first | exact absurd (show false = true from hf) Bool.false_ne_true | exact absurd rfl nb
      | pr a1 a2 =>
        cases b with
        | pr b1 b2 =>
          simp only [fits, Bool.and_eq_true] at hf
          simp only [Ty.dep] at ha hb
          simp_arith only [ix_hd, Ty.hd, decide_false, decide_true, len_ty a1 a2, Int.reduceEq, Int.reduceSub, ix1, ix2, IH' a2 b2 _ _ _ (by omega) (by omega) hf.2, IH' a1 b1 _ _ _ (by omega) (by omega) hf.1, sz3]
          rw [chk]; rfl
        | _ => first | exact absurd (show false = true from hf) Bool.false_ne_true | exact absurd rfl nb
      | bx a1 =>
        cases b with
        | bx b1 =>
          simp only [fits] at hf
          simp only [Ty.dep] at ha hb
          simp_arith only [ix_hd, Ty.hd, decide_false, decide_true, len_ty a1 a1, Int.reduceEq, Int.reduceSub, ixb, IH' a1 b1 _ _ _ (by omega) (by omega) hf, IH' b1 a1 _ _ _ (by omega) (by omega) (fits_symm hf), sz3]
          rw [chk]; rfl
        | _ => first | exact absurd (show false = true from hf) Bool.false_ne_true | exact absurd rfl nb
    refine ⟨Q, fun a b l d S ha hb hf hd => ?_⟩
    obtain ⟨d, rfl⟩ : ∃ e, d = e + 1 := ⟨d - 1, by omega⟩
    by_cases na : a = .any
    · by_cases nb : b = .any
      · subst na nb
        rw [call_eq (df := ⟨4, 6, false, T__law_check⟩) (by kernel_rfl), run_eq (by rfl)]
        unfold T__law_check
        simp_arith only [ix_hd, Ty.hd, decide_true, sz1]
        rw [chk, chkT]; rfl
      · subst na
        rw [call_eq (df := ⟨4, 6, false, T__law_check⟩) (by kernel_rfl), run_eq (by rfl)]
        unfold T__law_check
        have hg := dep_gd nb
        have q := Q (gty b.gd) b l d S (by omega) hb (fits_symm (fits_gty nb)) (gty_ne _) nb (by omega)
        simp_arith only [ix_hd, show Ty.any.hd = ("any" : Str) from rfl, hd_gd nb, nm_any, decide_true, decide_false, lground_eq b.gd (show 1 ≤ d by omega), q, sz2, sz4]
        rw [any_chk, chkT_eq nb]; rfl
    · by_cases nb : b = .any
      · subst nb
        rw [call_eq (df := ⟨4, 6, false, T__law_check⟩) (by kernel_rfl), run_eq (by rfl)]
        unfold T__law_check
        have hg := dep_gd na
        have q := Q a (gty a.gd) l d S ha (by omega) (fits_gty na) na (gty_ne _) (by omega)
        simp_arith only [ix_hd, show Ty.any.hd = ("any" : Str) from rfl, hd_gd na, nm_any, decide_true, decide_false, lground_eq a.gd (show 1 ≤ d by omega), q, sz2]
        rw [chk_any, chkF_eq na]; rfl
      · exact Q a b l (d + 1) S ha hb hf na nb (by omega)
end Pr

end

section
set_option maxHeartbeats 4000000
namespace Oz
open PySem PySem.Spec PyProof.Rows L2
section
variable {S S' S0 : Sto} {tp : Bool} {is : List Nat} {env : Env} {n m : Nat} {Φ : Cal} {elt it : E} {t : T} {α : Type} {l : List α} {fu : α → U}
theorem lcJ_filS {α : Type} {fu : α → U} {c : Env → Sto → R Bool} {f : Env → Sto → R U} {st : Sto → Bool} {Inv : Sto → Prop} {b : α → Bool} {g : α → U} (hi : ∀ S x, Inv S → Inv (S.set n (.lst x))) (hst : ∀ S, Inv S → st S = true) : ∀ {us : List α} {S : Sto} {acc : List U}
    (hf : ∀ u ∈ us, ∃ env', setN tp is (fu u) env = some env' ∧ ∀ S, Inv S → n < S.length → ∃ S', c env' S = .ok (b u) S' ∧ Inv S' ∧ S.length ≤ S'.length ∧ S'[n]? = S[n]? ∧ f env' S' = .ok (g u) S') (h0 : Inv S) (hS : S[n]? = some (.lst acc)) (hz : acc.length + us.length ≤ sizeLine),
    ∃ S', lcJ tp is env c f n st (us.map fu) S = .ok () S' ∧ Inv S' ∧ S.length ≤ S'.length ∧ S'[n]? = some (.lst (acc ++ (us.filter b).map g))
  | [], S, acc, hf, h0, hS, hz => ⟨S, by rw [List.map_nil, lcJ, if_pos (hst S h0)], h0, Nat.le_refl _, by simpa using hS⟩
  | u :: us, S, acc, hf, h0, hS, hz => by
    obtain ⟨env', e1, e2⟩ := hf u List.mem_cons_self
    have hn : n < S.length := (List.getElem?_eq_some_iff.mp hS).1
    obtain ⟨S1, ec, h1, l1, k1, e3⟩ := e2 S h0 hn
    have hS1 : S1[n]? = some (.lst acc) := k1.trans hS
    have hn1 : n < S1.length := by omega
    cases hb : b u with
    | true =>
      obtain ⟨S2, e4, h2, l2, k2⟩ := lcJ_filS (us := us) (acc := acc ++ [g u]) hi hst (fun v hv => hf v (List.mem_cons_of_mem _ hv)) (hi S1 (acc ++ [g u]) h1) (by rw [List.getElem?_set_self hn1]) (by simp at hz ⊢; omega)
      refine ⟨S2, ?_, h2, by simp at l2; omega, by rw [k2]; simp [hb]⟩
      rw [List.map_cons]
      unfold lcJ
      simp only [hst S h0, if_true, e1, ec, hb, bind_ok, e3, pushAt_ok hS1 (show acc.length < sizeLine by simp at hz; omega)]
      exact e4
    | false =>
      obtain ⟨S2, e4, h2, l2, k2⟩ := lcJ_filS (us := us) (acc := acc) hi hst (fun v hv => hf v (List.mem_cons_of_mem _ hv)) h1 hS1 (by simp at hz ⊢; omega)
      refine ⟨S2, ?_, h2, by omega, by rw [k2]; simp [hb]⟩
      rw [List.map_cons]
      unfold lcJ
      simp only [hst S h0, if_true, e1, ec, hb, bind_ok, Bool.false_eq_true, if_false]
      exact e4
/-- those items of a list of which the test is true; the test may look at what stood -/
theorem lcl_test {us : List U} {g : α → U} {k : α → Bool} (hit : ev Φ it env S = .ok (.loc m) S0) (hm : S0[m]? = some (.lst (l.map fu)))
    (h : ∀ u ∈ l, ∃ env', setN tp is (fu u) (wipeE env is) = some env' ∧ ∀ S1, Gr S0 S1 → ∃ S2, evt Φ t env' S1 = .ok (k u) S2 ∧ Gr S1 S2 ∧ ev Φ elt env' S2 = .ok (g u) S2) (hz : l.length ≤ sizeLine) :
    ∃ S', ev Φ (.lc is tp elt it t) env S = .ok (.loc S0.length) S' ∧ Gr S0 S' ∧ S'[S0.length]? = some (.lst ((l.filter k).map g)) := by
  have e0 : ev Φ (.lc is tp elt it t) env S = (lcJ tp is (wipeE env is) (fun env S => (evt Φ t env S).noex) (fun env S => (ev Φ elt env S).noex) S0.length (fun S => stays S (l.map fu) (some m)) (l.map fu) (S0 ++ [.lst []])).bind fun _ S' => .ok (.loc S0.length) S' := by
    rw [ev_lc, hit, bind_ok]
    simp only [iterU, hm, lcI_eq]
  rw [e0]
  obtain ⟨S', e, g1, _, q⟩ := lcJ_filS (tp := tp) (is := is) (env := wipeE env is) (n := S0.length) (c := fun env S => (evt Φ t env S).noex) (f := fun env S => (ev Φ elt env S).noex) (st := fun S => stays S (l.map fu) (some m)) (Inv := fun S1 => Gr S0 S1) (b := k) (g := g) (fu := fu) (us := l) (S := S0 ++ [.lst []]) (acc := [])
    (fun S1 x h1 => h1.set_new (Nat.le_refl _)) (fun S1 h1 => stays_lst (h1.at_ hm)) (fun u hu => by
      obtain ⟨env', e1, e2⟩ := h u hu
      refine ⟨env', e1, fun S1 h1 hn => ?_⟩
      obtain ⟨S2, e3, g2, e4⟩ := e2 S1 h1
      exact ⟨S2, by simp only [e3]; rfl, h1.trans g2, g2.1, g2.2 _ hn, by simp only [e4]; rfl⟩) Gr.push last_get (by simpa using hz)
  exact ⟨S', by rw [e, bind_ok], g1, by rw [q]; rfl⟩
theorem isi_of {e : E} {u : U} {t t' : String} {k : Bool} (h : ev Φ e env S = .ok u S') (ht : tyU S' u = some t') (hk : kitB t' t = some k) : ev Φ (.isi e t) env S = .ok (.bl k) S' := by
  rw [ev_isi, h, bind_ok]
  simp only [ht, hk]
end
end Oz
namespace Pr
open PySem L2 Oz
variable {S S' : Sto} {d : Nat}
theorem ints_map {α : Type} (f : α → Int) : ∀ l : List α, intsU (l.map fun x => U.int (f x)) = some (l.map f)
  | [] => rfl
  | x :: l => by simp [intsU, ints_map f l]
theorem maxd_loc {n : Nat} {us : List U} {ns : List Int} {k : Int} (h : S[n]? = some (.lst us)) (hi : intsU us = some ns) : bfU .maxd [.loc n, .int k] S = .ok (.int (if 0 < ns.length then maxI ns else k)) S := by
  unfold bfU maxdF
  simp only [list?, h, Option.bind_some, hi]
theorem sum_loc {n : Nat} {us : List U} {ns : List Int} (h : S[n]? = some (.lst us)) (hi : intsU us = some ns) : bfU .sum [.loc n] S = .ok (.int ns.sum) S := by
  unfold bfU sumF
  simp only [list?, h, Option.bind_some, hi]
/-! ### the parts of a check -/
namespace Ck
def sub : Ck → List Ck
  | fn s t => [s, t] | pr s t => [s, t] | bx s t => [s, t] | give c => [c] | take _ _ c => [c] | _ => []
def own : Ck → List Lb
  | fail _ l _ => [l] | take _ l _ => [l] | _ => []
theorem sub_dp {c s : Ck} (h : s ∈ c.sub) : s.dp < c.dp := by
  cases c <;> simp [sub] at h <;> (try rcases h with rfl | rfl) <;> (try subst h) <;> simp [dp] <;> omega
theorem sub_ht {c s : Ck} (h : s ∈ c.sub) : s.ht ≤ c.ht := by
  cases c <;> simp [sub] at h <;> (try rcases h with rfl | rfl) <;> (try subst h) <;> simp [ht] <;> omega
theorem sub_len (c : Ck) : c.sub.length ≤ 2 := by cases c <;> simp [sub]
theorem sz_sub (c : Ck) : (c.sz : Int) = 1 + (c.sub.map fun s => (s.sz : Int)).sum := by cases c <;> simp [sz, sub] <;> omega
def isW (c : Ck) : Bool := match c with | give _ => true | take _ _ _ => true | _ => false
theorem ht_sub (c : Ck) : (c.ht : Int) = (if 0 < (c.sub.map fun s => (s.ht : Int)).length then maxI (c.sub.map fun s => (s.ht : Int)) else 0) + (if c.isW then 0 else 1) := by
  cases c <;> simp [ht, sub, maxI, isW] <;> (try split) <;> omega
end Ck
theorem hd_in3 (c : Ck) {n : Nat} (h : S[n]? = some (.lst [.str "fun", .str "pair", .str "box"])) : cmpU .in_ (.str c.hd) (.loc n) S = .ok (.bl (match c with | .fn _ _ => true | .pr _ _ => true | .bx _ _ => true | _ => false)) S := by
  have e : inR (.str c.hd) (.loc n) S = some (match c with | .fn _ _ => true | .pr _ _ => true | .bx _ _ => true | _ => false) := by
    unfold inR
    simp only [items?, h]
    rw [if_pos (by rfl)]
    cases c <;> rfl
  unfold cmpU cmpB
  rw [e]
theorem hd_nin2 (c : Ck) {n : Nat} (h : S[n]? = some (.lst [.str "give", .str "take"])) : cmpU .notIn (.str c.hd) (.loc n) S = .ok (.bl (!c.isW)) S := by
  have e : inR (.str c.hd) (.loc n) S = some c.isW := by
    unfold inR
    simp only [items?, h]
    rw [if_pos (by rfl)]
    cases c <;> rfl
  unfold cmpU cmpB
  rw [e]
  rfl
theorem hd_in2 (c : Ck) : cmpU .in_ (.str c.hd) (.tup [.str "give", .str "take"]) S = .ok (.bl c.isW) S := by
  cases c <;> rfl
theorem cix1 (c : Ck) : ixU (cu (.give c)) (.int 1) S = .ok (cu c) S := rfl
theorem cix3 (g : Gd) (l : Lb) (c : Ck) : ixU (cu (.take g l c)) (.int 3) S = .ok (cu c) S ∧ ixU (cu (.take g l c)) (.int 1) S = .ok (.str g.nm) S ∧ ixU (cu (.take g l c)) (.int 2) S = .ok (lu l) S := ⟨rfl, rfl, rfl⟩
theorem lground2_eq {c : Ck} (h : c.pl = true) (hd : 1 ≤ d) : (pg.cal d).call "_law_ground" [cu c] S = .ok (.str c.sg.nm) S := by
  obtain ⟨d, rfl⟩ : ∃ e, d = e + 1 := ⟨d - 1, by omega⟩
  rw [call_eq (df := ⟨1, 1, false, T__law_ground⟩) (by kernel_rfl), run_eq (by rfl)]
  have i1 : ∀ g : Gd, ixU (cu (.same g)) (.int 1) S = .ok (.str g.nm) S := fun g => rfl
  unfold T__law_ground
  cases c with
  | same g => simp_arith only [ixc_hd, Ck.hd, decide_true, i1, Ck.sg]
  | fn s t => simp_arith only [ixc_hd, Ck.hd, decide_false, Ck.sg, Gd.nm]
  | pr s t => simp_arith only [ixc_hd, Ck.hd, decide_false, Ck.sg, Gd.nm]
  | bx s t => simp_arith only [ixc_hd, Ck.hd, decide_false, Ck.sg, Gd.nm]
  | _ => cases h
theorem ljoin_eq : ∀ (n : Nat) {s t : Ck} {a b c : Ty} (d : Nat) (S : Sto), s.dp + t.dp ≤ n → Tk s a b → Tk t b c → n + 1 ≤ d → (pg.cal d).call "_law_join" [cu s, cu t] S = .ok (cu (jn s t)) S
  | 0, s, t, a, b, c, d, S, h, _, _, _ => absurd s.dp_pos (by omega)
  | n + 1, s, t, a, b, c, d, S, h, hs, ht, hd => by
    obtain ⟨d, rfl⟩ : ∃ e, d = e + 1 := ⟨d - 1, by omega⟩
    rw [call_eq (df := ⟨2, 2, false, T__law_join⟩) (by kernel_rfl), run_eq (by rfl)]
    unfold T__law_join
    by_cases ha : a = .any
    · subst ha
      rcases hs.of_any with ⟨rfl, rfl⟩ | ⟨g, l, i, rfl, hi⟩
      · simp_arith only [ixc_hd, Ck.hd, decide_true]
        rw [jn]
      · simp only [Ck.dp] at h
        have q := ljoin_eq n d S (by omega) hi ht (by omega)
        simp_arith only [ixc_hd, Ck.hd, decide_true, decide_false, cix3, q, sz4]
        rw [jn]; rfl
    · rcases hs.next ha with hp | ⟨i, rfl, rfl, hip, hi⟩ | ⟨l, k, rfl, hk⟩
      · obtain ⟨_, hb, hab⟩ := hs.plain hp
        have hh : s.hd ≠ "any" ∧ s.hd ≠ "fail" ∧ s.hd ≠ "take" ∧ s.hd ≠ "give" := by
          cases s <;> first | exact absurd (show false = true from hp) Bool.false_ne_true | simp [Ck.hd, ofS_inj]
        simp_arith only [ixc_hd, hh.1, hh.2.1, hh.2.2.1, hh.2.2.2, decide_false]
        rcases ht.next hb with hq | ⟨j, rfl, rfl, hjp, hj⟩ | ⟨l, k, rfl, hk⟩
        · have hh2 : t.hd ≠ "fail" ∧ t.hd ≠ "give" := by
            cases t <;> first | exact absurd (show false = true from hq) Bool.false_ne_true | simp [Ck.hd, ofS_inj]
          simp_arith only [hh2.1, hh2.2, decide_false, ixc_hd]
          rcases pl_kinds hs ht hp hq with ⟨g, rfl, rfl, rfl, e⟩ | ⟨s1, t1, s2, t2, rfl, rfl, e, a1, a2, b1, b2, e1, e2, rfl, rfl, rfl, h1, h2, h3, h4⟩ | ⟨s1, t1, s2, t2, rfl, rfl, e, a1, a2, b1, b2, e1, e2, rfl, rfl, rfl, h1, h2, h3, h4⟩ | ⟨s1, t1, s2, t2, rfl, rfl, e, a1, b1, e1, rfl, rfl, rfl, h1, h2, h3, h4⟩
          · simp_arith only [Ck.hd, decide_true]
            rw [e]
          · simp only [Ck.dp] at h
            have q1 := fun S => ljoin_eq n d S (by omega) h1 h3 (by omega)
            have q2 := fun S => ljoin_eq n d S (by omega) h2 h4 (by omega)
            simp_arith only [Ck.hd, decide_true, decide_false, cix, q1, q2, sz3, ixc_hd]
            rw [e]; rfl
          · simp only [Ck.dp] at h
            have q1 := fun S => ljoin_eq n d S (by omega) h3 h1 (by omega)
            have q2 := fun S => ljoin_eq n d S (by omega) h2 h4 (by omega)
            simp_arith only [Ck.hd, decide_true, decide_false, cix, q1, q2, sz3, ixc_hd]
            rw [e]; rfl
          · simp only [Ck.dp] at h
            have q1 := fun S => ljoin_eq n d S (by omega) h3 h1 (by omega)
            have q2 := fun S => ljoin_eq n d S (by omega) h2 h4 (by omega)
            simp_arith only [Ck.hd, decide_true, decide_false, cix, q1, q2, sz3, ixc_hd]
            rw [e]; rfl
        · simp only [Ck.dp] at h
          have q := ljoin_eq n d S (by omega) hs hj (by omega)
          rw [jn_give hp]
          simp_arith only [Ck.hd, decide_true, decide_false, ixc_hd, cix1, q, sz2]
          rfl
        · rw [jn_fail hp]
          simp_arith only [Ck.hd, decide_true]
      · simp only [Ck.dp] at h
        rcases ht.of_any with ⟨rfl, rfl⟩ | ⟨g, l, j, rfl, hj⟩
        · simp_arith only [ixc_hd, Ck.hd, decide_true, decide_false]
          rw [jn]
        · simp only [Ck.dp] at h
          rw [jn, (hi.src ha).1]
          have es := lground2_eq (d := d) (S := S) hip (by omega)
          rw [(hi.src ha).1] at es
          have ec : cmpU .eq (.str g.nm) (.str a.gd.nm) S = .ok (.bl (decide (g = a.gd))) S := by
            rw [Oz.c_eq_str]
            simp only [nm_inj]
          simp_arith only [ixc_hd, Ck.hd, decide_true, decide_false, cix1, cix3, es, ec]
          by_cases hg : a.gd = g
          · have hj' : Tk j (gty a.gd) c := by rw [hg]; exact hj
            have q := ljoin_eq n d S (by omega) hi hj' (by omega)
            simp_arith only [hg, decide_true, cix1, cix3, q]
          · simp_arith only [hg, Ne.symm hg, decide_false, cix1, cix3, es, sz4]
            rfl
      · rw [jn]
        simp_arith only [ixc_hd, Ck.hd, decide_true, decide_false]
end Pr

end

section
set_option maxHeartbeats 4000000
namespace Pr
open PySem L2 Oz
variable {S S' : Sto} {d : Nat}
/-! ### labels -/
def mg (f xs : List Lb) : List Lb := f ++ xs.filter fun x => decide (x ∉ f)
namespace Ck
def lbs : Ck → List Lb
  | any => [] | same _ => [] | fail _ l _ => [l]
  | fn s t => mg (mg [] s.lbs) t.lbs | pr s t => mg (mg [] s.lbs) t.lbs | bx s t => mg (mg [] s.lbs) t.lbs
  | give c => mg [] c.lbs | take _ l c => mg [l] c.lbs
def ls : Ck → List Lb
  | any => [] | same _ => [] | fail _ l _ => [l]
  | fn s t => s.ls ++ t.ls | pr s t => s.ls ++ t.ls | bx s t => s.ls ++ t.ls
  | give c => c.ls | take _ l c => l :: c.ls
theorem lbs_fold (c : Ck) : c.lbs = c.sub.foldl (fun f s => mg f s.lbs) c.own := by cases c <;> rfl
end Ck
theorem mg_mem {f xs : List Lb} {l : Lb} : l ∈ mg f xs ↔ l ∈ f ∨ l ∈ xs := by
  unfold mg
  simp only [List.mem_append, List.mem_filter, decide_eq_true_eq]
  by_cases h : l ∈ f <;> simp [h]
theorem lbs_mem : ∀ {c : Ck} {l : Lb}, l ∈ c.lbs ↔ l ∈ c.ls
  | .any, _ => by simp [Ck.lbs, Ck.ls]
  | .same _, _ => by simp [Ck.lbs, Ck.ls]
  | .fail _ _ _, _ => by simp [Ck.lbs, Ck.ls]
  | .fn s t, l => by simp [Ck.lbs, Ck.ls, mg_mem, lbs_mem (c := s), lbs_mem (c := t)]
  | .pr s t, l => by simp [Ck.lbs, Ck.ls, mg_mem, lbs_mem (c := s), lbs_mem (c := t)]
  | .bx s t, l => by simp [Ck.lbs, Ck.ls, mg_mem, lbs_mem (c := s), lbs_mem (c := t)]
  | .give c, l => by simp [Ck.lbs, Ck.ls, mg_mem, lbs_mem (c := c)]
  | .take _ l' c, l => by simp [Ck.lbs, Ck.ls, mg_mem, lbs_mem (c := c)]
theorem mg_len (f xs : List Lb) : (mg f xs).length ≤ f.length + xs.length := by
  unfold mg
  rw [List.length_append]
  have := List.length_filter_le (fun x => decide (x ∉ f)) xs
  omega
theorem lbs_len : ∀ c : Ck, c.lbs.length ≤ c.sz
  | .any => by simp [Ck.lbs, Ck.sz]
  | .same _ => by simp [Ck.lbs, Ck.sz]
  | .fail _ _ _ => by simp [Ck.lbs, Ck.sz]
  | .fn s t => by
    have := lbs_len s; have := lbs_len t
    have h1 := mg_len [] s.lbs; have h2 := mg_len (mg [] s.lbs) t.lbs
    simp only [Ck.lbs, Ck.sz, List.length_nil] at *; omega
  | .pr s t => by
    have := lbs_len s; have := lbs_len t
    have h1 := mg_len [] s.lbs; have h2 := mg_len (mg [] s.lbs) t.lbs
    simp only [Ck.lbs, Ck.sz, List.length_nil] at *; omega
  | .bx s t => by
    have := lbs_len s; have := lbs_len t
    have h1 := mg_len [] s.lbs; have h2 := mg_len (mg [] s.lbs) t.lbs
    simp only [Ck.lbs, Ck.sz, List.length_nil] at *; omega
  | .give c => by
    have := lbs_len c; have h1 := mg_len [] c.lbs
    simp only [Ck.lbs, Ck.sz, List.length_nil] at *; omega
  | .take _ l c => by
    have := lbs_len c; have h1 := mg_len [l] c.lbs
    simp only [Ck.lbs, Ck.sz, List.length_cons, List.length_nil] at *; omega
theorem sub_sz {c s : Ck} (h : s ∈ c.sub) : s.sz < c.sz := by
  cases c <;> simp [Ck.sub] at h <;> (try rcases h with rfl | rfl) <;> (try subst h) <;> simp [Ck.sz] <;> omega
theorem ok_lu (l : Lb) : okU (lu l) = true := by
  unfold okU SeqAt.shaped
  rw [lay_lu]
  exact decide_eq_true (show (pdU (lu l)).depth ≤ 64 by simp [lu, pdU, pdUs, PyData.depth, PyData.depthAll])
theorem oks_lu (ls : List Lb) : okUs (ls.map lu) = true := by
  have h1 : purUs (ls.map lu) = true ∧ PyData.canLayAll0 (pdUs (ls.map lu)) = true ∧ PyData.depthAll (pdUs (ls.map lu)) ≤ 2 := by
    induction ls with
    | nil => exact ⟨rfl, rfl, Nat.zero_le _⟩
    | cons l ls ih =>
      obtain ⟨a, b, c⟩ := ih
      have e1 : purU (lu l) = true := rfl
      have e2 := lay_lu l
      have e3 : (pdU (lu l)).depth ≤ 2 := by simp [lu, pdU, pdUs, PyData.depth, PyData.depthAll]
      simp only [List.map_cons, purUs, pdUs, PyData.canLayAll0, PyData.depthAll, a, b, e1, e2, Bool.and_self, true_and]
      omega
  unfold okUs SeqAt.shaped
  rw [h1.1, Bool.true_and, Bool.and_eq_true]
  refine ⟨h1.2.1, decide_eq_true ?_⟩
  simp only [PyData.depth]
  have := h1.2.2
  omega
theorem eqU_lu (a b : Lb) : eqU (lu a) (lu b) = decide (a = b) := by
  have h := eqU_si (lu a) (lu b) rfl rfl
  by_cases e : a = b
  · rw [e] at h ⊢
    rw [h.mpr rfl]
    simp
  · rw [decide_eq_false e]
    cases q : eqU (lu a) (lu b) with
    | false => rfl
    | true => exact absurd (lu_inj (h.mp q)) e
theorem any_lu (l : Lb) (ls : List Lb) : ((ls.map lu).any fun y => eqU y (lu l)) = decide (l ∈ ls) := by
  induction ls with
  | nil => simp
  | cons x xs ih =>
    rw [List.map_cons, List.any_cons, ih, eqU_lu]
    by_cases h : x = l
    · subst h; simp
    · have h' : ¬ l = x := fun e => h e.symm
      simp [h, h']
theorem inR_lu {n : Nat} {l : Lb} {ls : List Lb} (h : S[n]? = some (.lst (ls.map lu))) : inR (lu l) (.loc n) S = some (decide (l ∈ ls)) := by
  have ho := ok_lu l
  have e := any_lu l ls
  unfold lu at ho e ⊢
  unfold inR
  simp only [items?, list?, h]
  rw [if_neg (by simp [flatU]), if_pos (by rw [ho]; exact oks_lu ls)]
  exact congrArg some e
theorem notin_lu {n : Nat} {l : Lb} {ls : List Lb} (h : S[n]? = some (.lst (ls.map lu))) : cmpU .notIn (lu l) (.loc n) S = .ok (.bl (decide (l ∉ ls))) S := by
  unfold cmpU cmpB
  rw [inR_lu h]
  simp
theorem in_lu {n : Nat} {l : Lb} {ls : List Lb} (h : S[n]? = some (.lst (ls.map lu))) : cmpU .in_ (lu l) (.loc n) S = .ok (.bl (decide (l ∈ ls))) S := by
  unfold cmpU cmpB
  rw [inR_lu h]
theorem foldl_len (xs : List Ck) (f : List Lb) : (xs.foldl (fun f s => mg f s.lbs) f).length ≤ f.length + (xs.map Ck.sz).sum := by
  induction xs generalizing f with
  | nil => simp
  | cons x xs ih =>
    have h1 := ih (mg f x.lbs)
    have h2 := mg_len f x.lbs
    have h3 := lbs_len x
    simp only [List.foldl_cons, List.map_cons, List.sum_cons]
    omega
theorem part_sz {c : Ck} {done : List Ck} {a : Ck} {r : List Ck} (h : done ++ a :: r = c.sub) : (done.map Ck.sz).sum + a.sz < c.sz := by
  have e : (c.sub.map Ck.sz).sum + 1 = c.sz := by cases c <;> simp [Ck.sub, Ck.sz] <;> omega
  rw [← h] at e
  simp at e
  omega
theorem ty_app {n : Nat} {us : List U} (h : S[n]? = some (.lst us)) : tyB .append (.loc n) S = true := by
  unfold tyB
  simp only [list?, h, Option.isSome]
theorem app_loc {n : Nat} {us : List U} {u : U} (h : S[n]? = some (.lst us)) (hz : us.length < sizeLine) : bmU .append (.loc n) [u] S = .ok .non (S.set n (.lst (us ++ [u]))) := by
  show appendF (.loc n) [u] S = _
  unfold appendF
  simp only [h, if_pos hz]
end Pr

end

section
set_option maxHeartbeats 4000000
namespace Pr
open PySem L2 Oz
variable {S S' : Sto} {d : Nat}
/-! ### sizes and heights of the program -/
def CA : List (Str × U) := [("fun", .tup [.int 1, .int 2]), ("pair", .tup [.int 1, .int 2]), ("box", .tup [.int 1, .int 2]), ("give", .tup [.int 1]), ("take", .tup [.int 3])]
namespace Ck
def at_ : Ck → List Nat
  | fn _ _ => [1, 2] | pr _ _ => [1, 2] | bx _ _ => [1, 2] | give _ => [1] | take _ _ _ => [3] | _ => []
def its : Ck → List U
  | any => [.str "any"] | same g => [.str "same", .str g.nm] | fn s t => [.str "fun", cu s, cu t] | pr s t => [.str "pair", cu s, cu t] | bx s t => [.str "box", cu s, cu t]
  | give c => [.str "give", cu c] | fail g l h => [.str "fail", .str g.nm, lu l, .str h.nm] | take g l c => [.str "take", .str g.nm, lu l, cu c]
def dsub (c : Ck) : List Ck := if c.sub.take 1 = c.sub.drop 1 then c.sub.take 1 else c.sub
end Ck
theorem cu_its (c : Ck) : cu c = .tup c.its := by cases c <;> rfl
def iN (k : Nat) : U := .int (k : Nat)
theorem cat_lt (c : Ck) {k : Nat} (h : k ∈ c.at_) : k < c.its.length := by cases c <;> simp [Ck.at_] at h <;> simp [Ck.its] <;> omega
theorem cat_sub (c : Ck) : c.at_.map (fun k => c.its.getD k .non) = c.sub.map cu := by cases c <;> rfl
theorem get_getD {us : List U} {k : Nat} (h : k < us.length) : us[k]? = some (us.getD k .non) := by simp [h]
theorem oks_cu {cs : List Ck} (h : ∀ c ∈ cs, c.dp ≤ 50) : okUs (cs.map cu) = true := by
  have h1 : purUs (cs.map cu) = true ∧ PyData.canLayAll0 (pdUs (cs.map cu)) = true ∧ PyData.depthAll (pdUs (cs.map cu)) ≤ 51 := by
    induction cs with
    | nil => exact ⟨rfl, rfl, Nat.zero_le _⟩
    | cons c cs ih =>
      obtain ⟨a, b, e⟩ := ih fun x hx => h x (List.mem_cons_of_mem _ hx)
      have e1 := pur_cu c
      have e2 := lay_cu c
      have e3 := dep_cu c
      have e4 := h c List.mem_cons_self
      simp only [List.map_cons, purUs, pdUs, PyData.canLayAll0, PyData.depthAll, a, b, e1, e2, Bool.and_self, true_and]
      omega
  unfold okUs SeqAt.shaped
  rw [h1.1, Bool.true_and, Bool.and_eq_true]
  refine ⟨h1.2.1, decide_eq_true ?_⟩
  simp only [PyData.depth]
  have := h1.2.2
  omega
theorem eqUs_cu : ∀ as bs : List Ck, eqUs (as.map cu) (bs.map cu) = decide (as = bs)
  | [], bs => by cases bs <;> simp [eqUs]
  | a :: as, bs => by
    cases bs with
    | nil => simp [eqUs]
    | cons b bs =>
      rw [List.map_cons, List.map_cons]
      simp only [eqUs]
      rw [eqU_cu, eqUs_cu as bs]
      by_cases h1 : a = b <;> by_cases h2 : as = bs <;> simp [h1, h2]
theorem eq_lists {m n : Nat} {as bs : List Ck} (h1 : S[m]? = some (.lst (as.map cu))) (h2 : S[n]? = some (.lst (bs.map cu))) (ha : ∀ c ∈ as, c.dp ≤ 50) (hb : ∀ c ∈ bs, c.dp ≤ 50) : cmpU .eq (.loc m) (.loc n) S = .ok (.bl (decide (as = bs))) S := by
  have e : eqR (.loc m) (.loc n) S = some (decide (as = bs)) := by
    unfold eqR
    simp only [list?, h1, h2, oks_cu ha, oks_cu hb, Bool.and_self, if_true, eqUs_cu]
  unfold cmpU cmpB
  rw [e]
theorem cut_take (us : List U) : cutA us none (some 1) = us.take 1 := by
  unfold cutA
  rw [HT.sIx_none, Nat.sub_zero, List.drop_zero]
  unfold HT.sIx
  dsimp only
  rw [if_neg (by decide)]
  cases us with
  | nil => rfl
  | cons u us => rw [show min (Int.toNat 1) (u :: us).length = 1 by simp]
theorem cut_drop (us : List U) : cutA us (some 1) none = us.drop 1 := by
  unfold cutA
  rw [HT.sIx_none]
  unfold HT.sIx
  dsimp only
  rw [if_neg (by decide)]
  cases us with
  | nil => rfl
  | cons u us =>
    rw [show min (Int.toNat 1) (u :: us).length = 1 by simp]
    exact List.take_of_length_le (by simp)
theorem sl_loc {m : Nat} {us : List U} {lo hi : Option Int} (h : S[m]? = some (.lst us)) : slU (.loc m) lo hi S = .ok (.loc S.length) (S ++ [Cel.lst (cutA us lo hi)]) := by
  show (match list? S (.loc m) with | some xs => R.ok (U.loc S.length) (S ++ [Cel.lst (cutA xs lo hi)]) | none => .bad) = _
  simp only [list?, h]
theorem sub_dp' {c s : Ck} (hc : c.dp ≤ 50) (h : s ∈ c.sub) : s.dp ≤ 50 := by have := Ck.sub_dp h; omega
namespace Ck
theorem dsub_mem {c s : Ck} (h : s ∈ c.dsub) : s ∈ c.sub := by
  unfold dsub at h
  split at h
  · exact List.mem_of_mem_take h
  · exact h
theorem dsub_len (c : Ck) : c.dsub.length ≤ 2 := by
  have := c.sub_len
  unfold dsub
  split
  · rw [List.length_take]; omega
  · exact this
theorem dsub_two (c : Ck) : (c.dsub = c.sub) ∨ ∃ s, c.sub = [s, s] ∧ c.dsub = [s] := by
  unfold dsub
  by_cases h : c.sub.take 1 = c.sub.drop 1
  · rw [if_pos h]
    cases c with
    | fn s t => simp [sub] at h; subst h; exact .inr ⟨_, rfl, rfl⟩
    | pr s t => simp [sub] at h; subst h; exact .inr ⟨_, rfl, rfl⟩
    | bx s t => simp [sub] at h; subst h; exact .inr ⟨_, rfl, rfl⟩
    | give s => simp [sub] at h
    | take g l s => simp [sub] at h
    | _ => exact .inl rfl
  · rw [if_neg h]; exact .inl rfl
end Ck
end Pr

end

section
set_option maxHeartbeats 4000000
namespace Pr
open PySem L2 Oz
variable {S S' : Sto} {d : Nat}
/-! ### is it a check? -/
def lok (l : Lb) : Prop := 0 ≤ l.1 ∧ 0 ≤ l.2 ∧ l.2 < 2
theorem k_tt : kitB "tuple" "tuple" = some true := by decide +kernel
theorem k_ss : kitB "str" "str" = some true := by decide +kernel
theorem k_ii : kitB "int" "int" = some true := by decide +kernel
theorem k_ib : kitB "int" "bool" = some false := by decide +kernel
theorem lenT (us : List U) : bfU .len [.tup us] S = .ok (.int us.length) S := rfl
def LG : List (Str × U) := [("any", .int 1), ("same", .int 2), ("fun", .int 3), ("pair", .int 3), ("box", .int 3), ("give", .int 2), ("fail", .int 4), ("take", .int 4)]
theorem g_LG (d : Nat) : (pg.cal d).gd "LENGTHS" = some LG := by rw [cal_gd]; rfl
theorem lg_at (c : Ck) : LG.lookup c.hd = some (.int c.its.length) := by cases c <;> rfl
def HE : U := .tup [.str "any", .str "give", .str "fail", .str "take", .str "same", .str "fun", .str "pair", .str "box"]
def PH : U := .tup [.str "same", .str "fun", .str "pair", .str "box"]
def TH : U := .tup [.str "same", .str "fun", .str "pair", .str "box", .str "give", .str "fail"]
theorem g_HE (d : Nat) : (pg.cal d).glo "HEADS" = some HE := by rw [cal_glo]; rfl
theorem g_PH (d : Nat) : (pg.cal d).glo "PLAIN_HEADS" = some PH := by rw [cal_glo]; rfl
theorem g_TH (d : Nat) : (pg.cal d).glo "TAKEN_HEADS" = some TH := by rw [cal_glo]; rfl
theorem g_MH (d : Nat) : (pg.cal d).glo "MOST_HEIGHT" = some (.int 60) := by rw [cal_glo]; rfl
theorem in_HE (c : Ck) : cmpU .notIn (.str c.hd) HE S = .ok (.bl false) S := by cases c <;> rfl
theorem in_PH {c : Ck} (h : c.pl = true) : cmpU .notIn (.str c.hd) PH S = .ok (.bl false) S := by
  cases c <;> first | exact absurd (show false = true from h) Bool.false_ne_true | rfl
end Pr

end

section
set_option maxHeartbeats 4000000
namespace Pr
open PySem L2 Oz
variable {S S' : Sto} {d : Nat}
/-! ### plain data -/
def gdB (u : U) : Bool := purU u && ((pdU u).canLay0 && ((pdU u).showable && (pdU u).leavesShort 13))
def gsB (us : List U) : Bool := purUs us && (PyData.canLayAll0 (pdUs us) && (PyData.showableAll (pdUs us) && PyData.leavesShortAll 13 (pdUs us)))
theorem gd_tup (us : List U) : gdB (.tup us) = gsB us := by simp [gdB, gsB, purU, pdU, PyData.canLay0, PyData.showable, PyData.leavesShort]
theorem gs_cons (u : U) (us : List U) : gsB (u :: us) = (gdB u && gsB us) := by
  simp only [gdB, gsB, purUs, pdUs, PyData.canLayAll0, PyData.showableAll, PyData.leavesShortAll]
  cases purU u <;> cases purUs us <;> cases (pdU u).canLay0 <;> cases (pdU u).showable <;> cases (pdU u).leavesShort 13 <;> simp
theorem gs_nil' : gsB [] = true := rfl
theorem gd_num : ∀ n : Fin 99, gdB (.int (n.val : Nat)) = true := by decide +kernel
theorem gd_nm : ∀ g : Gd, gdB (.str g.nm) = true ∧ (pdU (.str g.nm)).bulk ≤ 4 := by
  intro g; cases g <;> decide +kernel
theorem gd_lit : ∀ s ∈ (["any", "same", "fun", "pair", "box", "give", "fail", "take"] : List Str), gdB (.str s) = true ∧ (pdU (.str s)).bulk ≤ 4 := by decide +kernel
/-- the law's labels -/
def low (l : Lb) : Prop := 0 ≤ l.1 ∧ l.1 < 99 ∧ 0 ≤ l.2 ∧ l.2 < 2
theorem gd_int {i : Int} (h0 : 0 ≤ i) (h1 : i < 99) : gdB (.int i) = true := by
  obtain ⟨n, rfl⟩ := Int.eq_ofNat_of_zero_le h0
  exact gd_num ⟨n, by omega⟩
theorem gd_lu {l : Lb} (h : low l) : gdB (lu l) = true := by
  simp only [lu, gd_tup, gs_cons, gs_nil', gd_int h.1 h.2.1, gd_int h.2.2.1 (show l.2 < 99 by have := h.2.2.2; omega), Bool.and_self]
theorem low_lok {l : Lb} (h : low l) : lok l := ⟨h.1, h.2.2.1, h.2.2.2⟩
theorem low_tn {l : Lb} (h : low l) : low (tn l) := by
  obtain ⟨a, b, c, e⟩ := h
  exact ⟨a, b, by simp only [tn]; omega, by simp only [tn]; omega⟩
theorem gd_cu : ∀ c : Ck, (∀ l ∈ c.ls, low l) → gdB (cu c) = true
  | .any, _ => by decide +kernel
  | .same g, _ => by cases g <;> decide +kernel
  | .fail g l k, h => by
    have h1 := gd_lu (h l (by simp [Ck.ls]))
    simp only [cu, gd_tup, gs_cons, gs_nil', (gd_nm g).1, (gd_nm k).1, h1, (gd_lit "fail" (by simp)).1, Bool.and_self]
  | .fn s t, h => by
    have h1 := gd_cu s fun l hl => h l (by simp [Ck.ls, hl]); have h2 := gd_cu t fun l hl => h l (by simp [Ck.ls, hl])
    simp only [cu, gd_tup, gs_cons, gs_nil', h1, h2, (gd_lit "fun" (by simp)).1, Bool.and_self]
  | .pr s t, h => by
    have h1 := gd_cu s fun l hl => h l (by simp [Ck.ls, hl]); have h2 := gd_cu t fun l hl => h l (by simp [Ck.ls, hl])
    simp only [cu, gd_tup, gs_cons, gs_nil', h1, h2, (gd_lit "pair" (by simp)).1, Bool.and_self]
  | .bx s t, h => by
    have h1 := gd_cu s fun l hl => h l (by simp [Ck.ls, hl]); have h2 := gd_cu t fun l hl => h l (by simp [Ck.ls, hl])
    simp only [cu, gd_tup, gs_cons, gs_nil', h1, h2, (gd_lit "box" (by simp)).1, Bool.and_self]
  | .give c, h => by
    have h1 := gd_cu c fun l hl => h l (by simpa [Ck.ls] using hl)
    simp only [cu, gd_tup, gs_cons, gs_nil', h1, (gd_lit "give" (by simp)).1, Bool.and_self]
  | .take g l c, h => by
    have h1 := gd_cu c fun l hl => h l (by simp [Ck.ls, hl])
    have h2 := gd_lu (h l (by simp [Ck.ls]))
    simp only [cu, gd_tup, gs_cons, gs_nil', h1, h2, (gd_nm g).1, (gd_lit "take" (by simp)).1, Bool.and_self]
theorem bulk_cu : ∀ c : Ck, (pdU (cu c)).bulk ≤ 20 * c.sz
  | .any => by have := (gd_lit "any" (by simp)).2; simp only [cu, pdU, pdUs, PyData.bulk, PyData.bulkAll, Ck.sz] at *; omega
  | .same g => by have := (gd_lit "same" (by simp)).2; have := (gd_nm g).2; simp only [cu, pdU, pdUs, PyData.bulk, PyData.bulkAll, Ck.sz] at *; omega
  | .fail g l k => by have := (gd_lit "fail" (by simp)).2; have := (gd_nm g).2; have := (gd_nm k).2; simp only [cu, lu, pdU, pdUs, PyData.bulk, PyData.bulkAll, Ck.sz] at *; omega
  | .fn s t => by have := (gd_lit "fun" (by simp)).2; have := bulk_cu s; have := bulk_cu t; simp only [cu, pdU, pdUs, PyData.bulk, PyData.bulkAll, Ck.sz] at *; omega
  | .pr s t => by have := (gd_lit "pair" (by simp)).2; have := bulk_cu s; have := bulk_cu t; simp only [cu, pdU, pdUs, PyData.bulk, PyData.bulkAll, Ck.sz] at *; omega
  | .bx s t => by have := (gd_lit "box" (by simp)).2; have := bulk_cu s; have := bulk_cu t; simp only [cu, pdU, pdUs, PyData.bulk, PyData.bulkAll, Ck.sz] at *; omega
  | .give c => by have := (gd_lit "give" (by simp)).2; have := bulk_cu c; simp only [cu, pdU, pdUs, PyData.bulk, PyData.bulkAll, Ck.sz] at *; omega
  | .take g l c => by have := (gd_lit "take" (by simp)).2; have := (gd_nm g).2; have := bulk_cu c; simp only [cu, lu, pdU, pdUs, PyData.bulk, PyData.bulkAll, Ck.sz] at *; omega
/-! ### labels and sizes of what is joined -/
theorem jn_ls : ∀ (n : Nat) {s t : Ck} {a b c : Ty}, s.sz + t.sz ≤ n → Tk s a b → Tk t b c → ∀ l ∈ (jn s t).ls, l ∈ s.ls ∨ l ∈ t.ls
  | 0, s, t, a, b, c, h, _, _ => absurd s.sz_pos (by omega)
  | n + 1, s, t, a, b, c, h, hs, ht => by
    intro l hl
    by_cases ha : a = .any
    · subst ha
      rcases hs.of_any with ⟨rfl, rfl⟩ | ⟨g, l', i, rfl, hi⟩
      · rw [jn] at hl; exact .inr hl
      · rw [jn] at hl
        simp only [Ck.ls, List.mem_cons] at hl ⊢
        rcases hl with rfl | hl
        · exact .inl (.inl rfl)
        · rcases jn_ls n (by simp only [Ck.sz] at h; omega) hi ht l hl with q | q
          · exact .inl (.inr q)
          · exact .inr q
    · rcases hs.next ha with hp | ⟨i, rfl, rfl, hip, hi⟩ | ⟨l', k, rfl, hk⟩
      · obtain ⟨_, hb, hab⟩ := hs.plain hp
        rcases ht.next hb with hq | ⟨j, rfl, rfl, hjp, hj⟩ | ⟨l', k, rfl, hk⟩
        · rcases pl_kinds hs ht hp hq with ⟨g, rfl, rfl, rfl, e⟩ | ⟨s1, t1, s2, t2, rfl, rfl, e, a1, a2, b1, b2, e1, e2, rfl, rfl, rfl, h1, h2, h3, h4⟩ | ⟨s1, t1, s2, t2, rfl, rfl, e, a1, a2, b1, b2, e1, e2, rfl, rfl, rfl, h1, h2, h3, h4⟩ | ⟨s1, t1, s2, t2, rfl, rfl, e, a1, b1, e1, rfl, rfl, rfl, h1, h2, h3, h4⟩
          · rw [e] at hl; simp [Ck.ls] at hl
          · rw [e] at hl
            simp only [Ck.ls, List.mem_append] at hl ⊢
            rcases hl with hl | hl
            · rcases jn_ls n (by simp only [Ck.sz] at h; omega) h1 h3 l hl with q | q
              · exact .inl (.inl q)
              · exact .inr (.inl q)
            · rcases jn_ls n (by simp only [Ck.sz] at h; omega) h2 h4 l hl with q | q
              · exact .inl (.inr q)
              · exact .inr (.inr q)
          · rw [e] at hl
            simp only [Ck.ls, List.mem_append] at hl ⊢
            rcases hl with hl | hl
            · rcases jn_ls n (by simp only [Ck.sz] at h; omega) h3 h1 l hl with q | q
              · exact .inr (.inl q)
              · exact .inl (.inl q)
            · rcases jn_ls n (by simp only [Ck.sz] at h; omega) h2 h4 l hl with q | q
              · exact .inl (.inr q)
              · exact .inr (.inr q)
          · rw [e] at hl
            simp only [Ck.ls, List.mem_append] at hl ⊢
            rcases hl with hl | hl
            · rcases jn_ls n (by simp only [Ck.sz] at h; omega) h3 h1 l hl with q | q
              · exact .inr (.inl q)
              · exact .inl (.inl q)
            · rcases jn_ls n (by simp only [Ck.sz] at h; omega) h2 h4 l hl with q | q
              · exact .inl (.inr q)
              · exact .inr (.inr q)
        · rw [jn_give hp] at hl
          simp only [Ck.ls] at hl ⊢
          exact jn_ls n (by simp only [Ck.sz] at h; omega) hs hj l hl
        · rw [jn_fail hp] at hl; exact .inr hl
      · rcases ht.of_any with ⟨rfl, rfl⟩ | ⟨g, l', j, rfl, hj⟩
        · rw [jn] at hl; exact .inl hl
        · rw [jn, (hi.src ha).1] at hl
          by_cases hg : a.gd = g
          · rw [if_pos hg] at hl
            rw [← hg] at hj
            rcases jn_ls n (by simp only [Ck.sz] at h; omega) hi hj l hl with q | q
            · exact .inl q
            · exact .inr (by simp [Ck.ls, q])
          · rw [if_neg hg] at hl
            simp only [Ck.ls, List.mem_cons, List.not_mem_nil, or_false] at hl ⊢
            exact .inr (.inl hl)
      · rw [jn] at hl; exact .inl hl
mutual
theorem ls_T : ∀ (a : Ty) (l : Lb), (∀ x ∈ (chkT a l).ls, x = l ∨ x = tn l)
  | .any, _ => by simp [chkT, Ck.ls]
  | .int, l => by simp [chkT, Ck.ls]
  | .bool, l => by simp [chkT, Ck.ls]
  | .unit, l => by simp [chkT, Ck.ls]
  | .fn a b, l => by
    intro x hx
    simp only [chkT, Ck.ls, List.mem_cons, List.mem_append] at hx
    rcases hx with rfl | hx | hx
    · exact .inl rfl
    · rcases ls_F a (tn l) x hx with q | q
      · exact .inr q
      · exact .inl (by rw [q]; simp [tn]; rw [Int.sub_sub_self])
    · exact ls_T b l x hx
  | .pr a b, l => by
    intro x hx
    simp only [chkT, Ck.ls, List.mem_cons, List.mem_append] at hx
    rcases hx with rfl | hx | hx
    · exact .inl rfl
    · exact ls_T a l x hx
    · exact ls_T b l x hx
  | .bx a, l => by
    intro x hx
    simp only [chkT, Ck.ls, List.mem_cons, List.mem_append] at hx
    rcases hx with rfl | hx | hx
    · exact .inl rfl
    · rcases ls_F a (tn l) x hx with q | q
      · exact .inr q
      · exact .inl (by rw [q]; simp [tn]; rw [Int.sub_sub_self])
    · exact ls_T a l x hx
theorem ls_F : ∀ (a : Ty) (l : Lb), (∀ x ∈ (chkF a l).ls, x = l ∨ x = tn l)
  | .any, _ => by simp [chkF, Ck.ls]
  | .int, l => by simp [chkF, Ck.ls]
  | .bool, l => by simp [chkF, Ck.ls]
  | .unit, l => by simp [chkF, Ck.ls]
  | .fn a b, l => by
    intro x hx
    simp only [chkF, Ck.ls, List.mem_append] at hx
    rcases hx with hx | hx
    · rcases ls_T a (tn l) x hx with q | q
      · exact .inr q
      · exact .inl (by rw [q]; simp [tn]; rw [Int.sub_sub_self])
    · exact ls_F b l x hx
  | .pr a b, l => by
    intro x hx
    simp only [chkF, Ck.ls, List.mem_append] at hx
    rcases hx with hx | hx
    · exact ls_F a l x hx
    · exact ls_F b l x hx
  | .bx a, l => by
    intro x hx
    simp only [chkF, Ck.ls, List.mem_append] at hx
    rcases hx with hx | hx
    · rcases ls_T a (tn l) x hx with q | q
      · exact .inr q
      · exact .inl (by rw [q]; simp [tn]; rw [Int.sub_sub_self])
    · exact ls_F a l x hx
end
theorem tn_tn (l : Lb) : tn (tn l) = l := by
  show (l.1, 1 - (1 - l.2)) = l
  rw [Int.sub_sub_self]
theorem chk_ls : ∀ (n : Nat) {a b : Ty} {l : Lb}, a.dep + b.dep ≤ n → fits a b = true → ∀ x ∈ (chk a b l).ls, x = l ∨ x = tn l
  | 0, a, b, l, h, _ => absurd a.dep_pos (by omega)
  | n + 1, a, b, l, h, hf => by
    intro x hx
    by_cases na : a = .any
    · subst na; rw [any_chk] at hx; exact ls_T b l x hx
    by_cases nb : b = .any
    · subst nb; rw [chk_any] at hx; exact ls_F a l x hx
    cases a with
    | any => exact absurd rfl na
    | fn a1 a2 =>
      cases b with
      | fn b1 b2 =>
        simp only [fits, Bool.and_eq_true] at hf
        simp only [Ty.dep] at h
        rw [chk] at hx
        simp only [Ck.ls, List.mem_append] at hx
        rcases hx with hx | hx
        · rcases chk_ls n (by omega) (fits_symm hf.1) x hx with q | q
          · exact .inr q
          · exact .inl (by rw [q, tn_tn])
        · exact chk_ls n (by omega) hf.2 x hx
      | any => exact absurd rfl nb
      | _ => exact absurd (show false = true from hf) Bool.false_ne_true
    | pr a1 a2 =>
      cases b with
      | pr b1 b2 =>
        simp only [fits, Bool.and_eq_true] at hf
        simp only [Ty.dep] at h
        rw [chk] at hx
        simp only [Ck.ls, List.mem_append] at hx
        rcases hx with hx | hx
        · exact chk_ls n (by omega) hf.1 x hx
        · exact chk_ls n (by omega) hf.2 x hx
      | any => exact absurd rfl nb
      | _ => exact absurd (show false = true from hf) Bool.false_ne_true
    | bx a1 =>
      cases b with
      | bx b1 =>
        simp only [fits] at hf
        simp only [Ty.dep] at h
        rw [chk] at hx
        simp only [Ck.ls, List.mem_append] at hx
        rcases hx with hx | hx
        · rcases chk_ls n (by omega) (fits_symm hf) x hx with q | q
          · exact .inr q
          · exact .inl (by rw [q, tn_tn])
        · exact chk_ls n (by omega) hf x hx
      | any => exact absurd rfl nb
      | _ => exact absurd (show false = true from hf) Bool.false_ne_true
    | _ => cases b <;> first | exact absurd rfl nb | exact absurd (show false = true from hf) Bool.false_ne_true | (rw [chk] at hx; simp [Ck.ls] at hx)
theorem tk_sz {c : Ck} {a b : Ty} (h : Tk c a b) : c.sz + 3 ≤ 3 * 2 ^ c.ht ∧ (a ≠ .any → c.sz + 4 ≤ 3 * 2 ^ c.ht) ∧ (c.pl = true → c.sz + 5 ≤ 3 * 2 ^ c.ht) := by
  have two : ∀ x y : Nat, 2 ^ (1 + max x y) = 2 * 2 ^ max x y := fun x y => by rw [Nat.add_comm, Nat.pow_succ, Nat.mul_comm]
  have mono : ∀ {x y : Nat}, x ≤ y → 2 ^ x ≤ 2 ^ y := fun h => Nat.pow_le_pow_right (by decide) h
  induction h with
  | any => exact ⟨by decide, fun h => absurd rfl h, fun h => by cases h⟩
  | @same g hg => exact ⟨by simp [Ck.sz, Ck.ht], fun _ => by simp [Ck.sz, Ck.ht], fun _ => by simp [Ck.sz, Ck.ht]⟩
  | @fn s t _ _ _ _ _ _ ih1 ih2 =>
    have h1 := ih1.1; have h2 := ih2.1
    have m1 := mono (Nat.le_max_left s.ht t.ht); have m2 := mono (Nat.le_max_right s.ht t.ht)
    simp only [Ck.sz, Ck.ht, two]
    exact ⟨by omega, fun _ => by omega, fun _ => by omega⟩
  | @pr s t _ _ _ _ _ _ ih1 ih2 =>
    have h1 := ih1.1; have h2 := ih2.1
    have m1 := mono (Nat.le_max_left s.ht t.ht); have m2 := mono (Nat.le_max_right s.ht t.ht)
    simp only [Ck.sz, Ck.ht, two]
    exact ⟨by omega, fun _ => by omega, fun _ => by omega⟩
  | @bx s t _ _ _ _ ih1 ih2 =>
    have h1 := ih1.1; have h2 := ih2.1
    have m1 := mono (Nat.le_max_left s.ht t.ht); have m2 := mono (Nat.le_max_right s.ht t.ht)
    simp only [Ck.sz, Ck.ht, two]
    exact ⟨by omega, fun _ => by omega, fun _ => by omega⟩
  | give h1 h2 _ ih =>
    have := ih.2.2 h2
    simp only [Ck.sz, Ck.ht]
    exact ⟨by omega, fun _ => by omega, fun h => by cases h⟩
  | fail _ _ => exact ⟨by simp [Ck.sz, Ck.ht], fun _ => by simp [Ck.sz, Ck.ht], fun h => by cases h⟩
  | @take g l c b _ ih =>
    have := ih.2.1 (gty_ne g)
    simp only [Ck.sz, Ck.ht]
    exact ⟨by omega, fun h => absurd rfl h, fun h => by cases h⟩
end Pr

end

section
set_option maxHeartbeats 4000000
namespace Pr
open PySem L2 Oz
variable {S S' : Sto} {d st cl : Nat}
/-! ### the chain -/
theorem take_ev {m : Int} {Φ : Cal} {env : Oz.Env} {i : Nat} (h : env[i]? = some (some (.loc st))) (T : Dc Φ st cl "_law_take" [.loc st, .int m] (PI m)) (hs : HasSt S st cl) : ∃ v S1, ev Φ (.call "_law_take" (.cons (.v i) (.cons (.k (.int m)) .nil))) env S = .ok (.int v) S1 ∧ 0 ≤ v ∧ v < m ∧ HasSt S1 st cl ∧ F2 S S1 st cl := by
  obtain ⟨u, S1, e, ⟨v, rfl, a, b⟩, c, f⟩ := T S hs
  exact ⟨v, S1, by rw [ev_call, evs_cons, ev_v' h, bind_ok, evs_cons, ev_k, bind_ok, evs_nil, bind_ok, bind_ok, bind_ok, e], a, b, c, f⟩
def C1 : Sts := (.cons (.set false [4] (.ix (.v 2) (.bin .sub (.bf .len (.cons (.v 2) .nil)) (.k (.int 1))))) (.cons (.if_ (.e (.cmp .eq (.call "_law_take" (.cons (.v 0) (.cons (.k (.int 4)) .nil))) (.k (.int 0)))) (.cons (.ex (.bm .append (.v 2) (.cons (.tup (.cons (.k (.str "any")) .nil)) .nil))) .nil) (.cons (.ex (.bm .append (.v 2) (.cons (.call "_law_partner" (.cons (.v 0) (.cons (.v 4) (.cons (.k (.int 2)) .nil)))) .nil))) .nil)) .nil))
def C2 : Sts := (.cons (.ex (.bm .append (.v 5) (.cons (.call "_law_check" (.cons (.ix (.v 2) (.v 3)) (.cons (.ix (.v 2) (.bin .add (.v 3) (.k (.int 1)))) (.cons (.call "_law_take" (.cons (.v 0) (.cons (.k (.int 50)) .nil))) (.cons (.call "_law_take" (.cons (.v 0) (.cons (.k (.int 2)) .nil))) .nil))))) .nil))) .nil)
def Ok4 (ts : List Ty) : Prop := (∀ t ∈ ts, t.dep ≤ 4) ∧ ∀ k a b, ts[k]? = some a → ts[k + 1]? = some b → fits a b = true
theorem ok4_push {pre : List Ty} {last f : Ty} (h : Ok4 (pre ++ [last])) (hf : f.dep ≤ 4) (hff : fits last f = true) : Ok4 (pre ++ [last] ++ [f]) := by
  refine ⟨fun t ht => ?_, fun k a b ha hb => ?_⟩
  · rcases List.mem_append.mp ht with ht | ht
    · exact h.1 t ht
    · simp at ht; rw [ht]; exact hf
  · have hk : k + 1 < (pre ++ [last] ++ [f]).length := (List.getElem?_eq_some_iff.mp hb).1
    simp at hk
    by_cases hk1 : k + 1 < (pre ++ [last]).length
    · rw [List.getElem?_append_left (by omega)] at ha
      rw [List.getElem?_append_left hk1] at hb
      exact h.2 k a b ha hb
    · simp at hk1
      have e : k = pre.length := by omega
      subst e
      rw [List.append_assoc, List.getElem?_append_right (Nat.le_refl _)] at ha
      rw [List.getElem?_append_right (by simp)] at hb
      simp at ha hb
      rw [← ha, ← hb]
      exact hff
theorem last_at (pre : List Ty) (last : Ty) : atI ((pre ++ [last]).map tu) ((((pre ++ [last]).map tu).length : Int) - 1) = some (tu last) := by
  have e : ((((pre ++ [last]).map tu).length : Nat) : Int) - 1 = (pre.length : Nat) := by simp
  rw [e]
  exact atI_nat_own (by simp)
theorem c1_eq {x1 x3 x4 x5 : Option U} {m : Nat} {pre : List Ty} {last : Ty} (hd : 12 ≤ d) (hp : pre.length ≤ 20) (h4 : Ok4 (pre ++ [last])) (hs : HasSt S st cl) (ht : S[m]? = some (.lst ((pre ++ [last]).map tu))) (n1 : m ≠ st) (n2 : m ≠ cl) :
    ∃ f x4' S', exs (pg.cal d) C1 [some (.loc st), x1, some (.loc m), x3, x4, x5] S = .nx [some (.loc st), x1, some (.loc m), x3, x4', x5] S' ∧ Ok4 (pre ++ [last] ++ [f]) ∧ HasSt S' st cl ∧ S'[m]? = some (.lst ((pre ++ [last] ++ [f]).map tu)) ∧ S.length ≤ S'.length := by
  unfold C1
  have hl : last.dep ≤ 4 := h4.1 last (by simp)
  rw [go_set (x := tu last) (S' := S) (by simp_arith only [len_loc ht, ix_loc ht, last_at])]
  obtain ⟨v, S1, e1, v0, v4, hs1, f1⟩ := take_ev (S := S) (i := 0) (env := [some (.loc st), x1, some (.loc m), x3, some (tu last), x5]) rfl (tk_of (d := d) (cl := cl) (m := 4) (by decide) (by decide) (by omega)) hs
  have hml : m < S.length := (List.getElem?_eq_some_iff.mp ht).1
  have ht1 : S1[m]? = some (.lst ((pre ++ [last]).map tu)) := (f1.2 m hml n1 n2).trans ht
  have hz : ((pre ++ [last]).map tu).length < sizeLine := by simp; exact Nat.lt_of_le_of_lt (show pre.length + 1 ≤ 21 by omega) (by decide)
  have et : evt (pg.cal d) (.e (.cmp .eq (.call "_law_take" (.cons (.v 0) (.cons (.k (.int 4)) .nil))) (.k (.int 0)))) [some (.loc st), x1, some (.loc m), x3, some (tu last), x5] S = .ok (decide (v = 0)) S1 := by
    rw [evt_e, ev_cmp, e1, bind_ok]; simp_arith only [true_and]
  have hset : ([some (U.loc st), x1, some (U.loc m), x3, x4, x5] : Oz.Env).set 4 (some (tu last)) = [some (.loc st), x1, some (.loc m), x3, some (tu last), x5] := rfl
  rw [hset, go_if et]
  by_cases hv : v = 0
  · rw [decide_eq_true hv, if_pos rfl]
    rw [go_ex (u := .non) (S' := S1.set m (.lst ((pre ++ [last]).map tu ++ [tu .any]))) (by simp_arith only [ty_app ht1, sz1]; exact app_loc (u := tu .any) ht1 hz), exs_nil, then_nx, exs_nil]
    refine ⟨.any, some (tu last), _, rfl, ok4_push h4 (by decide) (fits_any _), hs1.set n1 n2, ?_, by simp; exact f1.1⟩
    rw [List.getElem?_set_self (List.getElem?_eq_some_iff.mp ht1).1]; simp
  · rw [decide_eq_false hv, if_neg Bool.false_ne_true]
    obtain ⟨u, S2, e2, ⟨f, rfl, hf, hff⟩, hs2, f2⟩ := lpartner_eq (st := st) (cl := cl) 4 last 2 d hl (by decide) (by omega) S1 hs1
    have hml1 : m < S1.length := (List.getElem?_eq_some_iff.mp ht1).1
    have ht2 : S2[m]? = some (.lst ((pre ++ [last]).map tu)) := (f2.2 m hml1 n1 n2).trans ht1
    have hf4 : f.dep ≤ 4 := by simp at hf; omega
    rw [go_ex (u := .non) (S' := S2.set m (.lst ((pre ++ [last]).map tu ++ [tu f]))) (by simp_arith only [ty_app ht1, e2]; exact app_loc (u := tu f) ht2 hz), exs_nil, then_nx, exs_nil]
    refine ⟨f, some (tu last), _, rfl, ok4_push h4 hf4 hff, hs2.set n1 n2, ?_, by simp; exact Nat.le_trans f1.1 f2.1⟩
    rw [List.getElem?_set_self (List.getElem?_eq_some_iff.mp ht2).1]; simp
def Cks (ts : List Ty) (cs : List Ck) : Prop := ∀ k c, cs[k]? = some c → ∃ a b l, ts[k]? = some a ∧ ts[k + 1]? = some b ∧ c = chk a b l ∧ low l
theorem c2_eq {x1 x4 : Option U} {m n k : Nat} {ts : List Ty} {cs : List Ck} (hd : 12 ≤ d) (hk : cs.length = k) (hk2 : k + 1 < ts.length) (hz : k ≤ 20) (h4 : Ok4 ts) (hc : Cks ts cs) (hs : HasSt S st cl) (ht : S[m]? = some (.lst (ts.map tu))) (hn : S[n]? = some (.lst (cs.map cu))) (n1 : m ≠ st) (n2 : m ≠ cl) (n3 : n ≠ st) (n4 : n ≠ cl) (hmn : m ≠ n) :
    ∃ c S', exs (pg.cal d) C2 [some (.loc st), x1, some (.loc m), some (.int (0 + (k : Nat))), x4, some (.loc n)] S = .nx [some (.loc st), x1, some (.loc m), some (.int (0 + (k : Nat))), x4, some (.loc n)] S' ∧ Cks ts (cs ++ [c]) ∧ HasSt S' st cl ∧ S'[m]? = some (.lst (ts.map tu)) ∧ S'[n]? = some (.lst ((cs ++ [c]).map cu)) := by
  unfold C2
  obtain ⟨a, ha⟩ : ∃ a, ts[k]? = some a := ⟨ts[k], List.getElem?_eq_getElem (by omega)⟩
  obtain ⟨b, hb⟩ : ∃ b, ts[k + 1]? = some b := ⟨ts[k + 1], List.getElem?_eq_getElem hk2⟩
  have e0 : ((0 : Int) + (k : Nat)) = (k : Nat) := by omega
  have pa : atI (ts.map tu) ((0 : Int) + (k : Nat)) = some (tu a) := by rw [e0]; exact atI_nat_own (by rw [List.getElem?_map, ha]; rfl)
  have pb : atI (ts.map tu) ((0 : Int) + (k : Nat) + 1) = some (tu b) := by
    rw [e0, show ((k : Nat) : Int) + 1 = ((k + 1 : Nat) : Int) by omega]
    exact atI_nat_own (by rw [List.getElem?_map, hb]; rfl)
  obtain ⟨v, S1, e1, v0, v4, hs1, f1⟩ := take_ev (S := S) (i := 0) (env := [some (.loc st), x1, some (.loc m), some (.int (0 + (k : Nat))), x4, some (.loc n)]) rfl (tk_of (d := d) (cl := cl) (m := 50) (by decide) (by decide) (by omega)) hs
  obtain ⟨w, S2, e2, w0, w2, hs2, f2⟩ := take_ev (S := S1) (i := 0) (env := [some (.loc st), x1, some (.loc m), some (.int (0 + (k : Nat))), x4, some (.loc n)]) rfl (tk_of (d := d) (cl := cl) (m := 2) (by decide) (by decide) (by omega)) hs1
  have f12 := f1.trans f2
  have ht2 : S2[m]? = some (.lst (ts.map tu)) := (f12.2 m (List.getElem?_eq_some_iff.mp ht).1 n1 n2).trans ht
  have hn2 : S2[n]? = some (.lst (cs.map cu)) := (f12.2 n (List.getElem?_eq_some_iff.mp hn).1 n3 n4).trans hn
  have hff := h4.2 k a b ha hb
  have q := (lcheck_eq 4 (by decide)).2 a b (v, w) d S2 (h4.1 a (List.mem_of_getElem? ha)) (h4.1 b (List.mem_of_getElem? hb)) hff (by omega)
  have e3 : ev (pg.cal d) (.bm .append (.v 5) (.cons (.call "_law_check" (.cons (.ix (.v 2) (.v 3)) (.cons (.ix (.v 2) (.bin .add (.v 3) (.k (.int 1)))) (.cons (.call "_law_take" (.cons (.v 0) (.cons (.k (.int 50)) .nil))) (.cons (.call "_law_take" (.cons (.v 0) (.cons (.k (.int 2)) .nil))) .nil))))) .nil)) [some (.loc st), x1, some (.loc m), some (.int (0 + (k : Nat))), x4, some (.loc n)] S = .ok .non (S2.set n (.lst (cs.map cu ++ [cu (chk a b (v, w))]))) := by
    rw [ev_bm, ev_v' rfl, bind_ok, ty_app hn, if_pos rfl, evs_cons, ev_call, evs_cons, ev_ix, ev_v' rfl, bind_ok, ev_v' rfl, bind_ok, ix_loc ht, pa, bind_ok, evs_cons, ev_ix, ev_v' rfl, bind_ok, ev_bin, ev_v' rfl, bind_ok, ev_k, bind_ok, add_int, bind_ok, ix_loc ht, pb, bind_ok, evs_cons, e1, bind_ok, evs_cons, e2, bind_ok, evs_nil, bind_ok, bind_ok, bind_ok, bind_ok, bind_ok, q, bind_ok, evs_nil, bind_ok, bind_ok, app_loc hn2 (by rw [List.length_map, hk]; exact Nat.lt_of_le_of_lt hz (by decide))]
  refine ⟨chk a b (v, w), S2.set n (.lst (cs.map cu ++ [cu (chk a b (v, w))])), by rw [go_ex e3, exs_nil], fun j c hj => ?_, hs2.set n3 n4, by rw [List.getElem?_set_ne (Ne.symm hmn)]; exact ht2, ?_⟩
  · by_cases hjl : j < cs.length
    · rw [List.getElem?_append_left hjl] at hj
      exact hc j c hj
    · have hj1 := (List.getElem?_eq_some_iff.mp hj).1
      simp at hj1
      have ej : j = k := by omega
      rw [ej] at hj ⊢
      rw [← hk, List.getElem?_append_right (Nat.le_refl _)] at hj
      simp at hj
      exact ⟨a, b, (v, w), ha, hb, hj.symm, v0, by simp only; omega, w0, w2⟩
  · rw [List.getElem?_set_self (List.getElem?_eq_some_iff.mp hn2).1]; simp
theorem chain_eq {count : Int} (hd : 20 ≤ d) (h1 : 1 ≤ count) (h6 : count ≤ 10) (hs : HasSt S st cl) : ∃ m n ts cs S', (pg.cal d).call "_law_chain" [.loc st, .int count] S = .ok (.tup [.loc m, .loc n]) S' ∧ HasSt S' st cl ∧ S'[m]? = some (.lst (ts.map tu)) ∧ S'[n]? = some (.lst (cs.map cu)) ∧ Ok4 ts ∧ Cks ts cs ∧ cs.length = count.toNat ∧ ts.length = count.toNat + 1 := by
  obtain ⟨d, rfl⟩ : ∃ e, d = e + 1 := ⟨d - 1, by omega⟩
  rw [call_eq (df := ⟨2, 6, false, T__law_chain⟩) (by kernel_rfl), run_eq (by rfl)]
  show ∃ m n ts cs S', (exs (pg.cal d) T__law_chain [some (.loc st), some (.int count), none, none, none, none] S).fin = _ ∧ _
  unfold T__law_chain
  obtain ⟨v, S1, e1, v0, v3, hs1, f1⟩ := take_ev (S := S) (i := 0) (Φ := pg.cal d) (env := [some (.loc st), some (.int count), none, none, none, none]) rfl (tk_of (d := d) (cl := cl) (m := 3) (by decide) (by decide) (by omega)) hs
  obtain ⟨u, S2, e2, ⟨A, rfl, hA⟩, hs2, f2⟩ := ltype_eq (st := st) (cl := cl) 3 (1 + v) d (by omega) (by omega) S1 hs1
  rw [go_set (x := .loc S2.length) (S' := S2 ++ [.lst [tu A]]) (by
    rw [ev_lst, evs_cons, ev_call, evs_cons, ev_v' (u := .loc st) rfl, bind_ok, evs_cons, ev_bin, ev_k, bind_ok, e1, bind_ok, add_int, bind_ok, evs_nil, bind_ok, bind_ok, bind_ok, e2, bind_ok, evs_nil, bind_ok, bind_ok, if_pos (show [tu A].length ≤ sizeLine from (by decide : 1 ≤ sizeLine))])]
  obtain ⟨l1, l2⟩ := hs2.lt
  have n1 : S2.length ≠ st := by omega
  have n2 : S2.length ≠ cl := by omega
  have hs3 := hs2.gr (Gr.push (c := .lst [tu A]))
  have ht3 : (S2 ++ [Cel.lst [tu A]])[S2.length]? = some (.lst [tu A]) := last_get
  generalize hS3 : S2 ++ [Cel.lst [tu A]] = S3 at *
  generalize hty : S2.length = m at *
  -- the types
  have hrn : (count - 0).toNat = count.toNat := by omega
  obtain ⟨env', S4, e4, pre, last, x3, x4, he4, hlen, h4, hs4, ht4⟩ := forI_inv (tp := false) (is := [3]) (f := fun env S => exs (pg.cal d) C1 env S) (all := ranged 0 count) (src := none) (L := List.range count.toNat) (fu := fun k => U.int (0 + (k : Nat)))
    (fun done env S => ∃ pre last x3 x4, env = [some (.loc st), some (.int count), some (.loc m), x3, x4, none] ∧ pre.length = done.length ∧ Ok4 (pre ++ [last]) ∧ HasSt S st cl ∧ S[m]? = some (.lst ((pre ++ [last]).map tu)))
    (fun done env S _ => rfl)
    (fun done a r env S he ⟨pre, last, x3, x4, henv, hp, h4, hs, ht⟩ => by
      have hl : done.length ≤ 20 := by
        have := congrArg List.length he
        simp at this
        omega
      obtain ⟨f, x4', S', e, h4', hs', ht', _⟩ := c1_eq (d := d) (x1 := some (.int count)) (x3 := some (.int (0 + (a : Nat)))) (x4 := x4) (x5 := none) (by omega) (show pre.length ≤ 20 by omega) h4 hs ht n1 n2
      exact ⟨[some (.loc st), some (.int count), some (.loc m), some (.int (0 + (a : Nat))), x4, none], by rw [henv]; rfl, _, S', e, pre ++ [last], f, _, x4', rfl, by simp [hp], h4', hs', ht'⟩)
    (List.range count.toNat) [] [some (.loc st), some (.int count), some (.loc m), none, none, none] S3 rfl
    ⟨[], A, none, none, rfl, rfl, ⟨fun t ht => by simp at ht; rw [ht]; omega, fun k a b ha hb => by simp at hb⟩, hs3, ht3⟩
  simp at hlen
  have ee4 : ex (pg.cal d) (.forr 3 (.k (.int 0)) (.v 1) C1) [some (.loc st), some (.int count), some (.loc m), none, none, none] S3 = .nx env' S4 := by
    rw [ex, ev_k, on_ok, ev_v' (u := .int count) rfl, on_ok]
    simp only
    rw [if_pos (by omega)]
    have : (ranged 0 count) = (List.range count.toNat).map fun k => U.int (0 + (k : Nat)) := by unfold ranged; rw [hrn]
    rw [← this] at e4
    exact e4
  have e5 := ee4
  unfold C1 at e5
  rw [exs_cons]
  have hset : ([some (U.loc st), some (.int count), none, none, none, none] : Oz.Env).set 2 (some (.loc m)) = [some (.loc st), some (.int count), some (.loc m), none, none, none] := rfl
  rw [hset, e5, then_nx, he4]
  -- the checks
  rw [go_set (x := .loc S4.length) (S' := S4 ++ [.lst []]) rfl]
  have hml : m < S4.length := (List.getElem?_eq_some_iff.mp ht4).1
  obtain ⟨l3, l4⟩ := hs4.lt
  have n3 : S4.length ≠ st := by omega
  have n4 : S4.length ≠ cl := by omega
  have hmn : m ≠ S4.length := by omega
  have hs5 := hs4.gr (Gr.push (c := .lst []))
  have ht5 := (Gr.push (c := .lst [])).at_ ht4
  have hn5 : (S4 ++ [Cel.lst []])[S4.length]? = some (.lst []) := last_get
  generalize hS5 : S4 ++ [Cel.lst []] = S5 at *
  generalize hnn : S4.length = n at *
  have htl : (pre ++ [last]).length = count.toNat + 1 := by simp [hlen]
  obtain ⟨env6, S6, e6, cs, x3', he6, hc6, hcs6, hs6, ht6, hn6⟩ := forI_inv (tp := false) (is := [3]) (f := fun env S => exs (pg.cal d) C2 env S) (all := ranged 0 count) (src := none) (L := List.range count.toNat) (fu := fun k => U.int (0 + (k : Nat)))
    (fun done env S => ∃ cs x3, env = [some (.loc st), some (.int count), some (.loc m), x3, x4, some (.loc n)] ∧ cs.length = done.length ∧ Cks (pre ++ [last]) cs ∧ HasSt S st cl ∧ S[m]? = some (.lst ((pre ++ [last]).map tu)) ∧ S[n]? = some (.lst (cs.map cu)))
    (fun done env S _ => rfl)
    (fun done a r env S he ⟨cs, x3, henv, hl, hc, hs, ht, hn⟩ => by
      have ha : a = done.length := by
        have h1 := congrArg (fun l => l[done.length]?) he
        simp at h1
        have hlt : done.length < count.toNat := by
          have := congrArg List.length he
          simp at this
          omega
        rw [List.getElem?_range hlt] at h1
        simpa using h1
      have hlt : done.length < count.toNat := by
        have := congrArg List.length he
        simp at this
        omega
      obtain ⟨c, S', e, hc', hs', ht', hn'⟩ := c2_eq (d := d) (x1 := some (.int count)) (x4 := x4) (k := a) (by omega) (by omega) (by omega) (by omega) h4 hc hs ht hn n1 n2 n3 n4 hmn
      exact ⟨[some (.loc st), some (.int count), some (.loc m), some (.int (0 + (a : Nat))), x4, some (.loc n)], by rw [henv]; rfl, _, S', e, cs ++ [c], _, rfl, by simp [hl], hc', hs', ht', hn'⟩)
    (List.range count.toNat) [] [some (.loc st), some (.int count), some (.loc m), x3, x4, some (.loc n)] S5 rfl
    ⟨[], x3, rfl, rfl, fun k c h => by simp at h, hs5, ht5, hn5⟩
  simp at hc6
  have ee6 : ex (pg.cal d) (.forr 3 (.k (.int 0)) (.v 1) C2) [some (.loc st), some (.int count), some (.loc m), x3, x4, some (.loc n)] S5 = .nx env6 S6 := by
    rw [ex, ev_k, on_ok, ev_v' (u := .int count) rfl, on_ok]
    simp only
    rw [if_pos (by omega)]
    have : (ranged 0 count) = (List.range count.toNat).map fun k => U.int (0 + (k : Nat)) := by unfold ranged; rw [hrn]
    rw [← this] at e6
    exact e6
  have e7 := ee6
  unfold C2 at e7
  have hset2 : ([some (U.loc st), some (.int count), some (.loc m), x3, x4, none] : Oz.Env).set 5 (some (.loc n)) = [some (.loc st), some (.int count), some (.loc m), x3, x4, some (.loc n)] := rfl
  rw [exs_cons, hset2, e7, then_nx, he6]
  refine ⟨m, n, pre ++ [last], cs, S6, fin_of (go_ret ?_), hs6, ht6, hn6, h4, hcs6, hc6, htl⟩
  simp_arith only [sz2]
end Pr

end

section
set_option maxHeartbeats 4000000
namespace Pr
open PySem L2 Oz
variable {S S' : Sto} {d : Nat}
/-! ### any value as a check: what it is -/
def smn (u : U) : Bool := eqT (.str "int") u || (eqT (.str "bool") u || eqT (.str "unit") u)
def gnm (u : U) : Bool := match u with | .str x => (GT.lookup x).isSome | _ => false
def nmb (u : U) : Bool := match u with | .int i => decide (0 ≤ i) | _ => false
def labU (u : U) : Bool := match u with | .tup [a, .int b] => nmb a && (decide (0 ≤ b) && decide (b < 2)) | _ => false
inductive Vw where
  | no | any | same (a : U) | give (a : U) | fail (n l w : U) | take (n l x : U) | two (h : Str) (a b : U)
def vw : U → Vw
  | .tup (.str h :: r) => (match r with
    | [] => if h = ("any" : Str) then .any else .no
    | [a] => if h = ("same" : Str) then .same a else if h = ("give" : Str) then .give a else .no
    | [a, b] => if h = ("fun" : Str) then .two h a b else if h = ("pair" : Str) then .two h a b else if h = ("box" : Str) then .two h a b else .no
    | [a, b, c] => if h = ("fail" : Str) then .fail a b c else if h = ("take" : Str) then .take a b c else .no
    | _ => .no)
  | _ => .no
inductive Md where
  | H | P | T
  deriving DecidableEq
def sgf : Nat → U → U
  | 0, _ => .non
  | k + 1, u => match vw u with
    | .give a => sgf k a
    | .same a => a
    | .fail n _ _ => n
    | .two h _ _ => .str h
    | _ => .non
def gk : Nat → Md → U → Bool
  | 0, _, _ => false
  | k + 1, m, u => match vw u with
    | .no => false
    | .any => decide (m = .H)
    | .same a => smn a
    | .give a => decide (m ≠ .P) && gk k .P a
    | .fail n l w => decide (m ≠ .P) && (gnm n && (labU l && (gnm w && !(eqT n w))))
    | .take n l x => decide (m = .H) && (labU l && (gk k .T x && eqT (sgf k x) n))
    | .two _ a b => gk k .H a && gk k .H b
mutual
def hg : U → Nat
  | .tup us => hgs us + 1
  | _ => 1
def hgs : List U → Nat
  | [] => 0
  | u :: us => max (hg u) (hgs us)
end
theorem hg_pos (u : U) : 1 ≤ hg u := by cases u <;> simp [hg]
theorem hg_mem : ∀ {us : List U} {a : U}, a ∈ us → hg a ≤ hgs us
  | u :: us, a, h => by
    simp only [hgs]
    rcases List.mem_cons.mp h with rfl | h
    · omega
    · have := hg_mem h
      omega
theorem hg_in {us : List U} {a : U} (h : a ∈ us) : hg a < hg (.tup us) := by
  have := hg_mem h
  simp only [hg]
  omega
theorem okS_mem : ∀ {us : List U} {a : U}, okSs S us = true → a ∈ us → okS S a = true
  | u :: us, a, h, hm => by
    simp only [okSs, Bool.and_eq_true] at h
    rcases List.mem_cons.mp hm with rfl | hm
    · exact h.1
    · exact okS_mem h.2 hm
theorem okS_in {us : List U} {a : U} (h : okS S (.tup us) = true) (hm : a ∈ us) : okS S a = true := okS_mem (by simpa [okS] using h) hm
theorem okS_oth {u : U} (h : okS S u = true) : othB S u = true := by
  cases u with
  | loc n =>
    simp only [okS] at h
    simp only [othB]
    cases q : S[n]? with
    | none => rw [q] at h; cases h
    | some c => rw [q] at h; cases c <;> first | rfl | (simp at h)
  | _ => rfl
theorem kits : kitB "NoneType" "tuple" = some false ∧ kitB "bool" "tuple" = some false ∧ kitB "int" "tuple" = some false ∧ kitB "str" "tuple" = some false ∧ kitB "list" "tuple" = some false ∧ kitB "dict" "tuple" = some false := by decide +kernel
theorem kits2 : kitB "NoneType" "str" = some false ∧ kitB "bool" "str" = some false ∧ kitB "int" "str" = some false ∧ kitB "tuple" "str" = some false ∧ kitB "list" "str" = some false ∧ kitB "dict" "str" = some false := by decide +kernel
theorem kits3 : kitB "NoneType" "int" = some false ∧ kitB "bool" "int" = some true ∧ kitB "str" "int" = some false ∧ kitB "tuple" "int" = some false ∧ kitB "list" "int" = some false ∧ kitB "dict" "int" = some false ∧ kitB "bool" "bool" = some true := by decide +kernel
def isTu (u : U) : Bool := match u with | .tup _ => true | _ => false
def isSt (u : U) : Bool := match u with | .str _ => true | _ => false
theorem isi_t {e : E} {Φ : Cal} {env : Oz.Env} {u : U} (h : ev Φ e env S = .ok u S') (o : okS S' u = true) : ev Φ (.isi e "tuple") env S = .ok (.bl (isTu u)) S' ∧ ev Φ (.isi e "str") env S = .ok (.bl (isSt u)) S' := by
  rw [ev_isi, ev_isi, h, bind_ok, bind_ok]
  obtain ⟨a1, a2, a3, a4, a5, a6⟩ := kits
  obtain ⟨b1, b2, b3, b4, b5, b6⟩ := kits2
  cases u with
  | non => simp [tyU, a1, b1, isTu, isSt]
  | bl b => simp [tyU, a2, b2, isTu, isSt]
  | int b => simp [tyU, a3, b3, isTu, isSt]
  | str b => simp [tyU, a4, k_ss, isTu, isSt]
  | tup b => simp [tyU, k_tt, b4, isTu, isSt]
  | loc n =>
    simp only [okS] at o
    cases q : S'[n]? with
    | none => rw [q] at o; cases o
    | some c =>
      rw [q] at o
      cases c with
      | lst xs => simp [tyU, q, a5, b5, isTu, isSt]
      | fro xs => simp [tyU, q, a5, b5, isTu, isSt]
      | dic xs => simp [tyU, q, a6, b6, isTu, isSt]
      | ins _ _ => cases o
def intI (u : U) : Bool := match u with | .int _ => true | _ => false
def isBl (u : U) : Bool := match u with | .bl _ => true | _ => false
theorem isi_i {e : E} {Φ : Cal} {env : Oz.Env} {u : U} (h : ev Φ e env S = .ok u S') (o : okS S' u = true) : ev Φ (.isi e "int") env S = .ok (.bl (intI u || isBl u)) S' ∧ ev Φ (.isi e "bool") env S = .ok (.bl (isBl u)) S' ∨ intI u = false ∧ isBl u = false ∧ ev Φ (.isi e "int") env S = .ok (.bl false) S' := by
  obtain ⟨a1, a2, a3, a4, a5, a6, a7⟩ := kits3
  rw [ev_isi, ev_isi, h, bind_ok, bind_ok]
  cases u with
  | non => right; simp [tyU, a1, intI, isBl]
  | bl b => left; simp [tyU, a2, a7, intI, isBl]
  | int b => left; simp [tyU, k_ii, k_ib, intI, isBl]
  | str b => right; simp [tyU, a3, intI, isBl]
  | tup b => right; simp [tyU, a4, intI, isBl]
  | loc n =>
    right
    simp only [okS] at o
    cases q : S'[n]? with
    | none => rw [q] at o; cases o
    | some c =>
      rw [q] at o
      cases c with
      | lst xs => simp [tyU, q, a5, intI, isBl]
      | fro xs => simp [tyU, q, a5, intI, isBl]
      | dic xs => simp [tyU, q, a6, intI, isBl]
      | ins _ _ => cases o
end Pr

end

section
set_option maxHeartbeats 4000000
namespace Pr
open PySem L2 Oz
variable {S S' : Sto} {d : Nat}
/-! ### is_check of any value -/
theorem isnum_any {u : U} (o : okS S u = true) (h : 1 ≤ d) : (pg.cal d).call "is_number" [u] S = .ok (.bl (nmb u)) S := by
  obtain ⟨d, rfl⟩ : ∃ e, d = e + 1 := ⟨d - 1, by omega⟩
  rw [call_eq (df := ⟨1, 1, false, T_is_number⟩) (by kernel_rfl), run_eq (by rfl)]
  unfold T_is_number
  rcases isi_i (Φ := pg.cal d) (env := [some u]) (e := .v 0) (ev_v' rfl) o with ⟨h1, h2⟩ | ⟨h0, h2, h1⟩
  · have h1' : ev (pg.cal d) (.isi (.v 0) "int") [some u] S = .ok (.bl (intI u || isBl u)) S := h1
    cases u with
    | bl b =>
      simp only [List.map_cons, List.map_nil, List.cons_append, List.nil_append, Nat.sub_self, List.replicate_zero]
      rw [exs_cons, ex_ret, ev_and, h1', bind_ok]
      simp only [intI, isBl, Bool.false_or]
      rw [ev_and, ev_not, h2, bind_ok]
      simp_arith only [isBl, nmb]
    | int i =>
      simp only [List.map_cons, List.map_nil, List.cons_append, List.nil_append, Nat.sub_self, List.replicate_zero]
      rw [exs_cons, ex_ret, ev_and, h1', bind_ok]
      simp only [intI, isBl, Bool.or_false]
      rw [ev_and, ev_not, h2, bind_ok]
      simp_arith only [isBl, nmb]
    | _ =>
      simp only [List.map_cons, List.map_nil, List.cons_append, List.nil_append, Nat.sub_self, List.replicate_zero]
      rw [exs_cons, ex_ret, ev_and, h1', bind_ok]
      rfl
  · have e : nmb u = false := by cases u <;> first | rfl | exact absurd h0 (fun z => Bool.noConfusion z)
    rw [e]
    simp only [List.map_cons, List.map_nil, List.cons_append, List.nil_append, Nat.sub_self, List.replicate_zero]
    rw [exs_cons, ex_ret, ev_and, h1, bind_ok]
    rfl
theorem isgr_any {u : U} (o : okS S u = true) (h : 1 ≤ d) : (pg.cal d).call "is_ground" [u] S = .ok (.bl (gnm u)) S := by
  obtain ⟨d, rfl⟩ : ∃ e, d = e + 1 := ⟨d - 1, by omega⟩
  rw [call_eq (df := ⟨1, 1, false, T_is_ground⟩) (by kernel_rfl), run_eq (by rfl)]
  unfold T_is_ground
  have h1 := (isi_t (Φ := pg.cal d) (env := [some u]) (e := .v 0) (ev_v' rfl) o).2
  simp only [List.map_cons, List.map_nil, List.cons_append, List.nil_append, Nat.sub_self, List.replicate_zero]
  rw [exs_cons, ex_ret, ev_and, h1, bind_ok]
  cases u with
  | str x =>
    simp only [isSt]
    rw [ev_din (g_GT d), ev_v' (u := .str x) rfl, bind_ok]
    rfl
  | _ => rfl
theorem islab_any {u : U} (o : okS S u = true) (h : 2 ≤ d) : (pg.cal d).call "is_label" [u] S = .ok (.bl (labU u)) S := by
  obtain ⟨d, rfl⟩ : ∃ e, d = e + 1 := ⟨d - 1, by omega⟩
  rw [call_eq (df := ⟨1, 3, false, T_is_label⟩) (by kernel_rfl), run_eq (by rfl)]
  unfold T_is_label
  have h1 := (isi_t (Φ := pg.cal d) (env := [some u, none, none]) (e := .v 0) (ev_v' rfl) o).1
  simp only [List.map_cons, List.map_nil, List.cons_append, List.nil_append, Nat.reduceSub, List.replicate_succ, List.replicate_zero]
  by_cases ht : isTu u = true
  · cases u with
    | tup us =>
      have e1 : evt (pg.cal d) (.or (.not (.e (.isi (.v 0) "tuple"))) (.e (.cmp .ne (.bf .len (.cons (.v 0) .nil)) (.k (.int 2))))) [some (.tup us), none, none] S = .ok (!decide (((us.length : Nat) : Int) = 2)) S := by
        rw [evt_or, evt_not, evt_e, h1, bind_ok]
        simp_arith only [isTu, lenT]
      by_cases hl : us.length = 2
      · rw [go_skip (S' := S) (by rw [e1, hl]; rfl)]
        obtain ⟨a, b, rfl⟩ : ∃ a b, us = [a, b] := by
          match us, hl with
          | [a, b], _ => exact ⟨a, b, rfl⟩
        have oa := okS_in o (a := a) (by simp)
        have ob := okS_in o (a := b) (by simp)
        have oy1 : ((exs (pg.cal d) (.cons (.set true [1, 2] (.v 0)) (.cons (.ret (.and (.call "is_number" (.cons (.v 1) .nil)) (.and (.call "is_number" (.cons (.v 2) .nil)) (.cmp .lt (.v 2) (.k (.int 2)))))) .nil)) [some (.tup [a, b]), none, none] S)).fin = (match (U.bl (nmb a)) with | .bl true => (match (U.bl (nmb b)) with | .bl true => cmpU .lt b (.int 2) S | .bl false => R.ok (.bl false) S | _ => .bad) | .bl false => .ok (.bl false) S | _ => .bad) := by
          have e3 := isnum_any (d := d) oa (by omega)
          have e4 := isnum_any (d := d) ob (by omega)
          rw [exs_cons, ex_set, ev_v' (u := .tup [a, b]) rfl, on_ok]
          simp only [setN, if_true, List.length_cons, List.length_nil]
          rw [then_nx]
          simp only [setAll, List.set_cons_succ, List.set_cons_zero]
          rw [exs_cons, ex_ret, ev_and, ev_call, evs_cons, ev_v' (u := a) rfl, bind_ok, evs_nil, bind_ok, bind_ok, e3, bind_ok]
          cases nmb a with
          | false => rfl
          | true =>
            simp only
            rw [ev_and, ev_call, evs_cons, ev_v' (u := b) rfl, bind_ok, evs_nil, bind_ok, bind_ok, e4, bind_ok]
            cases hb : nmb b with
            | false => rfl
            | true =>
              simp only
              rw [ev_cmp, ev_v' (u := b) rfl, bind_ok, ev_k, bind_ok]
              cases b <;> first | (exact absurd hb (fun z => Bool.noConfusion z)) | rfl
        refine oy1.trans ?_
        cases b with
        | int j =>
          rw [show labU (.tup [a, .int j]) = (nmb a && (decide (0 ≤ j) && decide (j < 2))) from rfl, show nmb (.int j) = decide (0 ≤ j) from rfl]
          generalize nmb a = q
          generalize decide (0 ≤ j) = q2
          cases q <;> cases q2 <;> rfl
        | _ =>
          generalize nmb a = q
          cases q <;> rfl
      · have e2 : labU (.tup us) = false := by
          match us, hl with
          | [], _ => rfl
          | [_], _ => rfl
          | [_, _], h => exact absurd rfl h
          | _ :: _ :: _ :: _, _ => simp [labU]
        rw [exs_cons, ex_if, e1, on_ok, decide_eq_false (show ¬ ((us.length : Nat) : Int) = 2 by omega), e2]
        rfl
    | _ => cases ht
  · have e2 : labU u = false := by cases u <;> first | rfl | exact absurd rfl ht
    have ef : isTu u = false := by simpa using ht
    have e1 : evt (pg.cal d) (.or (.not (.e (.isi (.v 0) "tuple"))) (.e (.cmp .ne (.bf .len (.cons (.v 0) .nil)) (.k (.int 2))))) [some u, none, none] S = .ok true S := by
      rw [evt_or, evt_not, evt_e, h1, bind_ok, ef]
      rfl
    rw [exs_cons, ex_if, e1, on_ok, e2]
    rfl
/-! ### its kinds -/
theorem andv {Φ : Cal} {env : Oz.Env} {a b : E} {p q : Bool} (ha : ev Φ a env S = .ok (.bl p) S) (hb : p = true → ev Φ b env S = .ok (.bl q) S) : ev Φ (.and a b) env S = .ok (.bl (p && q)) S := by
  rw [ev_and, ha, bind_ok]
  cases p with
  | false => rfl
  | true => exact hb rfl
theorem ev_xin {Φ : Cal} {env : Oz.Env} {neg : Bool} {a b : E} : ev Φ (.xin neg a b) env S = (ev Φ a env S).bind fun x S => (ev Φ b env S).bind fun y S => (rO (xinR x y S) S).bind fun k S => .ok (.bl (if neg then !k else k)) S := rfl
theorem ev_xeq {Φ : Cal} {env : Oz.Env} {neg : Bool} {a b : E} : ev Φ (.xeq neg a b) env S = (ev Φ a env S).bind fun x S => (ev Φ b env S).bind fun y S => (rO (xeqR x y S) S).bind fun k S => .ok (.bl (if neg then !k else k)) S := rfl
def hl : Md → List Str
  | .H => ["any", "give", "fail", "take", "same", "fun", "pair", "box"]
  | .P => ["same", "fun", "pair", "box"]
  | .T => ["same", "fun", "pair", "box", "give", "fail"]
def hU : Md → U
  | .H => HE | .P => PH | .T => TH
def hin (m : Md) (h : U) : Bool := match h with | .str x => decide (x ∈ hl m) | _ => false
theorem hU_eq (m : Md) : hU m = .tup ((hl m).map U.str) := by cases m <;> rfl
theorem any_str (x : Str) : ∀ l : List Str, ((l.map U.str).any fun y => eqT y (.str x)) = decide (x ∈ l)
  | [] => rfl
  | y :: l => by
    rw [List.map_cons, List.any_cons, any_str x l, Bool.eq_iff_iff]
    simp only [eqT, Bool.or_eq_true, beq_iff_eq, decide_eq_true_eq, List.mem_cons]
    constructor <;> (rintro (h | h) <;> first | exact .inl h.symm | exact .inr h)
theorem any_ns {u : U} (h : isSt u = false) : ∀ l : List Str, ((l.map U.str).any fun y => eqT y u) = false
  | [] => rfl
  | y :: l => by
    rw [List.map_cons, List.any_cons, any_ns h l]
    cases u <;> first | rfl | exact absurd h (fun z => Bool.noConfusion z)
theorem all_str : ∀ l : List Str, (l.map U.str).all isStrU = true
  | [] => rfl
  | y :: l => by rw [List.map_cons, List.all_cons, all_str l]; rfl
theorem xin_h {h : U} (m : Md) (o : othB S h = true) : xinR h (hU m) S = some (hin m h) := by
  rw [hU_eq]
  unfold xinR
  simp only [items?, all_str, o, Bool.and_self, if_true]
  cases h with
  | str x => rw [any_str]; rfl
  | _ => rw [any_ns rfl]; rfl
theorem xin_sg {a : U} (o : othB S a = true) : xinR a (.tup [.str "int", .str "bool", .str "unit"]) S = some (smn a) := by
  unfold xinR
  simp only [items?, List.all_cons, List.all_nil, isStrU, o, Bool.and_self, if_true, List.any_cons, List.any_nil, Bool.or_false, smn]
theorem vw_nt {u : U} (h : isTu u = false) : vw u = .no := by cases u <;> first | rfl | exact absurd h (fun z => Bool.noConfusion z)
theorem vw_nil : vw (.tup []) = .no := rfl
theorem vw_ns {h : U} {r : List U} (q : isSt h = false) : vw (.tup (h :: r)) = .no := by cases h <;> first | rfl | exact absurd q (fun z => Bool.noConfusion z)
theorem gk_no {k : Nat} {m : Md} {u : U} (h : vw u = .no) : gk k m u = false := by cases k with
  | zero => rfl
  | succ k => rw [gk, h]
theorem gk_out {k : Nat} {m : Md} {h : U} {r : List U} (q : hin m h = false) : gk k m (.tup (h :: r)) = false := by
  cases k with
  | zero => rfl
  | succ k =>
    cases h with
    | str x =>
      simp only [hin, decide_eq_false_iff_not] at q
      rw [gk]
      match r with
      | [] => simp only [vw]; by_cases e : x = "any" <;> simp only [e, if_true, if_false] ; subst e; cases m <;> simp [hl, ofS_inj] at q ⊢
      | [a] =>
        simp only [vw]
        by_cases e : x = "same"
        · subst e; cases m <;> simp [hl] at q
        · by_cases e2 : x = "give"
          · subst e2; cases m <;> simp [hl, ofS_inj] at q ⊢
          · simp only [e, e2, if_false]
      | [a, b] =>
        simp only [vw]
        by_cases e : x = "fun"
        · subst e; cases m <;> simp [hl] at q
        · by_cases e2 : x = "pair"
          · subst e2; cases m <;> simp [hl] at q
          · by_cases e3 : x = "box"
            · subst e3; cases m <;> simp [hl] at q
            · simp only [e, e2, e3, if_false]
      | [a, b, c] =>
        simp only [vw]
        by_cases e : x = "fail"
        · subst e; cases m <;> simp [hl, ofS_inj] at q ⊢
        · by_cases e2 : x = "take"
          · subst e2; cases m <;> simp [hl, ofS_inj] at q ⊢
          · simp only [e, e2, if_false]
      | _ :: _ :: _ :: _ :: _ => simp only [vw]
    | _ => rw [gk, vw_ns rfl]
theorem hin_kinds {m : Md} {h : U} (q : hin m h = true) : (h = .str "any" ∧ m = .H) ∨ h = .str "same" ∨ (h = .str "give" ∧ m ≠ .P) ∨ (h = .str "fail" ∧ m ≠ .P) ∨ (h = .str "take" ∧ m = .H) ∨ h = .str "fun" ∨ h = .str "pair" ∨ h = .str "box" := by
  cases h with
  | str x =>
    simp only [hin, decide_eq_true_eq] at q
    cases m with
    | H =>
      simp only [hl, List.mem_cons, List.not_mem_nil, or_false] at q
      rcases q with q | q | q | q | q | q | q | q <;> subst q <;> simp
    | P =>
      simp only [hl, List.mem_cons, List.not_mem_nil, or_false] at q
      rcases q with q | q | q | q <;> subst q <;> simp
    | T =>
      simp only [hl, List.mem_cons, List.not_mem_nil, or_false] at q
      rcases q with q | q | q | q | q | q <;> subst q <;> simp
  | _ => exact absurd q (fun z => Bool.noConfusion z)
end Pr

end

section
set_option maxHeartbeats 4000000
namespace Pr
open PySem L2 Oz
variable {S S' : Sto} {d : Nat}
def LN (x : Str) : Option Nat := if x = "any" then some 1 else if x = "same" then some 2 else if x = "fun" then some 3 else if x = "pair" then some 3 else if x = "box" then some 3 else if x = "give" then some 2 else if x = "fail" then some 4 else if x = "take" then some 4 else none
theorem vw_len {x : Str} {r : List U} {n : Nat} (h : LN x = some n) (hn : r.length + 1 ≠ n) : vw (.tup (.str x :: r)) = .no := by
  match r with
  | [] =>
    simp only [vw]
    by_cases e : x = "any"
    · subst e; simp [LN] at h; simp at hn; omega
    · simp only [e, if_false]
  | [a] =>
    simp only [vw]
    by_cases e : x = "same"
    · subst e; simp [LN, ofS_inj] at h; simp at hn; omega
    · by_cases e2 : x = "give"
      · subst e2; simp [LN, ofS_inj] at h; simp at hn; omega
      · simp only [e, e2, if_false]
  | [a, b] =>
    simp only [vw]
    by_cases e : x = "fun"
    · subst e; simp [LN, ofS_inj] at h; simp at hn; omega
    · by_cases e2 : x = "pair"
      · subst e2; simp [LN, ofS_inj] at h; simp at hn; omega
      · by_cases e3 : x = "box"
        · subst e3; simp [LN, ofS_inj] at h; simp at hn; omega
        · simp only [e, e2, e3, if_false]
  | [a, b, c] =>
    simp only [vw]
    by_cases e : x = "fail"
    · subst e; simp [LN, ofS_inj] at h; simp at hn; omega
    · by_cases e2 : x = "take"
      · subst e2; simp [LN, ofS_inj] at h; simp at hn; omega
      · simp only [e, e2, if_false]
  | _ :: _ :: _ :: _ :: _ => simp only [vw]
theorem vws (a b c : U) : vw (.tup [.str "any"]) = .any ∧ vw (.tup [.str "same", a]) = .same a ∧ vw (.tup [.str "give", a]) = .give a ∧ vw (.tup [.str "fun", a, b]) = .two "fun" a b ∧ vw (.tup [.str "pair", a, b]) = .two "pair" a b ∧ vw (.tup [.str "box", a, b]) = .two "box" a b ∧ vw (.tup [.str "fail", a, b, c]) = .fail a b c ∧ vw (.tup [.str "take", a, b, c]) = .take a b c := by
  refine ⟨?_, ?_, ?_, ?_, ?_, ?_, ?_, ?_⟩ <;> simp [vw, ofS_inj]
theorem vw_cases (u : U) : vw u = .no ∨ u = .tup [.str "any"] ∨ (∃ a, u = .tup [.str "same", a]) ∨ (∃ a, u = .tup [.str "give", a]) ∨ (∃ a b c, u = .tup [.str "fail", a, b, c]) ∨ (∃ a b c, u = .tup [.str "take", a, b, c]) ∨ ∃ y a b, u = .tup [.str y, a, b] ∧ (y = "fun" ∨ y = "pair" ∨ y = "box") := by
  cases u with
  | tup us =>
    cases us with
    | nil => exact .inl rfl
    | cons h r =>
      cases h with
      | str x =>
        match r with
        | [] =>
          by_cases e : x = "any"
          · subst e; exact .inr (.inl rfl)
          · left; simp only [vw, e, if_false]
        | [a] =>
          by_cases e : x = "same"
          · subst e; exact .inr (.inr (.inl ⟨a, rfl⟩))
          · by_cases e2 : x = "give"
            · subst e2; exact .inr (.inr (.inr (.inl ⟨a, rfl⟩)))
            · left; simp only [vw, e, e2, if_false]
        | [a, b] =>
          by_cases e : x = "fun"
          · exact .inr (.inr (.inr (.inr (.inr (.inr ⟨x, a, b, rfl, .inl e⟩)))))
          · by_cases e2 : x = "pair"
            · exact .inr (.inr (.inr (.inr (.inr (.inr ⟨x, a, b, rfl, .inr (.inl e2)⟩)))))
            · by_cases e3 : x = "box"
              · exact .inr (.inr (.inr (.inr (.inr (.inr ⟨x, a, b, rfl, .inr (.inr e3)⟩)))))
              · left; simp only [vw, e, e2, e3, if_false]
        | [a, b, c] =>
          by_cases e : x = "fail"
          · subst e; exact .inr (.inr (.inr (.inr (.inl ⟨a, b, c, rfl⟩))))
          · by_cases e2 : x = "take"
            · subst e2; exact .inr (.inr (.inr (.inr (.inr (.inl ⟨a, b, c, rfl⟩)))))
            · left; simp only [vw, e, e2, if_false]
        | _ :: _ :: _ :: _ :: _ => left; simp only [vw]
      | _ => exact .inl (vw_ns rfl)
  | _ => exact .inl rfl
theorem vw_two {y : Str} (a b : U) (h : y = "fun" ∨ y = "pair" ∨ y = "box") : vw (.tup [.str y, a, b]) = .two y a b := by
  rcases h with rfl | rfl | rfl <;> simp [vw, ofS_inj]
theorem gk_any {k : Nat} {m : Md} : gk (k + 1) m (.tup [.str "any"]) = decide (m = .H) := by rw [gk, (vws .non .non .non).1]
theorem gk_same {k : Nat} {m : Md} {a : U} : gk (k + 1) m (.tup [.str "same", a]) = smn a := by rw [gk, (vws a .non .non).2.1]
theorem gk_give {k : Nat} {m : Md} {a : U} : gk (k + 1) m (.tup [.str "give", a]) = (decide (m ≠ .P) && gk k .P a) := by rw [gk, (vws a .non .non).2.2.1]
theorem gk_fail {k : Nat} {m : Md} {n l w : U} : gk (k + 1) m (.tup [.str "fail", n, l, w]) = (decide (m ≠ .P) && (gnm n && (labU l && (gnm w && !(eqT n w))))) := by rw [gk, (vws n l w).2.2.2.2.2.2.1]
theorem gk_take {k : Nat} {m : Md} {n l x : U} : gk (k + 1) m (.tup [.str "take", n, l, x]) = (decide (m = .H) && (labU l && (gk k .T x && eqT (sgf k x) n))) := by rw [gk, (vws n l x).2.2.2.2.2.2.2]
theorem gk_two {k : Nat} {m : Md} {y : Str} {a b : U} (h : y = "fun" ∨ y = "pair" ∨ y = "box") : gk (k + 1) m (.tup [.str y, a, b]) = (gk k .H a && gk k .H b) := by rw [gk, vw_two a b h]
theorem sg_str : ∀ (k : Nat) (m : Md) (u : U), gk k m u = true → m ≠ .H → ∃ x, sgf k u = .str x ∧ gnm (.str x) = true
  | 0, _, _, h, _ => absurd h (fun z => Bool.noConfusion z)
  | k + 1, m, u, h, hm => by
    rcases vw_cases u with q | rfl | ⟨a, rfl⟩ | ⟨a, rfl⟩ | ⟨n, l, w, rfl⟩ | ⟨n, l, x, rfl⟩ | ⟨y, a, b, rfl, hy⟩
    · rw [gk_no q] at h; exact absurd h (fun z => Bool.noConfusion z)
    · rw [gk_any] at h; exact absurd (of_decide_eq_true h) hm
    · rw [gk_same] at h
      rw [sgf, (vws a .non .non).2.1]
      simp only [smn, Bool.or_eq_true] at h
      cases a <;> simp [eqT] at h ⊢
      rcases h with h | h | h <;> subst h <;> decide +kernel
    · rw [gk_give] at h
      simp only [Bool.and_eq_true] at h
      rw [sgf, (vws a .non .non).2.2.1]
      exact sg_str k .P a h.2 (by simp)
    · rw [gk_fail] at h
      simp only [Bool.and_eq_true] at h
      rw [sgf, (vws n l w).2.2.2.2.2.2.1]
      have h2 := h.2.1
      cases n <;> first | exact ⟨_, rfl, h2⟩ | exact absurd h2 (fun z => Bool.noConfusion z)
    · rw [gk_take] at h
      simp only [Bool.and_eq_true, decide_eq_true_eq] at h
      exact absurd h.1 hm
    · rw [sgf, vw_two a b hy]
      refine ⟨y, rfl, ?_⟩
      rcases hy with rfl | rfl | rfl <;> decide +kernel
/-! ### its ground -/
theorem sgr_any : ∀ (k : Nat) (m : Md) (u : U) (d : Nat) (S : Sto), gk k m u = true → m ≠ .H → k ≤ d → (pg.cal d).call "source_ground" [u] S = .ok (sgf k u) S
  | 0, _, _, _, _, h, _, _ => absurd h (fun z => Bool.noConfusion z)
  | k + 1, m, u, d, S, h, hm, hd => by
    obtain ⟨d, rfl⟩ : ∃ e, d = e + 1 := ⟨d - 1, by omega⟩
    rw [call_eq (df := ⟨1, 1, false, T_source_ground⟩) (by kernel_rfl), run_eq (by rfl)]
    have i0 : ∀ (x : Str) (r : List U), ixU (.tup (.str x :: r)) (.int 0) S = .ok (.str x) S := fun x r => by
      rw [Oz.ix_tup, show atI (U.str x :: r) (0 : Int) = some (.str x) from atI_nat_own (n := 0) rfl]
    have i1 : ∀ (x a : U) (r : List U), ixU (.tup (x :: a :: r)) (.int 1) S = .ok a S := fun x a r => by
      rw [Oz.ix_tup, show atI (x :: a :: r) (1 : Int) = some a from atI_nat_own (n := 1) rfl]
    have in1 : ∀ x : Str, cmpU .in_ (.str x) (.tup [.str "same", .str "fail"]) S = .ok (.bl (decide (x = "same" ∨ x = "fail"))) S := fun x => by
      have e : inR (.str x) (.tup [.str "same", .str "fail"]) S = some (eqU (.str "same") (.str x) || (eqU (.str "fail") (.str x) || false)) := rfl
      unfold cmpU cmpB
      rw [e]
      simp only [Oz.eqU, Bool.or_false]
      congr 2
      rw [Bool.eq_iff_iff]
      simp only [Bool.or_eq_true, beq_iff_eq, decide_eq_true_eq]
      constructor <;> (rintro (h | h) <;> first | exact .inl h.symm | exact .inr h.symm)
    unfold T_source_ground
    rcases vw_cases u with q | rfl | ⟨a, rfl⟩ | ⟨a, rfl⟩ | ⟨n, l, w, rfl⟩ | ⟨n, l, x, rfl⟩ | ⟨y, a, b, rfl, hy⟩
    · rw [gk_no q] at h; exact absurd h (fun z => Bool.noConfusion z)
    · rw [gk_any] at h; exact absurd (of_decide_eq_true h) hm
    · rw [sgf, (vws a .non .non).2.1]
      simp_arith only [i0, i1, in1, decide_true, decide_false, sz2, true_or]
    · rw [gk_give] at h
      simp only [Bool.and_eq_true] at h
      rw [sgf, (vws a .non .non).2.2.1]
      have q := sgr_any k .P a d S h.2 (by simp) (by omega)
      simp_arith only [i0, i1, decide_true, q]
    · rw [sgf, (vws n l w).2.2.2.2.2.2.1]
      simp_arith only [i0, i1, in1, decide_true, decide_false, sz2, or_true]
    · rw [gk_take] at h
      simp only [Bool.and_eq_true, decide_eq_true_eq] at h
      exact absurd h.1 hm
    · rw [sgf, vw_two a b hy]
      rcases hy with rfl | rfl | rfl <;> simp_arith only [i0, i1, in1, decide_true, decide_false, sz2, or_self]
end Pr

end

section
set_option maxHeartbeats 4000000
namespace Pr
open PySem L2 Oz
variable {S S' : Sto} {d : Nat}
/-! ### is_check of any value -/
theorem lg_ln (x : Str) (n : Nat) (h : LN x = some n) : LG.lookup x = some (.int n) := by
  unfold LN at h
  by_cases e1 : x = "any"
  · subst e1; simp at h; subst h; kernel_rfl
  by_cases e2 : x = "same"
  · subst e2; simp [ofS_inj] at h; subst h; kernel_rfl
  by_cases e3 : x = "fun"
  · subst e3; simp [ofS_inj] at h; subst h; kernel_rfl
  by_cases e4 : x = "pair"
  · subst e4; simp [ofS_inj] at h; subst h; kernel_rfl
  by_cases e5 : x = "box"
  · subst e5; simp [ofS_inj] at h; subst h; kernel_rfl
  by_cases e6 : x = "give"
  · subst e6; simp [ofS_inj] at h; subst h; kernel_rfl
  by_cases e7 : x = "fail"
  · subst e7; simp [ofS_inj] at h; subst h; kernel_rfl
  by_cases e8 : x = "take"
  · subst e8; simp [ofS_inj] at h; subst h; kernel_rfl
  simp [e1, e2, e3, e4, e5, e6, e7, e8] at h
theorem ix_h (h : U) (r : List U) (S : Sto) : ixU (.tup (h :: r)) (.int 0) S = .ok h S := by
  rw [Oz.ix_tup, show atI (h :: r) (0 : Int) = some h from atI_nat_own (n := 0) rfl]
theorem ix_1 (h a : U) (r : List U) (S : Sto) : ixU (.tup (h :: a :: r)) (.int 1) S = .ok a S := by
  rw [Oz.ix_tup, show atI (h :: a :: r) (1 : Int) = some a from atI_nat_own (n := 1) rfl]
theorem ix_2 (h a b : U) (r : List U) (S : Sto) : ixU (.tup (h :: a :: b :: r)) (.int 2) S = .ok b S := by
  rw [Oz.ix_tup, show atI (h :: a :: b :: r) (2 : Int) = some b from atI_nat_own (n := 2) rfl]
theorem ix_3 (h a b c : U) (r : List U) (S : Sto) : ixU (.tup (h :: a :: b :: c :: r)) (.int 3) S = .ok c S := by
  rw [Oz.ix_tup, show atI (h :: a :: b :: c :: r) (3 : Int) = some c from atI_nat_own (n := 3) rfl]
theorem lns : LN "any" = some 1 ∧ LN "same" = some 2 ∧ LN "fun" = some 3 ∧ LN "pair" = some 3 ∧ LN "box" = some 3 ∧ LN "give" = some 2 ∧ LN "fail" = some 4 ∧ LN "take" = some 4 := by
  refine ⟨?_, ?_, ?_, ?_, ?_, ?_, ?_, ?_⟩ <;> simp [LN, ofS_inj]
theorem orv {Φ : Cal} {env : Oz.Env} {a b : T} {p q : Bool} (ha : evt Φ a env S = .ok p S) (hb : p = false → evt Φ b env S = .ok q S) : evt Φ (.or a b) env S = .ok (p || q) S := by
  rw [evt_or, ha, bind_ok]
  cases p with
  | true => rfl
  | false => exact hb rfl
theorem notv {Φ : Cal} {env : Oz.Env} {a : T} {p : Bool} (ha : evt Φ a env S = .ok p S) : evt Φ (.not a) env S = .ok (!p) S := by rw [evt_not, ha, bind_ok]
theorem exv {Φ : Cal} {env : Oz.Env} {a : E} {p : Bool} (ha : ev Φ a env S = .ok (.bl p) S) : evt Φ (.e a) env S = .ok p S := by rw [evt_e, ha, bind_ok]; rfl
theorem isck_any : ∀ (k : Nat) (u : U) (m : Md) (d : Nat) (S : Sto) (most : Int), hg u ≤ k → okS S u = true → (hg u : Int) ≤ most → k + 4 ≤ d → (pg.cal d).call "is_check_of" [u, hU m, .int most] S = .ok (.bl (gk k m u)) S
  | 0, u, _, _, _, _, h, _, _, _ => absurd (hg_pos u) (by omega)
  | k + 1, u, m, d, S, most, h, o, hm, hd => by
    obtain ⟨d, rfl⟩ : ∃ e, d = e + 1 := ⟨d - 1, by omega⟩
    rw [call_eq (df := ⟨3, 8, false, T_is_check_of⟩) (by kernel_rfl), run_eq (by rfl)]
    show (exs (pg.cal d) T_is_check_of [some u, some (hU m), some (.int most), none, none, none, none, none] S).fin = _
    unfold T_is_check_of
    have hp := hg_pos u
    have m0 : ¬ most = 0 := by omega
    have ht := (isi_t (Φ := pg.cal d) (env := [some u, some (hU m), some (.int most), none, none, none, none, none]) (e := .v 0) (ev_v' rfl) o).1
    by_cases hu : isTu u = true
    · obtain ⟨us, rfl⟩ : ∃ us, u = .tup us := by cases u <;> first | exact ⟨_, rfl⟩ | exact absurd hu (fun z => Bool.noConfusion z)
      cases us with
      | nil =>
        rw [gk_no vw_nil, exs_cons, ex_if]
        have e1 : evt (pg.cal d) (.or (.e (.cmp .eq (.v 2) (.k (.int 0)))) (.or (.not (.e (.isi (.v 0) "tuple"))) (.e (.cmp .eq (.bf .len (.cons (.v 0) .nil)) (.k (.int 0)))))) [some (.tup []), some (hU m), some (.int most), none, none, none, none, none] S = .ok true S := by
          exact orv (p := false) (by simp_arith only [m0, decide_false]) fun _ => orv (q := true) (notv (exv ht)) fun _ => by simp_arith only [lenT]; rfl
        rw [e1, on_ok]
        rfl
      | cons x r =>
        have ox := okS_in o (a := x) (by simp)
        have lpos : ¬ (((x :: r).length : Nat) : Int) = 0 := by simp; omega
        rw [go_skip (S' := S) (orv (p := false) (by simp_arith only [m0, decide_false]) fun _ => orv (q := false) (notv (exv ht)) fun _ => by simp_arith only [lenT]; rw [decide_eq_false (show ¬ ((r.length + 1 : Nat) : Int) = 0 by omega)])]
        have ex1 : evt (pg.cal d) (.e (.xin true (.ix (.v 0) (.k (.int 0))) (.v 1))) [some (.tup (x :: r)), some (hU m), some (.int most), none, none, none, none, none] S = .ok (!hin m x) S := by
          rw [evt_e, ev_xin, ev_ix, ev_v' (u := .tup (x :: r)) rfl, bind_ok, ev_k, bind_ok, ix_h, bind_ok, ev_v' (u := hU m) rfl, bind_ok, xin_h m (okS_oth ox)]
          rfl
        by_cases hi : hin m x = true
        · have LNx : ∃ y n, x = .str y ∧ LN y = some n := by
            obtain ⟨n1, n2, n3, n4, n5, n6, n7, n8⟩ := lns
            rcases hin_kinds hi with ⟨rfl, _⟩ | rfl | ⟨rfl, _⟩ | ⟨rfl, _⟩ | ⟨rfl, _⟩ | rfl | rfl | rfl
            · exact ⟨_, _, rfl, n1⟩
            · exact ⟨_, _, rfl, n2⟩
            · exact ⟨_, _, rfl, n6⟩
            · exact ⟨_, _, rfl, n7⟩
            · exact ⟨_, _, rfl, n8⟩
            · exact ⟨_, _, rfl, n3⟩
            · exact ⟨_, _, rfl, n4⟩
            · exact ⟨_, _, rfl, n5⟩
          obtain ⟨y, n, rfl, hn⟩ := LNx
          have e2 : evt (pg.cal d) (.or (.e (.xin true (.ix (.v 0) (.k (.int 0))) (.v 1))) (.e (.cmp .ne (.bf .len (.cons (.v 0) .nil)) (.gd "LENGTHS" (.ix (.v 0) (.k (.int 0))))))) [some (.tup (.str y :: r)), some (hU m), some (.int most), none, none, none, none, none] S = .ok (!decide (((r.length + 1 : Nat) : Int) = n)) S := by
            rw [evt_or, ex1, hi, bind_ok]
            simp only [Bool.not_true, Bool.false_eq_true, if_false]
            rw [evt_e, ev_cmp, ev_bf, evs_cons, ev_v' (u := .tup (.str y :: r)) rfl, bind_ok, evs_nil, bind_ok, bind_ok, lenT, bind_ok, ev_gd (g_LG d), ev_ix, ev_v' (u := .tup (.str y :: r)) rfl, bind_ok, ev_k, bind_ok, ix_h, bind_ok]
            simp only [lg_ln y n hn]
            rw [rO_some, bind_ok, c_ne_int]
            rfl
          by_cases hl : r.length + 1 = n
          · rw [go_skip (S' := S) (by rw [e2, decide_eq_true (by omega)]; rfl)]
            have ok1 : ∀ a ∈ r, okS S a = true ∧ hg a ≤ k ∧ (hg a : Int) ≤ most - 1 := fun a ha => by
              have h1 := okS_in o (a := a) (by simp [ha])
              have h2 := hg_in (us := .str y :: r) (a := a) (by simp [ha])
              exact ⟨h1, by omega, by omega⟩
            clear e2 ex1 ht
            rcases hin_kinds hi with ⟨e, hH⟩ | e | ⟨e, hP⟩ | ⟨e, hP⟩ | ⟨e, hH⟩ | e | e | e <;> (cases e; simp [LN, ofS_inj] at hn; subst hn)
            · -- any
              obtain rfl : r = [] := List.length_eq_zero_iff.mp (by omega)
              rw [gk_any, decide_eq_true hH]
              simp_arith only [true_and]
            · obtain ⟨a, rfl⟩ : ∃ a, r = [a] := List.length_eq_one_iff.mp (by omega)
              rw [gk_same]
              simp_arith only [Nat.reduceLeDiff, ev_xin, ev_g (g_SG d), xin_sg (okS_oth (ok1 a (by simp)).1)]
            · obtain ⟨a, rfl⟩ : ∃ a, r = [a] := List.length_eq_one_iff.mp (by omega)
              obtain ⟨o1, h1, h2⟩ := ok1 a (by simp)
              have q := isck_any k a .P d S most h1 o1 (by omega) (by omega)
              rw [gk_give, decide_eq_true hP, Bool.true_and]
              simp_arith only [Nat.reduceLeDiff, ev_g (g_PH d), show PH = hU .P from rfl, q]
            · obtain ⟨n, l, w, rfl⟩ : ∃ n l w, r = [n, l, w] := by
                match r, hl with
                | [n, l, w], _ => exact ⟨n, l, w, rfl⟩
              obtain ⟨o1, _, _⟩ := ok1 n (by simp)
              obtain ⟨o2, _, _⟩ := ok1 l (by simp)
              obtain ⟨o3, _, _⟩ := ok1 w (by simp)
              rw [gk_fail, decide_eq_true hP, Bool.true_and]
              have e1 : ∀ env : Oz.Env, env[3]? = some (some n) → env[5]? = some (some l) → env[6]? = some (some w) → ev (pg.cal d) (.and (.call "is_ground" (.cons (.v 3) .nil)) (.and (.call "is_label" (.cons (.v 5) .nil)) (.and (.call "is_ground" (.cons (.v 6) .nil)) (.cmp .ne (.v 3) (.v 6))))) env S = .ok (.bl (gnm n && (labU l && (gnm w && !(eqT n w))))) S := fun env v3 v5 v6 => by
                refine andv (by rw [ev_call, evs_cons, ev_v' v3, bind_ok, evs_nil, bind_ok, bind_ok, isgr_any o1 (by omega)]) fun g1 => andv (by rw [ev_call, evs_cons, ev_v' v5, bind_ok, evs_nil, bind_ok, bind_ok, islab_any o2 (by omega)]) fun _ => andv (by rw [ev_call, evs_cons, ev_v' v6, bind_ok, evs_nil, bind_ok, bind_ok, isgr_any o3 (by omega)]) fun g2 => ?_
                rw [ev_cmp, ev_v' v3, bind_ok, ev_v' v6, bind_ok]
                cases n with
                | str a =>
                  cases w with
                  | str b =>
                    rw [c_ne_str]
                    simp only [eqT]
                    congr 2
                  | _ => exact absurd g2 (fun z => Bool.noConfusion z)
                | _ => exact absurd g1 (fun z => Bool.noConfusion z)
              rw [exs_cons, ex_mtch, ev_v' (u := .tup [.str "fail", n, l, w]) rfl, on_ok]
              simp only [Oz.exc_nil, Oz.exc_cons, Oz.pt_seq, Oz.pi_nil, Oz.pi_lit, Oz.pi_cap, Oz.pi_wild, Oz.ofS_inj, String.reduceEq, Nat.reduceEqDiff, List.length_cons, List.length_nil, Nat.zero_add, Nat.reduceAdd, if_true, if_false, List.set_cons_succ, List.set_cons_zero]
              rw [go_ret (e1 _ rfl rfl rfl)]
              rfl
            · obtain ⟨n, l, x, rfl⟩ : ∃ n l x, r = [n, l, x] := by
                match r, hl with
                | [n, l, x], _ => exact ⟨n, l, x, rfl⟩
              obtain ⟨o1, _, _⟩ := ok1 n (by simp)
              obtain ⟨o2, _, _⟩ := ok1 l (by simp)
              obtain ⟨o3, h1, h2⟩ := ok1 x (by simp)
              have q := isck_any k x .T d S most h1 o3 (by omega) (by omega)
              rw [gk_take, decide_eq_true hH, Bool.true_and]
              have e1 : ∀ env : Oz.Env, env[2]? = some (some (.int most)) → env[3]? = some (some n) → env[5]? = some (some l) → env[7]? = some (some x) → ev (pg.cal d) (.and (.call "is_label" (.cons (.v 5) .nil)) (.and (.call "is_check_of" (.cons (.v 7) (.cons (.g "TAKEN_HEADS") (.cons (.v 2) .nil)))) (.xeq false (.call "source_ground" (.cons (.v 7) .nil)) (.v 3)))) env S = .ok (.bl (labU l && (gk k .T x && eqT (sgf k x) n))) S := fun env v2 v3 v5 v7 => by
                refine andv (by rw [ev_call, evs_cons, ev_v' v5, bind_ok, evs_nil, bind_ok, bind_ok, islab_any o2 (by omega)]) fun _ => andv (by rw [ev_call, evs_cons, ev_v' v7, bind_ok, evs_cons, ev_g (g_TH d), bind_ok, evs_cons, ev_v' v2, bind_ok, evs_nil, bind_ok, bind_ok, bind_ok, bind_ok]; exact q) fun g1 => ?_
                obtain ⟨z, hz, _⟩ := sg_str k .T x g1 (by simp)
                have es := sgr_any k .T x d S g1 (by simp) (by omega)
                rw [ev_xeq, ev_call, evs_cons, ev_v' v7, bind_ok, evs_nil, bind_ok, bind_ok, es, bind_ok, ev_v' v3, bind_ok, hz]
                unfold xeqR
                simp only [isStrU, okS_oth o1, Bool.and_self, if_true]
                rfl
              rw [exs_cons, ex_mtch, ev_v' (u := .tup [.str "take", n, l, x]) rfl, on_ok]
              simp only [Oz.exc_nil, Oz.exc_cons, Oz.pt_seq, Oz.pi_nil, Oz.pi_lit, Oz.pi_cap, Oz.pi_wild, Oz.ofS_inj, String.reduceEq, Nat.reduceEqDiff, List.length_cons, List.length_nil, Nat.zero_add, Nat.reduceAdd, if_true, if_false, List.set_cons_succ, List.set_cons_zero]
              rw [go_ret (e1 _ rfl rfl rfl rfl)]
              rfl
            · obtain ⟨a, b, rfl⟩ : ∃ a b, r = [a, b] := by
                match r, hl with
                | [a, b], _ => exact ⟨a, b, rfl⟩
              obtain ⟨o1, h1, h2⟩ := ok1 a (by simp)
              obtain ⟨o2, h3, h4⟩ := ok1 b (by simp)
              have q1 := isck_any k a .H d S (most - 1) h1 o1 h2 (by omega)
              have q2 := isck_any k b .H d S (most - 1) h3 o2 h4 (by omega)
              rw [gk_two (by simp)]
              have e1 : ev (pg.cal d) (.and (.call "is_check_of" (.cons (.ix (.v 0) (.k (.int 1))) (.cons (.g "HEADS") (.cons (.bin .sub (.v 2) (.k (.int 1))) .nil)))) (.call "is_check_of" (.cons (.ix (.v 0) (.k (.int 2))) (.cons (.g "HEADS") (.cons (.bin .sub (.v 2) (.k (.int 1))) .nil))))) [some (.tup [.str "fun", a, b]), some (hU m), some (.int most), none, none, none, none, none] S = .ok (.bl (gk k .H a && gk k .H b)) S := by
                refine andv (p := gk k .H a) ?_ fun _ => ?_
                · simp_arith only [ix_1, ev_g (g_HE d)]; exact q1
                · simp_arith only [ix_2, ev_g (g_HE d)]; exact q2
              rw [exs_cons, ex_mtch, ev_v' (u := .tup [.str "fun", a, b]) rfl, on_ok]
              simp only [Oz.exc_nil, Oz.exc_cons, Oz.pt_seq, Oz.pi_nil, Oz.pi_lit, Oz.pi_cap, Oz.pi_wild, Oz.ofS_inj, String.reduceEq, Nat.reduceEqDiff, List.length_cons, List.length_nil, Nat.zero_add, Nat.reduceAdd, if_true, if_false, List.set_cons_succ, List.set_cons_zero]
              rw [then_nx, go_ret e1]
              rfl
            · obtain ⟨a, b, rfl⟩ : ∃ a b, r = [a, b] := by
                match r, hl with
                | [a, b], _ => exact ⟨a, b, rfl⟩
              obtain ⟨o1, h1, h2⟩ := ok1 a (by simp)
              obtain ⟨o2, h3, h4⟩ := ok1 b (by simp)
              have q1 := isck_any k a .H d S (most - 1) h1 o1 h2 (by omega)
              have q2 := isck_any k b .H d S (most - 1) h3 o2 h4 (by omega)
              rw [gk_two (by simp)]
              have e1 : ev (pg.cal d) (.and (.call "is_check_of" (.cons (.ix (.v 0) (.k (.int 1))) (.cons (.g "HEADS") (.cons (.bin .sub (.v 2) (.k (.int 1))) .nil)))) (.call "is_check_of" (.cons (.ix (.v 0) (.k (.int 2))) (.cons (.g "HEADS") (.cons (.bin .sub (.v 2) (.k (.int 1))) .nil))))) [some (.tup [.str "pair", a, b]), some (hU m), some (.int most), none, none, none, none, none] S = .ok (.bl (gk k .H a && gk k .H b)) S := by
                refine andv (p := gk k .H a) ?_ fun _ => ?_
                · simp_arith only [ix_1, ev_g (g_HE d)]; exact q1
                · simp_arith only [ix_2, ev_g (g_HE d)]; exact q2
              rw [exs_cons, ex_mtch, ev_v' (u := .tup [.str "pair", a, b]) rfl, on_ok]
              simp only [Oz.exc_nil, Oz.exc_cons, Oz.pt_seq, Oz.pi_nil, Oz.pi_lit, Oz.pi_cap, Oz.pi_wild, Oz.ofS_inj, String.reduceEq, Nat.reduceEqDiff, List.length_cons, List.length_nil, Nat.zero_add, Nat.reduceAdd, if_true, if_false, List.set_cons_succ, List.set_cons_zero]
              rw [then_nx, go_ret e1]
              rfl
            · obtain ⟨a, b, rfl⟩ : ∃ a b, r = [a, b] := by
                match r, hl with
                | [a, b], _ => exact ⟨a, b, rfl⟩
              obtain ⟨o1, h1, h2⟩ := ok1 a (by simp)
              obtain ⟨o2, h3, h4⟩ := ok1 b (by simp)
              have q1 := isck_any k a .H d S (most - 1) h1 o1 h2 (by omega)
              have q2 := isck_any k b .H d S (most - 1) h3 o2 h4 (by omega)
              rw [gk_two (by simp)]
              have e1 : ev (pg.cal d) (.and (.call "is_check_of" (.cons (.ix (.v 0) (.k (.int 1))) (.cons (.g "HEADS") (.cons (.bin .sub (.v 2) (.k (.int 1))) .nil)))) (.call "is_check_of" (.cons (.ix (.v 0) (.k (.int 2))) (.cons (.g "HEADS") (.cons (.bin .sub (.v 2) (.k (.int 1))) .nil))))) [some (.tup [.str "box", a, b]), some (hU m), some (.int most), none, none, none, none, none] S = .ok (.bl (gk k .H a && gk k .H b)) S := by
                refine andv (p := gk k .H a) ?_ fun _ => ?_
                · simp_arith only [ix_1, ev_g (g_HE d)]; exact q1
                · simp_arith only [ix_2, ev_g (g_HE d)]; exact q2
              rw [exs_cons, ex_mtch, ev_v' (u := .tup [.str "box", a, b]) rfl, on_ok]
              simp only [Oz.exc_nil, Oz.exc_cons, Oz.pt_seq, Oz.pi_nil, Oz.pi_lit, Oz.pi_cap, Oz.pi_wild, Oz.ofS_inj, String.reduceEq, Nat.reduceEqDiff, List.length_cons, List.length_nil, Nat.zero_add, Nat.reduceAdd, if_true, if_false, List.set_cons_succ, List.set_cons_zero]
              rw [then_nx, go_ret e1]
              rfl
          · have ng : vw (.tup (.str y :: r)) = .no := vw_len hn hl
            rw [gk_no ng, exs_cons, ex_if, e2, on_ok, decide_eq_false (by omega)]
            rfl
        · have hf : hin m x = false := by simpa using hi
          rw [gk_out hf, exs_cons, ex_if, evt_or, ex1, hf, bind_ok]
          rfl
    · have ef : isTu u = false := by simpa using hu
      rw [gk_no (vw_nt ef), exs_cons, ex_if]
      have e1 : evt (pg.cal d) (.or (.e (.cmp .eq (.v 2) (.k (.int 0)))) (.or (.not (.e (.isi (.v 0) "tuple"))) (.e (.cmp .eq (.bf .len (.cons (.v 0) .nil)) (.k (.int 0)))))) [some u, some (hU m), some (.int most), none, none, none, none, none] S = .ok true S := by
        refine orv (p := false) (q := true) (by simp_arith only [m0, decide_false]) fun _ => ?_
        have := orv (a := .not (.e (.isi (.v 0) "tuple"))) (b := .e (.cmp .eq (.bf .len (.cons (.v 0) .nil)) (.k (.int 0)))) (q := true) (notv (exv ht)) fun z => by rw [ef] at z; cases z
        rw [this, ef]; rfl
      rw [e1, on_ok]
      rfl
end Pr

end

section
set_option maxHeartbeats 4000000
namespace Oz
open PySem L2
/-! ### in a store that grows -/
def Vg (Φ : Cal) (e : E) (env : Env) (S : Sto) (w : U) : Prop := ∃ S', ev Φ e env S = .ok w S' ∧ Gr S S'
def Tg_ (Φ : Cal) (t : T) (env : Env) (S : Sto) (k : Bool) : Prop := ∃ S', evt Φ t env S = .ok k S' ∧ Gr S S'
def Xg (Φ : Cal) (sts : Sts) (env : Env) (S : Sto) (w : U) : Prop := ∃ S', exs Φ sts env S = .ret w S' ∧ Gr S S'
def Cg (Φ : Cal) (f : Str) (us : List U) (S : Sto) (w : U) : Prop := ∃ S', Φ.call f us S = .ok w S' ∧ Gr S S'
section
variable {Φ : Cal} {env : Env} {S : Sto} {a b e : E} {t t' : T} {p q k : Bool} {w u x : U} {body sts : Sts} {i : Nat} {f : Str}
theorem Vg.same (h : ev Φ e env S = .ok w S) : Vg Φ e env S w := ⟨S, h, Gr.refl⟩
theorem Vg.and (ha : Vg Φ a env S (.bl p)) (hb : ∀ S1, Gr S S1 → p = true → Vg Φ b env S1 (.bl q)) : Vg Φ (.and a b) env S (.bl (p && q)) := by
  obtain ⟨S1, e1, g1⟩ := ha
  cases p with
  | false => exact ⟨S1, by rw [ev_and, e1, bind_ok]; rfl, g1⟩
  | true =>
    obtain ⟨S2, e2, g2⟩ := hb S1 g1 rfl
    exact ⟨S2, by rw [ev_and, e1, bind_ok]; exact e2, g1.trans g2⟩
theorem Tg_.or (ha : Tg_ Φ t env S p) (hb : ∀ S1, Gr S S1 → p = false → Tg_ Φ t' env S1 q) : Tg_ Φ (.or t t') env S (p || q) := by
  obtain ⟨S1, e1, g1⟩ := ha
  cases p with
  | true => exact ⟨S1, by rw [evt_or, e1, bind_ok]; rfl, g1⟩
  | false =>
    obtain ⟨S2, e2, g2⟩ := hb S1 g1 rfl
    exact ⟨S2, by rw [evt_or, e1, bind_ok]; exact e2, g1.trans g2⟩
theorem Tg_.and (ha : Tg_ Φ t env S p) (hb : ∀ S1, Gr S S1 → p = true → Tg_ Φ t' env S1 q) : Tg_ Φ (.and t t') env S (p && q) := by
  obtain ⟨S1, e1, g1⟩ := ha
  cases p with
  | false => exact ⟨S1, by rw [evt_and, e1, bind_ok]; rfl, g1⟩
  | true =>
    obtain ⟨S2, e2, g2⟩ := hb S1 g1 rfl
    exact ⟨S2, by rw [evt_and, e1, bind_ok]; exact e2, g1.trans g2⟩
theorem Tg_.not (ha : Tg_ Φ t env S p) : Tg_ Φ (.not t) env S (!p) := by
  obtain ⟨S1, e1, g1⟩ := ha
  exact ⟨S1, by rw [evt_not, e1, bind_ok], g1⟩
theorem Tg_.ex (ha : Vg Φ a env S (.bl p)) : Tg_ Φ (.e a) env S p := by
  obtain ⟨S1, e1, g1⟩ := ha
  exact ⟨S1, by rw [evt_e, e1, bind_ok]; rfl, g1⟩
theorem Xg.iff (h : Tg_ Φ t env S k) (ht : ∀ S1, Gr S S1 → k = true → Xg Φ body env S1 w) (hf : ∀ S1, Gr S S1 → k = false → Xg Φ sts env S1 w) : Xg Φ (.cons (.if_ t body .nil) sts) env S w := by
  obtain ⟨S1, e1, g1⟩ := h
  cases k with
  | true =>
    obtain ⟨S2, e2, g2⟩ := ht S1 g1 rfl
    exact ⟨S2, by rw [exs_cons, ex_if, e1, on_ok, if_pos rfl, e2, then_ret], g1.trans g2⟩
  | false =>
    obtain ⟨S2, e2, g2⟩ := hf S1 g1 rfl
    exact ⟨S2, by rw [exs_cons, ex_if, e1, on_ok, if_neg Bool.false_ne_true, exs_nil, then_nx, e2], g1.trans g2⟩
theorem Xg.set (h : Vg Φ e env S x) (h' : ∀ S1, Gr S S1 → Xg Φ sts (env.set i (some x)) S1 w) : Xg Φ (.cons (.set false [i] e) sts) env S w := by
  obtain ⟨S1, e1, g1⟩ := h
  obtain ⟨S2, e2, g2⟩ := h' S1 g1
  exact ⟨S2, by rw [go_set e1, e2], g1.trans g2⟩
theorem Xg.ret (h : Vg Φ e env S w) : Xg Φ (.cons (.ret e) sts) env S w := by
  obtain ⟨S1, e1, g1⟩ := h
  exact ⟨S1, go_ret e1, g1⟩
theorem Vg.call1 (ha : Vg Φ a env S u) (hc : ∀ S1, Gr S S1 → Cg Φ f [u] S1 w) : Vg Φ (.call f (.cons a .nil)) env S w := by
  obtain ⟨S1, e1, g1⟩ := ha
  obtain ⟨S2, e2, g2⟩ := hc S1 g1
  exact ⟨S2, by rw [ev_call, evs_cons, e1, bind_ok, evs_nil, bind_ok, bind_ok, e2], g1.trans g2⟩
theorem Cg.of {body : Sts} {us : List U} {Φ' : Cal} (h : ∀ S, Φ'.call f us S = (exs Φ body env S).fin) (hx : Xg Φ body env S w) : Cg Φ' f us S w := by
  obtain ⟨S1, e1, g⟩ := hx
  exact ⟨S1, by rw [h, e1]; rfl, g⟩
theorem Vg.eqs {y z : Str} (ha : Vg Φ a env S (.str y)) (hb : ∀ S1, Vg Φ b env S1 (.str z)) : Vg Φ (.cmp .eq a b) env S (.bl (decide (y = z))) := by
  obtain ⟨S1, e1, g1⟩ := ha
  obtain ⟨S2, e2, g2⟩ := hb S1
  exact ⟨S2, by rw [ev_cmp, e1, bind_ok, e2, bind_ok, c_eq_str], g1.trans g2⟩
theorem Vg.nes {y z : Str} (ha : Vg Φ a env S (.str y)) (hb : ∀ S1, Vg Φ b env S1 (.str z)) : Vg Φ (.cmp .ne a b) env S (.bl (!decide (y = z))) := by
  obtain ⟨S1, e1, g1⟩ := ha
  obtain ⟨S2, e2, g2⟩ := hb S1
  exact ⟨S2, by rw [ev_cmp, e1, bind_ok, e2, bind_ok, c_ne_str], g1.trans g2⟩
theorem Vg.con {u : U} : Vg Φ (.k u) env S u := Vg.same rfl
theorem Vg.var (h : env[i]? = some (some u)) : Vg Φ (.v i) env S u := Vg.same (ev_v' h)
theorem Vg.imp {w' : U} (h : Vg Φ e env S w) (q : w = w') : Vg Φ e env S w' := q ▸ h
theorem Tg_.imp {k' : Bool} (h : Tg_ Φ t env S k) (q : k = k') : Tg_ Φ t env S k' := q ▸ h
end
mutual
theorem okS_gr {S S' : Sto} (g : Gr S S') : ∀ {u : U}, okS S u = true → okS S' u = true
  | .non, _ => rfl
  | .bl _, _ => rfl
  | .int _, _ => rfl
  | .str _, _ => rfl
  | .tup us, h => by
    simp only [okS] at h ⊢
    exact okSs_gr g h
  | .loc n, h => by
    simp only [okS] at h ⊢
    cases q : S[n]? with
    | none => rw [q] at h; cases h
    | some c =>
      rw [g.at_ q]
      rw [q] at h
      exact h
theorem okSs_gr {S S' : Sto} (g : Gr S S') : ∀ {us : List U}, okSs S us = true → okSs S' us = true
  | [], _ => rfl
  | u :: us, h => by
    simp only [okSs, Bool.and_eq_true] at h ⊢
    exact ⟨okS_gr g h.1, okSs_gr g h.2⟩
end
end Oz
namespace Pr
open PySem L2 Oz
variable {S S' : Sto} {d : Nat}
/-! ### the law's own look at any value -/
theorem lint_any {u : U} (o : okS S u = true) (h : 1 ≤ d) : Cg (pg.cal d) "_law_is_int" [u] S (.bl (intI u)) := by
  obtain ⟨d, rfl⟩ : ∃ e, d = e + 1 := ⟨d - 1, by omega⟩
  refine Cg.of (env := [some u]) (body := T__law_is_int) (fun S => by rw [call_eq (df := ⟨1, 1, false, T__law_is_int⟩) (by kernel_rfl), run_eq (by rfl)]; rfl) ?_
  unfold T__law_is_int
  refine Xg.ret (Vg.same ?_)
  rcases isi_i (Φ := pg.cal d) (env := [some u]) (e := .v 0) (ev_v' rfl) o with ⟨h1, h2⟩ | ⟨h0, h2, h1⟩
  · refine (andv h1 (q := !isBl u) fun _ => by rw [ev_not, h2, bind_ok]).trans ?_
    cases u <;> rfl
  · rw [h0]
    exact andv h1 (q := true) fun z => Bool.noConfusion z
theorem inl_str {n : Nat} {x : Str} {l : List Str} (h : S[n]? = some (.lst (l.map U.str))) : cmpU .in_ (.str x) (.loc n) S = .ok (.bl (decide (x ∈ l))) S := by
  have hf : ∀ l : List Str, (l.map U.str).all flatU = true := fun l => by induction l <;> simp_all [flatU]
  have he : ∀ l : List Str, ((l.map U.str).any fun y => Oz.eqU y (.str x)) = decide (x ∈ l) := fun l => by
    induction l with
    | nil => rfl
    | cons y l ih =>
      rw [List.map_cons, List.any_cons, ih, Bool.eq_iff_iff]
      simp only [Oz.eqU, Bool.or_eq_true, beq_iff_eq, decide_eq_true_eq, List.mem_cons]
      constructor <;> (rintro (h | h) <;> first | exact .inl h.symm | exact .inr h)
  unfold cmpU cmpB
  have e : inR (.str x) (.loc n) S = some (decide (x ∈ l)) := by
    unfold inR
    simp only [items?, h, hf, flatU, Bool.and_self, if_true, he]
  rw [e]
theorem look_some {α : Type} {x : Str} : ∀ l : List (Str × α), (l.lookup x).isSome = decide (x ∈ l.map (·.1))
  | [] => rfl
  | (y, a) :: l => by
    rw [List.lookup_cons, List.map_cons]
    by_cases e : x = y
    · subst e; simp
    · rw [beq_false_of_ne e]
      simp only [look_some l, List.mem_cons, e, false_or]
def SIX : List Str := ["int", "bool", "unit", "fun", "pair", "box"]
theorem lname_any {u : U} (o : okS S u = true) (h : 1 ≤ d) : Cg (pg.cal d) "_law_name" [u] S (.bl (gnm u)) := by
  obtain ⟨d, rfl⟩ : ∃ e, d = e + 1 := ⟨d - 1, by omega⟩
  refine Cg.of (env := [some u]) (body := T__law_name) (fun S => by rw [call_eq (df := ⟨1, 1, false, T__law_name⟩) (by kernel_rfl), run_eq (by rfl)]; rfl) ?_
  unfold T__law_name
  refine Xg.ret ?_
  have h1 := (isi_t (Φ := pg.cal d) (env := [some u]) (e := .v 0) (ev_v' rfl) o).2
  cases u with
  | str x =>
    refine (Vg.and (q := gnm (.str x)) (Vg.same h1) fun S1 g _ => ⟨S1 ++ [.lst (SIX.map U.str)], ?_, Gr.push⟩).imp (by simp [isSt])
    have e : ∀ env : Oz.Env, ev (pg.cal d) (.lst (.cons (.k (.str "int")) (.cons (.k (.str "bool")) (.cons (.k (.str "unit")) (.cons (.k (.str "fun")) (.cons (.k (.str "pair")) (.cons (.k (.str "box")) .nil))))))) env S1 = .ok (.loc S1.length) (S1 ++ [.lst (SIX.map U.str)]) := fun env => by
      simp_arith only [show (6 ≤ sizeLine) = True by decide]
      rfl
    rw [ev_cmp, ev_v' (u := .str x) rfl, bind_ok, e, bind_ok, inl_str last_get]
    congr 1
    show U.bl (decide (x ∈ SIX)) = U.bl (GT.lookup x).isSome
    rw [look_some, show GT.map (·.1) = SIX from rfl]
  | _ => exact (Vg.and (p := false) (q := true) (Vg.same h1) fun _ _ z => Bool.noConfusion z).imp rfl
theorem llab_any {u : U} (o : okS S u = true) (h : 2 ≤ d) : Cg (pg.cal d) "_law_label" [u] S (.bl (labU u)) := by
  obtain ⟨d, rfl⟩ : ∃ e, d = e + 1 := ⟨d - 1, by omega⟩
  refine Cg.of (env := [some u]) (body := T__law_label) (fun S => by rw [call_eq (df := ⟨1, 1, false, T__law_label⟩) (by kernel_rfl), run_eq (by rfl)]; rfl) ?_
  unfold T__law_label
  have h1 := (isi_t (Φ := pg.cal d) (env := [some u]) (e := .v 0) (ev_v' rfl) o).1
  by_cases hu : isTu u = true
  · obtain ⟨us, rfl⟩ : ∃ us, u = .tup us := by cases u <;> first | exact ⟨_, rfl⟩ | exact absurd hu (fun z => Bool.noConfusion z)
    have t2 : ∀ S, evt (pg.cal d) (.e (.cmp .ne (.bf .len (.cons (.v 0) .nil)) (.k (.int 2)))) [some (.tup us)] S = .ok (!decide (((us.length : Nat) : Int) = 2)) S := fun S => by simp_arith only [lenT]
    by_cases hl : us.length = 2
    · obtain ⟨a, b, rfl⟩ : ∃ a b, us = [a, b] := by
        match us, hl with
        | [a, b], _ => exact ⟨a, b, rfl⟩
      have oa := okS_in o (a := a) (by simp)
      have ob := okS_in o (a := b) (by simp)
      have T : Tg_ (pg.cal d) (.or (.not (.e (.isi (.v 0) "tuple"))) (.or (.e (.cmp .ne (.bf .len (.cons (.v 0) .nil)) (.k (.int 2)))) (.or (.not (.e (.call "_law_is_int" (.cons (.ix (.v 0) (.k (.int 0))) .nil)))) (.not (.e (.call "_law_is_int" (.cons (.ix (.v 0) (.k (.int 1))) .nil))))))) [some (.tup [a, b])] S (false || (false || (!intI a || !intI b))) :=
        Tg_.or (p := false) (Tg_.not (p := true) (Tg_.ex (Vg.same h1))) fun S1 g1 _ => Tg_.or (p := false) ⟨S1, t2 S1, Gr.refl⟩ fun S2 g2 _ => Tg_.or (Tg_.not (Tg_.ex (Vg.call1 (Vg.same (by rw [ev_ix, ev_v' (u := .tup [a, b]) rfl, bind_ok, ev_k, bind_ok, ix_h])) fun S3 g3 => lint_any (okS_gr ((g1.trans g2).trans g3) oa) (by omega)))) fun S3 g3 _ => Tg_.not (Tg_.ex (Vg.call1 (Vg.same (by rw [ev_ix, ev_v' (u := .tup [a, b]) rfl, bind_ok, ev_k, bind_ok, ix_1])) fun S4 g4 => lint_any (okS_gr (((g1.trans g2).trans g3).trans g4) ob) (by omega)))
      refine Xg.iff T (fun S1 g hk => Xg.ret (Vg.con.imp ?_)) (fun S1 g hk => Xg.ret ?_)
      · cases a <;> cases b <;> first | rfl | (simp [intI] at hk)
      · simp only [Bool.false_or, Bool.or_eq_false_iff, Bool.not_eq_false'] at hk
        obtain ⟨i, rfl⟩ : ∃ i, a = .int i := by cases a <;> first | exact ⟨_, rfl⟩ | exact absurd hk.1 (fun z => Bool.noConfusion z)
        obtain ⟨j, rfl⟩ : ∃ i, b = .int i := by cases b <;> first | exact ⟨_, rfl⟩ | exact absurd hk.2 (fun z => Bool.noConfusion z)
        refine (Vg.and (p := decide (0 ≤ i)) (q := decide (j = 0 ∨ j = 1)) (Vg.same (by simp_arith only [ix_h])) fun S2 g2 _ => ⟨S2 ++ [.lst [.int 0, .int 1]], ?_, Gr.push⟩).imp ?_
        · rw [ev_cmp, ev_ix, ev_v' (u := .tup [.int i, .int j]) rfl, bind_ok, ev_k, bind_ok, ix_1, bind_ok]
          have e : ev (pg.cal d) (.lst (.cons (.k (.int 0)) (.cons (.k (.int 1)) .nil))) [some (.tup [.int i, .int j])] S2 = .ok (.loc S2.length) (S2 ++ [.lst [.int 0, .int 1]]) := by simp_arith only [sz2]
          rw [e, bind_ok]
          have ei : inR (.int j) (.loc S2.length) (S2 ++ [.lst [.int 0, .int 1]]) = some (Oz.eqU (.int 0) (.int j) || (Oz.eqU (.int 1) (.int j) || false)) := by
            unfold inR
            simp only [items?, last_get, List.all_cons, List.all_nil, flatU, Bool.and_self, if_true, List.any_cons, List.any_nil]
          unfold cmpU cmpB
          rw [ei]
          simp only [Oz.eqU, Bool.or_false]
          congr 2
          rw [Bool.eq_iff_iff]
          simp only [Bool.or_eq_true, beq_iff_eq, decide_eq_true_eq]
          constructor <;> (rintro (h | h) <;> first | exact .inl h.symm | exact .inr h.symm)
        · show U.bl _ = U.bl (decide (0 ≤ i) && (decide (0 ≤ j) && decide (j < 2)))
          congr 2
          rw [Bool.eq_iff_iff]
          simp only [Bool.and_eq_true, decide_eq_true_eq]
          omega
    · have e2 : labU (.tup us) = false := by
        match us, hl with
        | [], _ => rfl
        | [_], _ => rfl
        | [_, _], h => exact absurd rfl h
        | _ :: _ :: _ :: _, _ => simp [labU]
      rw [e2]
      refine Xg.iff (k := true) ((Tg_.or (p := false) (q := true) (Tg_.not (p := true) (Tg_.ex (Vg.same h1))) fun S1 g1 _ => (Tg_.or (p := true) (q := true) ⟨S1, by rw [t2, decide_eq_false (show ¬ ((us.length : Nat) : Int) = 2 by omega)]; rfl, Gr.refl⟩ fun _ _ z => Bool.noConfusion z))) (fun S1 g hk => Xg.ret Vg.con) fun _ _ z => Bool.noConfusion z
  · have e2 : labU u = false := by cases u <;> first | rfl | exact absurd rfl hu
    have ef : isTu u = false := by simpa using hu
    rw [e2]
    rw [ef] at h1
    exact Xg.iff (k := true) (Tg_.or (p := true) (q := true) (Tg_.not (p := false) (Tg_.ex (Vg.same h1))) fun _ _ z => Bool.noConfusion z) (fun S1 g hk => Xg.ret Vg.con) fun _ _ z => Bool.noConfusion z
end Pr

end

section
set_option maxHeartbeats 4000000
namespace Pr
open PySem L2 Oz
variable {S S' : Sto} {d : Nat}
def kdS (u : U) : Str := match u with | .tup (.str x :: r) => if LN x = some (r.length + 1) then x else "" | _ => ""
def SZ : List (Key × U) := [(.inr "any", .int 1), (.inr "same", .int 2), (.inr "give", .int 2), (.inr "fun", .int 3), (.inr "pair", .int 3), (.inr "box", .int 3), (.inr "take", .int 4), (.inr "fail", .int 4)]
theorem ev_dpl {Φ : Cal} {env : Oz.Env} {es : Es} : ev Φ (.dpl es) env S = (evs Φ es env (S ++ [.dic []])).bind fun us S1 => dplR S.length us S1 := rfl
theorem inr_inj {x y : Str} : ((Sum.inr x : Key) = Sum.inr y) = (x = y) := by simp
theorem sz_at (x : Str) : valU SZ (.inr x) = (LN x).map fun n => U.int (n : Nat) := by
  unfold valU SZ LN
  simp only [List.find?_cons, List.find?_nil, inr_inj]
  by_cases e1 : x = "any"
  · subst e1; simp
  by_cases e2 : x = "same"
  · subst e2; simp [ofS_inj]
  by_cases e3 : x = "fun"
  · subst e3; simp [ofS_inj]
  by_cases e4 : x = "pair"
  · subst e4; simp [ofS_inj]
  by_cases e5 : x = "box"
  · subst e5; simp [ofS_inj]
  by_cases e6 : x = "give"
  · subst e6; simp [ofS_inj]
  by_cases e7 : x = "fail"
  · subst e7; simp [ofS_inj]
  by_cases e8 : x = "take"
  · subst e8; simp [ofS_inj]
  simp [e1, e2, e3, e4, e5, e6, e7, e8, Ne.symm e1, Ne.symm e2, Ne.symm e3, Ne.symm e4, Ne.symm e5, Ne.symm e6, Ne.symm e7, Ne.symm e8]
theorem ev_dat {Φ : Cal} {env : Oz.Env} {a k : E} : ev Φ (.dat a k) env S = (ev Φ a env S).bind fun x S => (ev Φ k env S).bind fun y S => datU x y S := rfl
theorem ev_dhas {Φ : Cal} {env : Oz.Env} {b : Bool} {a k : E} : ev Φ (.dhas b k a) env S = (ev Φ k env S).bind fun y S => (ev Φ a env S).bind fun x S => dhasU b x y S := rfl
theorem Xg_setS {Φ : Cal} {env : Oz.Env} {e : E} {x w : U} {i : Nat} {sts : Sts} {S1 : Sto} (h : ev Φ e env S = .ok x S1) (g : Gr S S1) (h' : Xg Φ sts (env.set i (some x)) S1 w) : Xg Φ (.cons (.set false [i] e) sts) env S w := by
  obtain ⟨S2, e2, g2⟩ := h'
  exact ⟨S2, by rw [go_set h, e2], g.trans g2⟩
theorem lkind_any {u : U} (o : okS S u = true) (h : 1 ≤ d) : Cg (pg.cal d) "_law_kind" [u] S (.str (kdS u)) := by
  obtain ⟨d, rfl⟩ : ∃ e, d = e + 1 := ⟨d - 1, by omega⟩
  refine Cg.of (env := [some u, none]) (body := T__law_kind) (fun S => by rw [call_eq (df := ⟨1, 2, false, T__law_kind⟩) (by kernel_rfl), run_eq (by rfl)]; rfl) ?_
  unfold T__law_kind
  have h1 := (isi_t (Φ := pg.cal d) (env := [some u, none]) (e := .v 0) (ev_v' rfl) o).1
  by_cases hu : isTu u = true
  · obtain ⟨us, rfl⟩ : ∃ us, u = .tup us := by cases u <;> first | exact ⟨_, rfl⟩ | exact absurd hu (fun z => Bool.noConfusion z)
    cases us with
    | nil => exact Xg.iff (k := true) (Tg_.or (p := false) (q := true) (Tg_.not (p := true) (Tg_.ex (Vg.same h1))) fun S1 g1 _ => Tg_.or (p := true) (q := true) ⟨S1, by simp_arith only [lenT]; rfl, Gr.refl⟩ fun _ _ z => Bool.noConfusion z) (fun S1 g hk => Xg.ret (Vg.con)) fun _ _ z => Bool.noConfusion z
    | cons x r =>
      have ox := okS_in o (a := x) (by simp)
      have hs : ∀ S1, Gr S S1 → ev (pg.cal d) (.isi (.ix (.v 0) (.k (.int 0))) "str") [some (.tup (x :: r)), none] S1 = .ok (.bl (isSt x)) S1 := fun S1 g => (isi_t (by rw [ev_ix, ev_v' (u := .tup (x :: r)) rfl, bind_ok, ev_k, bind_ok, ix_h]) (okS_gr g ox)).2
      have T : Tg_ (pg.cal d) (.or (.not (.e (.isi (.v 0) "tuple"))) (.or (.e (.cmp .eq (.bf .len (.cons (.v 0) .nil)) (.k (.int 0)))) (.not (.e (.isi (.ix (.v 0) (.k (.int 0))) "str"))))) [some (.tup (x :: r)), none] S (false || (false || !isSt x)) :=
        Tg_.or (p := false) (Tg_.not (p := true) (Tg_.ex (Vg.same h1))) fun S1 g1 _ => Tg_.or (p := false) ⟨S1, by simp_arith only [lenT]; rw [decide_eq_false (show ¬ ((r.length + 1 : Nat) : Int) = 0 by omega)], Gr.refl⟩ fun S2 g2 _ => Tg_.not (Tg_.ex (Vg.same (hs S2 (g1.trans g2))))
      refine Xg.iff T (fun S1 g hk => Xg.ret (Vg.con.imp ?_)) (fun S1 g hk => ?_)
      · cases x <;> first | rfl | (simp [isSt] at hk)
      · simp only [Bool.false_or, Bool.not_eq_false'] at hk
        obtain ⟨y, rfl⟩ : ∃ y, x = .str y := by cases x <;> first | exact ⟨_, rfl⟩ | exact absurd hk (fun z => Bool.noConfusion z)
        refine Xg_setS (x := .loc S1.length) (S1 := S1 ++ [.dic SZ]) ?_ Gr.push ?_
        · rw [ev_dpl]
          simp_arith only [true_and]
          unfold dplR
          rw [last_get]
          have e : dplU [.str "any", .int 1, .str "same", .int 2, .str "give", .int 2, .str "fun", .int 3, .str "pair", .int 3, .str "box", .int 3, .str "take", .int 4, .str "fail", .int 4] = some SZ := rfl
          rw [e]
          simp only
          rw [if_pos (by decide), last_set]
          have e2 : mrgU [] SZ = SZ := by kernel_rfl
          rw [e2]
        · have hn : (S1 ++ [Cel.dic SZ])[S1.length]? = some (.dic SZ) := last_get
          generalize S1 ++ [Cel.dic SZ] = S2 at *
          generalize S1.length = n at *
          have d1 : evt (pg.cal d) (.e (.dhas false (.ix (.v 0) (.k (.int 0))) (.v 1))) [some (.tup (.str y :: r)), some (.loc n)] S2 = .ok ((LN y).isSome == false) S2 := by
            rw [evt_e, ev_dhas, ev_ix, ev_v' (u := .tup (.str y :: r)) rfl, bind_ok, ev_k, bind_ok, ix_h, bind_ok, ev_v' (u := .loc n) rfl, bind_ok]
            unfold dhasU
            simp only [keyU, hn, sz_at, Option.isSome_map, bind_ok]
            rfl
          show Xg (pg.cal d) _ [some (.tup (.str y :: r)), some (.loc n)] S2 _
          cases hL : LN y with
          | none =>
            rw [hL] at d1
            refine Xg.iff (k := true) (Tg_.or (p := true) (q := true) ⟨S2, d1, Gr.refl⟩ fun _ _ z => Bool.noConfusion z) (fun S3 g hk => Xg.ret (Vg.con.imp ?_)) fun _ _ z => Bool.noConfusion z
            simp only [kdS, hL]
            rfl
          | some m =>
            rw [hL] at d1
            have d2 : evt (pg.cal d) (.e (.cmp .ne (.dat (.v 1) (.ix (.v 0) (.k (.int 0)))) (.bf .len (.cons (.v 0) .nil)))) [some (.tup (.str y :: r)), some (.loc n)] S2 = .ok (!decide (((m : Nat) : Int) = ((r.length + 1 : Nat) : Int))) S2 := by
              rw [evt_e, ev_cmp, ev_dat, ev_v' (u := .loc n) rfl, bind_ok, ev_ix, ev_v' (u := .tup (.str y :: r)) rfl, bind_ok, ev_k, bind_ok, ix_h, bind_ok]
              unfold datU
              simp only [keyU, hn, sz_at, hL, Option.map_some, rO_some, bind_ok]
              rw [ev_bf, evs_cons, ev_v' (u := .tup (.str y :: r)) rfl, bind_ok, evs_nil, bind_ok, bind_ok, lenT, bind_ok, c_ne_int, bind_ok]
              rfl
            refine Xg.iff (k := false || !decide (((m : Nat) : Int) = ((r.length + 1 : Nat) : Int))) ⟨S2, orv (p := false) d1 fun _ => d2, Gr.refl⟩ (fun S3 g hk => Xg.ret (Vg.con.imp ?_)) (fun S3 g hk => Xg.ret (Vg.same ?_))
            · simp only [Bool.false_or, Bool.not_eq_true', decide_eq_false_iff_not] at hk
              simp only [kdS, hL]
              rw [if_neg (by simp; omega)]
            · simp only [Bool.false_or, Bool.not_eq_false', decide_eq_true_eq] at hk
              simp only [kdS, hL]
              rw [if_pos (by simp; omega), ev_ix, ev_v' (u := .tup (.str y :: r)) rfl, bind_ok, ev_k, bind_ok, ix_h]
  · have ef : isTu u = false := by simpa using hu
    rw [ef] at h1
    refine Xg.iff (k := true) (Tg_.or (p := true) (q := true) (Tg_.not (p := false) (Tg_.ex (Vg.same h1))) fun _ _ z => Bool.noConfusion z) (fun S1 g hk => Xg.ret (Vg.con.imp ?_)) fun _ _ z => Bool.noConfusion z
    cases u <;> first | rfl | exact absurd rfl hu
end Pr

end

section
set_option maxHeartbeats 4000000
namespace Pr
open PySem L2 Oz
variable {S S' : Sto} {d : Nat}
theorem kd_no {u : U} (h : vw u = .no) : kdS u = "" := by
  unfold kdS
  split
  · rename_i x r
    split
    · rename_i hL
      exfalso
      have := lns
      unfold LN at hL
      by_cases e1 : x = "any"
      · subst e1; simp at hL; subst hL; rw [(vws .non .non .non).1] at h; cases h
      by_cases e2 : x = "same"
      · subst e2; simp [ofS_inj] at hL
        obtain ⟨a, rfl⟩ : ∃ a, r = [a] := List.length_eq_one_iff.mp (by omega)
        rw [(vws a .non .non).2.1] at h; cases h
      have two : (x = "fun" ∨ x = "pair" ∨ x = "box") → r.length = 2 → False := fun hx hr => by
        obtain ⟨a, b, rfl⟩ : ∃ a b, r = [a, b] := by
          match r, hr with
          | [a, b], _ => exact ⟨a, b, rfl⟩
        rw [vw_two a b hx] at h; cases h
      by_cases e3 : x = "fun"
      · exact two (.inl e3) (by subst e3; simp [ofS_inj] at hL; omega)
      by_cases e4 : x = "pair"
      · exact two (.inr (.inl e4)) (by subst e4; simp [ofS_inj] at hL; omega)
      by_cases e5 : x = "box"
      · exact two (.inr (.inr e5)) (by subst e5; simp [ofS_inj] at hL; omega)
      by_cases e6 : x = "give"
      · subst e6; simp [ofS_inj] at hL
        obtain ⟨a, rfl⟩ : ∃ a, r = [a] := List.length_eq_one_iff.mp (by omega)
        rw [(vws a .non .non).2.2.1] at h; cases h
      have three : ∀ hr : r.length = 3, ∃ a b c, r = [a, b, c] := fun hr => by
        match r, hr with
        | [a, b, c], _ => exact ⟨a, b, c, rfl⟩
      by_cases e7 : x = "fail"
      · subst e7; simp [ofS_inj] at hL
        obtain ⟨a, b, c, rfl⟩ := three (by omega)
        rw [(vws a b c).2.2.2.2.2.2.1] at h; cases h
      by_cases e8 : x = "take"
      · subst e8; simp [ofS_inj] at hL
        obtain ⟨a, b, c, rfl⟩ := three (by omega)
        rw [(vws a b c).2.2.2.2.2.2.2] at h; cases h
      simp [e1, e2, e3, e4, e5, e6, e7, e8] at hL
    · rfl
  · rfl
theorem kd_cases (u : U) : (vw u = .no ∧ kdS u = "") ∨ (u = .tup [.str "any"] ∧ kdS u = "any") ∨ (∃ a, u = .tup [.str "same", a] ∧ kdS u = "same") ∨ (∃ a, u = .tup [.str "give", a] ∧ kdS u = "give") ∨ (∃ a b c, u = .tup [.str "fail", a, b, c] ∧ kdS u = "fail") ∨ (∃ a b c, u = .tup [.str "take", a, b, c] ∧ kdS u = "take") ∨ ∃ y a b, u = .tup [.str y, a, b] ∧ kdS u = y ∧ (y = "fun" ∨ y = "pair" ∨ y = "box") := by
  obtain ⟨n1, n2, n3, n4, n5, n6, n7, n8⟩ := lns
  rcases vw_cases u with q | rfl | ⟨a, rfl⟩ | ⟨a, rfl⟩ | ⟨n, l, w, rfl⟩ | ⟨n, l, x, rfl⟩ | ⟨y, a, b, rfl, hy⟩
  · exact .inl ⟨q, kd_no q⟩
  · exact .inr (.inl ⟨rfl, by simp [kdS, n1]⟩)
  · exact .inr (.inr (.inl ⟨a, rfl, by simp [kdS, n2]⟩))
  · exact .inr (.inr (.inr (.inl ⟨a, rfl, by simp [kdS, n6]⟩)))
  · exact .inr (.inr (.inr (.inr (.inl ⟨n, l, w, rfl, by simp [kdS, n7]⟩))))
  · exact .inr (.inr (.inr (.inr (.inr (.inl ⟨n, l, x, rfl, by simp [kdS, n8]⟩)))))
  · exact .inr (.inr (.inr (.inr (.inr (.inr ⟨y, a, b, rfl, by rcases hy with rfl | rfl | rfl <;> simp [kdS, n3, n4, n5], hy⟩)))))
def flU (u : U) : Bool := match vw u with | .fail n l w => gnm n && (labU l && (gnm w && !(eqT n w))) | _ => false
theorem fl_fail (n l w : U) : flU (.tup [.str "fail", n, l, w]) = (gnm n && (labU l && (gnm w && !(eqT n w)))) := by rw [flU, (vws n l w).2.2.2.2.2.2.1]
theorem fl_not {u : U} (h : kdS u ≠ "fail") : flU u = false := by
  rcases kd_cases u with ⟨q, _⟩ | ⟨rfl, _⟩ | ⟨a, rfl, _⟩ | ⟨a, rfl, _⟩ | ⟨n, l, w, rfl, e⟩ | ⟨n, l, x, rfl, _⟩ | ⟨y, a, b, rfl, _, hy⟩
  · rw [flU, q]
  · rw [flU, (vws .non .non .non).1]
  · rw [flU, (vws a .non .non).2.1]
  · rw [flU, (vws a .non .non).2.2.1]
  · exact absurd e h
  · rw [flU, (vws n l x).2.2.2.2.2.2.2]
  · rw [flU, vw_two a b hy]
theorem nm_str {u : U} (h : gnm u = true) : ∃ x, u = .str x := by cases u <;> first | exact ⟨_, rfl⟩ | exact absurd h (fun z => Bool.noConfusion z)
theorem ev_ix1 {Φ : Cal} {env : Oz.Env} {i : Nat} {h a : U} {r : List U} (hv : env[i]? = some (some (.tup (h :: a :: r)))) (S : Sto) : ev Φ (.ix (.v i) (.k (.int 1))) env S = .ok a S := by rw [ev_ix, ev_v' hv, bind_ok, ev_k, bind_ok, ix_1]
theorem ev_ix2 {Φ : Cal} {env : Oz.Env} {i : Nat} {h a b : U} {r : List U} (hv : env[i]? = some (some (.tup (h :: a :: b :: r)))) (S : Sto) : ev Φ (.ix (.v i) (.k (.int 2))) env S = .ok b S := by rw [ev_ix, ev_v' hv, bind_ok, ev_k, bind_ok, ix_2]
theorem ev_ix3 {Φ : Cal} {env : Oz.Env} {i : Nat} {h a b c : U} {r : List U} (hv : env[i]? = some (some (.tup (h :: a :: b :: c :: r)))) (S : Sto) : ev Φ (.ix (.v i) (.k (.int 3))) env S = .ok c S := by rw [ev_ix, ev_v' hv, bind_ok, ev_k, bind_ok, ix_3]
theorem lfail_any {u : U} (o : okS S u = true) (h : 3 ≤ d) : Cg (pg.cal d) "_law_failing" [u] S (.bl (flU u)) := by
  obtain ⟨d, rfl⟩ : ∃ e, d = e + 1 := ⟨d - 1, by omega⟩
  refine Cg.of (env := [some u]) (body := T__law_failing) (fun S => by rw [call_eq (df := ⟨1, 1, false, T__law_failing⟩) (by kernel_rfl), run_eq (by rfl)]; rfl) ?_
  unfold T__law_failing
  have K : Vg (pg.cal d) (.cmp .ne (.call "_law_kind" (.cons (.v 0) .nil)) (.k (.str "fail"))) [some u] S (.bl (!decide (kdS u = "fail"))) := Vg.nes (Vg.call1 (Vg.var rfl) fun S1 g => lkind_any (okS_gr g o) (by omega)) fun _ => Vg.con
  by_cases e : kdS u = "fail"
  · rw [decide_eq_true e] at K
    obtain ⟨n, l, w, rfl⟩ : ∃ n l w, u = .tup [.str "fail", n, l, w] := by
      rcases kd_cases u with ⟨q, z⟩ | ⟨rfl, z⟩ | ⟨a, rfl, z⟩ | ⟨a, rfl, z⟩ | ⟨n, l, w, rfl, _⟩ | ⟨n, l, x, rfl, z⟩ | ⟨y, a, b, rfl, z, hy⟩
      · rw [z] at e; simp [ofS_inj] at e
      · rw [z] at e; simp [ofS_inj] at e
      · rw [z] at e; simp [ofS_inj] at e
      · rw [z] at e; simp [ofS_inj] at e
      · exact ⟨n, l, w, rfl⟩
      · rw [z] at e; simp [ofS_inj] at e
      · rw [z] at e; subst e; simp [ofS_inj] at hy
    have on := okS_in o (a := n) (by simp)
    have ol := okS_in o (a := l) (by simp)
    have ow := okS_in o (a := w) (by simp)
    rw [fl_fail]
    refine Xg.iff (k := false || (!gnm n || !labU l)) (Tg_.or (p := false) (Tg_.ex K) fun S1 g1 _ => Tg_.or (Tg_.not (Tg_.ex (Vg.call1 (Vg.same (ev_ix1 rfl S1)) fun S2 g2 => lname_any (okS_gr (g1.trans g2) on) (by omega)))) fun S2 g2 _ => Tg_.not (Tg_.ex (Vg.call1 (Vg.same (ev_ix2 rfl S2)) fun S3 g3 => llab_any (okS_gr ((g1.trans g2).trans g3) ol) (by omega)))) (fun S1 g hk => Xg.ret (Vg.con.imp ?_)) (fun S1 g hk => Xg.ret ?_)
    · generalize gnm n = p at *
      generalize labU l = q at *
      cases p <;> cases q <;> first | rfl | (simp at hk)
    · have hk1 : gnm n = true ∧ labU l = true := by
        generalize gnm n = p at *
        generalize labU l = q at *
        cases p <;> cases q <;> first | exact ⟨rfl, rfl⟩ | (simp at hk)
      rw [hk1.1, hk1.2, Bool.true_and, Bool.true_and]
      refine Vg.and (Vg.call1 (Vg.same (ev_ix3 rfl S1)) fun S2 g2 => lname_any (okS_gr (g.trans g2) ow) (by omega)) fun S2 g2 hw => ?_
      obtain ⟨x, rfl⟩ := nm_str hk1.1
      obtain ⟨y, rfl⟩ := nm_str hw
      exact (Vg.nes (Vg.same (ev_ix1 rfl S2)) fun S3 => Vg.same (ev_ix3 rfl S3)).imp rfl
  · rw [decide_eq_false e] at K
    rw [fl_not e]
    exact Xg.iff (k := true) (Tg_.or (p := true) (q := true) (Tg_.ex K) fun _ _ z => Bool.noConfusion z) (fun S1 g hk => Xg.ret Vg.con) fun _ _ z => Bool.noConfusion z
theorem sgf_no {k : Nat} {u : U} (h : vw u = .no) : sgf (k + 1) u = .non := by rw [sgf, h]
theorem sgf_any {k : Nat} : sgf (k + 1) (.tup [.str "any"]) = .non := by rw [sgf, (vws .non .non .non).1]
theorem sgf_same {k : Nat} {a : U} : sgf (k + 1) (.tup [.str "same", a]) = a := by rw [sgf, (vws a .non .non).2.1]
theorem sgf_give {k : Nat} {a : U} : sgf (k + 1) (.tup [.str "give", a]) = sgf k a := by rw [sgf, (vws a .non .non).2.2.1]
theorem sgf_fail {k : Nat} {n l w : U} : sgf (k + 1) (.tup [.str "fail", n, l, w]) = n := by rw [sgf, (vws n l w).2.2.2.2.2.2.1]
theorem sgf_take {k : Nat} {n l w : U} : sgf (k + 1) (.tup [.str "take", n, l, w]) = .non := by rw [sgf, (vws n l w).2.2.2.2.2.2.2]
theorem sgf_two {k : Nat} {y : Str} {a b : U} (h : y = "fun" ∨ y = "pair" ∨ y = "box") : sgf (k + 1) (.tup [.str y, a, b]) = .str y := by rw [sgf, vw_two a b h]
theorem gk_fuel : ∀ (k : Nat) (m : Md) (u : U), hg u ≤ k → gk (k + 1) m u = gk k m u ∧ sgf (k + 1) u = sgf k u
  | 0, _, u, h => absurd (hg_pos u) (by omega)
  | k + 1, m, u, h => by
    have IH : ∀ (us : List U) (a : U) (m : Md), hg (.tup us) ≤ k + 1 → a ∈ us → gk (k + 1) m a = gk k m a ∧ sgf (k + 1) a = sgf k a := fun us a m h ha => gk_fuel k m a (by have := hg_in ha; omega)
    rcases vw_cases u with q | rfl | ⟨a, rfl⟩ | ⟨a, rfl⟩ | ⟨n, l, w, rfl⟩ | ⟨n, l, x, rfl⟩ | ⟨y, a, b, rfl, hy⟩
    · rw [gk_no q, gk_no q, sgf_no q, sgf_no q]; exact ⟨rfl, rfl⟩
    · rw [gk_any, gk_any, sgf_any, sgf_any]; exact ⟨rfl, rfl⟩
    · rw [gk_same, gk_same, sgf_same, sgf_same]; exact ⟨rfl, rfl⟩
    · obtain ⟨e1, e2⟩ := IH _ a .P h (by simp)
      rw [gk_give, gk_give, sgf_give, sgf_give, e1]
      exact ⟨rfl, e2⟩
    · rw [gk_fail, gk_fail, sgf_fail, sgf_fail]; exact ⟨rfl, rfl⟩
    · obtain ⟨e1, e2⟩ := IH _ x .T h (by simp)
      rw [gk_take, gk_take, sgf_take, sgf_take, e1, e2]; exact ⟨rfl, rfl⟩
    · obtain ⟨e1, _⟩ := IH _ a .H h (by simp)
      obtain ⟨e2, _⟩ := IH _ b .H h (by simp)
      rw [gk_two hy, gk_two hy, sgf_two hy, sgf_two hy, e1, e2]; exact ⟨rfl, rfl⟩
/-! ### plain and good -/
theorem lgr_any {k : Nat} {u : U} (h : gk (k + 1) .P u = true) (hd : 1 ≤ d) : (pg.cal d).call "_law_ground" [u] S = .ok (sgf (k + 1) u) S := by
  obtain ⟨d, rfl⟩ : ∃ e, d = e + 1 := ⟨d - 1, by omega⟩
  rw [call_eq (df := ⟨1, 1, false, T__law_ground⟩) (by kernel_rfl), run_eq (by rfl)]
  unfold T__law_ground
  rcases vw_cases u with q | rfl | ⟨a, rfl⟩ | ⟨a, rfl⟩ | ⟨n, l, w, rfl⟩ | ⟨n, l, x, rfl⟩ | ⟨y, a, b, rfl, hy⟩
  · rw [gk_no q] at h; exact absurd h (fun z => Bool.noConfusion z)
  · rw [gk_any] at h; exact absurd h (by simp)
  · rw [sgf_same]; simp_arith only [ix_h, ix_1, decide_true]
  · rw [gk_give] at h; exact absurd h (by simp)
  · rw [gk_fail] at h; exact absurd h (by simp)
  · rw [gk_take] at h; exact absurd h (by simp)
  · rw [sgf_two hy]
    rcases hy with rfl | rfl | rfl <;> simp_arith only [ix_h, decide_false]
def FPB : List Str := ["fun", "pair", "box"]
def IBU : List Str := ["int", "bool", "unit"]
theorem smn_mem (x : Str) : smn (.str x) = decide (x ∈ IBU) := by
  rw [Bool.eq_iff_iff]
  simp only [smn, eqT, IBU, Bool.or_eq_true, beq_iff_eq, decide_eq_true_eq, List.mem_cons, List.not_mem_nil, or_false]
  constructor <;> (rintro (h | h | h) <;> subst h <;> simp)
theorem in_list {Φ : Cal} {env : Oz.Env} {e : E} {x : Str} {l : List Str} {es : Es} {S : Sto} (he : ev Φ e env S = .ok (.str x) S) (hs : ∀ S, evs Φ es env S = .ok (l.map U.str) S) (hl : l.length ≤ 1000) : Vg Φ (.cmp .in_ e (.lst es)) env S (.bl (decide (x ∈ l))) := by
  refine ⟨S ++ [.lst (l.map U.str)], ?_, Gr.push⟩
  rw [ev_cmp, he, bind_ok, ev_lst, hs, bind_ok, if_pos (by rw [List.length_map]; exact szle hl), bind_ok, inl_str last_get]
theorem lplain_any : ∀ (k : Nat), (∀ (u : U) (S : Sto) (d : Nat), hg u ≤ k → okS S u = true → 2 * k + 4 ≤ d → Cg (pg.cal d) "_law_plain" [u] S (.bl (gk k .P u))) ∧ (∀ (u : U) (S : Sto) (d : Nat), hg u ≤ k → okS S u = true → 2 * k + 5 ≤ d → Cg (pg.cal d) "_law_good" [u] S (.bl (gk k .H u)))
  | 0 => ⟨fun u _ _ h _ _ => absurd (hg_pos u) (by omega), fun u _ _ h _ _ => absurd (hg_pos u) (by omega)⟩
  | k + 1 => by
    obtain ⟨IP, IG⟩ := lplain_any k
    have PL : ∀ (u : U) (S : Sto) (d : Nat), hg u ≤ k + 1 → okS S u = true → 2 * (k + 1) + 4 ≤ d → Cg (pg.cal d) "_law_plain" [u] S (.bl (gk (k + 1) .P u)) := fun u S d h o hd => by
      obtain ⟨d, rfl⟩ : ∃ e, d = e + 1 := ⟨d - 1, by omega⟩
      refine Cg.of (env := [some u, none]) (body := T__law_plain) (fun S => by rw [call_eq (df := ⟨1, 2, false, T__law_plain⟩) (by kernel_rfl), run_eq (by rfl)]; rfl) ?_
      unfold T__law_plain
      refine Xg.set (x := .str (kdS u)) (Vg.call1 (Vg.var rfl) fun S1 g => lkind_any (okS_gr g o) (by omega)) fun S1 g1 => ?_
      show Xg (pg.cal d) _ [some u, some (.str (kdS u))] S1 _
      have inn : ∀ us a, u = .tup us → a ∈ us → okS S a = true ∧ hg a ≤ k := fun us a e ha => by subst e; have := hg_in ha; exact ⟨okS_in o ha, by omega⟩
      refine Xg.iff (k := decide (kdS u = "same")) (Tg_.ex (Vg.eqs (Vg.var rfl) fun _ => Vg.con)) (fun S2 g2 hk => ?_) (fun S2 g2 hk => ?_)
      · have hk := of_decide_eq_true hk
        obtain ⟨a, rfl⟩ : ∃ a, u = .tup [.str "same", a] := by
          rcases kd_cases u with ⟨q, z⟩ | ⟨rfl, z⟩ | ⟨a, rfl, z⟩ | ⟨a, rfl, z⟩ | ⟨n, l, w, rfl, z⟩ | ⟨n, l, x, rfl, z⟩ | ⟨y, a, b, rfl, z, hy⟩
          · rw [z] at hk; simp [ofS_inj] at hk
          · rw [z] at hk; simp [ofS_inj] at hk
          · exact ⟨a, rfl⟩
          · rw [z] at hk; simp [ofS_inj] at hk
          · rw [z] at hk; simp [ofS_inj] at hk
          · rw [z] at hk; simp [ofS_inj] at hk
          · rw [z] at hk; subst hk; simp [ofS_inj] at hy
        obtain ⟨oa, _⟩ := inn _ a rfl (by simp)
        rw [gk_same]
        have h1 := (isi_t (Φ := pg.cal d) (e := .ix (.v 0) (.k (.int 1))) (ev_ix1 (env := [some (.tup [.str "same", a]), some (.str (kdS (.tup [.str "same", a])))]) rfl S2) (okS_gr (g1.trans g2) oa)).2
        refine Xg.ret ((Vg.and (q := smn a) (Vg.same h1) fun S3 g3 hs => ?_).imp ?_)
        · obtain ⟨x, rfl⟩ : ∃ x, a = .str x := by cases a <;> first | exact ⟨_, rfl⟩ | exact absurd hs (fun z => Bool.noConfusion z)
          rw [smn_mem]
          exact in_list (ev_ix1 rfl S3) (fun S => rfl) (by decide)
        · cases a <;> rfl
      · refine Xg.iff (k := decide (kdS u ∈ FPB)) (Tg_.ex (in_list (ev_v' rfl) (fun S => rfl) (by decide))) (fun S3 g3 hk2 => ?_) (fun S3 g3 hk2 => ?_)
        · have hk2 := of_decide_eq_true hk2
          obtain ⟨y, a, b, rfl, hy⟩ : ∃ y a b, u = .tup [.str y, a, b] ∧ (y = "fun" ∨ y = "pair" ∨ y = "box") := by
            rcases kd_cases u with ⟨q, z⟩ | ⟨rfl, z⟩ | ⟨a, rfl, z⟩ | ⟨a, rfl, z⟩ | ⟨n, l, w, rfl, z⟩ | ⟨n, l, x, rfl, z⟩ | ⟨y, a, b, rfl, z, hy⟩
            · rw [z] at hk2; simp [FPB, ofS_inj] at hk2
            · rw [z] at hk2; simp [FPB, ofS_inj] at hk2
            · rw [z] at hk2; simp [FPB, ofS_inj] at hk2
            · rw [z] at hk2; simp [FPB, ofS_inj] at hk2
            · rw [z] at hk2; simp [FPB, ofS_inj] at hk2
            · rw [z] at hk2; simp [FPB, ofS_inj] at hk2
            · exact ⟨y, a, b, rfl, hy⟩
          obtain ⟨oa, ha⟩ := inn _ a rfl (by simp)
          obtain ⟨ob, hb⟩ := inn _ b rfl (by simp)
          rw [gk_two hy]
          exact Xg.ret (Vg.and (Vg.call1 (Vg.same (ev_ix1 rfl S3)) fun S4 g4 => IG a S4 d ha (okS_gr (((g1.trans g2).trans g3).trans g4) oa) (by omega)) fun S4 g4 _ => Vg.call1 (Vg.same (ev_ix2 rfl S4)) fun S5 g5 => IG b S5 d hb (okS_gr ((((g1.trans g2).trans g3).trans g4).trans g5) ob) (by omega))
        · have e : gk (k + 1) .P u = false := by
            rcases kd_cases u with ⟨q, z⟩ | ⟨rfl, z⟩ | ⟨a, rfl, z⟩ | ⟨a, rfl, z⟩ | ⟨n, l, w, rfl, z⟩ | ⟨n, l, x, rfl, z⟩ | ⟨y, a, b, rfl, z, hy⟩
            · exact gk_no q
            · rw [gk_any]; rfl
            · rw [z] at hk; simp at hk
            · rw [gk_give]; rfl
            · rw [gk_fail]; rfl
            · rw [gk_take]; rfl
            · rw [z] at hk2; exfalso; rcases hy with rfl | rfl | rfl <;> simp [FPB] at hk2
          rw [e]
          exact Xg.ret Vg.con
    refine ⟨PL, fun u S d h o hd => ?_⟩
    obtain ⟨d, rfl⟩ : ∃ e, d = e + 1 := ⟨d - 1, by omega⟩
    refine Cg.of (env := [some u, none, none]) (body := T__law_good) (fun S => by rw [call_eq (df := ⟨1, 3, false, T__law_good⟩) (by kernel_rfl), run_eq (by rfl)]; rfl) ?_
    unfold T__law_good
    refine Xg.set (x := .str (kdS u)) (Vg.call1 (Vg.var rfl) fun S1 g => lkind_any (okS_gr g o) (by omega)) fun S1 g1 => ?_
    show Xg (pg.cal d) _ [some u, some (.str (kdS u)), none] S1 _
    refine Xg.iff (k := decide (kdS u = "any") || (flU u || gk (k + 1) .P u)) (Tg_.or (Tg_.ex (Vg.eqs (Vg.var rfl) fun _ => Vg.con)) fun S2 g2 _ => Tg_.or (Tg_.ex (Vg.call1 (Vg.var rfl) fun S3 g3 => lfail_any (okS_gr ((g1.trans g2).trans g3) o) (by omega))) fun S3 g3 _ => Tg_.ex (Vg.call1 (Vg.var rfl) fun S4 g4 => PL u S4 d h (okS_gr (((g1.trans g2).trans g3).trans g4) o) (by omega))) (fun S2 g2 hk => ?_) (fun S2 g2 hk => ?_)
    · have e : gk (k + 1) .H u = true := by
        simp only [Bool.or_eq_true, decide_eq_true_eq] at hk
        rcases kd_cases u with ⟨q, z⟩ | ⟨rfl, z⟩ | ⟨a, rfl, z⟩ | ⟨a, rfl, z⟩ | ⟨n, l, w, rfl, z⟩ | ⟨n, l, x, rfl, z⟩ | ⟨y, a, b, rfl, z, hy⟩
        · rw [z, fl_not (by rw [z]; simp [ofS_inj]), gk_no q] at hk; simp [ofS_inj] at hk
        · rw [gk_any]; rfl
        · rw [z, fl_not (by rw [z]; simp [ofS_inj]), gk_same] at hk
          rw [gk_same]
          simpa [ofS_inj] using hk
        · rw [z, fl_not (by rw [z]; simp [ofS_inj]), gk_give] at hk; simp [ofS_inj] at hk
        · rw [z, fl_fail, gk_fail] at hk
          rw [gk_fail]
          simpa [ofS_inj] using hk
        · rw [z, fl_not (by rw [z]; simp [ofS_inj]), gk_take] at hk; simp [ofS_inj] at hk
        · have hy2 : y ≠ "any" ∧ y ≠ "fail" := by rcases hy with rfl | rfl | rfl <;> simp [ofS_inj]
          rw [z, fl_not (by rw [z]; exact hy2.2), gk_two hy] at hk
          rw [gk_two hy]
          simpa [hy2.1] using hk
      rw [e]
      exact Xg.ret Vg.con
    · simp only [Bool.or_eq_false_iff, decide_eq_false_iff_not] at hk
      obtain ⟨k1, k2, k3⟩ := hk
      refine Xg.iff (k := decide (kdS u = "give")) (Tg_.ex (Vg.eqs (Vg.var rfl) fun _ => Vg.con)) (fun S3 g3 hg_ => ?_) (fun S3 g3 hg_ => ?_)
      · have hg_ := of_decide_eq_true hg_
        obtain ⟨a, rfl⟩ : ∃ a, u = .tup [.str "give", a] := by
          rcases kd_cases u with ⟨q, z⟩ | ⟨rfl, z⟩ | ⟨a, rfl, z⟩ | ⟨a, rfl, z⟩ | ⟨n, l, w, rfl, z⟩ | ⟨n, l, x, rfl, z⟩ | ⟨y, a, b, rfl, z, hy⟩
          · rw [z] at hg_; simp [ofS_inj] at hg_
          · rw [z] at hg_; simp [ofS_inj] at hg_
          · rw [z] at hg_; simp [ofS_inj] at hg_
          · exact ⟨a, rfl⟩
          · rw [z] at hg_; simp [ofS_inj] at hg_
          · rw [z] at hg_; simp [ofS_inj] at hg_
          · rw [z] at hg_; subst hg_; simp [ofS_inj] at hy
        have oa := okS_in o (a := a) (by simp)
        have ha := hg_in (us := [.str "give", a]) (a := a) (by simp)
        rw [gk_give]
        exact Xg.ret ((Vg.call1 (Vg.same (ev_ix1 rfl S3)) fun S4 g4 => IP a S4 d (by omega) (okS_gr (((g1.trans g2).trans g3).trans g4) oa) (by omega)).imp (by simp))
      · have hg_ := of_decide_eq_false hg_
        by_cases ht : kdS u = "take"
        · obtain ⟨n, l, x, rfl⟩ : ∃ n l x, u = .tup [.str "take", n, l, x] := by
            rcases kd_cases u with ⟨q, z⟩ | ⟨rfl, z⟩ | ⟨a, rfl, z⟩ | ⟨a, rfl, z⟩ | ⟨n, l, w, rfl, z⟩ | ⟨n, l, x, rfl, z⟩ | ⟨y, a, b, rfl, z, hy⟩
            · rw [z] at ht; simp [ofS_inj] at ht
            · rw [z] at ht; simp [ofS_inj] at ht
            · rw [z] at ht; simp [ofS_inj] at ht
            · rw [z] at ht; simp [ofS_inj] at ht
            · rw [z] at ht; simp [ofS_inj] at ht
            · exact ⟨n, l, x, rfl⟩
            · rw [z] at ht; subst ht; simp [ofS_inj] at hy
          have on := okS_in o (a := n) (by simp)
          have ol := okS_in o (a := l) (by simp)
          have ox := okS_in o (a := x) (by simp)
          have hx := hg_in (us := [.str "take", n, l, x]) (a := x) (by simp)
          have hxk : hg x ≤ k := by omega
          have hxp := hg_pos x
          rw [gk_take, decide_eq_true rfl, Bool.true_and]
          refine Xg.iff (k := false || (!gnm n || !labU l)) (Tg_.or (p := false) ((Tg_.ex (Vg.nes (Vg.var rfl) fun _ => Vg.con)).imp (by rw [ht]; simp)) fun S4 g4 _ => Tg_.or (Tg_.not (Tg_.ex (Vg.call1 (Vg.same (ev_ix1 rfl S4)) fun S5 g5 => lname_any (okS_gr ((((g1.trans g2).trans g3).trans g4).trans g5) on) (by omega)))) fun S5 g5 _ => Tg_.not (Tg_.ex (Vg.call1 (Vg.same (ev_ix2 rfl S5)) fun S6 g6 => llab_any (okS_gr (((((g1.trans g2).trans g3).trans g4).trans g5).trans g6) ol) (by omega)))) (fun S4 g4 hq => Xg.ret (Vg.con.imp ?_)) (fun S4 g4 hq => ?_)
          · have hz : (labU l && (gk k .T x && eqT (sgf k x) n)) = false := by
              cases hl : labU l with
              | false => rfl
              | true =>
                rw [hl] at hq
                have hn : gnm n = false := by simpa using hq
                cases ht2 : gk k .T x with
                | false => rfl
                | true =>
                  obtain ⟨z, hz, hgz⟩ := sg_str k .T x ht2 (by simp)
                  rw [hz]
                  cases n with
                  | str y =>
                    cases he : eqT (.str z) (.str y) with
                    | false => rfl
                    | true =>
                      simp only [eqT, beq_iff_eq] at he
                      subst he
                      rw [hgz] at hn
                      cases hn
                  | _ => rfl
            rw [hz]
          · have hk1 : gnm n = true ∧ labU l = true := by
              generalize gnm n = p at *
              generalize labU l = q at *
              cases p <;> cases q <;> first | exact ⟨rfl, rfl⟩ | (simp at hq)
            rw [hk1.2, Bool.true_and]
            obtain ⟨ns, rfl⟩ := nm_str hk1.1
            obtain ⟨j, rfl⟩ : ∃ j, k = j + 1 := ⟨k - 1, by omega⟩
            refine Xg.set (x := x) (Vg.same (ev_ix3 rfl S4)) fun S5 g5 => ?_
            have o5 : okS S5 x = true := okS_gr ((((g1.trans g2).trans g3).trans g4).trans g5) ox
            show Xg (pg.cal d) _ [some (.tup [.str "take", .str ns, l, x]), some (.str _), some x] S5 _
            generalize kdS (U.tup [U.str "take", U.str ns, l, x]) = kk at *
            refine Xg.iff (k := flU x) (Tg_.ex (Vg.call1 (Vg.var rfl) fun S6 g6 => lfail_any (okS_gr g6 o5) (by omega))) (fun S6 g6 hf => ?_) (fun S6 g6 hf => ?_)
            · have hfk : kdS x = "fail" := by
                apply Decidable.byContradiction
                intro z
                rw [fl_not z] at hf
                cases hf
              obtain ⟨n', l', w', rfl⟩ : ∃ n' l' w', x = .tup [.str "fail", n', l', w'] := by
                rcases kd_cases x with ⟨q, z⟩ | ⟨rfl, z⟩ | ⟨a, rfl, z⟩ | ⟨a, rfl, z⟩ | ⟨n, l, w, rfl, z⟩ | ⟨n, l, x, rfl, z⟩ | ⟨y, a, b, rfl, z, hy⟩
                · rw [z] at hfk; simp [ofS_inj] at hfk
                · rw [z] at hfk; simp [ofS_inj] at hfk
                · rw [z] at hfk; simp [ofS_inj] at hfk
                · rw [z] at hfk; simp [ofS_inj] at hfk
                · exact ⟨n, l, w, rfl⟩
                · rw [z] at hfk; simp [ofS_inj] at hfk
                · rw [z] at hfk; subst hfk; simp [ofS_inj] at hy
              rw [fl_fail] at hf
              rw [gk_fail, sgf_fail, hf, decide_eq_true (by simp), Bool.true_and, Bool.true_and]
              simp only [Bool.and_eq_true] at hf
              obtain ⟨n2, rfl⟩ := nm_str hf.1
              exact Xg.ret ((Vg.eqs (Vg.same (ev_ix1 rfl S6)) fun S7 => Vg.same (ev_ix1 rfl S7)).imp rfl)
            · have eqs : ∀ {e : E} {z : U} (S7 : Sto), (∀ S, ev (pg.cal d) e [some (.tup [.str "take", .str ns, l, x]), some (.str kk), some x] S = .ok z S) → (∃ zs, z = .str zs) → Vg (pg.cal d) (.cmp .eq e (.ix (.v 0) (.k (.int 1)))) [some (.tup [.str "take", .str ns, l, x]), some (.str kk), some x] S7 (.bl (eqT z (.str ns))) := fun {e z} S7 he ⟨zs, hz⟩ => by
                subst hz
                exact (Vg.eqs (Vg.same (he S7)) fun S8 => Vg.same (ev_ix1 rfl S8)).imp rfl
              by_cases hgv : kdS x = "give"
              · obtain ⟨a, rfl⟩ : ∃ a, x = .tup [.str "give", a] := by
                  rcases kd_cases x with ⟨q, z⟩ | ⟨rfl, z⟩ | ⟨a, rfl, z⟩ | ⟨a, rfl, z⟩ | ⟨n, l, w, rfl, z⟩ | ⟨n, l, x, rfl, z⟩ | ⟨y, a, b, rfl, z, hy⟩
                  · rw [z] at hgv; simp [ofS_inj] at hgv
                  · rw [z] at hgv; simp [ofS_inj] at hgv
                  · rw [z] at hgv; simp [ofS_inj] at hgv
                  · exact ⟨a, rfl⟩
                  · rw [z] at hgv; simp [ofS_inj] at hgv
                  · rw [z] at hgv; simp [ofS_inj] at hgv
                  · rw [z] at hgv; subst hgv; simp [ofS_inj] at hy
                have oa := okS_in o5 (a := a) (by simp)
                have ha := hg_in (us := [.str "give", a]) (a := a) (by simp)
                obtain ⟨f1, f2⟩ := gk_fuel j .P a (by omega)
                rw [gk_give, sgf_give, decide_eq_true (by simp), Bool.true_and, ← f1, ← f2]
                refine Xg.iff (k := true && gk (j + 1) .P a) (Tg_.and (p := true) ((Tg_.ex (Vg.eqs (Vg.call1 (Vg.var rfl) fun S7 g7 => lkind_any (okS_gr (g6.trans g7) o5) (by omega)) fun _ => Vg.con)).imp (by rw [hgv]; simp)) fun S7 g7 _ => Tg_.ex (Vg.call1 (Vg.same (ev_ix1 rfl S7)) fun S8 g8 => IP a S8 d (by omega) (okS_gr ((g6.trans g7).trans g8) oa) (by omega))) (fun S7 g7 hp => ?_) (fun S7 g7 hp => ?_)
                · have hp : gk (j + 1) .P a = true := by simpa using hp
                  rw [hp, Bool.true_and]
                  obtain ⟨z, hz, _⟩ := sg_str (j + 1) .P a hp (by simp)
                  exact Xg.ret (eqs S7 (fun S => by rw [ev_call, evs_cons, ev_ix1 rfl S, bind_ok, evs_nil, bind_ok, bind_ok, lgr_any hp (by omega)]) ⟨z, hz⟩)
                · have hp : gk (j + 1) .P a = false := by simpa using hp
                  rw [hp, Bool.false_and]
                  refine Xg.ret ((Vg.and (q := true) (Vg.call1 (Vg.var rfl) fun S8 g8 => IP (.tup [.str "give", a]) S8 d hxk (okS_gr ((g6.trans g7).trans g8) o5) (by omega)) fun S8 g8 z => ?_).imp ?_)
                  · rw [gk_give] at z; simp at z
                  · rw [gk_give]; simp
              · refine Xg.iff (k := false && true) (Tg_.and (p := false) ((Tg_.ex (Vg.eqs (Vg.call1 (Vg.var rfl) fun S7 g7 => lkind_any (okS_gr (g6.trans g7) o5) (by omega)) fun _ => Vg.con)).imp (decide_eq_false hgv)) fun _ _ z => Bool.noConfusion z) (fun _ _ z => Bool.noConfusion z) (fun S7 g7 _ => ?_)
                have eTP : gk (j + 1) .T x = gk (j + 1) .P x := by
                  rcases kd_cases x with ⟨q, z⟩ | ⟨rfl, z⟩ | ⟨a, rfl, z⟩ | ⟨a, rfl, z⟩ | ⟨n, l, w, rfl, z⟩ | ⟨n, l, x, rfl, z⟩ | ⟨y, a, b, rfl, z, hy⟩
                  · rw [gk_no q, gk_no q]
                  · rw [gk_any, gk_any]; rfl
                  · rw [gk_same, gk_same]
                  · exact absurd z hgv
                  · rw [fl_fail] at hf
                    rw [gk_fail, gk_fail, hf]; rfl
                  · rw [gk_take, gk_take]; rfl
                  · rw [gk_two hy, gk_two hy]
                rw [eTP]
                refine Xg.ret (Vg.and (Vg.call1 (Vg.var rfl) fun S8 g8 => IP x S8 d hxk (okS_gr ((g6.trans g7).trans g8) o5) (by omega)) fun S8 g8 hp => ?_)
                obtain ⟨z, hz, _⟩ := sg_str (j + 1) .P x hp (by simp)
                exact eqs S8 (fun S => by rw [ev_call, evs_cons, ev_v' (u := x) rfl, bind_ok, evs_nil, bind_ok, bind_ok, lgr_any hp (by omega)]) ⟨z, hz⟩
        · have e : gk (k + 1) .H u = false := by
            rcases kd_cases u with ⟨q, z⟩ | ⟨rfl, z⟩ | ⟨a, rfl, z⟩ | ⟨a, rfl, z⟩ | ⟨n, l, w, rfl, z⟩ | ⟨n, l, x, rfl, z⟩ | ⟨y, a, b, rfl, z, hy⟩
            · exact gk_no q
            · exact absurd z k1
            · rw [gk_same] at k3 ⊢; exact k3
            · exact absurd z hg_
            · rw [fl_fail] at k2; rw [gk_fail, k2]; rfl
            · exact absurd z ht
            · rw [gk_two hy] at k3 ⊢; exact k3
          rw [e]
          exact Xg.iff (k := true) (Tg_.or (p := true) (q := true) ((Tg_.ex (Vg.nes (Vg.var rfl) fun _ => Vg.con)).imp (by rw [decide_eq_false ht]; rfl)) fun _ _ z => Bool.noConfusion z) (fun S4 g4 _ => Xg.ret Vg.con) fun _ _ z => Bool.noConfusion z
end Pr

end

section
set_option maxHeartbeats 4000000
namespace Pr
open PySem L2 Oz
variable {S S' : Sto} {d st cl : Nat}
/-! ### bent values -/
mutual
theorem ok_pur : ∀ {u : U}, purU u = true → okS S u = true ∧ lfS S u = true
  | .non, _ => ⟨rfl, rfl⟩
  | .bl _, _ => ⟨rfl, rfl⟩
  | .int _, _ => ⟨rfl, rfl⟩
  | .str _, _ => ⟨rfl, rfl⟩
  | .tup us, h => by
    simp only [okS, lfS]
    exact oks_pur (by simpa [purU] using h)
  | .loc n, h => by simp [purU] at h
theorem oks_pur : ∀ {us : List U}, purUs us = true → okSs S us = true ∧ lfSs S us = true
  | [], _ => ⟨rfl, rfl⟩
  | u :: us, h => by
    simp only [purUs, Bool.and_eq_true] at h
    obtain ⟨a1, a2⟩ := ok_pur h.1
    obtain ⟨b1, b2⟩ := oks_pur h.2
    simp only [okSs, lfSs, a1, a2, b1, b2, Bool.and_self, and_self]
end
mutual
theorem dep_pur : ∀ {u : U}, purU u = true → (pdU u).depth ≤ hg u
  | .non, _ => by simp [pdU, PyData.depth, hg]
  | .bl _, _ => by simp [pdU, PyData.depth, hg]
  | .int _, _ => by simp [pdU, PyData.depth, hg]
  | .str _, _ => by simp [pdU, PyData.depth, hg]
  | .tup us, h => by
    have := deps_pur (us := us) (by simpa [purU] using h)
    simp only [pdU, PyData.depth, hg]
    omega
  | .loc n, h => by simp [purU] at h
theorem deps_pur : ∀ {us : List U}, purUs us = true → PyData.depthAll (pdUs us) ≤ hgs us
  | [], _ => by simp [pdUs, PyData.depthAll, hgs]
  | u :: us, h => by
    simp only [purUs, Bool.and_eq_true] at h
    have := dep_pur h.1
    have := deps_pur h.2
    simp only [pdUs, PyData.depthAll, hgs]
    omega
end
structure BV (S : Sto) (u : U) (h b : Nat) : Prop where
  ok : okS S u = true
  hg : hg u ≤ h
  dp : (pdS S u).depth ≤ h
  sh : (pdS S u).showable = true
  lv : (pdS S u).leavesShort 13 = true
  bk : (pdS S u).bulk ≤ b
  dl : (pdS S u).hasDict = false ∨ lfS S u = true
structure BVs (S : Sto) (us : List U) (h b : Nat) : Prop where
  ok : okSs S us = true
  hg : hgs us ≤ h
  dp : PyData.depthAll (pdSs S us) ≤ h
  sh : PyData.showableAll (pdSs S us) = true
  lv : PyData.leavesShortAll 13 (pdSs S us) = true
  bk : PyData.bulkAll (pdSs S us) ≤ b
  dl : PyData.hasDictAll (pdSs S us) = false ∨ lfSs S us = true
theorem BV.le {u : U} {h b h' b' : Nat} (x : BV S u h b) (hh : h ≤ h') (hb : b ≤ b') : BV S u h' b' := ⟨x.ok, Nat.le_trans x.hg hh, Nat.le_trans x.dp hh, x.sh, x.lv, Nat.le_trans x.bk hb, x.dl⟩
theorem gd_parts {u : U} (h : gdB u = true) : purU u = true ∧ (pdU u).canLay0 = true ∧ (pdU u).showable = true ∧ (pdU u).leavesShort 13 = true := by
  simp only [gdB, Bool.and_eq_true] at h
  exact ⟨h.1, h.2.1, h.2.2.1, h.2.2.2⟩
theorem BV.pur {u : U} {h b : Nat} (g : gdB u = true) (hh : Pr.hg u ≤ h) (hb : (pdU u).bulk ≤ b) : BV S u h b := by
  obtain ⟨p, c, s, l⟩ := gd_parts g
  obtain ⟨o1, o2⟩ := ok_pur (S := S) p
  have e := pdS_pur (S := S) p
  have := dep_pur p
  exact ⟨o1, hh, by rw [e]; omega, by rw [e]; exact s, by rw [e]; exact l, by rw [e]; exact hb, .inr o2⟩
theorem gs_parts {us : List U} (h : gsB us = true) : purUs us = true ∧ PyData.canLayAll0 (pdUs us) = true ∧ PyData.showableAll (pdUs us) = true ∧ PyData.leavesShortAll 13 (pdUs us) = true := by
  simp only [gsB, Bool.and_eq_true] at h
  exact ⟨h.1, h.2.1, h.2.2.1, h.2.2.2⟩
theorem BVs.pur {us : List U} {h b : Nat} (g : gsB us = true) (hh : hgs us ≤ h) (hb : PyData.bulkAll (pdUs us) ≤ b) : BVs S us h b := by
  obtain ⟨p, c, s, l⟩ := gs_parts g
  obtain ⟨o1, o2⟩ := oks_pur (S := S) p
  have e := pdSs_pur (S := S) p
  have := deps_pur p
  exact ⟨o1, hh, by rw [e]; omega, by rw [e]; exact s, by rw [e]; exact l, by rw [e]; exact hb, .inr o2⟩
theorem BVs.consP {a : U} {us : List U} {h b : Nat} (g : gdB a = true) (hh : Pr.hg a ≤ h) (x : BVs S us h b) : BVs S (a :: us) h ((pdU a).bulk + 1 + b) := by
  obtain ⟨p, c, s, l⟩ := gd_parts g
  obtain ⟨o1, o2⟩ := ok_pur (S := S) p
  have e := pdS_pur (S := S) p
  have := dep_pur p
  have hd := PyData.hasDict_of_canLay _ c
  refine ⟨by simp only [okSs, o1, x.ok, Bool.and_self], ?_, ?_, by simp only [pdSs, PyData.showableAll, e, s, x.sh, Bool.and_self], by simp only [pdSs, PyData.leavesShortAll, e, l, x.lv, Bool.and_self], ?_, ?_⟩
  · have := x.hg; simp only [hgs]; omega
  · have := x.dp; simp only [pdSs, PyData.depthAll, e]; omega
  · have := x.bk; simp only [pdSs, PyData.bulkAll, e]; omega
  · rcases x.dl with z | z
    · left; simp only [pdSs, PyData.hasDictAll, e, hd, z, Bool.or_self]
    · right; simp only [lfSs, o2, z, Bool.and_self]
theorem BVs.consB {a : U} {us : List U} {h b c : Nat} (x : BV S a h b) (g : gsB us = true) (hh : hgs us ≤ h) (hb : PyData.bulkAll (pdUs us) ≤ c) : BVs S (a :: us) h (b + 1 + c) := by
  have y := BVs.pur (S := S) g hh hb
  obtain ⟨p, cl, s, l⟩ := gs_parts g
  obtain ⟨o1, o2⟩ := oks_pur (S := S) p
  have e := pdSs_pur (S := S) p
  have hd := PyData.hasDictAll_of_canLayAll _ cl
  refine ⟨by simp only [okSs, o1, x.ok, Bool.and_self], ?_, ?_, by simp only [pdSs, PyData.showableAll, x.sh, y.sh, Bool.and_self], by simp only [pdSs, PyData.leavesShortAll, x.lv, y.lv, Bool.and_self], ?_, ?_⟩
  · have := x.hg; have := y.hg; simp only [hgs]; omega
  · have := x.dp; have := y.dp; simp only [pdSs, PyData.depthAll]; omega
  · have := x.bk; have := y.bk; simp only [pdSs, PyData.bulkAll]; omega
  · rcases x.dl with z | z
    · left; simp only [pdSs, PyData.hasDictAll, e, hd, z, Bool.or_self]
    · right; simp only [lfSs, o2, z, Bool.and_self]
theorem BVs.mid {a : U} {h b c : Nat} {C : List U} (x : BV S a h b) (g : gsB C = true) (hh : hgs C ≤ h) (hb : PyData.bulkAll (pdUs C) ≤ c) : ∀ A : List U, gsB A = true → hgs A ≤ h → BVs S (A ++ a :: C) h (PyData.bulkAll (pdUs A) + (b + 1 + c))
  | [], _, _ => by
    have := BVs.consB x g hh hb
    simpa [pdUs, PyData.bulkAll] using this
  | y :: A, gA, hA => by
    rw [gs_cons, Bool.and_eq_true] at gA
    simp only [hgs] at hA
    have := BVs.consP gA.1 (show Pr.hg y ≤ h by omega) (BVs.mid x g hh hb A gA.2 (by omega))
    have e : PyData.bulkAll (pdUs (y :: A)) = (pdU y).bulk + 1 + PyData.bulkAll (pdUs A) := rfl
    rw [e]
    rw [show (pdU y).bulk + 1 + PyData.bulkAll (pdUs A) + (b + 1 + c) = (pdU y).bulk + 1 + (PyData.bulkAll (pdUs A) + (b + 1 + c)) by omega]
    exact this
theorem BVs.tup {us : List U} {h b : Nat} (x : BVs S us h b) : BV S (.tup us) (h + 1) b := by
  refine ⟨by simpa [okS] using x.ok, by have := x.hg; simp only [Pr.hg]; omega, by have := x.dp; simp only [pdS, PyData.depth]; omega, by simpa [pdS, PyData.showable] using x.sh, by simpa [pdS, PyData.leavesShort] using x.lv, by simpa [pdS, PyData.bulk] using x.bk, ?_⟩
  rcases x.dl with z | z
  · left; simpa [pdS, PyData.hasDict] using z
  · right; simpa [lfS] using z
theorem BV.lst {n : Nat} {us : List U} {h b : Nat} (hn : S[n]? = some (.lst us)) (g : gsB us = true) (hh : hgs us + 1 ≤ h) (hb : PyData.bulkAll (pdUs us) ≤ b) : BV S (.loc n) h b := by
  obtain ⟨p, cl, s, l⟩ := gs_parts g
  have e : pdS S (.loc n) = .list (pdUs us) := by simp only [pdS, hn]
  have := deps_pur p
  have hd := PyData.hasDictAll_of_canLayAll _ cl
  refine ⟨by simp only [okS, hn, p], by simp only [Pr.hg]; omega, by rw [e]; simp only [PyData.depth]; omega, by rw [e]; simpa [PyData.showable] using s, by rw [e]; simpa [PyData.leavesShort] using l, by rw [e]; simpa [PyData.bulk] using hb, .inl ?_⟩
  rw [e]
  simpa [PyData.hasDict] using hd
theorem BV.dic {n : Nat} {h b : Nat} (hn : S[n]? = some (.dic [])) (hh : 1 ≤ h) : BV S (.loc n) h b := by
  have e : pdS S (.loc n) = .dict [] := by simp only [pdS, hn]
  refine ⟨by simp only [okS, hn], by simp only [Pr.hg]; omega, by rw [e]; simp [PyData.depth, PyData.depthKv]; omega, by rw [e]; rfl, by rw [e]; rfl, by rw [e]; simp [PyData.bulk, PyData.bulkKv], .inr ?_⟩
  simp only [lfS, hn]
end Pr

end

section
set_option maxHeartbeats 4000000
namespace Pr
open PySem L2 Oz
variable {S S' : Sto} {d st cl : Nat}
theorem cutA_take (us : List U) (n : Nat) (h : n ≤ us.length) : cutA us none (some (n : Int)) = us.take n := by
  unfold cutA
  rw [HT.sIx_none, Nat.sub_zero, List.drop_zero]
  unfold HT.sIx
  dsimp only
  rw [if_neg (by omega), Int.toNat_natCast, Nat.min_eq_left h]
theorem cutA_drop (us : List U) (n : Nat) (h : n ≤ us.length) : cutA us (some (n : Int)) none = us.drop n := by
  unfold cutA
  rw [HT.sIx_none]
  unfold HT.sIx
  dsimp only
  rw [if_neg (by omega), Int.toNat_natCast, Nat.min_eq_left h]
  exact List.take_of_length_le (by simp)
/-! ### strange values -/
def L1 (n : Nat) : List U := [.non, .bl true, .int 0, .int 1, .int (-1), .str "", .str "int", .str "any", .tup [], .loc n, .tup [.str "any"], .tup [.str "same", .str "int"], .tup [.str "same", .str "any"], .tup [.int 0, .int 1], .tup [.int 1, .int 2]]
def L2_ (m n : Nat) : List U := [.loc m, .loc n, .tup [.str "give", .tup [.str "any"]], .tup [.str "take", .str "int", .tup [.int 0, .int 0], .tup [.str "any"]], .tup [.bl true, .int 0], .tup [.str "fun", .tup [.str "any"]]]
def LP : List U := [.non, .bl true, .int 0, .int 1, .int (-1), .str "", .str "int", .str "any", .tup [], .tup [.str "any"], .tup [.str "same", .str "int"], .tup [.str "same", .str "any"], .tup [.int 0, .int 1], .tup [.int 1, .int 2], .tup [.str "give", .tup [.str "any"]], .tup [.str "take", .str "int", .tup [.int 0, .int 0], .tup [.str "any"]], .tup [.bl true, .int 0], .tup [.str "fun", .tup [.str "any"]]]
theorem lp_ok : ∀ u ∈ LP, gdB u = true ∧ hg u ≤ 3 ∧ (pdU u).bulk ≤ 60 := by decide +kernel
theorem take_d {m : Int} (h0 : 0 < m) (h1 : m < 1000000) (hd : 1 ≤ d) (hs : HasSt S st cl) : ∃ v S', (pg.cal d).call "_law_take" [.loc st, .int m] S = .ok (.int v) S' ∧ 0 ≤ v ∧ v < m ∧ HasSt S' st cl ∧ F2 S S' st cl := by
  obtain ⟨d, rfl⟩ : ∃ e, d = e + 1 := ⟨d - 1, by omega⟩
  exact takes_eq hs h0 h1
theorem strange_eq (hs : HasSt S st cl) (hd : 2 ≤ d) : ∃ u S', (pg.cal d).call "_law_strange" [.loc st] S = .ok u S' ∧ BV S' u 3 60 ∧ HasSt S' st cl ∧ F2 S S' st cl := by
  obtain ⟨d, rfl⟩ : ∃ e, d = e + 1 := ⟨d - 1, by omega⟩
  rw [call_eq (df := ⟨1, 2, false, T__law_strange⟩) (by kernel_rfl), run_eq (by rfl)]
  show ∃ u S', (exs (pg.cal d) T__law_strange [some (.loc st), none] S).fin = _ ∧ _
  unfold T__law_strange
  have z15 : (15 ≤ sizeLine) = True := by decide
  have z0 : (0 ≤ sizeLine) = True := by decide
  have z6 : (6 ≤ sizeLine) = True := by decide
  have z21 : 15 + 6 ≤ sizeLine := by decide
  obtain ⟨h1, h2⟩ := hs.lt
  rw [go_set (x := .loc (S.length + 1)) (S' := S ++ [.lst []] ++ [.lst (L1 S.length)]) (by simp_arith only [z15, z0, sz1, sz2]; simp [L1])]
  have hA : (S ++ [Cel.lst []] ++ [Cel.lst (L1 S.length)])[S.length + 1]? = some (.lst (L1 S.length)) := by
    have := last_get (S := S ++ [Cel.lst []]) (c := .lst (L1 S.length)); simpa using this
  have hA0 : (S ++ [Cel.lst []] ++ [Cel.lst (L1 S.length)])[S.length]? = some (.lst []) := by
    rw [List.getElem?_append_left (by simp)]; exact last_get
  have gA : Gr S (S ++ [Cel.lst []] ++ [Cel.lst (L1 S.length)]) := Gr.push.trans Gr.push
  generalize hSA : S ++ [Cel.lst []] ++ [Cel.lst (L1 S.length)] = SA at *
  show ∃ u S', (exs (pg.cal d) _ [some (.loc st), some (.loc (S.length + 1))] SA).fin = _ ∧ _
  have eB : ev (pg.cal d) (.lst (.cons .dnew (.cons (.lst (.cons (.k (.str "any")) .nil)) (.cons (.tup (.cons (.k (.str "give")) (.cons (.tup (.cons (.k (.str "any")) .nil)) .nil))) (.cons (.tup (.cons (.k (.str "take")) (.cons (.k (.str "int")) (.cons (.tup (.cons (.k (.int 0)) (.cons (.k (.int 0)) .nil))) (.cons (.tup (.cons (.k (.str "any")) .nil)) .nil))))) (.cons (.tup (.cons (.k (.bl true)) (.cons (.k (.int 0)) .nil))) (.cons (.tup (.cons (.k (.str "fun")) (.cons (.tup (.cons (.k (.str "any")) .nil)) .nil))) .nil))))))) [some (.loc st), some (.loc (S.length + 1))] SA = .ok (.loc (SA.length + 2)) (SA ++ [.dic []] ++ [.lst [.str "any"]] ++ [.lst (L2_ SA.length (SA.length + 1))]) := by
    have ed : ∀ S, ev (pg.cal d) .dnew [some (.loc st), some (.loc (List.length (S : Sto) - S.length + (S.length)))] S = .ok (.loc S.length) (S ++ [.dic []]) := fun _ => rfl
    rw [ev_lst, evs_cons]
    show ((R.ok (U.loc SA.length) (SA ++ [.dic []])).bind _).bind _ = _
    rw [bind_ok]
    simp_arith only [z15, z0, z6, sz1, sz2, show (4 ≤ sizeLine) = True by decide]
    simp [L2_]
  have hB : (SA ++ [Cel.dic []] ++ [Cel.lst [U.str "any"]] ++ [Cel.lst (L2_ SA.length (SA.length + 1))])[SA.length + 2]? = some (.lst (L2_ SA.length (SA.length + 1))) := by
    have := last_get (S := SA ++ [Cel.dic []] ++ [Cel.lst [U.str "any"]]) (c := .lst (L2_ SA.length (SA.length + 1))); simpa using this
  have hB1 : (SA ++ [Cel.dic []] ++ [Cel.lst [U.str "any"]] ++ [Cel.lst (L2_ SA.length (SA.length + 1))])[SA.length + 1]? = some (.lst [.str "any"]) := by
    rw [List.getElem?_append_left (by simp)]
    have := last_get (S := SA ++ [Cel.dic []]) (c := .lst [U.str "any"]); simpa using this
  have hB0 : (SA ++ [Cel.dic []] ++ [Cel.lst [U.str "any"]] ++ [Cel.lst (L2_ SA.length (SA.length + 1))])[SA.length]? = some (.dic []) := by
    rw [List.getElem?_append_left (by simp), List.getElem?_append_left (by simp)]; exact last_get
  have gB : Gr SA (SA ++ [Cel.dic []] ++ [Cel.lst [U.str "any"]] ++ [Cel.lst (L2_ SA.length (SA.length + 1))]) := (Gr.push.trans Gr.push).trans Gr.push
  have lA : S.length + 1 < SA.length := by rw [← hSA]; simp
  generalize hSB : SA ++ [Cel.dic []] ++ [Cel.lst [U.str "any"]] ++ [Cel.lst (L2_ SA.length (SA.length + 1))] = SB at *
  have hC := add_loc (gB.at_ hA) hB z21
  rw [go_set (x := .loc SB.length) (S' := SB ++ [.lst (L1 S.length ++ L2_ SA.length (SA.length + 1))]) (by rw [ev_bin, ev_v' (u := .loc (S.length + 1)) rfl, bind_ok, eB, bind_ok, hC])]
  have gC : Gr SB (SB ++ [Cel.lst (L1 S.length ++ L2_ SA.length (SA.length + 1))]) := Gr.push
  have hCl : (SB ++ [Cel.lst (L1 S.length ++ L2_ SA.length (SA.length + 1))])[SB.length]? = some (.lst (L1 S.length ++ L2_ SA.length (SA.length + 1))) := last_get
  have lB : SA.length + 2 < SB.length := by rw [← hSB]; simp
  generalize SB ++ [Cel.lst (L1 S.length ++ L2_ SA.length (SA.length + 1))] = SC at *
  have gAll := (gA.trans gB).trans gC
  obtain ⟨v, SD, e1, v0, v1, hs1, f1⟩ := take_d (d := d) (m := 21) (by decide) (by decide) (by omega) (hs.gr gAll)
  have far : ∀ {n : Nat} {c : Cel}, SC[n]? = some c → S.length ≤ n → SD[n]? = some c := fun {n c} hc hn => (f1.2 n (List.getElem?_eq_some_iff.mp hc).1 (by omega) (by omega)).trans hc
  have hD := far hCl (by omega)
  obtain ⟨i, rfl⟩ := Int.eq_ofNat_of_zero_le v0
  have hi : i < (L1 S.length ++ L2_ SA.length (SA.length + 1)).length := by simp [L1, L2_]; omega
  have hat := List.getElem?_eq_getElem hi
  generalize (L1 S.length ++ L2_ SA.length (SA.length + 1))[i] = u at *
  have hmem := List.mem_of_getElem? hat
  refine ⟨u, SD, ?_, ?_, hs1, gAll.f2.trans f1⟩
  · refine (fin_of (u := u) (go_ret ?_))
    rw [ev_ix, ev_v' (u := .loc SB.length) rfl, bind_ok, ev_call, evs_cons, ev_v' (u := .loc st) rfl, bind_ok, evs_cons, ev_k, bind_ok, evs_nil, bind_ok, bind_ok, bind_ok, e1, bind_ok, ix_loc hD, atI_nat_own hat]
  · have q : u ∈ LP ∨ u = .loc S.length ∨ u = .loc SA.length ∨ u = .loc (SA.length + 1) := by
      simp only [L1, L2_, List.mem_append, List.mem_cons, List.not_mem_nil, or_false] at hmem
      rcases hmem with (h | h | h | h | h | h | h | h | h | h | h | h | h | h | h) | (h | h | h | h | h | h) <;> subst h <;> simp [LP]
    rcases q with q | rfl | rfl | rfl
    · obtain ⟨g, a, b⟩ := lp_ok u q
      exact BV.pur g a b
    · exact BV.lst (far (gC.at_ (gB.at_ hA0)) (Nat.le_refl _)) (by decide +kernel) (by decide) (by decide)
    · exact BV.dic (far (gC.at_ hB0) (by omega)) (by decide)
    · exact BV.lst (far (gC.at_ hB1) (by omega)) (by decide +kernel) (by decide) (by decide +kernel)
end Pr

end

section
set_option maxHeartbeats 4000000
namespace Pr
open PySem L2 Oz
variable {S S' : Sto} {d st cl : Nat}
theorem gs_app {A B : List U} : gsB (A ++ B) = (gsB A && gsB B) := by
  induction A with
  | nil => simp [gs_nil']
  | cons a A ih => rw [List.cons_append, gs_cons, gs_cons, ih, Bool.and_assoc]
theorem bulk_app {A B : List U} : PyData.bulkAll (pdUs (A ++ B)) = PyData.bulkAll (pdUs A) + PyData.bulkAll (pdUs B) := by
  induction A with
  | nil => simp [pdUs, PyData.bulkAll]
  | cons a A ih => simp only [List.cons_append, pdUs, PyData.bulkAll, ih]; omega
theorem hgs_app {A B : List U} : hgs (A ++ B) = max (hgs A) (hgs B) := by
  induction A with
  | nil => simp [hgs]
  | cons a A ih => simp only [List.cons_append, hgs, ih]; omega
/-- the three slices around a place -/
theorem slices {us : List U} {i : Nat} (h : i < us.length) : us = us.take i ++ us[i] :: us.drop (i + 1) := by
  rw [← List.drop_eq_getElem_cons h, List.take_append_drop]
mutual
def shU : U → Bool
  | .tup us => decide (us.length ≤ 1000) && shUs us
  | _ => true
def shUs : List U → Bool
  | [] => true
  | u :: us => shU u && shUs us
end
theorem sh_mem : ∀ {us : List U} {a : U}, shUs us = true → a ∈ us → shU a = true
  | u :: us, a, h, hm => by
    simp only [shUs, Bool.and_eq_true] at h
    rcases List.mem_cons.mp hm with rfl | hm
    · exact h.1
    · exact sh_mem h.2 hm
theorem bent_any : ∀ (k : Nat) (v : U) (d : Nat) (S : Sto), hg v ≤ k → gdB v = true → shU v = true → k + 3 ≤ d → HasSt S st cl → ∃ u S', (pg.cal d).call "_law_bent" [.loc st, v] S = .ok u S' ∧ BV S' u (hg v + 3) (2 * (pdU v).bulk + 60) ∧ HasSt S' st cl ∧ F2 S S' st cl
  | 0, v, _, _, h, _, _, _, _ => absurd (hg_pos v) (by omega)
  | k + 1, v, d, S, h, g, hsh, hd, hs => by
    obtain ⟨d, rfl⟩ : ∃ e, d = e + 1 := ⟨d - 1, by omega⟩
    rw [call_eq (df := ⟨2, 4, false, T__law_bent⟩) (by kernel_rfl), run_eq (by rfl)]
    show ∃ u S', (exs (pg.cal d) T__law_bent [some (.loc st), some v, none, none] S).fin = _ ∧ _
    unfold T__law_bent
    have o : ∀ S, okS S v = true := fun S => (ok_pur (gd_parts g).1).1
    have ht := (isi_t (Φ := pg.cal d) (env := [some (.loc st), some v, none, none]) (e := .v 1) (S := S) (ev_v' rfl) (o S)).1
    have strange : ∀ {S1 : Sto} {t : T} {sts : Sts}, evt (pg.cal d) t [some (.loc st), some v, none, none] S = .ok true S1 → HasSt S1 st cl → F2 S S1 st cl → ∃ u S', (exs (pg.cal d) (.cons (.if_ t (.cons (.ret (.call "_law_strange" (.cons (.v 0) .nil))) .nil) .nil) sts) [some (.loc st), some v, none, none] S).fin = .ok u S' ∧ BV S' u (hg v + 3) (2 * (pdU v).bulk + 60) ∧ HasSt S' st cl ∧ F2 S S' st cl := fun {S1 t sts} e hs1 f1 => by
      obtain ⟨u, S2, e2, b, hs2, f2⟩ := strange_eq (d := d) hs1 (by omega)
      refine ⟨u, S2, ?_, b.le (by omega) (by omega), hs2, f1.trans f2⟩
      rw [exs_cons, ex_if, e, on_ok, if_pos rfl, go_ret (by rw [ev_call, evs_cons, ev_v' (u := .loc st) rfl, bind_ok, evs_nil, bind_ok, bind_ok, e2])]
      rfl
    by_cases hu : isTu v = true
    · obtain ⟨us, rfl⟩ : ∃ us, v = .tup us := by cases v <;> first | exact ⟨_, rfl⟩ | exact absurd hu (fun z => Bool.noConfusion z)
      have el : ∀ S, evt (pg.cal d) (.e (.cmp .eq (.bf .len (.cons (.v 1) .nil)) (.k (.int 0)))) [some (.loc st), some (.tup us), none, none] S = .ok (decide (((us.length : Nat) : Int) = 0)) S := fun S => by simp_arith only [lenT]
      by_cases hz : us.length = 0
      · exact strange (S1 := S) (orv (p := false) (q := true) (notv (exv ht)) fun _ => orv (p := true) (q := true) (by rw [el, decide_eq_true (by omega)]) fun z => Bool.noConfusion z) hs F2.refl
      obtain ⟨w, S1, e1, w0, w4, hs1, f1⟩ := take_d (d := d) (m := 4) (by decide) (by decide) (by omega) hs
      have e4 : evt (pg.cal d) (.e (.cmp .eq (.call "_law_take" (.cons (.v 0) (.cons (.k (.int 4)) .nil))) (.k (.int 0)))) [some (.loc st), some (.tup us), none, none] S = .ok (decide (w = 0)) S1 := by
        simp_arith only [e1]
      have eT : evt (pg.cal d) (.or (.not (.e (.isi (.v 1) "tuple"))) (.or (.e (.cmp .eq (.bf .len (.cons (.v 1) .nil)) (.k (.int 0)))) (.e (.cmp .eq (.call "_law_take" (.cons (.v 0) (.cons (.k (.int 4)) .nil))) (.k (.int 0)))))) [some (.loc st), some (.tup us), none, none] S = .ok (decide (w = 0)) S1 := by
        rw [evt_or, notv (exv ht), bind_ok]
        simp only [isTu, Bool.not_true, Bool.false_eq_true, if_false]
        rw [evt_or, el, bind_ok, decide_eq_false (show ¬ ((us.length : Nat) : Int) = 0 by omega), if_neg Bool.false_ne_true, e4]
      by_cases hw : w = 0
      · rw [decide_eq_true hw] at eT
        exact strange eT hs1 f1
      rw [decide_eq_false hw] at eT
      rw [go_skip eT]
      simp only [shU, Bool.and_eq_true, decide_eq_true_eq] at hsh
      obtain ⟨i', S2, e2, i0, i1, hs2, f2⟩ := take_d (d := d) (m := (us.length : Nat)) (by omega) (by omega) (by omega) hs1
      obtain ⟨i, rfl⟩ := Int.eq_ofNat_of_zero_le i0
      have hi : i < us.length := by omega
      rw [go_set (x := .int (i : Nat)) (S' := S2) (by simp_arith only [lenT, e2])]
      obtain ⟨c, S3, e3, c0, c1, hs3, f3⟩ := take_d (d := d) (m := 9) (by decide) (by decide) (by omega) hs2
      rw [go_set (x := .int c) (S' := S3) (by simp_arith only [e3])]
      show ∃ u S', (exs (pg.cal d) _ [some (.loc st), some (.tup us), some (.int (i : Nat)), some (.int c)] S3).fin = _ ∧ _
      have fA := (f1.trans f2).trans f3
      have hus : us = us.take i ++ us[i] :: us.drop (i + 1) := slices hi
      have hat : ∀ S, ixU (.tup us) (.int (i : Nat)) S = .ok us[i] S := fun S => by
        rw [Oz.ix_tup, show atI us (i : Int) = some us[i] from atI_nat_own (List.getElem?_eq_getElem hi)]
      have hgp : gsB (us.take i) = true ∧ gdB us[i] = true ∧ gsB (us.drop (i + 1)) = true := by
        have : gsB us = true := by rw [← gd_tup]; exact g
        rw [hus, gs_app, gs_cons] at this
        simp only [Bool.and_eq_true] at this
        exact this
      have hhp : hgs (us.take i) ≤ hgs us ∧ hg us[i] ≤ hgs us ∧ hgs (us.drop (i + 1)) ≤ hgs us := by
        have : hgs us = max (hgs (us.take i)) (max (hg us[i]) (hgs (us.drop (i + 1)))) := by
          conv => lhs; rw [hus]
          rw [hgs_app, hgs]
        omega
      have hbp : PyData.bulkAll (pdUs us) = PyData.bulkAll (pdUs (us.take i)) + ((pdU us[i]).bulk + 1 + PyData.bulkAll (pdUs (us.drop (i + 1)))) := by
        conv => lhs; rw [hus]
        rw [bulk_app]; rfl
      have hb : (pdU (.tup us)).bulk = PyData.bulkAll (pdUs us) := rfl
      have hh : hg (.tup us) = hgs us + 1 := rfl
      have sl1 : ∀ S, slU (.tup us) none (some (i : Nat)) S = .ok (.tup (us.take i)) S := fun S => by
        show R.ok (U.tup (cutA us none (some (i : Nat)))) S = _
        rw [cutA_take us i (by omega)]
      have sl2 : ∀ S, slU (.tup us) (some ((i : Nat) + 1)) none S = .ok (.tup (us.drop (i + 1))) S := fun S => by
        show R.ok (U.tup (cutA us (some ((i : Nat) + 1)) none)) S = _
        rw [show ((i : Nat) : Int) + 1 = ((i + 1 : Nat) : Int) by omega, cutA_drop us (i + 1) (by omega)]
      have sl3 : ∀ S, slU (.tup us) (some (i : Nat)) none S = .ok (.tup (us.drop i)) S := fun S => by
        show R.ok (U.tup (cutA us (some (i : Nat)) none)) S = _
        rw [cutA_drop us i (by omega)]
      have z1 : ∀ {n : Nat}, n ≤ 3000 → n ≤ sizeLine := fun h => Nat.le_trans h (by decide)
      have lt := List.length_take_le i us
      have ld : (us.drop (i + 1)).length ≤ us.length := by simp
      have ld2 : (us.drop i).length ≤ us.length := by simp
      by_cases hc0 : c = 0
      · rw [exs_cons, ex_if]
        simp_arith only [hc0, decide_true, sl1, sl2]
        rw [add_tup (z1 (by omega)), on_ok, then_ret, then_ret]
        refine ⟨_, S3, rfl, ?_, hs3, fA⟩
        refine (BVs.pur (h := hgs us) (b := PyData.bulkAll (pdUs us)) (by rw [gs_app, hgp.1, hgp.2.2]; rfl) (by rw [hgs_app]; omega) (by rw [bulk_app]; omega)).tup.le (by omega) (by omega)
      rw [go_skip (S' := S3) (by simp_arith only [hc0, decide_false])]
      by_cases hc1 : c = 1
      · have t1 : ∀ S, ev (pg.cal d) (.tup (.cons (.ix (.v 1) (.v 2)) .nil)) [some (.loc st), some (.tup us), some (.int (i : Nat)), some (.int c)] S = .ok (.tup [us[i]]) S := fun S => by simp_arith only [hat, sz1]
        rw [exs_cons, ex_if]
        have e5 : ev (pg.cal d) (.bin .add (.bin .add (.sl (.v 1) .no (.so (.v 2))) (.tup (.cons (.ix (.v 1) (.v 2)) .nil))) (.sl (.v 1) (.so (.v 2)) .no)) [some (.loc st), some (.tup us), some (.int (i : Nat)), some (.int c)] S3 = .ok (.tup (us.take i ++ [us[i]] ++ us.drop i)) S3 := by
          have e9 : ev (pg.cal d) (.sl (.v 1) .no (.so (.v 2))) [some (.loc st), some (.tup us), some (.int (i : Nat)), some (.int c)] S3 = .ok (.tup (us.take i)) S3 := by simp_arith only [sl1]
          have e10 : ev (pg.cal d) (.sl (.v 1) (.so (.v 2)) .no) [some (.loc st), some (.tup us), some (.int (i : Nat)), some (.int c)] S3 = .ok (.tup (us.drop i)) S3 := by simp_arith only [sl3]
          rw [ev_bin, ev_bin, e9, bind_ok, t1, bind_ok, add_tup (z1 (by simp; omega)), bind_ok, e10, bind_ok, add_tup (z1 (by simp; omega))]
        have e6 : evt (pg.cal d) (.e (.cmp .eq (.v 3) (.k (.int 1)))) [some (.loc st), some (.tup us), some (.int (i : Nat)), some (.int c)] S3 = .ok true S3 := by simp_arith only [hc1, decide_true]
        rw [e6, on_ok, if_pos rfl, go_ret e5]
        refine ⟨_, S3, rfl, ?_, hs3, fA⟩
        have hd1 : us.drop i = us[i] :: us.drop (i + 1) := List.drop_eq_getElem_cons hi
        refine (BVs.pur (h := hgs us) (b := 2 * PyData.bulkAll (pdUs us)) (by rw [hd1, gs_app, gs_app, gs_cons, gs_cons, hgp.1, hgp.2.1, hgp.2.2]; rfl) (by rw [hd1, hgs_app, hgs_app]; simp only [hgs]; omega) (by rw [hd1, bulk_app, bulk_app]; simp only [pdUs, PyData.bulkAll]; omega)).tup.le (by omega) (by omega)
      rw [go_skip (S' := S3) (by simp_arith only [hc1, decide_false])]
      by_cases hc2 : c = 2
      · have e6 : evt (pg.cal d) (.e (.cmp .eq (.v 3) (.k (.int 2)))) [some (.loc st), some (.tup us), some (.int (i : Nat)), some (.int c)] S3 = .ok true S3 := by simp_arith only [hc2, decide_true]
        have e11 : ev (pg.cal d) (.bf .list (.cons (.v 1) .nil)) [some (.loc st), some (.tup us), some (.int (i : Nat)), some (.int c)] S3 = .ok (.loc S3.length) (S3 ++ [.lst us]) := rfl
        rw [exs_cons, ex_if, e6, on_ok, if_pos rfl, go_ret e11]
        refine ⟨_, _, rfl, ?_, hs3.gr Gr.push, fA.trans F2.push⟩
        exact BV.lst last_get (by rw [← gd_tup]; exact g) (by omega) (by omega)
      rw [go_skip (S' := S3) (by simp_arith only [hc2, decide_false])]
      have hshi : shU us[i] = true := sh_mem hsh.2 (List.getElem_mem hi)
      obtain ⟨u, S4, e7, b7, hs4, f4⟩ := bent_any k us[i] d S3 (by omega) hgp.2.1 hshi (by omega) hs3
      have t2 : ev (pg.cal d) (.tup (.cons (.call "_law_bent" (.cons (.v 0) (.cons (.ix (.v 1) (.v 2)) .nil))) .nil)) [some (.loc st), some (.tup us), some (.int (i : Nat)), some (.int c)] S3 = .ok (.tup [u]) S4 := by simp_arith only [hat, e7, sz1]
      have e8 : ev (pg.cal d) (.bin .add (.bin .add (.sl (.v 1) .no (.so (.v 2))) (.tup (.cons (.call "_law_bent" (.cons (.v 0) (.cons (.ix (.v 1) (.v 2)) .nil))) .nil))) (.sl (.v 1) (.so (.bin .add (.v 2) (.k (.int 1)))) .no)) [some (.loc st), some (.tup us), some (.int (i : Nat)), some (.int c)] S3 = .ok (.tup (us.take i ++ [u] ++ us.drop (i + 1))) S4 := by
        rw [ev_bin, ev_bin]
        have e9 : ev (pg.cal d) (.sl (.v 1) .no (.so (.v 2))) [some (.loc st), some (.tup us), some (.int (i : Nat)), some (.int c)] S3 = .ok (.tup (us.take i)) S3 := by simp_arith only [sl1]
        rw [e9, bind_ok, t2, bind_ok, add_tup (z1 (by simp; omega)), bind_ok]
        simp_arith only [sl2]
        rw [add_tup (z1 (by simp; omega))]
      rw [go_ret e8]
      refine ⟨_, S4, rfl, ?_, hs4, fA.trans f4⟩
      rw [List.append_assoc]
      refine (BVs.mid (h := hgs us + 3) (b7.le (by omega) (Nat.le_refl _)) hgp.2.2 (by omega) (Nat.le_refl _) (us.take i) hgp.1 (by omega)).tup.le (by omega) (by omega)
    · have ef : isTu v = false := by simpa using hu
      rw [ef] at ht
      exact strange (S1 := S) (orv (p := true) (q := true) (notv (exv ht)) fun z => Bool.noConfusion z) hs F2.refl
end Pr

end

section
set_option maxHeartbeats 4000000
namespace Pr
open PySem L2 Oz
variable {S S' : Sto} {d st cl : Nat}
/-! ### a check of casts is a check -/
theorem gnm_nm (g : Gd) : gnm (.str g.nm) = true := by cases g <;> decide +kernel
theorem lab_lu {l : Lb} (h : low l) : labU (lu l) = true := by
  obtain ⟨a, b, c, e⟩ := h
  simp only [lu, labU, nmb, decide_eq_true a, decide_eq_true c, decide_eq_true e, Bool.and_self]
theorem hg_cu : ∀ c : Ck, hg (cu c) ≤ c.dp + 2
  | .any => by simp [cu, hg, hgs, Ck.dp]
  | .same g => by simp [cu, hg, hgs, Ck.dp]
  | .fail g l k => by simp [cu, lu, hg, hgs, Ck.dp]
  | .fn s t => by have := hg_cu s; have := hg_cu t; simp only [cu, hg, hgs, Ck.dp]; omega
  | .pr s t => by have := hg_cu s; have := hg_cu t; simp only [cu, hg, hgs, Ck.dp]; omega
  | .bx s t => by have := hg_cu s; have := hg_cu t; simp only [cu, hg, hgs, Ck.dp]; omega
  | .give s => by have := hg_cu s; simp only [cu, hg, hgs, Ck.dp]; omega
  | .take g l s => by have := hg_cu s; simp only [cu, lu, hg, hgs, Ck.dp]; omega
theorem sh_cu : ∀ c : Ck, shU (cu c) = true
  | .any => by simp [cu, shU, shUs]
  | .same g => by simp [cu, shU, shUs]
  | .fail g l k => by simp [cu, lu, shU, shUs]
  | .fn s t => by simp [cu, shU, shUs, sh_cu s, sh_cu t]
  | .pr s t => by simp [cu, shU, shUs, sh_cu s, sh_cu t]
  | .bx s t => by simp [cu, shU, shUs, sh_cu s, sh_cu t]
  | .give s => by simp [cu, shU, shUs, sh_cu s]
  | .take g l s => by simp [cu, lu, shU, shUs, sh_cu s]
def mOk (m : Md) (c : Ck) (a : Ty) : Prop := match m with | .H => True | .P => c.pl = true | .T => a ≠ .any
theorem gk_cu : ∀ (k : Nat) {c : Ck} {a b : Ty} (m : Md), Tk c a b → (∀ l ∈ c.ls, low l) → mOk m c a → hg (cu c) ≤ k → gk k m (cu c) = true ∧ (a ≠ .any → sgf k (cu c) = .str a.gd.nm)
  | 0, c, a, b, m, _, _, _, h => absurd (hg_pos (cu c)) (by omega)
  | k + 1, c, a, b, m, T, hl, hm, h => by
    have sub : ∀ us x, cu c = .tup us → x ∈ us → hg x ≤ k := fun us x e hx => by rw [e] at h; have := hg_in hx; omega
    cases T with
    | any =>
      refine ⟨?_, fun z => absurd rfl z⟩
      show gk (k + 1) m (.tup [.str "any"]) = true
      rw [gk_any]
      cases m with
      | H => rfl
      | P => exact absurd (show false = true from hm) Bool.false_ne_true
      | T => exact absurd rfl hm
    | @same g hg' =>
      show gk (k + 1) m (.tup [.str "same", .str g.nm]) = true ∧ (_ → sgf (k + 1) (.tup [.str "same", .str g.nm]) = _)
      rw [gk_same, sgf_same, gd_gty]
      refine ⟨?_, fun _ => rfl⟩
      rcases hg' with rfl | rfl | rfl <;> decide +kernel
    | @fn s t x y z w h1 h2 =>
      simp only [Ck.ls, List.mem_append] at hl
      have q1 := gk_cu k .H h1 (fun l hx => hl l (.inl hx)) trivial (sub [.str "fun", cu s, cu t] _ rfl (by simp))
      have q2 := gk_cu k .H h2 (fun l hx => hl l (.inr hx)) trivial (sub [.str "fun", cu s, cu t] _ rfl (by simp))
      show gk (k + 1) m (.tup [.str "fun", cu s, cu t]) = true ∧ (_ → sgf (k + 1) (.tup [.str "fun", cu s, cu t]) = _)
      rw [gk_two (by simp), sgf_two (by simp), q1.1, q2.1]
      exact ⟨rfl, fun _ => rfl⟩
    | @pr s t x y z w h1 h2 =>
      simp only [Ck.ls, List.mem_append] at hl
      have q1 := gk_cu k .H h1 (fun l hx => hl l (.inl hx)) trivial (sub [.str "pair", cu s, cu t] _ rfl (by simp))
      have q2 := gk_cu k .H h2 (fun l hx => hl l (.inr hx)) trivial (sub [.str "pair", cu s, cu t] _ rfl (by simp))
      show gk (k + 1) m (.tup [.str "pair", cu s, cu t]) = true ∧ (_ → sgf (k + 1) (.tup [.str "pair", cu s, cu t]) = _)
      rw [gk_two (by simp), sgf_two (by simp), q1.1, q2.1]
      exact ⟨rfl, fun _ => rfl⟩
    | @bx s t x y h1 h2 =>
      simp only [Ck.ls, List.mem_append] at hl
      have q1 := gk_cu k .H h1 (fun l hx => hl l (.inl hx)) trivial (sub [.str "box", cu s, cu t] _ rfl (by simp))
      have q2 := gk_cu k .H h2 (fun l hx => hl l (.inr hx)) trivial (sub [.str "box", cu s, cu t] _ rfl (by simp))
      show gk (k + 1) m (.tup [.str "box", cu s, cu t]) = true ∧ (_ → sgf (k + 1) (.tup [.str "box", cu s, cu t]) = _)
      rw [gk_two (by simp), sgf_two (by simp), q1.1, q2.1]
      exact ⟨rfl, fun _ => rfl⟩
    | @give s x h1 h2 h3 =>
      have q := gk_cu k .P h3 hl h2 (sub [.str "give", cu s] _ rfl (by simp))
      show gk (k + 1) m (.tup [.str "give", cu s]) = true ∧ (_ → sgf (k + 1) (.tup [.str "give", cu s]) = _)
      rw [gk_give, sgf_give, q.1]
      refine ⟨?_, q.2⟩
      cases m with
      | P => exact absurd (show false = true from hm) Bool.false_ne_true
      | _ => rfl
    | @fail x y l g h1 h2 =>
      show gk (k + 1) m (.tup [.str "fail", .str a.gd.nm, lu l, .str g.nm]) = true ∧ (_ → sgf (k + 1) (.tup [.str "fail", .str a.gd.nm, lu l, .str g.nm]) = _)
      rw [gk_fail, sgf_fail, gnm_nm, gnm_nm, lab_lu (hl l (by simp [Ck.ls]))]
      have e : eqT (.str a.gd.nm) (.str g.nm) = false := by
        simp only [eqT, beq_eq_false_iff_ne, ne_eq, nm_inj]
        exact Ne.symm h2
      rw [e]
      refine ⟨?_, fun _ => rfl⟩
      cases m with
      | P => exact absurd (show false = true from hm) Bool.false_ne_true
      | _ => rfl
    | @take g l i y h1 =>
      simp only [Ck.ls, List.mem_cons] at hl
      have q := gk_cu k .T h1 (fun l hx => hl l (.inr hx)) (gty_ne g) (sub [.str "take", .str g.nm, lu l, cu i] _ rfl (by simp))
      refine ⟨?_, fun z => absurd rfl z⟩
      show gk (k + 1) m (.tup [.str "take", .str g.nm, lu l, cu i]) = true
      rw [gk_take, lab_lu (hl l (.inl rfl)), q.1, q.2 (gty_ne g), gd_gty]
      have e : eqT (.str g.nm) (.str g.nm) = true := by simp [eqT]
      rw [e]
      cases m with
      | H => rfl
      | P => exact absurd (show false = true from hm) Bool.false_ne_true
      | T => exact absurd rfl hm
/-! ### repr of a bent value -/
mutual
theorem pdS_gr (g : Gr S S') : ∀ {u : U}, okS S u = true → pdS S' u = pdS S u ∧ lfS S' u = lfS S u
  | .non, _ => ⟨rfl, rfl⟩
  | .bl _, _ => ⟨rfl, rfl⟩
  | .int _, _ => ⟨rfl, rfl⟩
  | .str _, _ => ⟨rfl, rfl⟩
  | .tup us, h => by
    obtain ⟨a, b⟩ := pdSs_gr g (us := us) (by simpa [okS] using h)
    exact ⟨by simp only [pdS, a], by simp only [lfS, b]⟩
  | .loc n, h => by
    simp only [okS] at h
    cases q : S[n]? with
    | none => rw [q] at h; cases h
    | some c => simp only [pdS, lfS, g.at_ q, q, and_self]
theorem pdSs_gr (g : Gr S S') : ∀ {us : List U}, okSs S us = true → pdSs S' us = pdSs S us ∧ lfSs S' us = lfSs S us
  | [], _ => ⟨rfl, rfl⟩
  | u :: us, h => by
    simp only [okSs, Bool.and_eq_true] at h
    obtain ⟨a1, b1⟩ := pdS_gr g h.1
    obtain ⟨a2, b2⟩ := pdSs_gr g h.2
    exact ⟨by simp only [pdSs, a1, a2], by simp only [lfSs, b1, b2]⟩
end
theorem BV.gr {u : U} {h b : Nat} (x : BV S u h b) (g : Gr S S') : BV S' u h b := by
  obtain ⟨e1, e2⟩ := pdS_gr g x.ok
  exact ⟨okS_gr g x.ok, x.hg, by rw [e1]; exact x.dp, by rw [e1]; exact x.sh, by rw [e1]; exact x.lv, by rw [e1]; exact x.bk, by rw [e1, e2]; exact x.dl⟩
theorem BV.rep {u : U} {h b : Nat} (x : BV S u h b) (hh : h ≤ 60) (hb : b ≤ 2 ^ 20) : xrepR u S = .ok (.str (pdS S u).shown) S := by
  unfold xrepR
  have hs := PyData.shown_fits_bulk (B := 13) (by decide) (by decide) x.lv (Nat.le_trans x.bk hb)
  have hd := x.dp
  have e : (!(pdS S u).hasDict || lfS S u) = true := by
    rcases x.dl with z | z
    · rw [z]; rfl
    · rw [z]; simp
  rw [x.ok, e, x.sh, decide_eq_true (show (pdS S u).depth ≤ 60 by omega), decide_eq_true hs]
  rfl
/-! ### the law -/
def BJ : Sts := (.cons (.set false [4] (.call "_law_join" (.cons (.v 4) (.cons (.v 5) .nil)))) .nil)
theorem law_eq (ns : List Int) (hl : ns.length ≤ 63) : ∃ S', (⟨1, N_law.length, false, T_law⟩ : Df).run (pg.cal 677) [.loc 0] [.fro (ns.map U.int)] = .ok (.bl true) S' := by
  obtain ⟨st, cl, S0, q0, hs0⟩ := state_eq (d := 676) ns hl
  rw [run_eq (by rfl)]
  show ∃ S', (exs (pg.cal 677) T_law [some (.loc 0), none, none, none, none, none, none, none, none] _).fin = _
  unfold T_law
  rw [go_set (x := .loc st) (S' := S0) (by show (pg.cal 677).call "_law_state" [.loc 0] _ = _; exact q0)]
  obtain ⟨v, S1, e1, v0, v6, hs1, f1⟩ := take_ev (S := S0) (i := 1) (Φ := pg.cal 677) (env := [some (.loc 0), some (.loc st), none, none, none, none, none, none, none]) rfl (tk_of (d := 677) (cl := cl) (m := 4) (by decide) (by decide) (by omega)) hs0
  obtain ⟨m, n, ts, cs, S2, e2, hs2, ht2, hn2, h4, hc, hcl, htl⟩ := chain_eq (d := 677) (st := st) (cl := cl) (count := 1 + v) (by omega) (by omega) (by omega) hs1
  have hset : ([some (U.loc 0), none, none, none, none, none, none, none, none] : Oz.Env).set 1 (some (.loc st)) = [some (.loc 0), some (.loc st), none, none, none, none, none, none, none] := rfl
  rw [hset, exs_cons]
  have e3 : ex (pg.cal 677) (.set true [2, 3] (.call "_law_chain" (.cons (.v 1) (.cons (.bin .add (.k (.int 1)) (.call "_law_take" (.cons (.v 1) (.cons (.k (.int 4)) .nil)))) .nil)))) [some (.loc 0), some (.loc st), none, none, none, none, none, none, none] S0 = .nx [some (.loc 0), some (.loc st), some (.loc m), some (.loc n), none, none, none, none, none] S2 := by
    rw [ex_set, ev_call, evs_cons, ev_v' (u := .loc st) rfl, bind_ok, evs_cons, ev_bin, ev_k, bind_ok, e1, bind_ok, add_int, bind_ok, evs_nil, bind_ok, bind_ok, bind_ok, e2, on_ok]
    rfl
  rw [e3, then_nx]
  obtain ⟨c0, cs', rfl⟩ : ∃ c0 cs', cs = c0 :: cs' := by
    cases cs with
    | nil => simp at hcl; omega
    | cons c0 cs' => exact ⟨c0, cs', rfl⟩
  have p0 : atI ((c0 :: cs').map cu) (0 : Int) = some (cu c0) := atI_nat_own (xs := (c0 :: cs').map cu) (n := 0) (u := cu c0) rfl
  rw [go_set (x := cu c0) (S' := S2) (by rw [ev_ix, ev_v' (u := .loc n) rfl, bind_ok, ev_k, bind_ok, ix_loc hn2, p0])]
  have hT : ∀ k c, (c0 :: cs')[k]? = some c → ∃ a b, ts[k]? = some a ∧ ts[k + 1]? = some b ∧ Tk c a b ∧ c.ht ≤ 4 ∧ ∀ l ∈ c.ls, low l := fun k c hk => by
    obtain ⟨a, b, l, ha, hb, rfl, hl⟩ := hc k c hk
    have hff := h4.2 k a b ha hb
    have hda := h4.1 a (List.mem_of_getElem? ha)
    have hdb := h4.1 b (List.mem_of_getElem? hb)
    refine ⟨a, b, ha, hb, chk_tk _ (Nat.le_refl _) hff, by have := chk_ht _ (l := l) (Nat.le_refl (a.dep + b.dep)) hff; omega, fun x hx => ?_⟩
    rcases chk_ls _ (Nat.le_refl _) hff x hx with rfl | rfl
    · exact hl
    · exact low_tn hl
  obtain ⟨A, B, hA, hB, T0, h0, l0⟩ := hT 0 c0 rfl
  have hcut : cutA ((c0 :: cs').map cu) (some 1) none = cs'.map cu := by rw [cut_drop]; rfl
  have e4 : ev (pg.cal 677) (.sl (.v 3) (.so (.k (.int 1))) .no) [some (.loc 0), some (.loc st), some (.loc m), some (.loc n), some (cu c0), none, none, none, none] S2 = .ok (.loc S2.length) (S2 ++ [.lst (cs'.map cu)]) := by
    show slU (.loc n) (some 1) none S2 = _
    rw [sl_loc hn2, hcut]
  obtain ⟨env', S3, e5, j, b, x5, rfl, Tj, hj, lj, rfl⟩ := forI_inv (tp := false) (is := [5]) (f := fun env S => exs (pg.cal 677) BJ env S) (all := cs'.map cu) (src := some S2.length) (L := cs') (fu := cu)
    (fun done env S => ∃ j b x5, env = [some (.loc 0), some (.loc st), some (.loc m), some (.loc n), some (cu j), x5, none, none, none] ∧ (ts[done.length + 1]? = some b ∧ Tk j A b) ∧ j.ht ≤ 4 ∧ (∀ l ∈ j.ls, low l) ∧ S = S2 ++ [.lst (cs'.map cu)])
    (fun done env S ⟨_, _, _, _, _, _, _, h⟩ => stays_lst (by rw [h]; exact last_get))
    (fun done a r env S he ⟨j, b, x5, henv, ⟨hb, Tj⟩, hj, lj, hk⟩ => by
      have hca : (c0 :: cs')[done.length + 1]? = some a := by
        rw [List.getElem?_cons_succ, ← he, List.getElem?_append_right (Nat.le_refl _)]
        simp
      obtain ⟨a1, b1, ha1, hb1, Ta, hha, la⟩ := hT _ _ hca
      rw [hb] at ha1
      cases ha1
      have dj := (tk_dp Tj).1
      have da := (tk_dp Ta).1
      have q2 := ljoin_eq _ 677 S (Nat.le_refl _) Tj Ta (by omega)
      refine ⟨[some (.loc 0), some (.loc st), some (.loc m), some (.loc n), some (cu j), some (cu a), none, none, none], by rw [henv]; rfl, [some (.loc 0), some (.loc st), some (.loc m), some (.loc n), some (cu (jn j a)), some (cu a), none, none, none], S, ?_, jn j a, b1, _, rfl, ⟨?_, jn_tk _ (Nat.le_refl _) Tj Ta⟩, by have := jn_ht _ j a (Nat.le_refl _); omega, fun l hl => (jn_ls _ (Nat.le_refl _) Tj Ta l hl).elim (lj l) (la l), hk⟩
      · unfold BJ
        rw [go_set (x := cu (jn j a)) (S' := S) (by show (pg.cal 677).call "_law_join" [cu j, cu a] S = _; exact q2), exs_nil]
        rfl
      · rw [List.length_append]
        exact hb1) cs' [] [some (.loc 0), some (.loc st), some (.loc m), some (.loc n), some (cu c0), none, none, none, none] (S2 ++ [.lst (cs'.map cu)]) rfl
    ⟨c0, B, none, rfl, ⟨hB, T0⟩, h0, l0, rfl⟩
  have hset2 : ([some (U.loc 0), some (.loc st), some (.loc m), some (.loc n), none, none, none, none, none] : Oz.Env).set 4 (some (cu c0)) = [some (.loc 0), some (.loc st), some (.loc m), some (.loc n), some (cu c0), none, none, none, none] := rfl
  rw [hset2]
  have hs3 : HasSt (S2 ++ [Cel.lst (cs'.map cu)]) st cl := hs2.gr Gr.push
  have fin : ∃ S', (exs (pg.cal 677) (.cons (.if_ (.or (.e (.cmp .isNotN (.call "is_check" (.cons (.v 4) .nil)) (.k (.bl true)))) (.not (.e (.call "_law_good" (.cons (.v 4) .nil))))) (.cons (.ret (.k (.bl false))) .nil) .nil) (.cons (.set false [6] (.call "_law_bent" (.cons (.v 1) (.cons (.v 4) .nil)))) (.cons (.set false [7] (.xrep (.v 6))) (.cons (.set false [8] (.call "is_check" (.cons (.v 6) .nil))) (.cons (.ret (.and (.isi (.v 8) "bool") (.and (.cmp .eq (.v 8) (.call "_law_good" (.cons (.v 6) .nil))) (.cmp .eq (.xrep (.v 6)) (.v 7))))) .nil))))) [some (.loc 0), some (.loc st), some (.loc m), some (.loc n), some (cu j), x5, none, none, none] (S2 ++ [Cel.lst (cs'.map cu)])).fin = .ok (.bl true) S' := by
    generalize S2 ++ [Cel.lst (cs'.map cu)] = S3 at *
    have dj := (tk_dp Tj.2).1
    have zj := (tk_sz Tj.2).1
    have pw : 2 ^ j.ht ≤ 16 := Nat.pow_le_pow_right (by decide) hj
    have hgj := hg_cu j
    have isck : ∀ (u : U) (S : Sto), okS S u = true → hg u ≤ 60 → (pg.cal 677).call "is_check" [u] S = .ok (.bl (gk 60 .H u)) S := fun u S o h => by
      rw [call_eq (df := ⟨1, 1, false, T_is_check⟩) (by kernel_rfl), run_eq (by rfl)]
      unfold T_is_check
      have q := isck_any 60 u .H 676 S 60 h o (by omega) (by omega)
      simp_arith only [ev_g (g_HE 676), ev_g (g_MH 676), show HE = hU .H from rfl, q]
    have oj : ∀ S, okS S (cu j) = true := fun S => (ok_pur (gd_parts (gd_cu j lj)).1).1
    have gj := (gk_cu 60 .H Tj.2 lj trivial (by omega)).1
    have k1 := isck (cu j) S3 (oj S3) (by omega)
    obtain ⟨S4, k2, g4⟩ := (lplain_any 60).2 (cu j) S3 677 (by omega) (oj S3) (by omega)
    rw [gj] at k1 k2
    rw [go_skip (S' := S4) (by
      rw [evt_or]
      have t1 : evt (pg.cal 677) (.e (.cmp .isNotN (.call "is_check" (.cons (.v 4) .nil)) (.k (.bl true)))) [some (.loc 0), some (.loc st), some (.loc m), some (.loc n), some (cu j), x5, none, none, none] S3 = .ok false S3 := by
        rw [evt_e, ev_cmp, ev_call, evs_cons, ev_v' (u := cu j) rfl, bind_ok, evs_nil, bind_ok, bind_ok, k1, bind_ok, ev_k, bind_ok]
        rfl
      rw [t1, bind_ok, if_neg Bool.false_ne_true, evt_not, evt_e, ev_call, evs_cons, ev_v' (u := cu j) rfl, bind_ok, evs_nil, bind_ok, bind_ok, k2, bind_ok]
      rfl)]
    obtain ⟨u, S5, k3, b3, hs5, f5⟩ := bent_any (st := st) (cl := cl) 60 (cu j) 677 S4 (by omega) (gd_cu j lj) (sh_cu j) (by omega) (hs3.gr g4)
    have bj := bulk_cu j
    have b5 : BV S5 u 60 (2 ^ 20) := b3.le (by omega) (by
      have : (2 : Nat) ^ 20 = 1048576 := by decide
      omega)
    rw [go_set (x := u) (S' := S5) (by rw [ev_call, evs_cons, ev_v' (u := .loc st) rfl, bind_ok, evs_cons, ev_v' (u := cu j) rfl, bind_ok, evs_nil, bind_ok, bind_ok, bind_ok, k3])]
    have xr : ∀ {S : Sto} {env : Oz.Env}, env[6]? = some (some u) → BV S u 60 (2 ^ 20) → ev (pg.cal 677) (.xrep (.v 6)) env S = .ok (.str (pdS S u).shown) S := fun {S env} h b => by
      show (ev (pg.cal 677) (.v 6) env S).bind (fun x S => xrepR x S) = _
      rw [ev_v' h, bind_ok, b.rep (Nat.le_refl _) (Nat.le_refl _)]
    rw [go_set (x := .str (pdS S5 u).shown) (S' := S5) (xr rfl b5)]
    have k4 := isck u S5 b5.ok b5.hg
    rw [go_set (x := .bl (gk 60 .H u)) (S' := S5) (by show (ev (pg.cal 677) (.call "is_check" (.cons (.v 6) .nil)) [some (.loc 0), some (.loc st), some (.loc m), some (.loc n), some (cu j), x5, some u, some (.str (pdS S5 u).shown), none] S5) = _; rw [ev_call, evs_cons, ev_v' (u := u) rfl, bind_ok, evs_nil, bind_ok, bind_ok, k4])]
    show ∃ S', (exs (pg.cal 677) _ [some (.loc 0), some (.loc st), some (.loc m), some (.loc n), some (cu j), x5, some u, some (.str (pdS S5 u).shown), some (.bl (gk 60 .H u))] S5).fin = _
    obtain ⟨S6, k5, g6⟩ := (lplain_any 60).2 u S5 677 b5.hg b5.ok (by omega)
    generalize hp : gk 60 .H u = p at *
    refine ⟨S6, fin_of (go_ret ?_)⟩
    have a1 : ev (pg.cal 677) (.isi (.v 8) "bool") [some (.loc 0), some (.loc st), some (.loc m), some (.loc n), some (cu j), x5, some u, some (.str (pdS S5 u).shown), some (.bl p)] S5 = .ok (.bl true) S5 := by
      rw [ev_isi, ev_v' (u := .bl p) rfl, bind_ok]
      simp only [tyU, kits3.2.2.2.2.2.2]
    have a2 : ev (pg.cal 677) (.cmp .eq (.v 8) (.call "_law_good" (.cons (.v 6) .nil))) [some (.loc 0), some (.loc st), some (.loc m), some (.loc n), some (cu j), x5, some u, some (.str (pdS S5 u).shown), some (.bl p)] S5 = .ok (.bl true) S6 := by
      rw [ev_cmp, ev_v' (u := .bl p) rfl, bind_ok, ev_call, evs_cons, ev_v' (u := u) rfl, bind_ok, evs_nil, bind_ok, bind_ok, k5, bind_ok]
      cases p <;> kernel_rfl
    have e6 : (pdS S6 u).shown = (pdS S5 u).shown := by rw [(pdS_gr g6 b5.ok).1]
    have a3 : ev (pg.cal 677) (.cmp .eq (.xrep (.v 6)) (.v 7)) [some (.loc 0), some (.loc st), some (.loc m), some (.loc n), some (cu j), x5, some u, some (.str (pdS S5 u).shown), some (.bl p)] S6 = .ok (.bl true) S6 := by
      rw [ev_cmp, xr rfl (b5.gr g6), bind_ok, ev_v' (u := .str (pdS S5 u).shown) rfl, bind_ok, e6, c_eq_str, decide_eq_true rfl]
    rw [ev_and, a1, bind_ok]
    simp only
    rw [ev_and, a2, bind_ok]
    simp only
    exact a3
  obtain ⟨S', hS⟩ := fin
  have e6 := fun sts => go_for_loc (sts := sts) e4 last_get e5
  unfold BJ at e6
  exact ⟨S', by rw [e6]; exact hS⟩
end Pr

end

section
set_option maxHeartbeats 4000000
namespace Pr
open PySem PySem.Spec PyProof.Rows L2 Oz He
def LR (K : PySem.W.Frag) (mg : Str → Option Value) (ad : Str → Addr) : Prop := True
def ex (K : PySem.W.Frag) : Bool := fnB tp K "law" && true
theorem lr_of {K : PySem.W.Frag} {h : Heap} {mg : Str → Option Value} (X : K.In h) (G : h.Ns mainGlobals mg) (hx : true = true) : LR K mg (adOf tp K) := trivial
end Pr

end

section
set_option maxHeartbeats 0
namespace Pr
open PySem PySem.Spec PyProof.Rows L2 Oz He
section
variable {P : Program} {w : World} {K : PySem.W.Frag} {mg : Str → Option Value} {base : Heap} {d : Nat}
def dd_source_ground : He.DefD := ⟨("source_ground", none), "source_ground", "source_ground", defArgs st_source_ground, defBody st_source_ground, defScope st_source_ground, [], []⟩
def dd_is_check : He.DefD := ⟨("is_check", none), "is_check", "is_check", defArgs st_is_check, defBody st_is_check, defScope st_is_check, [], []⟩
def dd_is_check_of : He.DefD := ⟨("is_check_of", none), "is_check_of", "is_check_of", defArgs st_is_check_of, defBody st_is_check_of, defScope st_is_check_of, [], []⟩
def dd_is_ground : He.DefD := ⟨("is_ground", none), "is_ground", "is_ground", defArgs st_is_ground, defBody st_is_ground, defScope st_is_ground, [], []⟩
def dd_is_label : He.DefD := ⟨("is_label", none), "is_label", "is_label", defArgs st_is_label, defBody st_is_label, defScope st_is_label, [], []⟩
def dd_is_number : He.DefD := ⟨("is_number", none), "is_number", "is_number", defArgs st_is_number, defBody st_is_number, defScope st_is_number, [], []⟩
def dd__law_state : He.DefD := ⟨("_law_state", none), "_law_state", "_law_state", defArgs st__law_state, defBody st__law_state, defScope st__law_state, [], []⟩
def dd__law_take : He.DefD := ⟨("_law_take", none), "_law_take", "_law_take", defArgs st__law_take, defBody st__law_take, defScope st__law_take, [], []⟩
def dd__law_type : He.DefD := ⟨("_law_type", none), "_law_type", "_law_type", defArgs st__law_type, defBody st__law_type, defScope st__law_type, [], []⟩
def dd__law_ground_type : He.DefD := ⟨("_law_ground_type", none), "_law_ground_type", "_law_ground_type", defArgs st__law_ground_type, defBody st__law_ground_type, defScope st__law_ground_type, [], []⟩
def dd__law_check : He.DefD := ⟨("_law_check", none), "_law_check", "_law_check", defArgs st__law_check, defBody st__law_check, defScope st__law_check, [], []⟩
def dd__law_partner : He.DefD := ⟨("_law_partner", none), "_law_partner", "_law_partner", defArgs st__law_partner, defBody st__law_partner, defScope st__law_partner, [], []⟩
def dd__law_ground : He.DefD := ⟨("_law_ground", none), "_law_ground", "_law_ground", defArgs st__law_ground, defBody st__law_ground, defScope st__law_ground, [], []⟩
def dd__law_join : He.DefD := ⟨("_law_join", none), "_law_join", "_law_join", defArgs st__law_join, defBody st__law_join, defScope st__law_join, [], []⟩
def dd__law_chain : He.DefD := ⟨("_law_chain", none), "_law_chain", "_law_chain", defArgs st__law_chain, defBody st__law_chain, defScope st__law_chain, [], []⟩
def dd__law_is_int : He.DefD := ⟨("_law_is_int", none), "_law_is_int", "_law_is_int", defArgs st__law_is_int, defBody st__law_is_int, defScope st__law_is_int, [], []⟩
def dd__law_label : He.DefD := ⟨("_law_label", none), "_law_label", "_law_label", defArgs st__law_label, defBody st__law_label, defScope st__law_label, [], []⟩
def dd__law_name : He.DefD := ⟨("_law_name", none), "_law_name", "_law_name", defArgs st__law_name, defBody st__law_name, defScope st__law_name, [], []⟩
def dd__law_kind : He.DefD := ⟨("_law_kind", none), "_law_kind", "_law_kind", defArgs st__law_kind, defBody st__law_kind, defScope st__law_kind, [], []⟩
def dd__law_plain : He.DefD := ⟨("_law_plain", none), "_law_plain", "_law_plain", defArgs st__law_plain, defBody st__law_plain, defScope st__law_plain, [], []⟩
def dd__law_failing : He.DefD := ⟨("_law_failing", none), "_law_failing", "_law_failing", defArgs st__law_failing, defBody st__law_failing, defScope st__law_failing, [], []⟩
def dd__law_good : He.DefD := ⟨("_law_good", none), "_law_good", "_law_good", defArgs st__law_good, defBody st__law_good, defScope st__law_good, [], []⟩
def dd__law_strange : He.DefD := ⟨("_law_strange", none), "_law_strange", "_law_strange", defArgs st__law_strange, defBody st__law_strange, defScope st__law_strange, [], []⟩
def dd__law_bent : He.DefD := ⟨("_law_bent", none), "_law_bent", "_law_bent", defArgs st__law_bent, defBody st__law_bent, defScope st__law_bent, [], []⟩
def dd_law : He.DefD := ⟨("law", none), "law", "law", defArgs st_law, defBody st_law, defScope st_law, [], []⟩
theorem q_source_ground (c : Says tp ex w K) (A : AllFn P w K mg base pg nm (adOf tp K) d) : FnQ P w K mg base (L2.CX P w) (d + 3) (adOf tp K "source_ground") (spC K mg ((pg.cal (d + 1)).call "source_ground")) := by
  obtain ⟨fd, F0⟩ := c.defs "source_ground" dd_source_ground (by kernel_rfl)
  have F : FunD K "source_ground" "source_ground" (defArgs st_source_ground) (defBody st_source_ground) (defScope st_source_ground) [] [] (adOf tp K "source_ground") fd := F0
  exact fn_plain (fun_of F) (FunD.bindsN (ps := ["check"]) F fun _ _ _ _ _ _ us hl => match us, hl with | [_], _ => rfl) sc_source_ground A (by kernel_rfl) d_source_ground
theorem q_is_check (c : Says tp ex w K) (A : AllFn P w K mg base pg nm (adOf tp K) d) : FnQ P w K mg base (L2.CX P w) (d + 3) (adOf tp K "is_check") (spC K mg ((pg.cal (d + 1)).call "is_check")) := by
  obtain ⟨fd, F0⟩ := c.defs "is_check" dd_is_check (by kernel_rfl)
  have F : FunD K "is_check" "is_check" (defArgs st_is_check) (defBody st_is_check) (defScope st_is_check) [] [] (adOf tp K "is_check") fd := F0
  exact fn_plain (fun_of F) (FunD.bindsN (ps := ["value"]) F fun _ _ _ _ _ _ us hl => match us, hl with | [_], _ => rfl) sc_is_check A (by kernel_rfl) d_is_check
theorem q_is_check_of (c : Says tp ex w K) (A : AllFn P w K mg base pg nm (adOf tp K) d) : FnQ P w K mg base (L2.CX P w) (d + 3) (adOf tp K "is_check_of") (spC K mg ((pg.cal (d + 1)).call "is_check_of")) := by
  obtain ⟨fd, F0⟩ := c.defs "is_check_of" dd_is_check_of (by kernel_rfl)
  have F : FunD K "is_check_of" "is_check_of" (defArgs st_is_check_of) (defBody st_is_check_of) (defScope st_is_check_of) [] [] (adOf tp K "is_check_of") fd := F0
  exact fn_plain (fun_of F) (FunD.bindsN (ps := ["value", "heads", "most"]) F fun _ _ _ _ _ _ us hl => match us, hl with | [_, _, _], _ => rfl) sc_is_check_of A (by kernel_rfl) d_is_check_of
theorem q_is_ground (c : Says tp ex w K) (A : AllFn P w K mg base pg nm (adOf tp K) d) : FnQ P w K mg base (L2.CX P w) (d + 3) (adOf tp K "is_ground") (spC K mg ((pg.cal (d + 1)).call "is_ground")) := by
  obtain ⟨fd, F0⟩ := c.defs "is_ground" dd_is_ground (by kernel_rfl)
  have F : FunD K "is_ground" "is_ground" (defArgs st_is_ground) (defBody st_is_ground) (defScope st_is_ground) [] [] (adOf tp K "is_ground") fd := F0
  exact fn_plain (fun_of F) (FunD.bindsN (ps := ["value"]) F fun _ _ _ _ _ _ us hl => match us, hl with | [_], _ => rfl) sc_is_ground A (by kernel_rfl) d_is_ground
theorem q_is_label (c : Says tp ex w K) (A : AllFn P w K mg base pg nm (adOf tp K) d) : FnQ P w K mg base (L2.CX P w) (d + 3) (adOf tp K "is_label") (spC K mg ((pg.cal (d + 1)).call "is_label")) := by
  obtain ⟨fd, F0⟩ := c.defs "is_label" dd_is_label (by kernel_rfl)
  have F : FunD K "is_label" "is_label" (defArgs st_is_label) (defBody st_is_label) (defScope st_is_label) [] [] (adOf tp K "is_label") fd := F0
  exact fn_plain (fun_of F) (FunD.bindsN (ps := ["value"]) F fun _ _ _ _ _ _ us hl => match us, hl with | [_], _ => rfl) sc_is_label A (by kernel_rfl) d_is_label
theorem q_is_number (c : Says tp ex w K) (A : AllFn P w K mg base pg nm (adOf tp K) d) : FnQ P w K mg base (L2.CX P w) (d + 3) (adOf tp K "is_number") (spC K mg ((pg.cal (d + 1)).call "is_number")) := by
  obtain ⟨fd, F0⟩ := c.defs "is_number" dd_is_number (by kernel_rfl)
  have F : FunD K "is_number" "is_number" (defArgs st_is_number) (defBody st_is_number) (defScope st_is_number) [] [] (adOf tp K "is_number") fd := F0
  exact fn_plain (fun_of F) (FunD.bindsN (ps := ["value"]) F fun _ _ _ _ _ _ us hl => match us, hl with | [_], _ => rfl) sc_is_number A (by kernel_rfl) d_is_number
theorem q__law_state (c : Says tp ex w K) (A : AllFn P w K mg base pg nm (adOf tp K) d) : FnQ P w K mg base (L2.CX P w) (d + 3) (adOf tp K "_law_state") (spC K mg ((pg.cal (d + 1)).call "_law_state")) := by
  obtain ⟨fd, F0⟩ := c.defs "_law_state" dd__law_state (by kernel_rfl)
  have F : FunD K "_law_state" "_law_state" (defArgs st__law_state) (defBody st__law_state) (defScope st__law_state) [] [] (adOf tp K "_law_state") fd := F0
  exact fn_plain (fun_of F) (FunD.bindsN (ps := ["script"]) F fun _ _ _ _ _ _ us hl => match us, hl with | [_], _ => rfl) sc__law_state A (by kernel_rfl) d__law_state
theorem q__law_take (c : Says tp ex w K) (A : AllFn P w K mg base pg nm (adOf tp K) d) : FnQ P w K mg base (L2.CX P w) (d + 3) (adOf tp K "_law_take") (spC K mg ((pg.cal (d + 1)).call "_law_take")) := by
  obtain ⟨fd, F0⟩ := c.defs "_law_take" dd__law_take (by kernel_rfl)
  have F : FunD K "_law_take" "_law_take" (defArgs st__law_take) (defBody st__law_take) (defScope st__law_take) [] [] (adOf tp K "_law_take") fd := F0
  exact fn_plain (fun_of F) (FunD.bindsN (ps := ["state", "most"]) F fun _ _ _ _ _ _ us hl => match us, hl with | [_, _], _ => rfl) sc__law_take A (by kernel_rfl) d__law_take
theorem q__law_type (c : Says tp ex w K) (A : AllFn P w K mg base pg nm (adOf tp K) d) : FnQ P w K mg base (L2.CX P w) (d + 3) (adOf tp K "_law_type") (spC K mg ((pg.cal (d + 1)).call "_law_type")) := by
  obtain ⟨fd, F0⟩ := c.defs "_law_type" dd__law_type (by kernel_rfl)
  have F : FunD K "_law_type" "_law_type" (defArgs st__law_type) (defBody st__law_type) (defScope st__law_type) [] [] (adOf tp K "_law_type") fd := F0
  exact fn_plain (fun_of F) (FunD.bindsN (ps := ["state", "depth"]) F fun _ _ _ _ _ _ us hl => match us, hl with | [_, _], _ => rfl) sc__law_type A (by kernel_rfl) d__law_type
theorem q__law_ground_type (c : Says tp ex w K) (A : AllFn P w K mg base pg nm (adOf tp K) d) : FnQ P w K mg base (L2.CX P w) (d + 3) (adOf tp K "_law_ground_type") (spC K mg ((pg.cal (d + 1)).call "_law_ground_type")) := by
  obtain ⟨fd, F0⟩ := c.defs "_law_ground_type" dd__law_ground_type (by kernel_rfl)
  have F : FunD K "_law_ground_type" "_law_ground_type" (defArgs st__law_ground_type) (defBody st__law_ground_type) (defScope st__law_ground_type) [] [] (adOf tp K "_law_ground_type") fd := F0
  exact fn_plain (fun_of F) (FunD.bindsN (ps := ["name"]) F fun _ _ _ _ _ _ us hl => match us, hl with | [_], _ => rfl) sc__law_ground_type A (by kernel_rfl) d__law_ground_type
theorem q__law_check (c : Says tp ex w K) (A : AllFn P w K mg base pg nm (adOf tp K) d) : FnQ P w K mg base (L2.CX P w) (d + 3) (adOf tp K "_law_check") (spC K mg ((pg.cal (d + 1)).call "_law_check")) := by
  obtain ⟨fd, F0⟩ := c.defs "_law_check" dd__law_check (by kernel_rfl)
  have F : FunD K "_law_check" "_law_check" (defArgs st__law_check) (defBody st__law_check) (defScope st__law_check) [] [] (adOf tp K "_law_check") fd := F0
  exact fn_plain (fun_of F) (FunD.bindsN (ps := ["one", "other", "number", "side"]) F fun _ _ _ _ _ _ us hl => match us, hl with | [_, _, _, _], _ => rfl) sc__law_check A (by kernel_rfl) d__law_check
theorem q__law_partner (c : Says tp ex w K) (A : AllFn P w K mg base pg nm (adOf tp K) d) : FnQ P w K mg base (L2.CX P w) (d + 3) (adOf tp K "_law_partner") (spC K mg ((pg.cal (d + 1)).call "_law_partner")) := by
  obtain ⟨fd, F0⟩ := c.defs "_law_partner" dd__law_partner (by kernel_rfl)
  have F : FunD K "_law_partner" "_law_partner" (defArgs st__law_partner) (defBody st__law_partner) (defScope st__law_partner) [] [] (adOf tp K "_law_partner") fd := F0
  exact fn_plain (fun_of F) (FunD.bindsN (ps := ["state", "one", "depth"]) F fun _ _ _ _ _ _ us hl => match us, hl with | [_, _, _], _ => rfl) sc__law_partner A (by kernel_rfl) d__law_partner
theorem q__law_ground (c : Says tp ex w K) (A : AllFn P w K mg base pg nm (adOf tp K) d) : FnQ P w K mg base (L2.CX P w) (d + 3) (adOf tp K "_law_ground") (spC K mg ((pg.cal (d + 1)).call "_law_ground")) := by
  obtain ⟨fd, F0⟩ := c.defs "_law_ground" dd__law_ground (by kernel_rfl)
  have F : FunD K "_law_ground" "_law_ground" (defArgs st__law_ground) (defBody st__law_ground) (defScope st__law_ground) [] [] (adOf tp K "_law_ground") fd := F0
  exact fn_plain (fun_of F) (FunD.bindsN (ps := ["check"]) F fun _ _ _ _ _ _ us hl => match us, hl with | [_], _ => rfl) sc__law_ground A (by kernel_rfl) d__law_ground
theorem q__law_join (c : Says tp ex w K) (A : AllFn P w K mg base pg nm (adOf tp K) d) : FnQ P w K mg base (L2.CX P w) (d + 3) (adOf tp K "_law_join") (spC K mg ((pg.cal (d + 1)).call "_law_join")) := by
  obtain ⟨fd, F0⟩ := c.defs "_law_join" dd__law_join (by kernel_rfl)
  have F : FunD K "_law_join" "_law_join" (defArgs st__law_join) (defBody st__law_join) (defScope st__law_join) [] [] (adOf tp K "_law_join") fd := F0
  exact fn_plain (fun_of F) (FunD.bindsN (ps := ["one", "two"]) F fun _ _ _ _ _ _ us hl => match us, hl with | [_, _], _ => rfl) sc__law_join A (by kernel_rfl) d__law_join
theorem q__law_chain (c : Says tp ex w K) (A : AllFn P w K mg base pg nm (adOf tp K) d) : FnQ P w K mg base (L2.CX P w) (d + 3) (adOf tp K "_law_chain") (spC K mg ((pg.cal (d + 1)).call "_law_chain")) := by
  obtain ⟨fd, F0⟩ := c.defs "_law_chain" dd__law_chain (by kernel_rfl)
  have F : FunD K "_law_chain" "_law_chain" (defArgs st__law_chain) (defBody st__law_chain) (defScope st__law_chain) [] [] (adOf tp K "_law_chain") fd := F0
  exact fn_plain (fun_of F) (FunD.bindsN (ps := ["state", "count"]) F fun _ _ _ _ _ _ us hl => match us, hl with | [_, _], _ => rfl) sc__law_chain A (by kernel_rfl) d__law_chain
theorem q__law_is_int (c : Says tp ex w K) (A : AllFn P w K mg base pg nm (adOf tp K) d) : FnQ P w K mg base (L2.CX P w) (d + 3) (adOf tp K "_law_is_int") (spC K mg ((pg.cal (d + 1)).call "_law_is_int")) := by
  obtain ⟨fd, F0⟩ := c.defs "_law_is_int" dd__law_is_int (by kernel_rfl)
  have F : FunD K "_law_is_int" "_law_is_int" (defArgs st__law_is_int) (defBody st__law_is_int) (defScope st__law_is_int) [] [] (adOf tp K "_law_is_int") fd := F0
  exact fn_plain (fun_of F) (FunD.bindsN (ps := ["value"]) F fun _ _ _ _ _ _ us hl => match us, hl with | [_], _ => rfl) sc__law_is_int A (by kernel_rfl) d__law_is_int
theorem q__law_label (c : Says tp ex w K) (A : AllFn P w K mg base pg nm (adOf tp K) d) : FnQ P w K mg base (L2.CX P w) (d + 3) (adOf tp K "_law_label") (spC K mg ((pg.cal (d + 1)).call "_law_label")) := by
  obtain ⟨fd, F0⟩ := c.defs "_law_label" dd__law_label (by kernel_rfl)
  have F : FunD K "_law_label" "_law_label" (defArgs st__law_label) (defBody st__law_label) (defScope st__law_label) [] [] (adOf tp K "_law_label") fd := F0
  exact fn_plain (fun_of F) (FunD.bindsN (ps := ["value"]) F fun _ _ _ _ _ _ us hl => match us, hl with | [_], _ => rfl) sc__law_label A (by kernel_rfl) d__law_label
theorem q__law_name (c : Says tp ex w K) (A : AllFn P w K mg base pg nm (adOf tp K) d) : FnQ P w K mg base (L2.CX P w) (d + 3) (adOf tp K "_law_name") (spC K mg ((pg.cal (d + 1)).call "_law_name")) := by
  obtain ⟨fd, F0⟩ := c.defs "_law_name" dd__law_name (by kernel_rfl)
  have F : FunD K "_law_name" "_law_name" (defArgs st__law_name) (defBody st__law_name) (defScope st__law_name) [] [] (adOf tp K "_law_name") fd := F0
  exact fn_plain (fun_of F) (FunD.bindsN (ps := ["value"]) F fun _ _ _ _ _ _ us hl => match us, hl with | [_], _ => rfl) sc__law_name A (by kernel_rfl) d__law_name
theorem q__law_kind (c : Says tp ex w K) (A : AllFn P w K mg base pg nm (adOf tp K) d) : FnQ P w K mg base (L2.CX P w) (d + 3) (adOf tp K "_law_kind") (spC K mg ((pg.cal (d + 1)).call "_law_kind")) := by
  obtain ⟨fd, F0⟩ := c.defs "_law_kind" dd__law_kind (by kernel_rfl)
  have F : FunD K "_law_kind" "_law_kind" (defArgs st__law_kind) (defBody st__law_kind) (defScope st__law_kind) [] [] (adOf tp K "_law_kind") fd := F0
  exact fn_plain (fun_of F) (FunD.bindsN (ps := ["value"]) F fun _ _ _ _ _ _ us hl => match us, hl with | [_], _ => rfl) sc__law_kind A (by kernel_rfl) d__law_kind
theorem q__law_plain (c : Says tp ex w K) (A : AllFn P w K mg base pg nm (adOf tp K) d) : FnQ P w K mg base (L2.CX P w) (d + 3) (adOf tp K "_law_plain") (spC K mg ((pg.cal (d + 1)).call "_law_plain")) := by
  obtain ⟨fd, F0⟩ := c.defs "_law_plain" dd__law_plain (by kernel_rfl)
  have F : FunD K "_law_plain" "_law_plain" (defArgs st__law_plain) (defBody st__law_plain) (defScope st__law_plain) [] [] (adOf tp K "_law_plain") fd := F0
  exact fn_plain (fun_of F) (FunD.bindsN (ps := ["value"]) F fun _ _ _ _ _ _ us hl => match us, hl with | [_], _ => rfl) sc__law_plain A (by kernel_rfl) d__law_plain
theorem q__law_failing (c : Says tp ex w K) (A : AllFn P w K mg base pg nm (adOf tp K) d) : FnQ P w K mg base (L2.CX P w) (d + 3) (adOf tp K "_law_failing") (spC K mg ((pg.cal (d + 1)).call "_law_failing")) := by
  obtain ⟨fd, F0⟩ := c.defs "_law_failing" dd__law_failing (by kernel_rfl)
  have F : FunD K "_law_failing" "_law_failing" (defArgs st__law_failing) (defBody st__law_failing) (defScope st__law_failing) [] [] (adOf tp K "_law_failing") fd := F0
  exact fn_plain (fun_of F) (FunD.bindsN (ps := ["value"]) F fun _ _ _ _ _ _ us hl => match us, hl with | [_], _ => rfl) sc__law_failing A (by kernel_rfl) d__law_failing
theorem q__law_good (c : Says tp ex w K) (A : AllFn P w K mg base pg nm (adOf tp K) d) : FnQ P w K mg base (L2.CX P w) (d + 3) (adOf tp K "_law_good") (spC K mg ((pg.cal (d + 1)).call "_law_good")) := by
  obtain ⟨fd, F0⟩ := c.defs "_law_good" dd__law_good (by kernel_rfl)
  have F : FunD K "_law_good" "_law_good" (defArgs st__law_good) (defBody st__law_good) (defScope st__law_good) [] [] (adOf tp K "_law_good") fd := F0
  exact fn_plain (fun_of F) (FunD.bindsN (ps := ["value"]) F fun _ _ _ _ _ _ us hl => match us, hl with | [_], _ => rfl) sc__law_good A (by kernel_rfl) d__law_good
theorem q__law_strange (c : Says tp ex w K) (A : AllFn P w K mg base pg nm (adOf tp K) d) : FnQ P w K mg base (L2.CX P w) (d + 3) (adOf tp K "_law_strange") (spC K mg ((pg.cal (d + 1)).call "_law_strange")) := by
  obtain ⟨fd, F0⟩ := c.defs "_law_strange" dd__law_strange (by kernel_rfl)
  have F : FunD K "_law_strange" "_law_strange" (defArgs st__law_strange) (defBody st__law_strange) (defScope st__law_strange) [] [] (adOf tp K "_law_strange") fd := F0
  exact fn_plain (fun_of F) (FunD.bindsN (ps := ["state"]) F fun _ _ _ _ _ _ us hl => match us, hl with | [_], _ => rfl) sc__law_strange A (by kernel_rfl) d__law_strange
theorem q__law_bent (c : Says tp ex w K) (A : AllFn P w K mg base pg nm (adOf tp K) d) : FnQ P w K mg base (L2.CX P w) (d + 3) (adOf tp K "_law_bent") (spC K mg ((pg.cal (d + 1)).call "_law_bent")) := by
  obtain ⟨fd, F0⟩ := c.defs "_law_bent" dd__law_bent (by kernel_rfl)
  have F : FunD K "_law_bent" "_law_bent" (defArgs st__law_bent) (defBody st__law_bent) (defScope st__law_bent) [] [] (adOf tp K "_law_bent") fd := F0
  exact fn_plain (fun_of F) (FunD.bindsN (ps := ["state", "value"]) F fun _ _ _ _ _ _ us hl => match us, hl with | [_, _], _ => rfl) sc__law_bent A (by kernel_rfl) d__law_bent
theorem q_law (c : Says tp ex w K) (A : AllFn P w K mg base pg nm (adOf tp K) d) : FnQ P w K mg base (L2.CX P w) (d + 3) (adOf tp K "law") (spC K mg ((pg.cal (d + 1)).call "law")) := by
  obtain ⟨fd, F0⟩ := c.defs "law" dd_law (by kernel_rfl)
  have F : FunD K "law" "law" (defArgs st_law) (defBody st_law) (defScope st_law) [] [] (adOf tp K "law") fd := F0
  exact fn_plain (fun_of F) (FunD.bindsN (ps := ["script"]) F fun _ _ _ _ _ _ us hl => match us, hl with | [_], _ => rfl) sc_law A (by kernel_rfl) d_law
theorem kstep_all (c : Says tp ex w K) (A : AllFn P w K mg base pg nm (adOf tp K) d) : ∀ f n ks, (f, n, ks) ∈ nm.kws → FnK P w K mg base (L2.CX P w) (d + 3) (adOf tp K f) n ks (spC K mg ((pg.cal (d + 1)).kcal f)) := by
  intro f n ks h
  have h : (f, n, ks) ∈ ([] : List (Str × Nat × List Str)) := h
  cases h
theorem allT_cons {α : Type} {Q : Str → α → Prop} {x : Str × α} {xs : List (Str × α)} (h : Q x.1 x.2) (t : AllT Q xs) : AllT Q (x :: xs) := ⟨h, t⟩
theorem step_all (c : Says tp ex w K) (cL : LR K mg (adOf tp K)) (A : AllFn P w K mg base pg nm (adOf tp K) d) : AllT (fun f _ => FnQ P w K mg base (L2.CX P w) (d + 3) (adOf tp K f) (spC K mg ((pg.cal (d + 1)).call f))) tbl :=
  allT_cons (q_source_ground c A) (allT_cons (q_is_check c A) (allT_cons (q_is_check_of c A) (allT_cons (q_is_ground c A) (allT_cons (q_is_label c A) (allT_cons (q_is_number c A) (allT_cons (q__law_state c A) (allT_cons (q__law_take c A) (allT_cons (q__law_type c A) (allT_cons (q__law_ground_type c A) (allT_cons (q__law_check c A) (allT_cons (q__law_partner c A) (allT_cons (q__law_ground c A) (allT_cons (q__law_join c A) (allT_cons (q__law_chain c A) (allT_cons (q__law_is_int c A) (allT_cons (q__law_label c A) (allT_cons (q__law_name c A) (allT_cons (q__law_kind c A) (allT_cons (q__law_plain c A) (allT_cons (q__law_failing c A) (allT_cons (q__law_good c A) (allT_cons (q__law_strange c A) (allT_cons (q__law_bent c A) (allT_cons (q_law c A) (trivial)))))))))))))))))))))))))
theorem all_xc {h : Heap} (X : K.In h) (G : h.Ns mainGlobals mg) (c : Says tp ex w K) : ∀ C f, (C, f) ∈ nm.xcs → XcOk P w K mg base (adOf tp K) C f := by
  intro C f hq
  have hq : (C, f) ∈ ([] : List (Str × Str)) := hq
  cases hq
theorem all_defs {h : Heap} (X : K.In h) (G : h.Ns mainGlobals mg) (c : Says tp ex w K) (cL : LR K mg (adOf tp K)) : ∀ d, AllFn P w K mg base pg nm (adOf tp K) d :=
  all_fn (tbl := tbl) rfl (sta_of X G c rfl) (gd_of X G c rfl) (all_xc X G c) (fun d A => step_all c cL A) fun d A => kstep_all c A
theorem facts {h : Heap} {f : Addr} (X : K.In h) (G : h.Ns mainGlobals mg) (hfa : mg ("law" : Str) = some (.ref f)) (c : Says tp ex w K) (hl : fnB tp K "law" = true) (lr : ∀ {h : Heap}, K.In h → h.Ns mainGlobals mg → LR K mg (adOf tp K))
    (M : ∀ ns : List Int, ns.length ≤ 63 → ∃ S', (⟨1, N_law.length, false, T_law⟩ : Df).run (pg.cal 677) [.loc 0] [.fro (ns.map U.int)] = .ok (.bl true) S') :
    ∃ fd : FuncData, (∀ (s : Shared) (v : Value), BindsTo s fd ⟨[v], []⟩ [("script", v)]) ∧ ∀ base : Heap, K.In base → base.Ns mainGlobals mg → FnAt callerA P w K mg base (fun _ _ _ _ _ _ => False) f fd ["script"] (spLaw K) := by
  obtain ⟨fd, F0⟩ := c.defs "law" dd_law (by kernel_rfl)
  have F : FunD K "law" "law" (defArgs st_law) (defBody st_law) (defScope st_law) [] [] (adOf tp K "law") fd := F0
  have e := hfa.symm.trans (PySem.W.mg_of X G (eqO_ok (ba hl).1))
  cases e
  have b := FunD.bindsA (ps := ["script"]) F fun _ _ _ _ _ _ us hl => match us, hl with | [_], _ => rfl
  exact ⟨fd, fun s v => b s [v] rfl, fun base XB GB => law0 (fn_law (N := N_law) (fun_of F) sc_law (all_defs XB GB c (lr XB GB) 677) d_law M)⟩
end
end Pr

end

section
set_option maxHeartbeats 0
open PySem PySem.W PySem.Calls PyProof.Rows
theorem PySem.Challenge.cw_halfnoted_k26_any_value_as_a_check_holds : PySem.Challenge.rw_halfnoted_k26_any_value_as_a_check.Holds := by
  w_on; o_law; k_head; (case hw => w_witness2)
  refine Oz.walk_at_caller (sn := "script") (l := PySem.Challenge.rw_halfnoted_k26_any_value_as_a_check) rfl (by kernel_rfl) ?F
  intro w mg fa h Y G hmg0
  obtain ⟨K, KX, c0⟩ : ∃ K : PySem.W.Frag, K.In h ∧ Oz.obsO Pr.tp Pr.ex K = Oz.valO Pr.tp w := ⟨_, PySem.W.kIn_of Y, by kernel_rfl⟩
  have c := Oz.says_of c0
  have hmg : mg ("law" : PySem.Str) = some (.ref fa) := hmg0
  obtain ⟨hl, hx⟩ := He.ba c.more
  obtain ⟨fd, hb, hF⟩ := Pr.facts (P := (PySem.Challenge.rw_halfnoted_k26_any_value_as_a_check).prog) (w := w) KX G hmg c hl (fun X G => Pr.lr_of X G hx) Pr.law_eq
  exact ⟨K, fd, KX, hb, hF⟩

end
